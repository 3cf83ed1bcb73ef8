import PyProof.Rows.All
import Wide.All
import OpenK.AllK
import Wide.FinOn
import Lean
import PyProof.EqAt
import PyProof.EqKinds
import PyProof.TupleCall
import PySem.Challenge.RW_nextbyrule_k58_whole_exact_and_by_primes
local macro_rules | `(tactic| omega)=>`(tactic| lia)
set_option Elab.async false
set_option linter.all false
set_option maxRecDepth 100000
noncomputable section
namespace L2
open PySem PySem.Spec PyProof.Rows
abbrev Key:=Sum Int Str
def Uq:Key->Value->Bool
 |.inl k,v=>Value.isInt k v
 |.inr x,v=>Value.isStrOf x v
def ac5(w:World):Key->Int
 |.inl k=>hashInt k
 |.inr x=>hashStr w x
theorem dD:∀{k:Key} {v:Value},Uq k v=true->(∃i t,k=Sum.inl i/\v=Value.int i t)∨(∃x t,k=Sum.inr x/\v=Value.str x t)
 |.inl i,v,h=>by
  obtain⟨t,e⟩:=Value.isInt_shape (k:=i) (v:=v) h;exact .inl ⟨i,t,rfl,e⟩
 |.inr x,v,h=>by
  obtain⟨t,e⟩:=Value.isStrOf_shape (x:=x) (v:=v) h;exact .inr ⟨x,t,rfl,e⟩
theorem Vm(a b:Int):decide ((Sum.inl a:Key)=Sum.inl b)=(a==b):=by
 by_cases e:a=b
 ·subst e;simp
 ·have h:¬(Sum.inl a:Key)=Sum.inl b:=fun q=>e (Sum.inl.inj q);rw[decide_eq_false h];exact(beq_eq_false_iff_ne.mpr e).symm
theorem U5(a b:Str):decide ((Sum.inr a:Key)=Sum.inr b)=decide (a=b):=by
 by_cases e:a=b
 ·subst e;simp
 ·have h:¬(Sum.inr a:Key)=Sum.inr b:=fun q=>e (Sum.inr.inj q);rw[decide_eq_false h,decide_eq_false e]
theorem R6(a:Int)(b:Str):decide ((Sum.inl a:Key)=Sum.inr b)=false:=decide_eq_false (fun q=>nomatch q)
theorem Uo(a:Str)(b:Int):decide ((Sum.inr a:Key)=Sum.inl b)=false:=decide_eq_false (fun q=>nomatch q)
def rJ(prog:Program)(w:World):PySem.KeyKind prog w Key where
 is:=Uq
 hash:=ac5 w
 inj:=fun v a b ha hb=>by
  rcases dD ha with⟨i,t,rfl,rfl⟩|⟨x,t,rfl,rfl⟩
  ·rcases dD hb with⟨j,u,rfl,e⟩|⟨y,u,rfl,e⟩
   ·injection e with e1 _;rw[e1]
   ·exact nomatch e
  ·rcases dD hb with⟨j,u,rfl,e⟩|⟨y,u,rfl,e⟩
   ·exact nomatch e
   ·injection e with e1 _;rw[e1]
 byValue:=fun k v h=>by
  rcases dD h with⟨i,t,rfl,rfl⟩|⟨x,t,rfl,rfl⟩<;>rfl
 pyHash:=fun hv h=>by
  rcases dD hv with⟨i,t,rfl,rfl⟩|⟨x,t,rfl,rfl⟩
  ·exact wpAny_pyHash_int h
  ·exact wpAny_pyHash_str h
 eqBool:=fun hu hv h=>by
  rcases dD hu with⟨i,t,rfl,rfl⟩|⟨x,t,rfl,rfl⟩
  ·rcases dD hv with⟨j,u,rfl,rfl⟩|⟨y,u,rfl,rfl⟩
   ·rw[Vm]at h;exact wpAny_eqBool_int h
   ·rw[R6]at h;exact SeqAt.EqAt.int_str i t y u _ _ _ _ h
  ·rcases dD hv with⟨j,u,rfl,rfl⟩|⟨y,u,rfl,rfl⟩
   ·rw[Uo]at h;exact SeqAt.EqAt.str_int x t j u _ _ _ _ h
   ·rw[U5]at h;exact wpAny_eqBool_str h
 «strs»:=fun k x t v h=>by
  rcases dD h with⟨i,u,rfl,e⟩|⟨y,u,rfl,e⟩
  ·exact nomatch e
  ·injection e with e1 _;subst e1;cases v<;>rfl
inductive V where
 |non|bl (b:Bool)|int (i:Int)|str (x:Str)|byt (b:Array UInt8)|flt (b:UInt64)|ref (a:Addr)|ty (n:String)
 deriving DecidableEq
def RelV:V->Value->Prop
 |.non,u=>u=Value.none
 |.bl b,u=>u=Value.bool b
 |.int i,u=>∃t,u=Value.int i t
 |.str x,u=>∃t,u=Value.str x t
 |.byt b,u=>∃t,u=Value.bytes b t
 |.flt b,u=>∃t,u=Value.float b t
 |.ref a,u=>u=Value.ref a
 |.ty n,u=>u=Value.type n
abbrev Vals:List V->List Value->Prop:=Paired RelV
theorem Vals.length{xs:List V}{us:List Value}(r:Vals xs us):xs.length=us.length:=Paired.length r
theorem Vals.get:∀{xs:List V} {us:List Value} {i:Nat} {x:V},Vals xs us->xs[i]?=some x->∃u,us[i]?=some u/\RelV x u
 |_,_,_,_,.nil,e=>by simp at e
 |_,_,0,_,.cons r _,e=>by simp at e;subst e;exact⟨_,rfl,r⟩
 |_,_,i+1,x,.cons _ t,e=>by
  obtain⟨u,h1,h2⟩:=Vals.get (i:=i) (x:=x) t (by simpa using e);exact⟨u,by simpa using h1,h2⟩
theorem Vals.set{x:V}{u:Value}(r:RelV x u):∀{xs:List V} {us:List Value} (i:Nat),Vals xs us->Vals (xs.set i x) (us.set i u)
 |_,_,_,.nil=> .nil
 |_,_,0,.cons _ t=> .cons r t
 |_,_,i+1,.cons q t=> .cons q (Vals.set r i t)
theorem Vals.append:∀{xs ys:List V} {us ws:List Value},Vals xs us->Vals ys ws->Vals (xs++ys) (us++ws)
 |_,_,_,_,.nil,s=>s
 |_,_,_,_,.cons r t,s=> .cons r (Vals.append t s)
theorem Vals.take:∀{xs:List V} {us:List Value} (n:Nat),Vals xs us->Vals (xs.take n) (us.take n)
 |_,_,0,_=> .nil
 |_,_,_+1,.nil=> .nil
 |_,_,n+1,.cons r t=> .cons r (Vals.take n t)
theorem Vals.drop:∀{xs:List V} {us:List Value} (n:Nat),Vals xs us->Vals (xs.drop n) (us.drop n)
 |_,_,0,r=>r
 |_,_,_+1,.nil=> .nil
 |_,_,n+1,.cons _ t=>Vals.drop n t
def J0:Option V->Option Value->Prop
 |some v,some u=>RelV v u
 |none,none=>True
 |_,_=>False
def KV{κ:Type}:List (κ×V)->List (κ×Value)->Prop:=Paired fun(p:κ×V) (q:κ×Value)=>p.1=q.1/\RelV p.2 q.2
def kV:Key->V
 |.inl i=> .int i
 |.inr x=> .str x
inductive HO where
 /-- a list -/
 |lst (xs:List V)
 /-- a tuple (never changes) -/
 |tup (xs:List V)
 /-- a dict whose keys are ints and texts;one whose keys are tuples of ints and texts (the empty one is both) -/
 |dK (kvs:List (Key×V))|dT (kvs:List (List Key×V))
 /-- a set of ints: its members,its size -/
 |set (S:Int->Bool) (n:Nat)
 /-- an instance of the class at C,its dict at dx,its attributes -/
 |ins (C dx:Addr) (fs:List (Str×V))
 /-- the dict of the instance at x -/
 |own (x:Addr)
 /-- the dict of an exception -/
 |xd (fs:List (Str×V))
 /-- a bound method,f of x -/
 |met (f x:Addr)
 /-- a range object lo,lo+1,.. below hi -/
 |rng (lo hi:Int)
 /-- a thing that is known to the object (the script;a dict while a loop walks it): read,never written while it is so -/
 |frz (o:Obj) (u:HO)
 /-- a code object's table -/
 |tbl (ps:Array Value)
 /-- any other thing,by what is true of its one object (a def of acH own: aem a S n:=HO.ext fun h=> ..) -/
 |ext (φ:Heap->Prop)
abbrev Hp:=Addr->Option HO
def upd(H:Hp)(a:Addr)(o:HO):Hp:=fun b=>if b=a then some o else H b
theorem aD{H:Hp}{a:Addr}{o:HO}:upd H a o a=some o:=by unfold upd;rw[if_pos rfl]
theorem cD{H:Hp}{a b:Addr}{o:HO}(h:b≠a):upd H a o b=H b:=by unfold upd;rw[if_neg h]
theorem Nk{H:Hp}{a:Addr}{o u:HO}:upd (upd H a o) a u=upd H a u:=by
 funext b;unfold upd;split<;>rfl
theorem cJ{H:Hp}{a b:Addr}{o:HO}(h:H a=some o)(h':H b=none):a≠b:=by
 intro e;subst e;rw[h]at h';cases h'
section
variable (P:Program) (w:World)
def j5(H:Hp)(h:Heap)(a:Addr):HO->Prop
 |.lst xs=>xs.length<=sizeLine/\∃(its:List Value) (n:Nat),Vals xs its/\h.get? a=some { cls:= .type "list",data:= .seq its.toArray n }
 |.tup xs=>xs.length<=sizeLine/\∃its:List Value,Vals xs its/\IsTup h a its.toArray
 |.dK kvs=>kvs.length<=sizeLine/\(a==sysModules)=false/\∃vs,KV kvs vs/\h.DictOf (rJ P w) a vs
 |.dT kvs=>kvs.length<=sizeLine/\(a==sysModules)=false/\∃xs:List (List Key×Addr×Value),
   Paired (fun(p:List Key×V) (q:List Key×Addr×Value)=>p.1=q.1/\H q.2.1=some (.tup (p.1.map kV))/\RelV p.2 q.2.2) kvs xs/\
   ∃o es ep,h.get? a=some o/\o.ExactDict/\o.data = .dict es ep/\es.toList=xs.map (entryOfKey (tupleKind (rJ P w)))/\(xs.map (·.1)).Nodup
 |.set S n=>h.SetOf (intKind P w) a S n
 |.ins C dx fs=>H dx=some (.own a)/\fs.length<=1000/\dx≠a/\h.get? a=some (W.instObj C dx)/\
   ∃mA,h.Ns1 dx mA/\(∀f,J0 (fs.lookup f) (mA f))/\PySem.Within mA (fs.map (·.1))
 |.own _=>∃o,h.get? a=some o
 |.xd fs=>∃mA,h.Ns1 a mA/\∀f,J0 (fs.lookup f) (mA f)
 |.rng lo hi=>∃t u v,h.get? a=some { cls:= .type "range",data:= .fields #[.int lo t,.int hi u,.int 1 v] }
 |.frz o u=>h.get? a=some o/\j5 H h a u
 |.tbl ps=>h.get? a=some { cls:= .none,data:= .fields ps }
 |.met f x=>h.get? a=some (W.methodObj (.ref f) (.ref x))
 |.ext φ=>φ h/\(∃o,h.get? a=some o)/\∀h1 h2:Heap,φ h1->(∀o,h1.get? a=some o->h2.get? a=some o)->φ h2
def HOk(H:Hp)(h:Heap):Prop:=∀a o,H a=some o->j5 P w H h a o
end
section
variable {P:Program} {w:World} {H H':Hp} {h h':Heap} {a:Addr} {o:HO}
theorem j5.lt(x:j5 P w H h a o):a<h.objs.size:=by
 cases o with
 |lst xs=>obtain⟨_,_,_,_,e⟩:=x;exact Heap.lt_size e
 |tup xs=>obtain⟨_,_,_,p⟩:=x;exact p.lt
 |dK kvs=>obtain⟨_,_,_,_,o,_,_,e,_⟩:=x;exact Heap.lt_size e
 |dT kvs=>obtain⟨_,_,_,_,o,_,_,e,_⟩:=x;exact Heap.lt_size e
 |set S n=>obtain⟨o,_,_,_,e,_⟩:=x;exact Heap.lt_size e
 |ins C dx fs=>obtain⟨_,_,_,e,_⟩:=x;exact Heap.lt_size e
 |own y=>obtain⟨_,e⟩:=x;exact Heap.lt_size e
 |xd fs=>obtain⟨_,⟨_,_,_,e,_⟩,_⟩:=x;exact Heap.lt_size e
 |rng lo hi=>obtain⟨_,_,_,e⟩:=x;exact Heap.lt_size e
 |frz ob u=>obtain⟨e,_⟩:=x;exact Heap.lt_size e
 |tbl ps=>exact Heap.lt_size (show h.get? a=some _ from x)
 |met f y=>exact Heap.lt_size (show h.get? a=some _ from x)
 |ext φ=>obtain⟨_,⟨_,e⟩,_⟩:=x;exact Heap.lt_size e
theorem Paired.abW{α β:Type}{F G:α->β->Prop}:∀{l₁:List α} {l₂:List β},Paired F l₁ l₂->(∀a b,F a b->G a b)->Paired G l₁ l₂
 |_,_,.nil,_=> .nil
 |_,_,.cons r t,f=> .cons (f _ _ r) (Paired.abW t f)
theorem j5.stay(x:j5 P w H h a o)(k:∀b u,(b=a∨H b=some (.own a))->h.get? b=some u->h'.get? b=some u)
  (ho:∀b,H b=some (.own a)->H' b=some (.own a)) (ht:∀b xs,H b=some (.tup xs)->H' b=some (.tup xs)):j5 P w H' h' a o:=by
 induction o with
 |lst xs=>obtain⟨z,its,n,r,e⟩:=x;exact⟨z,its,n,r,k _ _ (.inl rfl) e⟩
 |tup xs=>obtain⟨z,its,r,ob,e,c⟩:=x;exact⟨z,its,r,ob,k _ _ (.inl rfl) e,c⟩
 |dK kvs=>obtain⟨z,y,vs,r,ob,es,ep,e,c⟩:=x;exact⟨z,y,vs,r,ob,es,ep,k _ _ (.inl rfl) e,c⟩
 |dT kvs=>
  obtain⟨z,y,xs,r,ob,es,ep,e,c⟩:=x;exact⟨z,y,xs,Paired.abW r fun p q z=>⟨z.1,ht _ _ z.2.1,z.2.2⟩,ob,es,ep,k _ _ (.inl rfl) e,c⟩
 |set S n=>obtain⟨ob,es,ep,t,e,c⟩:=x;exact⟨ob,es,ep,t,k _ _ (.inl rfl) e,c⟩
 |ins C dx fs=>
  obtain⟨d,z,ne,e,mA,⟨od,es,ep,e2,c⟩,r⟩:=x;exact⟨ho _ d,z,ne,k _ _ (.inl rfl) e,mA,⟨od,es,ep,k _ _ (.inr d) e2,c⟩,r⟩
 |own y=>obtain⟨ob,e⟩:=x;exact⟨ob,k _ _ (.inl rfl) e⟩
 |xd fs=>obtain⟨mA,⟨od,es,ep,e,c⟩,r⟩:=x;exact⟨mA,⟨od,es,ep,k _ _ (.inl rfl) e,c⟩,r⟩
 |rng lo hi=>obtain⟨t,u,v,e⟩:=x;exact⟨t,u,v,k _ _ (.inl rfl) e⟩
 |frz ob u ih=>obtain⟨e,q⟩:=x;exact⟨k _ _ (.inl rfl) e,ih q⟩
 |tbl ps=>
  have e:h.get? a=some { cls:= .none,data:= .fields ps }:=x;show h'.get? a=some { cls:= .none,data:= .fields ps };exact k a _ (.inl rfl) e
 |met f y=>
  have e:h.get? a=some (W.methodObj (.ref f) (.ref y)):=x;show h'.get? a=some (W.methodObj (.ref f) (.ref y));exact k a _ (.inl rfl) e
 |ext φ=>obtain⟨p,⟨o,e⟩,st⟩:=x;exact⟨st _ _ p fun o q=>k _ _ (.inl rfl) q,⟨o,k _ _ (.inl rfl) e⟩,st⟩
theorem HOk.lt(x:HOk P w H h)(e:H a=some o):a<h.objs.size:=(x a o e).lt
theorem HOk.fresh(x:HOk P w H h)(e:h.objs.size<=a):H a=none:=by
 cases q:H a with
 |none=>rfl
 |some u=>exact absurd (Nat.lt_of_lt_of_le (x.lt q) e) (Nat.lt_irrefl _)
theorem HOk.kept(x:HOk P w H h)(k:∀b u,h.get? b=some u->h'.get? b=some u):HOk P w H h':=fun a o e=>
 (x a o e).stay (fun b u _ q=>k b u q) (fun _ q=>q) fun _ _ q=>q
theorem HOk.laid(x:HOk P w H h)(k:∀b u,h.get? b=some u->h'.get? b=some u)(hp:h.objs.size<=a)(new:j5 P w (upd H a o) h' a o):HOk P w (upd H a o) h':=fun b u e=>by
 have hn:=x.fresh hp;by_cases hb:b=a
 ·subst hb;rw[aD]at e;cases e;exact new
 ·rw[cD hb]at e;exact(x b u e).stay (fun c v _ q=>k c v q) (fun c q=>by rw[cD (cJ q hn)];exact q) fun c xs q=>by rw[cD (cJ q hn)];exact q
end
def Rd(H:Hp)(a:Addr)(u:HO):Prop:=H a=some u∨∃o,H a=some (.frz o u)
theorem Rd.ok{P:Program}{w:World}{H:Hp}{h:Heap}{a:Addr}{u:HO}(r:Rd H a u)(x:HOk P w H h):j5 P w H h a u:=by
 rcases r with r|⟨o,r⟩
 ·exact x a u r
 ·obtain⟨_,q⟩:=x a _ r;exact q
def Mut:Option HO->Prop
 |some (.lst _)=>True
 |some (.dK _)=>True
 |some (.dT _)=>True
 |some (.set _ _)=>True
 |some (.ins _ _ _)=>True
 |some (.ext _)=>True
 |_=>False
section
variable {P:Program} {w:World} {H:Hp} {h h':Heap} {x e:Addr} {o':HO}
theorem HOk.write(ok:HOk P w H h)(mu:Mut (H x))(he:e=x∨H e=some (.own x))(k:∀b u,b≠e->h.get? b=some u->h'.get? b=some u)(heo:∃u,h'.get? e=some u)
  (new:j5 P w (upd H x o') h' x o'):HOk P w (upd H x o') h':=fun b u q=>by
 have abI:∀c y,H c=some (.own y)->c≠x:=fun c y r z=>by subst z;rw[r]at mu;exact mu
 have adT:∀c xs,H c=some (.tup xs)->c≠x:=fun c xs r z=>by subst z;rw[r]at mu;exact mu
 by_cases hb:b=x
 ·subst hb;rw[aD]at q;cases q;exact new
 ·rw[cD hb]at q;by_cases hbe:b=e
  ·have q':H b=some (.own x):=by
    rcases he with z|z
    ·exact absurd (hbe.trans z) hb
    ·rw[hbe];exact z
   rw[q]at q';cases q';obtain⟨v,hv⟩:=heo;exact⟨v,by rw[hbe];exact hv⟩
  ·refine(ok b u q).stay (fun c v hc r=>k c v ?_ r) (fun c r=>by rw[cD (abI c b r)];exact r) fun c xs r=>by rw[cD (adT c xs r)];exact r
   rcases hc with rfl|hc
   ·exact hbe
   ·rintro rfl;rcases he with z|z
    ·exact abI c b hc z
    ·rw[hc]at z;cases z;exact hb rfl
end
structure Un(fs ex:List Addr)(H H':Hp)(h h':Heap):Prop where
 keep:∀b o,h.get? b=some o->H b=none->b∉fs->b∉ex->h'.get? b=some o
 slot:∀b o,h.get? b=some o->H b=none->b∈fs->b∉ex->∃sl,h'.get? b=some { o with slots:=sl }
 free:∀b o,h.get? b=some o->H b=none->b∉ex->H' b=none
 there:∀b o,h.get? b=some o->b∉ex->∃o',h'.get? b=some o'
 tups:∀b xs,H b=some (.tup xs)->H' b=some (.tup xs)
 Ag:∀b o u,H b=some (.frz o u)->H' b=some (.frz o u)
 BZ:∀b ps,H b=some (.tbl ps)->∃more,H' b=some (.tbl (ps++more))
section
variable {fs fs' ex ex':List Addr} {H H1 H2:Hp} {h h1 h2 h':Heap} {a x e:Addr} {o:HO}
theorem Un.any(u:Un fs ex H H1 h h1){b:Addr}{ob:Obj}(q:h.get? b=some ob)(n:H b=none)(hx:b∉ex):∃sl,h1.get? b=some { ob with slots:=sl }:=by
 by_cases hb:b∈fs
 ·exact u.slot b ob q n hb hx
 ·exact⟨ob.slots,u.keep b ob q n hb hx⟩
theorem Un.kept(k:∀b u,h.get? b=some u->h'.get? b=some u):Un fs ex H H h h':=
 ⟨fun b ob q _ _ _=>k b ob q,fun b ob q _ _ _=>⟨ob.slots,k b ob q⟩,fun _ _ _ n _=>n,fun b ob q _=>⟨ob,k b ob q⟩,fun _ _ q=>q,fun _ _ _ q=>q,fun _ ps q=>⟨#[],by rw[q];simp⟩⟩
theorem Un.refl:Un fs ex H H h h:=Un.kept fun _ _ q=>q
theorem Un.laid(k:∀b u,h.get? b=some u->h'.get? b=some u)(hp:h.objs.size<=a)(hn:H a=none):Un fs ex H (upd H a o) h h' where
 keep:=fun b u q _ _ _=>k b u q
 slot:=fun b u q _ _ _=>⟨u.slots,k b u q⟩
 free:=fun b u q n _=>by rw[cD (Nat.ne_of_lt (Nat.lt_of_lt_of_le (Heap.lt_size q) hp))];exact n
 there:=fun b u q _=>⟨u,k b u q⟩
 tups:=fun b xs q=>by rw[cD (cJ q hn)];exact q
 Ag:=fun b u xs q=>by rw[cD (cJ q hn)];exact q
 BZ:=fun b ps q=>⟨#[],by rw[cD (cJ q hn),q];simp⟩
theorem Un.write(mu:Mut (H x))(he:e=x∨H e=some (.own x))(k:∀b u,b≠e->h.get? b=some u->h'.get? b=some u)(heo:∃u,h'.get? e=some u):Un fs ex H (upd H x o) h h':=by
 have hx:∀b,H b=none->b≠x:=fun b n z=>by subst z;rw[n]at mu;exact mu
 have hb:∀b,H b=none->b≠e:=fun b n z=>by
  subst z;rcases he with r|r
  ·exact hx b n r
  ·rw[n]at r;cases r
 have hm:∀b u,H b=some u->¬Mut (some u)->b≠x:=fun b u q nm z=>by subst z;rw[q]at mu;exact nm mu
 refine⟨fun b u q n _ _=>k b u (hb b n) q,fun b u q n _ _=>⟨u.slots,k b u (hb b n) q⟩,fun b u q n _=>by rw[cD (hx b n)];exact n,fun b u q _=>?_,
  fun b xs q=>by rw[cD (hm b _ q fun z=>z)];exact q,fun b u xs q=>by rw[cD (hm b _ q fun z=>z)];exact q,fun b ps q=>⟨#[],by rw[cD (hm b _ q fun z=>z),q];simp⟩⟩
 by_cases hbe:b=e
 ·subst hbe;exact heo
 ·exact⟨u,k b u hbe q⟩
end
def trk(h:Heap)(H:Hp):List Addr:=(List.range h.objs.size).filter fun a=>(H a).isSome
def JL(h:Heap)(H:Hp):Heap:=W.hideAll h (trk h H)
theorem Gx(h:Heap)(H:Hp):(JL h H).objs.size=h.objs.size:=W.hideAll_size _ _
theorem LZ{h:Heap}{H:Hp}{b:Addr}{o:Obj}(e:h.get? b=some o)(n:H b=none):(JL h H).get? b=some o:=
 W.hideAll_get _ e fun hm=>by
  have q:(H b).isSome=true:=(List.mem_filter.mp hm).2;rw[n]at q;simp at q
theorem Qd{h:Heap}{H:Hp}{b:Addr}{o:Obj}(e:(JL h H).get? b=some o):h.get? b=some o/\H b=none:=by
 have e':h.get? b=some o:=W.of_hideAll (trk h H) e;refine⟨e',?_⟩;cases q:H b with
 |none=>rfl
 |some x=>
  have hm:b∈trk h H:=List.mem_filter.mpr ⟨List.mem_range.mpr (Heap.lt_size e'),by simp[q]⟩;have z:(JL h H).get? b=none:=W.hideAll_none (trk h H) hm;rw[z]at e;cases e
structure Mod(K:W.Frag)(mg:Str->Option Value)(base:Heap):Prop where
 kin:K.In base
 glob:base.Ns mainGlobals mg
 blt:∃mb,base.Ns builtinsNs mb/\∀x:Str,x≠ "__name__" -> mb x=bootBuiltins x
 nolimit:base.NoLimit
 digits:base.NoDigits
structure Cx where
 prog:Program
 w:World
 K:W.Frag
 mg:Str->Option Value
 base:Heap
 A:Around
 N:List Str
 s₀:Shared
 H₀:Hp
 env:Env
 outer:List Env
 stack:List Env
 ex:List Addr
 fn:Str->Bool
 calm:Bool
 pn:List (Addr×Obj)
 xe:Value->Shared->Prop
def frs(l:List Env):List Addr:=l.filterMap (·.frame)
abbrev Cx.fs(X:Cx):List Addr:=frs X.outer
def Vis(sc:Scope)(x:Str):Prop:=sc.names.lookup x=some .local∨sc.names.lookup x=some .cell∨sc.names.lookup x=some .free
def Loc(sc:Scope)(x:Str):Prop:=sc.names.lookup x=some .local∨sc.names.lookup x=some .cell
def Look(env:Env)(h:Heap)(m:Str->Option Value)(x:Str)(u:Value):Prop:=
 (env.kindOf x=some .local/\m x=some u)∨((env.kindOf x=some .cell∨env.kindOf x=some .free)/\∃c,env.cells.lookup x=some c/\h.IsCell c (some u))
structure Cx.Ok(X:Cx):Prop where
 mod:Mod X.K X.mg X.base
 kind:X.env.scope.kind = .function
 glob:X.env.globals=mainGlobals
 blt:X.env.builtins=builtinsNs
 above:X.s₀.heap.objs.size<=X.env.locals
 inj:∀x y c,X.env.cells.lookup x=some c->X.env.cells.lookup y=some c->x=y
 has:∀x,(X.env.kindOf x=some .cell∨X.env.kindOf x=some .free)->∃c,X.env.cells.lookup x=some c
 cab:∀x c,X.fn x=true->X.env.cells.lookup x=some c->X.s₀.heap.objs.size<=c
 hd:X.calm=true->X.A.handled=none
 frames:X.A.frames=some X.stack
 stk:X.stack=X.outer∨(X.stack=X.env::X.outer/\X.env.frame=some X.env.locals)
 exf:∀b∈X.ex,b≠X.env.locals/\∀x c,X.env.cells.lookup x=some c->c≠b
 bs:∀b o,X.base.get? b=some o->X.s₀.heap.get? b=some o/\X.H₀ b=none
 bsz:X.base.objs.size<=X.s₀.heap.objs.size
 Q7:∀b o,X.base.get? b=some o->b∉X.ex
 Ra:∀b∈X.ex,b∉X.fs
 E6:X.s₀.heap.FunFrames X.base X.outer
 frf:∀b∈X.fs,X.H₀ b=none
structure Inv(X:Cx)(pins:List (Addr×Obj))(σ:List (Option V))(H:Hp)(s:Shared):Prop where
 ok:X.Ok
 os:s.os=X.s₀.os
 bare:AllBare s.gens
 base:Un X.fs X.ex X.H₀ H X.s₀.heap s.heap
 loc:∃m,s.heap.Ns X.env.locals m/\∀(i:Nat) (x:Str) (v:V),X.N[i]?=some x->σ[i]?=some (some v)->Vis X.env.scope x->∃u,RelV v u/\Look X.env s.heap m x u
 cell:∀x c,X.env.cells.lookup x=some c->∃v,s.heap.IsCell c v
 free:H X.env.locals=none
 pL:∀x c,X.env.cells.lookup x=some c->H c=none
 pin:∀p∈X.pn++pins,s.heap.get? p.1=some p.2/\H p.1=none/\p.1≠X.env.locals/\p.1∉X.fs/\∀v,p.2.data≠ .cell v
 hok:HOk X.prog X.w H s.heap
 len:σ.length=X.N.length
section
variable {X:Cx} {pins:List (Addr×Obj)} {σ:List (Option V)} {H H':Hp} {s:Shared} {h':Heap}
theorem Cx.Ok.acE(ok:X.Ok){b:Addr}{o:Obj}(e:X.base.get? b=some o):b∉X.fs:=fun hb=>by
 have:=(ok.E6.mem hb).1;rw[e]at this;cases this
theorem Inv.bs(I:Inv X pins σ H s):∀b o,X.base.get? b=some o->s.heap.get? b=some o/\H b=none:=fun b o e=>
 ⟨I.base.keep b o (I.ok.bs b o e).1 (I.ok.bs b o e).2 (I.ok.acE e) (I.ok.Q7 b o e),I.base.free b o (I.ok.bs b o e).1 (I.ok.bs b o e).2 (I.ok.Q7 b o e)⟩
theorem Inv.bk(I:Inv X pins σ H s):∀b o,X.base.get? b=some o->s.heap.get? b=some o:=fun b o e=>(I.bs b o e).1
theorem Inv.mod(I:Inv X pins σ H s):Mod X.K X.mg X.base:=I.ok.mod
theorem Inv.kIn(I:Inv X pins σ H s):X.K.In s.heap:=I.ok.mod.kin.keeps I.bk
theorem Inv.lt(I:Inv X pins σ H s):X.env.locals<s.heap.objs.size:=let⟨_,hn,_⟩:=I.loc;hn.lt
theorem Inv.sz(I:Inv X pins σ H s):X.s₀.heap.objs.size<=s.heap.objs.size:=Nat.le_trans I.ok.above (Nat.le_of_lt I.lt)
theorem Inv.acT(I:Inv X pins σ H s){a:Addr}(h:s.heap.objs.size<=a):a∉X.fs:=fun hb=>by
 obtain⟨_,o,ho,_⟩:=I.ok.E6.mem hb;exact absurd (Nat.lt_of_lt_of_le (Heap.lt_size ho) (Nat.le_trans I.sz h)) (Nat.lt_irrefl _)
theorem Inv.cne(I:Inv X pins σ H s):∀x c,X.env.cells.lookup x=some c->c≠X.env.locals:=fun x c e z=>by
 obtain⟨v,o,ho,hd⟩:=I.cell x c e;obtain⟨m,⟨o',es,ep,ho',hd',_⟩,_⟩:=I.loc;rw[z,ho']at ho;cases ho;rw[hd']at hd;cases hd
theorem Inv.E6(I:Inv X pins σ H s):s.heap.FunFrames X.base X.outer:=by
 have all:∀(l:List Env),(∀b∈frs l,b∈X.fs)->X.s₀.heap.FunFrames X.base l->s.heap.FunFrames X.base l:=by
  intro l;induction l with
  |nil=>intro _ _;trivial
  |cons env r ih=>
   intro hs hl;obtain⟨hk,⟨L,o,hf,hn,ho,hd⟩,hr⟩:=hl;have hL:L∈X.fs:=hs L (by unfold frs;rw[List.filterMap_cons,hf];exact List.mem_cons_self);obtain⟨sl,e⟩:=I.base.slot L o ho (I.ok.frf L hL) hL fun z=>I.ok.Ra L z hL;exact⟨hk,⟨L,_,hf,hn,e,hd⟩,ih (fun b hb=>hs b (by unfold frs;rw[List.filterMap_cons,hf];exact List.mem_cons_of_mem _ hb)) hr⟩
 exact all X.outer (fun _ hb=>hb) I.ok.E6
theorem Inv.stack(I:Inv X pins σ H s):s.heap.FunFrames X.base X.stack:=by
 rcases I.ok.stk with e|⟨e,hf⟩
 ·rw[e];exact I.E6
 ·rw[e];obtain⟨m,hn,_⟩:=I.loc;refine .cons (by rw[I.ok.kind];decide) hf hn ?_ I.E6;exact Heap.get?_none_of_le (Nat.le_trans I.ok.bsz I.ok.above)
theorem Inv.Dg(I:Inv X pins σ H s):∀b∈frs X.stack,b∈X.env.locals::X.fs:=fun b hb=>by
 rcases I.ok.stk with e|⟨e,hf⟩
 ·rw[e]at hb;exact List.mem_cons_of_mem _ hb
 ·rw[e]at hb;unfold frs at hb;rw[List.filterMap_cons,hf]at hb;exact hb
theorem Inv.Bq(I:Inv X pins σ H s):∀b∈frs X.stack,H b=none:=fun b hb=>by
 rcases List.mem_cons.mp (I.Dg b hb)with e|hb
 ·rw[e];exact I.free
 ·obtain⟨_,o,ho,_⟩:=I.ok.E6.mem hb;exact I.base.free b o ho (I.ok.frf b hb) fun z=>I.ok.Ra b z hb
theorem Inv.step{g':Array GenState}{t':Nat}{d':Drawn}{ch:List Addr}(I:Inv X pins σ H s)
  (hch:∀b∈ch,(b∈X.ex∨X.s₀.heap.objs.size<=b)/\b≠X.env.locals/\(∀x c,X.env.cells.lookup x=some c->c≠b)/\∀p∈X.pn++pins,p.1≠b)
  (keep:∀b o,b≠X.env.locals->b∉X.fs->b∉ch->s.heap.get? b=some o->H b=none->h'.get? b=some o)
  (slot:∀b o,b≠X.env.locals->b∈X.fs->b∉ch->s.heap.get? b=some o->H b=none->∃sl,h'.get? b=some { o with slots:=sl }) (free:∀b o,b∉ch->s.heap.get? b=some o->H b=none->H' b=none)
  (there:∀b o,b∉ch->s.heap.get? b=some o->∃o',h'.get? b=some o')
  (tups:∀b xs,H b=some (.tup xs)->H' b=some (.tup xs)) (Ag:∀b o u,H b=some (.frz o u)->H' b=some (.frz o u)) (BZ:∀b ps,H b=some (.tbl ps)->∃more,H' b=some (.tbl (ps++more)))
  (ns:∀m,s.heap.Ns X.env.locals m->h'.Ns X.env.locals m) (hok:HOk X.prog X.w H' h') (hg:AllBare g'):
  Inv X pins σ H' { s with heap:=h',gens:=g',drawn:=d',toks:=t' }:=by
 have neL:∀b o,X.s₀.heap.get? b=some o->b≠X.env.locals:=fun b o e=>Nat.ne_of_lt (Nat.lt_of_lt_of_le (Heap.lt_size e) I.ok.above);have neC:∀b o,X.s₀.heap.get? b=some o->b∉X.ex->b∉ch:=fun b o e hx hb=>by
  rcases(hch b hb).1 with z|z
  ·exact hx z
  ·exact absurd (Nat.lt_of_lt_of_le (Heap.lt_size e) z) (Nat.lt_irrefl _)
 have cellK:∀x c,X.env.cells.lookup x=some c->∀v,s.heap.IsCell c v->h'.IsCell c v:=fun x c e v ⟨o,ho,hd⟩=>by
  have nch:c∉ch:=fun z=>(hch c z).2.2.1 x c e rfl;by_cases hc:c∈X.fs
  ·obtain⟨sl,q⟩:=slot c o (I.cne x c e) hc nch ho (I.pL x c e);exact⟨_,q,hd⟩
  ·exact⟨o,keep c o (I.cne x c e) hc nch ho (I.pL x c e),hd⟩
 refine⟨I.ok,I.os,hg,⟨fun b o e n hb hx=>?_,fun b o e n hb hx=>?_,fun b o e n hx=>?_,fun b o e hx=>?_,fun b xs e=>tups b xs (I.base.tups b xs e),fun b o xs e=>Ag b o xs (I.base.Ag b o xs e),fun b ps e=>?_⟩,?_,fun x c e=>?_,?_,fun x c e=>?_,fun p hp=>?_,hok,I.len⟩
 ·exact keep b o (neL b o e) hb (neC b o e hx) (I.base.keep b o e n hb hx) (I.base.free b o e n hx)
 ·obtain⟨sl,e1⟩:=I.base.slot b o e n hb hx;obtain⟨sl',e2⟩:=slot b _ (neL b o e) hb (neC b o e hx) e1 (I.base.free b o e n hx);exact⟨sl',e2⟩
 ·obtain⟨o',e1⟩:=I.base.there b o e hx;exact free b o' (neC b o e hx) e1 (I.base.free b o e n hx)
 ·obtain⟨o',e1⟩:=I.base.there b o e hx;exact there b o' (neC b o e hx) e1
 ·obtain⟨m1,e1⟩:=I.base.BZ b ps e;obtain⟨m2,e2⟩:=BZ b _ e1;exact⟨m1++m2,by rw[e2,Array.append_assoc]⟩
 ·obtain⟨m,hn,hl⟩:=I.loc;refine⟨m,ns m hn,fun i x v e1 e2 e3=>?_⟩;obtain⟨u,r,l⟩:=hl i x v e1 e2 e3;refine⟨u,r,?_⟩;rcases l with l|⟨k,c,e,z⟩
  ·exact .inl l
  ·exact .inr ⟨k,c,e,cellK x c e _ z⟩
 ·obtain⟨v,z⟩:=I.cell x c e;exact⟨v,cellK x c e v z⟩
 ·obtain⟨m,⟨o,_,_,ho,_⟩,_⟩:=I.loc;exact free _ o (fun z=>(hch _ z).2.1 rfl) ho I.free
 ·obtain⟨v,o,ho,hd⟩:=I.cell x c e;exact free c o (fun z=>(hch c z).2.2.1 x c e rfl) ho (I.pL x c e)
 ·obtain⟨e,n,ne,nf,d⟩:=I.pin p hp;have nch:p.1∉ch:=fun z=>(hch p.1 z).2.2.2 p hp rfl;exact⟨keep p.1 p.2 ne nf nch e n,free p.1 p.2 nch e n,ne,nf,d⟩
theorem Inv.un{t':Nat}(I:Inv X pins σ H s)(u:Un X.fs [] H H' s.heap h')(hok:HOk X.prog X.w H' h'):Inv X pins σ H' { s with heap:=h',toks:=t' }:=by
 obtain⟨m,⟨o,es,ep,ho,r⟩,_⟩:=id I.loc;obtain⟨sl,hL⟩:=u.any ho I.free (by simp);exact I.step (g':=s.gens) (d':=s.drawn) (ch:=[]) (fun _ z=>nomatch z) (fun b o _ hb _ e n=>u.keep b o e n hb (by simp)) (fun b o _ hb _ e n=>u.slot b o e n hb (by simp)) (fun b o _ e n=>u.free b o e n (by simp)) (fun b o _ e=>u.there b o e (by simp)) u.tups u.Ag u.BZ (fun m' hm=>by
  obtain⟨o',es',ep',ho',r'⟩:=hm;rw[ho]at ho';cases ho';exact⟨_,es',ep',hL,r'⟩) hok I.bare
theorem Inv.call{g':Array GenState}{t':Nat}{d':Drawn}{ch:List Addr}(I:Inv X pins σ H s)(u:Un (frs X.stack) ch H H' s.heap h')(hok:HOk X.prog X.w H' h')(hg:AllBare g')
  (hch:∀b∈ch,(b∈X.ex∨X.s₀.heap.objs.size<=b)/\b≠X.env.locals/\(∀x c,X.env.cells.lookup x=some c->c≠b)/\∀p∈X.pn++pins,p.1≠b):
  Inv X pins σ H' { s with heap:=h',gens:=g',drawn:=d',toks:=t' }:=by
 obtain⟨m,⟨o,es,ep,ho,r⟩,_⟩:=id I.loc;obtain⟨sl,hL⟩:=u.any ho I.free fun z=>(hch _ z).2.1 rfl;exact I.step (ch:=ch) hch (fun b o hL hb hc e n=>u.keep b o e n (fun z=>(List.mem_cons.mp (I.Dg b z)).elim hL hb) hc) (fun b o _ _ hc e n=>u.any e n hc) (fun b o hc e n=>u.free b o e n hc) (fun b o hc e=>u.there b o e hc) u.tups u.Ag u.BZ (fun m' hm=>by
  obtain⟨o',es',ep',ho',r'⟩:=hm;rw[ho]at ho';cases ho';exact⟨_,es',ep',hL,r'⟩) hok hg
theorem Inv.turned{t':Nat}{it:Addr}(I:Inv X pins σ H s)(k:∀b o,b≠it->s.heap.get? b=some o->h'.get? b=some o)(hn:H it=none)(hL:it≠X.env.locals)
  (h1:it∈X.ex∨X.s₀.heap.objs.size<=it) (h2:∀x c,X.env.cells.lookup x=some c->c≠it) (h3:∀p∈X.pn++pins,p.1≠it):Inv X pins σ H { s with heap:=h',toks:=t' }:=by
 have nit:∀b u,H b=some u->b≠it:=fun b u e z=>by rw[z,hn]at e;cases e
 refine I.step (g':=s.gens) (d':=s.drawn) (ch:=[it]) (fun b hb=>?_) (fun b o _ _ hc e _=>k b o (fun z=>hc (by simp[z])) e) (fun b o _ _ hc e _=>⟨o.slots,k b o (fun z=>hc (by simp[z])) e⟩) (fun _ _ _ _ n=>n)
  (fun b o hc e=>⟨o,k b o (fun z=>hc (by simp[z])) e⟩) (fun _ _ e=>e) (fun _ _ _ e=>e) (fun b ps e=>⟨#[],by rw[e];simp⟩) (fun m hm=>?_) (fun b u e=>?_) I.bare
 ·have e:b=it:=by simpa using hb
  subst e;exact⟨h1,hL,h2,h3⟩
 ·obtain⟨o,es,ep,ho,r⟩:=hm;exact⟨o,es,ep,k _ o (Ne.symm hL) ho,r⟩
 ·refine(I.hok b u e).stay (fun c v hc q=>k c v ?_ q) (fun _ q=>q) fun _ _ q=>q;rcases hc with z|z
  ·rw[z];exact nit b u e
  ·exact nit c _ z
theorem Inv.tok(I:Inv X pins σ H s)(t:Nat):Inv X pins σ H { s with toks:=t }:=I.un (h':=s.heap) (t':=t) Un.refl I.hok
theorem Inv.kept{t':Nat}(I:Inv X pins σ H s)(k:∀b u,s.heap.get? b=some u->h'.get? b=some u):Inv X pins σ H { s with heap:=h',toks:=t' }:=I.un (Un.kept k) (I.hok.kept k)
theorem Inv.laid{a:Addr}{o:HO}{t':Nat}(I:Inv X pins σ H s)(k:∀b u,s.heap.get? b=some u->h'.get? b=some u)(hp:s.heap.objs.size<=a)(new:j5 X.prog X.w (upd H a o) h' a o):
  Inv X pins σ (upd H a o) { s with heap:=h',toks:=t' }:=I.un (Un.laid k hp (I.hok.fresh hp)) (I.hok.laid k hp new)
theorem Inv.write{x e:Addr}{o:HO}{t':Nat}(I:Inv X pins σ H s)(mu:Mut (H x))(he:e=x∨H e=some (.own x))(k:∀b u,b≠e->s.heap.get? b=some u->h'.get? b=some u)(heo:∃u,h'.get? e=some u)
  (new:j5 X.prog X.w (upd H x o) h' x o):Inv X pins σ (upd H x o) { s with heap:=h',toks:=t' }:=I.un (Un.write mu he k heo) (I.hok.write mu he k heo new)
theorem Inv.E9{U0:List (Addr×Obj)}(I:Inv X pins σ H s)(h:∀p∈U0,s.heap.get? p.1=some p.2/\H p.1=none/\p.1≠X.env.locals/\p.1∉X.fs/\∀v,p.2.data≠ .cell v):Inv X U0 σ H s:=
 ⟨I.ok,I.os,I.bare,I.base,I.loc,I.cell,I.free,I.pL,fun p hp=>(List.mem_append.mp hp).elim (fun z=>I.pin p (List.mem_append_left _ z)) (h p),I.hok,I.len⟩
theorem wR{N:List Str}(hN:N.Nodup){i j:Nat}{x:Str}(a:N[i]?=some x)(b:N[j]?=some x):i=j:=by
 obtain⟨h1,e1⟩:=List.getElem?_eq_some_iff.mp a;obtain⟨h2,e2⟩:=List.getElem?_eq_some_iff.mp b;exact(List.getElem_inj hN).mp (e1.trans e2.symm)
theorem Gd{M:Model}{A:Around}{E:Value->Shared->Prop}{i:Nat}{x:Str}{v:V}{u:Value}{Q:Unit->Shared->Prop}(I:Inv X pins σ H s)(hN:X.N.Nodup)(hi:X.N[i]?=some x)(hx:Loc X.env.scope x)(r:RelV v u)
  (h:∀s',Inv X pins (σ.set i (some v)) H s'->(∃a,Heap.SameBut a s.heap s'.heap/\(a=X.env.locals∨X.env.cells.lookup x=some a))->Q () s') (hf:X.fn x=true∨X.env.scope.names.lookup x=some .local:=by first|exact .inl rfl|exact .inr rfl|assumption):wpAny M A (storeName X.env x u) Q E s:=by
 obtain⟨m,hn,hl⟩:=id I.loc;have hcls:(X.env.scope.kind== .class||(X.env.scope.kind== .module&&X.env.locals != X.env.globals))=false:=by rw[I.ok.kind];rfl
 have hiσ:i < σ.length:=by rw[I.len];exact(List.getElem?_eq_some_iff.mp hi).1
 have cne:=I.cne;have tracked:∀{a:Addr} {h':Heap},(∃o,s.heap.get? a=some o/\H a=none)->Heap.SameBut a s.heap h'->HOk X.prog X.w H h':=fun {a h'} ha hs b ob e=>by
  obtain⟨_,_,hfree⟩:=ha;refine(I.hok b ob e).stay (fun c w' hc q=>(hs.2 c ?_).trans q) (fun _ q=>q) fun _ _ q=>q;rintro rfl;rcases hc with rfl|hc
  ·rw[hfree]at e;cases e
  ·rw[hfree]at hc;cases hc
 rcases hx with hk|hk
 ·refine wpAny_storeName_local hk hn (fun h' hn' hs=>?_) hcls;obtain⟨oL,_,_,hoL,_⟩:=id hn;refine h _ ⟨I.ok,I.os,I.bare,⟨fun b o e n hb hx=>?_,fun b o e n hb hx=>?_,I.base.free,fun b o e hx=>?_,I.base.tups,I.base.Ag,I.base.BZ⟩,⟨_,hn',fun j y v' e1 e2 e3=>?_⟩,fun y c e=>?_,I.free,I.pL,fun p hp=>?_,tracked ⟨oL,hoL,I.free⟩ hs,by simpa using I.len⟩ ⟨_,hs,.inl rfl⟩
  ·exact(hs.2 b (Nat.ne_of_lt (Nat.lt_of_lt_of_le (Heap.lt_size e) I.ok.above))).trans (I.base.keep b o e n hb hx)
  ·obtain⟨sl,e1⟩:=I.base.slot b o e n hb hx;exact⟨sl,(hs.2 b (Nat.ne_of_lt (Nat.lt_of_lt_of_le (Heap.lt_size e) I.ok.above))).trans e1⟩
  ·obtain⟨o',e1⟩:=I.base.there b o e hx;exact⟨o',(hs.2 b (Nat.ne_of_lt (Nat.lt_of_lt_of_le (Heap.lt_size e) I.ok.above))).trans e1⟩
  ·by_cases hj:j=i
   ·subst hj;rw[hi]at e1;cases e1;rw[List.getElem?_set_self hiσ]at e2;cases e2;exact⟨u,r,.inl ⟨hk,by simp⟩⟩
   ·rw[List.getElem?_set_ne (Ne.symm hj)]at e2;obtain⟨u',r',q⟩:=hl j y v' e1 e2 e3;refine⟨u',r',?_⟩;rcases q with⟨k,e⟩|⟨k,c,e,z⟩
    ·refine .inl ⟨k,?_⟩;have:y≠x:=fun e=>hj (wR hN e1 (e▸hi));simp[this,e]
    ·exact .inr ⟨k,c,e,z.sameBut hs (cne y c e)⟩
  ·obtain⟨w',z⟩:=I.cell y c e;exact⟨w',z.sameBut hs (cne y c e)⟩
  ·obtain⟨e,n,ne,nf,d⟩:=I.pin p hp;exact⟨(hs.2 p.1 ne).trans e,n,ne,nf,d⟩
 ·have hfn:X.fn x=true:=by
   rcases hf with z|z
   ·exact z
   ·rw[z]at hk;cases hk
  obtain⟨c,hc⟩:=I.ok.has x (.inl hk);obtain⟨w',z⟩:=I.cell x c hc;refine wpAny_storeName_cell I.ok.kind hk hc z (fun h' hc' hs=>?_);obtain⟨oc,hoc,adS⟩:=id z;refine h { s with heap:=h' } ⟨I.ok,I.os,I.bare,⟨fun b o e n hb hx=>?_,fun b o e n hb hx=>?_,I.base.free,fun b o e hx=>?_,I.base.tups,I.base.Ag,I.base.BZ⟩,⟨m,hn.sameBut hs (Ne.symm (cne x c hc)),fun j y v' e1 e2 e3=>?_⟩,fun y c' e=>?_,I.free,I.pL,fun p hp=>?_,tracked ⟨oc,hoc,I.pL x c hc⟩ hs,by simpa using I.len⟩ ⟨c,hs,.inr hc⟩
  ·exact(hs.2 b (Nat.ne_of_lt (Nat.lt_of_lt_of_le (Heap.lt_size e) (I.ok.cab x c hfn hc)))).trans (I.base.keep b o e n hb hx)
  ·obtain⟨sl,e1⟩:=I.base.slot b o e n hb hx;exact⟨sl,(hs.2 b (Nat.ne_of_lt (Nat.lt_of_lt_of_le (Heap.lt_size e) (I.ok.cab x c hfn hc)))).trans e1⟩
  ·obtain⟨o',e1⟩:=I.base.there b o e hx;exact⟨o',(hs.2 b (Nat.ne_of_lt (Nat.lt_of_lt_of_le (Heap.lt_size e) (I.ok.cab x c hfn hc)))).trans e1⟩
  ·by_cases hj:j=i
   ·subst hj;rw[hi]at e1;cases e1;rw[List.getElem?_set_self hiσ]at e2;cases e2;exact⟨u,r,.inr ⟨.inl hk,c,hc,hc'⟩⟩
   ·rw[List.getElem?_set_ne (Ne.symm hj)]at e2;obtain⟨u',r',q⟩:=hl j y v' e1 e2 e3;refine⟨u',r',?_⟩;rcases q with q|⟨k,c',e,z'⟩
    ·exact .inl q
    ·refine .inr ⟨k,c',e,z'.sameBut hs ?_⟩;rintro rfl;exact hj (wR hN e1 (I.ok.inj _ _ _ e hc▸hi))
  ·by_cases hcc:c'=c
   ·subst hcc;exact⟨_,hc'⟩
   ·obtain⟨w2,z2⟩:=I.cell y c' e;exact⟨w2,z2.sameBut hs hcc⟩
  ·obtain⟨e,n,ne,nf,d⟩:=I.pin p hp;refine⟨(hs.2 p.1 ?_).trans e,n,ne,nf,d⟩;intro q;rw[q,hoc]at e;have q':oc=p.2:=Option.some.inj e;exact d w' (by rw[<-q'];exact adS)
theorem tV{M:Model}{A:Around}{E:Value->Shared->Prop}{i:Nat}{x:Str}{v:V}{u:Value}{Q:Unit->Shared->Prop}(I:Inv X pins σ H s)(hN:X.N.Nodup)(hi:X.N[i]?=some x)(hx:Loc X.env.scope x)(r:RelV v u)
  (h:∀s',Inv X pins (σ.set i (some v)) H s'->Q () s') (hf:X.fn x=true∨X.env.scope.names.lookup x=some .local:=by first|exact .inl rfl|exact .inr rfl|assumption):wpAny M A (storeName X.env x u) Q E s:=
 Gd I hN hi hx r (fun s' I' _=>h s' I') hf
theorem Inv.UG{s':Shared}{ch:List Addr}(I:Inv X pins σ H s)(ho:s'.os=s.os)(u:Un (frs X.stack) ch H H' s.heap s'.heap)(hok:HOk X.prog X.w H' s'.heap)(hg:AllBare s'.gens)
  (hch:∀b∈ch,(b∈X.ex∨X.s₀.heap.objs.size<=b)/\b≠X.env.locals/\(∀x c,X.env.cells.lookup x=some c->c≠b)/\∀p∈X.pn++pins,p.1≠b):Inv X pins σ H' s':=by
 obtain⟨h',g',d',t',o'⟩:=s';have e:o'=s.os:=ho;subst e;exact I.call (g':=g') (t':=t') (d':=d') u hok hg hch
end
abbrev XK:=Value->Option Addr->Hp->Prop
abbrev St:=List (Option V)
abbrev VK:=V->Hp->Prop
abbrev TE:=St->Hp->VK->Prop
abbrev TT:=St->Hp->(Bool->Hp->Prop)->Prop
abbrev TA:=St->Hp->(List V->Hp->Prop)->Prop
structure Ends where
 nx:St->Hp->Prop
 rt:VK
 bk:St->Hp->Prop:=fun _ _=>False
 ct:St->Hp->Prop:=fun _ _=>False
abbrev TS:=Ends->St->Hp->Prop
def EP(X:Cx)(pins:List (Addr×Obj))(σ:St)(Q:VK)(u:Value)(s':Shared):Prop:=∃v H',Inv X pins σ H' s'/\RelV v u/\Q v H'
def TP(X:Cx)(pins:List (Addr×Obj))(σ:St)(Q:Bool->Hp->Prop)(b:Bool)(s':Shared):Prop:=∃H',Inv X pins σ H' s'/\Q b H'
def AP(X:Cx)(pins:List (Addr×Obj))(σ:St)(Q:List V->Hp->Prop)(us:List Value)(s':Shared):Prop:=∃vs H',Inv X pins σ H' s'/\Vals vs us/\Q vs H'
def SP(X:Cx)(pins:List (Addr×Obj))(D:Ends)(f:Flow)(s':Shared):Prop:=
 match f with
 |.next=>∃σ' H',Inv X pins σ' H' s'/\D.nx σ' H'
 |.brk=>∃σ' H',Inv X pins σ' H' s'/\D.bk σ' H'
 |.cont=>∃σ' H',Inv X pins σ' H' s'/\D.ct σ' H'
 |.ret u=>∃v σ' H',Inv X pins σ' H' s'/\RelV v u/\D.rt v H'
def PE(X:Cx)(e:Expr)(t:TE):Prop:=
 ∀(pins:List (Addr×Obj)) (s:Shared) (σ:St) (H:Hp) (Q:VK),Inv X pins σ H s->t σ H Q->wpAny (model X.prog X.w) X.A (eval e X.env) (EP X pins σ Q) X.xe s
def PT(X:Cx)(e:Expr)(t:TT):Prop:=
 ∀(pins:List (Addr×Obj)) (s:Shared) (σ:St) (H:Hp) (Q:Bool->Hp->Prop),Inv X pins σ H s->t σ H Q->wpAny (model X.prog X.w) X.A (isTrue e X.env (eval e X.env)) (TP X pins σ Q) X.xe s
def PW(X:Cx)(e:Expr)(t:TT):Prop:=
 ∀(whole:Sem Value) (pins:List (Addr×Obj)) (s:Shared) (σ:St) (H:Hp) (Q:Bool->Hp->Prop),Inv X pins σ H s->t σ H Q->wpAny (model X.prog X.w) X.A (isTrue e X.env whole) (TP X pins σ Q) X.xe s
theorem PW.pt{X:Cx}{e:Expr}{t:TT}(h:PW X e t):PT X e t:=h _
def PA(X:Cx)(es:List Expr)(t:TA):Prop:=
 ∀(pos:Pos) (pins:List (Addr×Obj)) (s:Shared) (σ:St) (H:Hp) (Q:List V->Hp->Prop),Inv X pins σ H s->t σ H Q->wpAny (model X.prog X.w) X.A (spliced (backTo pos (starEach es X.env))) (AP X pins σ Q) X.xe s
def PS(X:Cx)(st:Stmt)(t:TS):Prop:=
 ∀(pins:List (Addr×Obj)) (s:Shared) (σ:St) (H:Hp) (D:Ends),Inv X pins σ H s->t D σ H->wpAny (model X.prog X.w) X.A (exec st X.env) (SP X pins D) X.xe s
def PSs(X:Cx)(st:List Stmt)(t:TS):Prop:=
 ∀(pins:List (Addr×Obj)) (s:Shared) (σ:St) (H:Hp) (D:Ends),Inv X pins σ H s->t D σ H->wpAny (model X.prog X.w) X.A (execs st X.env) (SP X pins D) X.xe s
theorem thn{α:Type}{t:Sem α}{Q Q':α->Shared->Prop}{M:Model}{A:Around}{E:Value->Shared->Prop}{s:Shared}(h:wpAny M A t Q E s)(hQ:∀a s,Q a s->Q' a s):wpAny M A t Q' E s:=wpAny_mono h hQ fun _ _ x=>x
section
variable {X:Cx}
inductive acw(i:Nat)(σ:St)(H:Hp)(Q:VK):Prop|mk (v:V) (h:σ[i]?=some (some v)) (q:Q v H)
def abX(i:Nat):TE:=fun σ H Q=>acw i σ H Q
def tC(v:V):TE:=fun _ H Q=>Q v H
theorem Ui{i:Nat}{x:Str}{pos:Pos}(hN:X.N[i]?=some x)(hv:Vis X.env.scope x)(hd:(x==("__debug__" : Str))=false:=by decide)(hcd:(x==("__classdict__" : Str))=false:=by decide):PE X (.Name x pos) (abX i):=by
 intro pins s σ H Q I h;obtain⟨v,e,h⟩:=h;obtain⟨m,hn,hl⟩:=I.loc;obtain⟨u,r,l⟩:=hl i x v hN e hv;have fin:EP X pins σ Q u s:=⟨v,H,I,r,h⟩;rcases l with⟨hk,hm⟩|⟨hk,c,hc,hcell⟩
 ·exact wpAny_Name (wpAny_loadName_local I.ok.kind hk hn hm fin) hd
 ·rcases hk with hk|hk
  ·exact wpAny_Name (wpAny_loadName_cell I.ok.kind hk hc hcell fin) hd
  ·exact wpAny_Name (wpAny_loadName_free I.ok.kind hk hc hcell fin hcd) hd
theorem au{i j pos}:PE X (.Constant (.int i) j pos) (tC (.int i)):=fun _ _ _ H _ I h=>wpAny_Constant_int ⟨.int i,H,I.tok _,⟨_,rfl⟩,h⟩
theorem Ac{b j pos}:PE X (.Constant (.bool b) j pos) (tC (.bl b)):=fun _ _ _ H _ I h=>Constant_bool ⟨.bl b,H,I,rfl,h⟩
theorem MQ{j pos}:PE X (.Constant .none j pos) (tC .non):=fun _ _ _ H _ I h=>Constant_none ⟨.non,H,I,rfl,h⟩
theorem Nh{x j pos}:PE X (.Constant (.str x) j pos) (tC (.str x)):=fun _ _ _ H _ I h=>Calls.Constant_str ⟨.str x,H,I.tok _,⟨_,rfl⟩,h⟩
def Gl(X:Cx)(x:Str):Prop:=X.env.kindOf x=some .globalImplicit
theorem uG{E:Value->Shared->Prop}{pins:List (Addr×Obj)}{s:Shared}{σ:St}{H:Hp}{x:Str}{u:Value}{pos:Pos}{Q:Value->Shared->Prop}(I:Inv X pins σ H s)(hg:Gl X x)(hm:X.mg x=some u)(h:Q u s)
  (hd:(x==("__debug__" : Str))=false:=by decide):wpAny (model X.prog X.w) X.A (eval (.Name x pos) X.env) Q E s:=
 Calls.Name_function_global I.ok.kind hg (Calls.loadGlobal_global (by rw[I.ok.glob];exact I.mod.glob.keeps I.bk) hm h) hd
theorem wz{E:Value->Shared->Prop}{pins:List (Addr×Obj)}{s:Shared}{σ:St}{H:Hp}{x:Str}{u:Value}{pos:Pos}{Q:Value->Shared->Prop}(I:Inv X pins σ H s)(hg:Gl X x)(hm:X.mg x=none)(hv:bootBuiltins x=some u)(h:Q u s)
  (hn:x≠ "__name__" := by decide) (hd:(x==("__debug__" : Str))=false:=by decide):wpAny (model X.prog X.w) X.A (eval (.Name x pos) X.env) Q E s:=by
 obtain⟨mb,h1,h2⟩:=I.mod.blt;exact Calls.Name_function_global I.ok.kind hg (Calls.loadGlobal_builtin (by rw[I.ok.glob];exact I.mod.glob.keeps I.bk) hm (by rw[I.ok.blt];exact h1.keeps I.bk) ((h2 x hn).trans hv) h) hd
theorem Ar{x:Str}{v:V}{u:Value}{pos:Pos}(hg:Gl X x)(hm:X.mg x=some u)(r:RelV v u)(hd:(x==("__debug__" : Str))=false:=by decide):PE X (.Name x pos) (tC v):=
 fun _ _ _ H _ I h=>uG I hg hm ⟨v,H,I,r,h⟩ hd
variable {a b:Expr} {ta tb:TE} {pos:Pos}
def PC(X:Cx)(op:CmpOp)(a b:Expr)(t:TE):Prop:=
 ∀(pins:List (Addr×Obj)) (s:Shared) (σ:St) (H:Hp) (Q:VK),Inv X pins σ H s->t σ H Q->
  wpAny (model X.prog X.w) X.A (eval a X.env) (fun v s₁=>wpAny (model X.prog X.w) X.A (eval b X.env) (fun u s₂=>wpAny (model X.prog X.w) X.A (compareOp op v u) (EP X pins σ Q) X.xe s₂) X.xe s₁) X.xe s
theorem J7(b:Expr){op:CmpOp}(h:op≠ .In)(h2:op≠ .NotIn):behindInMarks op b=false:=by
 have e1:(op==CmpOp.In)=false:=by cases op<;>first|rfl|exact absurd rfl h
 have e2:(op==CmpOp.NotIn)=false:=by cases op<;>first|rfl|exact absurd rfl h2
 cases b<;>simp[behindInMarks,e1,e2]
def acs(ta:TE):TE:=fun σ H Q=>ta σ H fun x H1=>Q (.bl (decide (x = .non))) H1
theorem RelV.Ks{x:V}{v:Value}(r:RelV x v):(v==Value.none)=decide (x = .non):=by
 cases x with
 |non=>cases r;rfl
 |bl _=>cases r;rfl
 |int _=>obtain⟨t,rfl⟩:=r;rfl
 |str _=>obtain⟨t,rfl⟩:=r;rfl
 |byt _=>obtain⟨t,rfl⟩:=r;rfl
 |flt _=>obtain⟨t,rfl⟩:=r;rfl
 |ref _=>cases r;rfl
 |ty _=>cases r;rfl
theorem Ti{j pos'}(ha:PE X a ta):PC X .Is a (.Constant .none j pos') (acs ta):=by
 intro pins s σ H Q I h;refine thn (ha pins s σ H _ I h) fun v s1 ⟨x,H1,I1,r1,q1⟩=>?_;exact Constant_none (is_none_gen ⟨.bl _,H1,I1,by rw[r1.Ks];rfl,q1⟩)
def tB(t:TE):TT:=fun σ H Q=>t σ H fun x H1=>∃c,x = .bl c/\Q c H1
theorem Um{op:CmpOp}{t:TE}(h:PC X op a b t)(h1:behindInMarks op b=false:=by first|exact J7 _ (by decide) (by decide)|rfl):PE X (.Compare a [op] [b] pos) t:=fun pins s σ H Q I hw=>wpAny_Compare1 (h pins s σ H Q I hw) h1
theorem CJ{e:Expr}{t:TE}(h:PE X e t)(he:∀whole,isTrue e X.env whole=(do let v<-whole;standAt e.pos;holding [v] (truthy v)):=by intro _;rfl):PT X e (tB t):=by
 intro pins s σ H Q I hw;refine isTrue_plain (thn (h pins s σ H _ I hw) fun v s1 ⟨x,H1,I1,r1,q1⟩=>?_) (he _);obtain⟨d,rfl,q⟩:=q1;cases r1;exact wpAny_truthy_bool ⟨H1,I1,q⟩
variable {tA tB':TT} {rest:List Expr}
def adJ(t u:TT):TT:=fun σ H Q=>t σ H fun c H1=>if c=true then u σ H1 Q else Q false H1
def tOr(t u:TT):TT:=fun σ H Q=>t σ H fun c H1=>if c=true then Q true H1 else u σ H1 Q
def acP(t:TT):TT:=fun σ H Q=>t σ H fun c H1=>Q (!c) H1
theorem Ju(ha:PT X a tA):PW X (.BoolOp .And [a] pos) tA:=by
 intro wh pins s σ H Q I h;refine isTrue_and (thn (ha pins s σ H Q I h) fun c s1 e=>?_);cases c with
 |true=>exact isTrue_and_nil e
 |false=>exact e
theorem vM(ha:PT X a tA):PW X (.BoolOp .Or [a] pos) tA:=by
 intro wh pins s σ H Q I h;refine isTrue_or (thn (ha pins s σ H Q I h) fun c s1 e=>?_);cases c with
 |false=>exact isTrue_or_nil e
 |true=>exact e
theorem Mi(ha:PT X a tA)(hb:PW X (.BoolOp .And (b::rest) pos) tB'):PW X (.BoolOp .And (a::b::rest) pos) (adJ tA tB'):=by
 intro wh pins s σ H Q I h;refine isTrue_and (thn (ha pins s σ H _ I h) fun c s1 ⟨H1,I1,q1⟩=>?_);cases c with
 |true=>exact hb wh pins s1 σ H1 Q I1 q1
 |false=>exact⟨H1,I1,q1⟩
theorem vG(ha:PT X a tA)(hb:PW X (.BoolOp .Or (b::rest) pos) tB'):PW X (.BoolOp .Or (a::b::rest) pos) (tOr tA tB'):=by
 intro wh pins s σ H Q I h;refine isTrue_or (thn (ha pins s σ H _ I h) fun c s1 ⟨H1,I1,q1⟩=>?_);cases c with
 |true=>exact⟨H1,I1,q1⟩
 |false=>exact hb wh pins s1 σ H1 Q I1 q1
theorem DL(ha:PT X a tA):PT X (.UnaryOp .Not a pos) (acP tA):=by
 intro pins s σ H Q I h;exact isTrue_not (ha pins s σ H (fun c H1=>Q (!c) H1) I h)
def tIf(t:TT)(ta tb:TE):TE:=fun σ H Q=>t σ H fun c H1=>if c=true then ta σ H1 Q else tb σ H1 Q
theorem wY{c:Expr}(hc:PT X c tA)(ha:PE X a ta)(hb:PE X b tb):PE X (.IfExp c a b pos) (tIf tA ta tb):=by
 intro pins s σ H Q I h;refine wpAny_IfExp (thn (hc pins s σ H _ I h) fun d s1 ⟨H1,I1,q1⟩=>?_);cases d with
 |true=>exact ha pins s1 σ H1 Q I1 q1
 |false=>exact hb pins s1 σ H1 Q I1 q1
end
def SqL(K:W.Frag)(H:Hp)(a:Addr)(xs:List V):Prop:=
 Rd H a (.lst xs)∨
  ∃(o:Obj) (its:Array Value) (n:Nat),K.lookup a=some o/\o.cls = .type "list" /\ o.dict=none/\o.data = .seq its n/\its.size<=sizeLine/\Vals xs its.toList
def SqT(K:W.Frag)(H:Hp)(a:Addr)(xs:List V):Prop:=
 Rd H a (.tup xs)∨
  ∃(o:Obj) (its:Array Value) (n:Nat),K.lookup a=some o/\o.cls = .type "tuple" /\ o.data = .seq its n/\its.size<=sizeLine/\Vals xs its.toList
def acN:Value->Option V
 |.none=>some .non
 |.bool b=>some (.bl b)
 |.int i _=>some (.int i)
 |.str x _=>some (.str x)
 |.bytes b _=>some (.byt b)
 |.float b _=>some (.flt b)
 |.ref a=>some (.ref a)
 |.type n=>some (.ty n)
 |_=>none
theorem RelV.abs{x:V}{u:Value}(r:RelV x u):acN u=some x:=by
 cases x with
 |non=>cases r;rfl
 |bl _=>cases r;rfl
 |int _=>obtain⟨t,rfl⟩:=r;rfl
 |str _=>obtain⟨t,rfl⟩:=r;rfl
 |byt _=>obtain⟨t,rfl⟩:=r;rfl
 |flt _=>obtain⟨t,rfl⟩:=r;rfl
 |ref _=>cases r;rfl
 |ty _=>cases r;rfl
theorem RelV.inj{x y:V}{u:Value}(r:RelV x u)(q:RelV y u):x=y:=Option.some.inj (r.abs.symm.trans q.abs)
theorem Vals.inj{xs ys:List V}{us:List Value}(h:Vals xs us)(h':Vals ys us):xs=ys:=by
 induction h generalizing ys with
 |nil=>cases h';rfl
 |cons r t ih=>
  cases h' with
  |cons r' t'=>rw[r.inj r',ih t']
section
variable {X:Cx} {pins:List (Addr×Obj)} {σ:St} {H:Hp} {s:Shared} {a:Addr} {xs ys:List V}
theorem SqL.of{K:W.Frag}(h:H a=some (.lst xs)):SqL K H a xs:= .inl (.inl h)
theorem SqT.of{K:W.Frag}(h:H a=some (.tup xs)):SqT K H a xs:= .inl (.inl h)
theorem Inv.list(I:Inv X pins σ H s)(h:SqL X.K H a xs):∃its:List Value,Vals xs its/\PlainL s.heap a its.toArray/\xs.length<=sizeLine:=by
 rcases h with h|⟨o,its,n,hk,hc,hd,hs,hz,r⟩
 ·obtain⟨z,its,n,r,e⟩:=h.ok I.hok;exact⟨its,r,⟨_,n,e,rfl,rfl,rfl⟩,z⟩
 ·refine⟨its.toList,r,⟨o,n,I.kIn a o hk,hc,hd,by simpa using hs⟩,?_⟩;have e:=r.length;simp only[Array.length_toList]at e;omega
theorem Inv.tuple(I:Inv X pins σ H s)(h:SqT X.K H a xs):∃its:List Value,Vals xs its/\IsTup s.heap a its.toArray/\xs.length<=sizeLine:=by
 rcases h with h|⟨o,its,n,hk,hc,hs,hz,r⟩
 ·obtain⟨z,its,r,p⟩:=h.ok I.hok;exact⟨its,r,p,z⟩
 ·refine⟨its.toList,r,⟨o,I.kIn a o hk,hc,n,by simpa using hs⟩,?_⟩;have e:=r.length;simp only[Array.length_toList]at e;omega
theorem Inv.Du(I:Inv X pins σ H s)(h:SqL X.K H a xs)(h':SqL X.K H a ys):xs=ys:=by
 obtain⟨its,r,⟨o,n,e,_,_,d⟩,_⟩:=I.list h;obtain⟨its',r',⟨o',n',e',_,_,d'⟩,_⟩:=I.list h';rw[e]at e';cases e';rw[d]at d';injection d' with d1 _;have:its=its':=by simpa using congrArg Array.toList d1
 subst this;exact r.inj r'
theorem Inv.Ae(I:Inv X pins σ H s)(h:SqT X.K H a xs)(h':SqT X.K H a ys):xs=ys:=by
 obtain⟨its,r,⟨o,e,_,n,d⟩,_⟩:=I.tuple h;obtain⟨its',r',⟨o',e',_,n',d'⟩,_⟩:=I.tuple h';rw[e]at e';cases e';rw[d]at d';injection d' with d1 _;have:its=its':=by simpa using congrArg Array.toList d1
 subst this;exact r.inj r'
end
abbrev Cx.wish(X:Cx)(E:Value->Shared->Prop):Cx:={ X with xe:=E }
abbrev Cx.nox(X:Cx):Cx:=X.wish fun _ _=>False
theorem Cx.Ok.wish{X:Cx}(ok:X.Ok)(E:Value->Shared->Prop):(X.wish E).Ok:=
 ⟨ok.mod,ok.kind,ok.glob,ok.blt,ok.above,ok.inj,ok.has,ok.cab,ok.hd,ok.frames,ok.stk,ok.exf,ok.bs,ok.bsz,ok.Q7,ok.Ra,ok.E6,ok.frf⟩
theorem Cx.Ok.pY{X:Cx}{E:Value->Shared->Prop}(ok:(X.wish E).Ok):X.Ok:=
 ⟨ok.mod,ok.kind,ok.glob,ok.blt,ok.above,ok.inj,ok.has,ok.cab,ok.hd,ok.frames,ok.stk,ok.exf,ok.bs,ok.bsz,ok.Q7,ok.Ra,ok.E6,ok.frf⟩
section
variable {X:Cx} {pins:List (Addr×Obj)} {σ:St} {H:Hp} {s:Shared} {E:Value->Shared->Prop}
theorem Inv.wish(I:Inv X pins σ H s)(E:Value->Shared->Prop):Inv (X.wish E) pins σ H s:=⟨I.ok.wish E,I.os,I.bare,I.base,I.loc,I.cell,I.free,I.pL,I.pin,I.hok,I.len⟩
theorem Inv.pY(I:Inv (X.wish E) pins σ H s):Inv X pins σ H s:=⟨I.ok.pY,I.os,I.bare,I.base,I.loc,I.cell,I.free,I.pL,I.pin,I.hok,I.len⟩
theorem SP.pY{D:Ends}{f:Flow}{s':Shared}(h:SP (X.wish E) pins D f s'):SP X pins D f s':=by
 cases f with
 |next=>obtain⟨σ',H',I,q⟩:=h;exact⟨σ',H',I.pY,q⟩
 |brk=>obtain⟨σ',H',I,q⟩:=h;exact⟨σ',H',I.pY,q⟩
 |cont=>obtain⟨σ',H',I,q⟩:=h;exact⟨σ',H',I.pY,q⟩
 |ret u=>obtain⟨v,σ',H',I,r,q⟩:=h;exact⟨v,σ',H',I.pY,r,q⟩
theorem PSs.nox{st:List Stmt}{t:TS}(h:PSs X.nox st t):PSs X st t:=fun pins s σ H D I hw=>
 wpAny_mono (h pins s σ H D (I.wish _) hw) (fun _ _ q=>q.pY) fun _ _ z=>False.elim z
end
section
variable {X:Cx} {st:Stmt} {rest:List Stmt} {t u:TS} {e:Expr} {te:TE} {pos:Pos}
def TX:TS:=fun D σ H=>D.nx σ H
def adI(t u:TS):TS:=fun D σ H=>t { D with nx:=u D } σ H
theorem bQ:PSs X [] TX:=fun _ _ σ H _ I h=>wpAny_execs_nil ⟨σ,H,I,h⟩
theorem ak(h1:PS X st t)(h2:PSs X rest u):PSs X (st::rest) (adI t u):=by
 intro pins s σ H D I h;refine wpAny_execs_cons (thn (h1 pins s σ H { D with nx:=u D } I h) fun f s1 q=>?_);cases f with
 |next=>
  obtain⟨σ',H',I',q⟩:=q;exact h2 pins s1 σ' H' D I' q
 |ret v=>exact q
 |brk=>exact q
 |cont=>exact q
theorem aF(h1:PS X st t):PSs X [st] t:=by
 intro pins s σ H D I h;refine wpAny_execs_cons (thn (h1 pins s σ H D I h) fun f s1 q=>?_);cases f with
 |next=>exact wpAny_execs_nil q
 |ret v=>exact q
 |brk=>exact q
 |cont=>exact q
theorem Inv.quiet{pins:List (Addr×Obj)}{σ:St}{H:Hp}{s:Shared}(I:Inv X pins σ H s):interactive X.env=false:=by simp[interactive,I.ok.kind]
def ZS(te:TE):TS:=fun D σ H=>te σ H fun _ H1=>D.nx σ H1
theorem eU(he:PE X e te)(hs:swapsWith e none pos.line X.env=pure false:=by rfl):PS X (.Expr e pos) (ZS te):=by
 intro pins s σ H D I h;exact wpAny_Expr_any (thn (he pins s σ H _ I h) fun v s1 ⟨x,H1,I1,r1,q1⟩=>⟨σ,H1,I1,q1⟩) I.quiet hs
def ad5(te:TE):TS:=fun D σ H=>te σ H D.rt
theorem aR(he:PE X e te):PS X (.Return (some e) pos) (ad5 te):=by
 intro pins s σ H D I h;exact wpAny_Return_some (thn (he pins s σ H _ I h) fun v s1 ⟨x,H1,I1,r1,q1⟩=>⟨x,σ,H1,I1,r1,q1⟩)
def adH(c:TT)(t u:TS):TS:=fun D σ H=>c σ H fun b H1=>if b=true then t D σ H1 else u D σ H1
theorem eV{c:Expr}{a b:List Stmt}{tc:TT}(hc:PT X c tc)(ha:PSs X a t)(hb:PSs X b u):PS X (.If c a b pos) (adH tc t u):=by
 intro pins s σ H D I h;refine wpAny_If (thn (hc pins s σ H _ I h) fun d s1 ⟨H1,I1,q1⟩=>?_);cases d with
 |true=>exact ha pins s1 σ H1 D I1 q1
 |false=>exact hb pins s1 σ H1 D I1 q1
def Ur:TS:=fun _ _ _=>False
theorem nH:PS X st Ur:=fun _ _ _ _ _ _ h=>h.elim
end
abbrev TG:=V->St->Hp->(St->Hp->Prop)->Prop
abbrev TGs:=List V->St->Hp->(St->Hp->Prop)->Prop
def PG(X:Cx)(target:Expr)(t:TG):Prop:=
 ∀(pins:List (Addr×Obj)) (s:Shared) (σ:St) (H:Hp) (v:V) (u:Value) (Q:St->Hp->Prop),Inv X pins σ H s->RelV v u->t v σ H Q->
  wpAny (model X.prog X.w) X.A (assign target X.env u) (fun _ s'=>∃σ' H',Inv X pins σ' H' s'/\Q σ' H') X.xe s
def PGs(X:Cx)(ts:List Expr)(t:TGs):Prop:=
 ∀(pins:List (Addr×Obj)) (s:Shared) (σ:St) (H:Hp) (vs:List V) (us:List Value) (Q:St->Hp->Prop),Inv X pins σ H s->Vals vs us->t vs σ H Q->
  wpAny (model X.prog X.w) X.A (assignInOrder ((assignEach ts X.env).map (·.2)) us) (fun _ s'=>∃σ' H',Inv X pins σ' H' s'/\Q σ' H') X.xe s
abbrev Yu:=V->V->V->Hp->(Hp->Prop)->Prop
def acd(X:Cx)(t:Yu):Prop:=
 ∀(pins:List (Addr×Obj)) (s:Shared) (σ:St) (H:Hp) (o i v:V) (ov iv u:Value) (Q:Hp->Prop),Inv X pins σ H s->RelV o ov->RelV i iv->RelV v u->t o i v H Q->
  wpAny (model X.prog X.w) X.A (setItem ov iv u) (fun _ s'=>∃H',Inv X pins σ H' s'/\Q H') X.xe s
section
variable {X:Cx} {pos:Pos}
def oK(i:Nat):TG:=fun v σ H Q=>Q (σ.set i (some v)) H
theorem bB{i:Nat}{x:Str}(hN:X.N.Nodup)(hi:X.N[i]?=some x)(hx:Loc X.env.scope x)(hf:X.fn x=true∨X.env.scope.names.lookup x=some .local:=by first|exact .inl rfl|exact .inr rfl|assumption):PG X (.Name x pos) (oK i):=by
 intro pins s σ H v u Q I r h;exact wpAny_assign_Name (tV I hN hi hx r (fun s' I'=>⟨_,H,I',h⟩) hf)
def acq:TGs:=fun vs σ H Q=>vs=[]/\Q σ H
inductive Xb(t:TG)(u:TGs)(vs:List V)(σ:St)(H:Hp)(Q:St->Hp->Prop):Prop|mk (v:V) (r:List V) (h:vs=v::r) (q:t v σ H fun σ' H'=>u r σ' H' Q)
def Qk(t:TG)(u:TGs):TGs:=fun vs σ H Q=>Xb t u vs σ H Q
theorem Cr:PGs X [] acq:=by
 intro pins s σ H vs us Q I r h;obtain⟨e,h⟩:=h;subst e;cases r;exact assignInOrder_nil ⟨σ,H,I,h⟩
theorem j9{e:Expr}{es:List Expr}{t:TG}{u:TGs}(h1:PG X e t)(h2:PGs X es u)
  (hs:(assignEach (e::es) X.env).map (·.2)=assign e X.env::(assignEach es X.env).map (·.2):=by rfl):PGs X (e::es) (Qk t u):=by
 intro pins s σ H vs us Q I r h;obtain⟨v,vr,e1,h⟩:=h;subst e1;cases r with
 |cons r rr=>
  rw[hs];refine assignInOrder_cons (thn (h1 pins s σ H _ _ _ I r h) fun _ s1 ⟨σ1,H1,I1,q1⟩=>?_);exact h2 pins s1 σ1 H1 _ _ Q I1 rr q1
def Yp(K:W.Frag)(n:Nat)(t:TGs):TG:=fun v σ H Q=>∃a xs,v = .ref a/\SqT K H a xs/\xs.length=n/\t xs σ H Q
theorem U8{es:List Expr}{k:Nat}{t:TGs}{n:Nat}(hc:X.calm=true)(h:PGs X es t)
  (hn:(assignEach es X.env).length=n:=by rfl) (hst:(assignEach es X.env).findIdx? (·.1)=none:=by rfl):PG X (.Tuple es k pos) (Yp X.K n t):=by
 intro pins s σ H v u Q I r hw;obtain⟨a,xs,e1,hq,hl,hw⟩:=hw;subst e1;cases r;obtain⟨its,rv,ht,hz⟩:=I.tuple hq;refine assign_Tuple_tuple (I.ok.hd hc) ht (by simp[hn,<-hl,rv.length]) hst fun h' hx=>?_;have I1:Inv X pins σ H { s with heap:=h' }:=I.kept (t':=s.toks) fun b o e=>hx b o (Nat.ne_of_lt (Heap.lt_size e)) e;exact h pins _ σ H xs _ Q I1 (by simpa using rv) hw
def acQ(to ti:TE)(t:Yu):TG:=fun v σ H Q=>to σ H fun o H1=>ti σ H1 fun i H2=>t o i v H2 fun H3=>Q σ H3
theorem Jf{o i:Expr}{to ti:TE}{t:Yu}(ho:PE X o to)(hi:PE X i ti)(hs:acd X t)
  (ha:∀v,assign (.Subscript o i pos) X.env v=(do
   let ov<-holding [v] (eval o X.env)
   let iv<-holding [v,ov] (eval i X.env)
   standAt pos
   holding [v,ov,iv] (setItem ov iv v)
   release [v,ov,iv] []):=by intro _;rfl):PG X (.Subscript o i pos) (acQ to ti t):=by
 intro pins s σ H v u Q I r h;rw[ha];refine wpAny_bind (wpAny_holding (thn (ho pins s σ H _ I h) fun ov s1 ⟨x,H1,I1,r1,q1⟩=>?_));refine wpAny_bind (wpAny_holding (thn (hi pins s1 σ H1 _ I1 q1) fun iv s2 ⟨y,H2,I2,r2,q2⟩=>?_));refine wpAny_bind (wpAny_standAt (wpAny_bind (wpAny_holding (thn (hs pins s2 σ H2 x y v ov iv u _ I2 r1 r2 r q2) fun _ s3 ⟨H3,I3,q3⟩=>?_))));exact wpAny_release ⟨σ,H3,I3,q3⟩
def Xn(te:TE)(g:TG):TS:=fun D σ H=>te σ H fun x H1=>g x σ H1 D.nx
theorem C8{tg e:Expr}{te:TE}{g:TG}(he:PE X e te)(hg:PG X tg g)(hs:swapsWithSole [tg] e pos.line X.env=pure false:=by rfl)(hw:swappedStores [tg] e X.env=pure none:=by rfl)
  (h1:(assignEach [tg] X.env).map (·.2)=[assign tg X.env]:=by rfl):PS X (.Assign [tg] e pos) (Xn te g):=by
 intro pins s σ H D I h;refine wpAny_Assign_stores (thn (he pins s σ H _ I h) fun v s1 ⟨x,H1,I1,r1,q1⟩=>?_) hs hw;rw[h1];exact thn (hg pins s1 σ H1 x v _ I1 r1 q1) fun _ s2 q=>q
theorem aJ{i:Nat}{x:Str}{e:Expr}{te:TE}{pos':Pos}(hN:X.N.Nodup)(hi:X.N[i]?=some x)(hx:Loc X.env.scope x)(he:PE X e te)(hs:swapsWith e (some (.Name x pos')) pos.line X.env=pure false:=by rfl)(hf:X.fn x=true∨X.env.scope.names.lookup x=some .local:=by first|exact .inl rfl|exact .inr rfl|assumption):
  PS X (.Assign [.Name x pos'] e pos) (Xn te (oK i)):=by
 intro pins s σ H D I h;refine wpAny_Assign_Name (thn (he pins s σ H _ I h) fun v s1 ⟨y,H1,I1,r1,q1⟩=>?_) hs;exact tV I1 hN hi hx r1 (fun s2 I2=>⟨_,H1,I2,q1⟩) hf
end
section
variable {X:Cx} {pos:Pos}
def Rr(c:TT)(tb:TS):TS:=fun D σ H=>∃W:Nat->St->Hp->Prop,(∃m,W m σ H)/\∀m σ H,W m σ H->
 c σ H fun b H1=>if b=true then ∃N:St->Hp->Prop,(∀σ' H',N σ' H'->∃m',m'<m/\W m' σ' H')/\tb { D with nx:=N,ct:=N,bk:=D.nx } σ H1 else D.nx σ H1
theorem iV{c:Expr}{body:List Stmt}{tc:TT}{tb:TS}(hp:PassesOwn (model X.prog X.w) X.A X.env X.xe)(hc:PT X c tc)(hb:PSs X body tb):PS X (.While c body [] pos) (Rr tc tb):=by
 intro pins s σ H D I h;obtain⟨W,⟨m0,w0⟩,turn⟩:=h;refine wpAny_While (codeAny_whileLoop (fun n s'=>∃σ' H',Inv X pins σ' H' s'/\W n σ' H') ?_ m0 ⟨σ,H,I,w0⟩);rintro n s1 ⟨σ1,H1,I1,w1⟩;refine wpAny_passesOwn hp (thn (hc pins s1 σ1 H1 _ I1 (turn n σ1 H1 w1)) fun b s2 ⟨H2,I2,q2⟩=>?_);cases b with
 |true=>
  obtain⟨N,hN,q2⟩:=q2;rw[if_pos rfl];refine wpAny_passesOwn hp (thn (hb pins s2 σ1 H2 _ I2 q2) fun f s3 q3=>?_);cases f with
  |next=>
   obtain⟨σ3,H3,I3,n3⟩:=q3;obtain⟨m',hm,w3⟩:=hN σ3 H3 n3;exact⟨m',hm,σ3,H3,I3,w3⟩
  |cont=>
   obtain⟨σ3,H3,I3,n3⟩:=q3;obtain⟨m',hm,w3⟩:=hN σ3 H3 n3;exact⟨m',hm,σ3,H3,I3,w3⟩
  |brk=>exact q3
  |ret v=>exact q3
 |false=>
  rw[if_neg Bool.false_ne_true];exact wpAny_execs_nil ⟨σ1,H2,I2,q2⟩
end
structure It where
 go:Nat->Hp->Prop
 yld:Nat->Hp->V->Hp->Prop
 stop:Nat->Hp->Prop
def Hl(X:Cx)(pins:List (Addr×Obj))(H:Hp)(b:Addr):Prop:=
 H b=none/\b≠X.env.locals/\b∉X.fs/\(b∈X.ex∨X.s₀.heap.objs.size<=b)/\(∀x c,X.env.cells.lookup x=some c->c≠b)/\∀p∈X.pn++pins,p.1≠b
theorem Inv.Od{X:Cx}{pins:List (Addr×Obj)}{σ:St}{H H':Hp}{s:Shared}{b:Addr}(I:Inv X pins σ H s)(hb:s.heap.objs.size<=b)(hn:H' b=none):Hl X pins H' b:=by
 refine⟨hn,Nat.ne_of_gt (Nat.lt_of_lt_of_le I.lt hb),I.acT hb,.inr (Nat.le_trans I.sz hb),fun x c e z=>?_,fun p hp z=>?_⟩
 ·obtain⟨v,q⟩:=I.cell x c e;exact absurd (Nat.lt_of_lt_of_le q.lt (by rw[z];exact hb)) (Nat.lt_irrefl _)
 ·exact absurd (Nat.lt_of_lt_of_le (Heap.lt_size (I.pin p hp).1) (by rw[z];exact hb)) (Nat.lt_irrefl _)
structure Turn(P:Program)(w:World)(K:W.Frag)(tg:Expr)(J:It)(fp:List Addr)(it:Addr)(tn:Nat->Heap->Prop):Prop where
 mem:it∈fp
 obj:∀i h,tn i h->∀b∈fp,∃o,h.get? b=some o/\∀v,o.data≠ .cell v
 keep:∀i h h',tn i h->(∀b∈fp,∀o,h.get? b=some o->h'.get? b=some o)->tn i h'
 item:∀(X:Cx),X.prog=P->X.w=w->X.K=K->X.calm=true->∀(i:Nat) (pins:List (Addr×Obj)) (s:Shared) (σ:St) (H:Hp) (E:Value->Shared->Prop),Inv X pins σ H s->(∀b∈fp,Hl X pins H b)->tn i s.heap->J.go i H->
  wpAny (model P w) X.A (pyNext (.ref it)) (fun r s1=>∃u,r=some u/\
   wpAny (model P w) X.A (letOwnedTupleGo tg (.ref it) u) (fun _ s2=>∃x H',Inv X pins σ H' s2/\RelV x u/\J.yld i H x H'/\tn (i+1) s2.heap/\∀b∈fp,H' b=none) E s1) E s
 done:∀(X:Cx),X.prog=P->X.w=w->X.K=K->X.calm=true->∀(i:Nat) (pins:List (Addr×Obj)) (s:Shared) (σ:St) (H:Hp) (E:Value->Shared->Prop),Inv X pins σ H s->(∀b∈fp,Hl X pins H b)->tn i s.heap->J.stop i H->
  wpAny (model P w) X.A (pyNext (.ref it)) (fun r s1=>r=none/\Inv X pins σ H s1) E s
 self:∀(A:Around) (i:Nat) (s:Shared) (Q:Value->Shared->Prop) (E:Value->Shared->Prop),tn i s.heap->Q (.ref it) s->wpAny (model P w) A (pyIter (.ref it)) Q E s
abbrev TI:=St->Hp->(It->Hp->Prop)->Prop
def PIE(X:Cx)(pins:List (Addr×Obj))(σ:St)(tg:Expr)(R:It->Hp->Prop)(itv:Value)(s2:Shared):Prop:=
 ∃(it:Addr) (fp:List Addr) (tn:Nat->Heap->Prop) (J:It) (H':Hp),itv = .ref it/\Inv X pins σ H' s2/\Turn X.prog X.w X.K tg J fp it tn/\tn 0 s2.heap/\(∀b∈fp,Hl X pins H' b)/\R J H'
def PI(X:Cx)(tg iter:Expr)(wi:TI):Prop:=
 ∀(pins:List (Addr×Obj)) (s:Shared) (σ:St) (H:Hp) (R:It->Hp->Prop),Inv X pins σ H s->wi σ H R->
  wpAny (model X.prog X.w) X.A (eval iter X.env) (fun v s1=>wpAny (model X.prog X.w) X.A (pyIter v) (PIE X pins σ tg R) X.xe s1) X.xe s
theorem K4{M:Model}{A:Around}{E:Value->Shared->Prop}{s:Shared}{tg:Expr}{it:Addr}{u:Value}{o:Obj}{n:String}{vs:Array Value}{Q:Unit->Shared->Prop}(ho:s.heap.get? it=some o)(hc:o.cls = .type n)(hd:o.data = .fields vs)
  (hn:["enumerate","zip","dict_itemiterator","dict_reverseitemiterator","odict_iterator","itertools.zip_longest","itertools.pairwise"].contains n=false) (hQ:Q () s):wpAny M A (letOwnedTupleGo tg (.ref it) u) Q E s:=by
 unfold letOwnedTupleGo;cases tg<;>first
  |exact wpAny_pure hQ
  |(cases u<;>first
    |exact wpAny_pure hQ
    |(refine wpAny_bind (wpAny_load ho ?_);rw[hc,hd];show wpAny M A (if(["enumerate","zip","dict_itemiterator","dict_reverseitemiterator","odict_iterator","itertools.zip_longest","itertools.pairwise"].contains n&&vs[0]?==some (rawInt _))=true then _ else _) Q E s;rw[if_neg (by intro h;rw[hn,Bool.false_and]at h;cases h)];exact wpAny_pure hQ))
def Itl(K:W.Frag)(a:Addr):It:=
 ⟨fun i H=>∃xs x,SqL K H a xs/\xs[i]?=some x,fun i H x H'=>H'=H/\∀xs,SqL K H a xs->xs[i]?=some x,fun i H=>∃xs,SqL K H a xs/\xs.length<=i⟩
def Itt(K:W.Frag)(a:Addr):It:=
 ⟨fun i H=>∃xs x,SqT K H a xs/\xs[i]?=some x,fun i H x H'=>H'=H/\∀xs,SqT K H a xs->xs[i]?=some x,fun i H=>∃xs,SqT K H a xs/\xs.length<=i⟩
def Itr(lo:Int)(n:Nat):It:=⟨fun i _=>i<n,fun i H x H'=>H'=H/\x = .int (lo+i),fun i _=>n<=i⟩
theorem Jh{P:Program}{w:World}{K:W.Frag}{tg:Expr}(a it:Addr):Turn P w K tg (Itl K a) [it] it (fun i h=>h.IsListIter it a i) where
 mem:=by simp
 obj:=fun i h st b hb=>by
  have e:b=it:=by simpa using hb
  subst e;obtain⟨o,e,c,d⟩:=st;exact⟨o,e,fun v z=>by rw[d]at z;cases z⟩
 keep:=fun i h h' st k=>st.at fun o e=>k it (by simp) o e
 item:=by
  intro X hP hw hK hc i pins s σ H E I hf st hg;subst hP hw hK;obtain⟨xs,x,hq,hx⟩:=hg;obtain⟨its,rv,p,hz⟩:=I.list hq;obtain⟨u,hu,ru⟩:=rv.get hx;obtain⟨f0,f1,f2,f3,f4,f5⟩:=hf it (by simp);refine wpAny_pyNext_list_item st p.isList (x:=u) (by simpa using hu) fun h' st' sb=>?_;have I1:Inv X pins σ H { s with heap:=h' }:=I.turned (t':=s.toks) (fun b o hb e=>(sb.2 b hb).trans e) f0 f1 f3 f4 f5;obtain⟨o,e,c,d⟩:=id st';exact⟨u,rfl,K4 (s:={ s with heap:=h' }) e c d (by decide) ⟨x,H,I1,ru,⟨rfl,fun ys hy=>by rw[I.Du hy hq];exact hx⟩,st',fun b hb=>(hf b hb).1⟩⟩
 done:=by
  intro X hP hw hK hc i pins s σ H E I hf st hg;subst hP hw hK;obtain⟨xs,hq,hx⟩:=hg;obtain⟨its,rv,p,hz⟩:=I.list hq;obtain⟨f0,f1,f2,f3,f4,f5⟩:=hf it (by simp);have hl:=rv.length;exact wpAny_pyNext_list_end (I.ok.hd hc) st p.isList (by simp;omega) fun h' eb=>⟨rfl,I.turned (t':=s.toks) (fun b o hb e=>eb b o hb e) f0 f1 f3 f4 f5⟩
 self:=fun _ _ _ _ _ st h=>wpAny_pyIter_listiter st h
theorem Ep{P:Program}{w:World}{K:W.Frag}{tg:Expr}(a it:Addr):Turn P w K tg (Itt K a) [it] it (fun i h=>h.IsTupleIter it a i) where
 mem:=by simp
 obj:=fun i h st b hb=>by
  have e:b=it:=by simpa using hb
  subst e;obtain⟨o,e,c,d⟩:=st;exact⟨o,e,fun v z=>by rw[d]at z;cases z⟩
 keep:=fun i h h' st k=>st.at fun o e=>k it (by simp) o e
 item:=by
  intro X hP hw hK hc i pins s σ H E I hf st hg;subst hP hw hK;obtain⟨xs,x,hq,hx⟩:=hg;obtain⟨its,rv,p,hz⟩:=I.tuple hq;obtain⟨u,hu,ru⟩:=rv.get hx;obtain⟨f0,f1,f2,f3,f4,f5⟩:=hf it (by simp);refine wpAny_pyNext_tuple_item st (show s.heap.IsTuple a its.toArray from p) (x:=u) (by simpa using hu) fun h' st' sb=>?_;have I1:Inv X pins σ H { s with heap:=h' }:=I.turned (t':=s.toks) (fun b o hb e=>(sb.2 b hb).trans e) f0 f1 f3 f4 f5;obtain⟨o,e,c,d⟩:=id st';exact⟨u,rfl,K4 (s:={ s with heap:=h' }) e c d (by decide) ⟨x,H,I1,ru,⟨rfl,fun ys hy=>by rw[I.Ae hy hq];exact hx⟩,st',fun b hb=>(hf b hb).1⟩⟩
 done:=by
  intro X hP hw hK hc i pins s σ H E I hf st hg;subst hP hw hK;obtain⟨xs,hq,hx⟩:=hg;obtain⟨its,rv,p,hz⟩:=I.tuple hq;obtain⟨f0,f1,f2,f3,f4,f5⟩:=hf it (by simp);have hl:=rv.length;exact wpAny_pyNext_tuple_end (I.ok.hd hc) st (show s.heap.IsTuple a its.toArray from p) (by simp;omega) fun h' eb=>⟨rfl,I.turned (t':=s.toks) (fun b o hb e=>eb b o hb e) f0 f1 f3 f4 f5⟩
 self:=fun _ _ _ _ _ st h=>wpAny_pyIter_tupleiter st h
theorem E3{P:Program}{w:World}{K:W.Frag}{tg:Expr}(it:Addr)(lo:Int)(n:Nat):Turn P w K tg (Itr lo n) [it] it (fun i h=>IsRangeIter h it (lo+(i:Nat)*1) ((n:Int)-(i:Nat)) 1) where
 mem:=by simp
 obj:=fun i h st b hb=>by
  have e:b=it:=by simpa using hb
  subst e;exact⟨_,st,fun v z=>by
   have z':Data.fields _=Data.cell v:=z;cases z'⟩
 keep:=fun i h h' st k=>k it (by simp) _ st
 item:=by
  intro X hP hw hK hc i pins s σ H E I hf st hg;subst hP hw hK;obtain⟨f0,f1,f2,f3,f4,f5⟩:=hf it (by simp);have W:=Walks.range (prog:=X.prog) (w:=X.w) (I.ok.hd hc) it lo 1 n;refine W.item i s _ _ hg st fun v h' tk hv st' kk=>?_;obtain⟨t,rfl⟩:=hv;have I1:Inv X pins σ H { s with heap:=h',toks:=tk }:=I.turned (fun b o hb e=>kk b o (by simpa using hb) e) f0 f1 f3 f4 f5;refine⟨_,rfl,K4 (s:={ s with heap:=h',toks:=tk }) (n:= "range_iterator") st' rfl rfl (by decide) ⟨.int (lo+i),H,I1,⟨t,?_⟩,⟨rfl,rfl⟩,st',fun b hb=>(hf b hb).1⟩⟩;rw[Int.mul_one]
 done:=by
  intro X hP hw hK hc i pins s σ H E I hf st hg;subst hP hw hK;obtain⟨f0,f1,f2,f3,f4,f5⟩:=hf it (by simp);exact wpAny_pyNext_range_end (I.ok.hd hc) st (by have:n<=i:=hg;omega) fun h' eb=>⟨rfl,I.turned (t':=s.toks) (fun b o hb e=>eb b o hb e) f0 f1 f3 f4 f5⟩
 self:=fun _ _ _ _ _ st h=>wpAny_pyIter_rangeiter st h
section
variable {X:Cx} {tg:Expr}
def Yl(K:W.Frag)(tl:TE):TI:=fun σ H R=>tl σ H fun x H1=>∃a,x = .ref a/\(∃xs,SqL K H1 a xs)/\R (Itl K a) H1
theorem DN{pins:List (Addr×Obj)}{σ:St}{H:Hp}{s:Shared}{R:It->Hp->Prop}{E:Value->Shared->Prop}{lo hi:Int}{t u v:Tok}{tk:Nat}(I:Inv X pins σ H s)(h1:-(2^62)<=lo)(h2:lo<2^62)(h3:-(2^62)<=hi)(h4:hi<2^62)
  (q:R (Itr lo (hi-lo).toNat) H):wpAny (model X.prog X.w) X.A (pyIter (.ref s.heap.objs.size)) (PIE X pins σ tg R) E { s with heap:=s.heap.push { cls:= .type "range",data:= .fields #[.int lo t,.int hi u,.int 1 v] },toks:=tk }:=by
 refine wpAny_pyIter_range (IsRange.new ..) (small_one h1 h2 h3 h4) ?_;have I1:Inv X pins σ H { s with heap:=s.heap.push { cls:= .type "range",data:= .fields #[.int lo t,.int hi u,.int 1 v] },toks:=tk }:=I.kept fun b o e=>Heap.get?_push_of_some _ e;refine⟨(s.heap.push { cls:= .type "range",data:= .fields #[.int lo t,.int hi u,.int 1 v] }).objs.size,[(s.heap.push { cls:= .type "range",data:= .fields #[.int lo t,.int hi u,.int 1 v] }).objs.size],_,_,H,rfl,
  I1.kept (t':=tk) fun b o e=>Heap.get?_push_of_some _ e,E3 _ lo (hi-lo).toNat,?_,fun b hb=>?_,q⟩
 ·have e1:lo+((0:Nat):Int)*1=lo:=by simp
  have e2:(((hi-lo).toNat:Nat):Int)-((0:Nat):Int)=Builtin.Range.rangeSize lo hi 1:=by rw[rangeSize_one];split<;>omega
  show IsRangeIter _ _ (lo+((0:Nat):Int)*1) ((((hi-lo).toNat:Nat):Int)-((0:Nat):Int)) 1;rw[e1,e2];exact Heap.get?_push_size _ rfl
 ·have e:b=(s.heap.push { cls:= .type "range",data:= .fields #[.int lo t,.int hi u,.int 1 v] }).objs.size:=by simpa using hb
  subst e;exact I1.Od (Nat.le_refl _) (I1.hok.fresh (Nat.le_refl _))
inductive Yv(vs:List V)(H:Hp)(R:It->Hp->Prop):Prop|mk (j:Int) (h:vs=[.int j]) (h1:-(2^62)<=j) (h2:j<2^62) (q:R (Itr 0 j.toNat) H)
def aaU(ta:TA):TI:=fun σ H R=>ta σ H fun vs H1=>Yv vs H1 R
def WR(ta:TA):TI:=fun σ H R=>ta σ H fun vs H1=>∃i j:Int,vs=[.int i,.int j]/\(-(2^62)<=i/\i<2^62/\-(2^62)<=j/\j<2^62)/\R (Itr i (j-i).toNat) H1
theorem cC{a:Expr}{ta:TA}{p pos:Pos}(hg:Gl X "range")(hm:X.mg "range" = none)(ha:PA X [a] ta)(hs:starEach [a] X.env=[(false,eval a X.env)]:=by rfl):PI X tg (.Call (.Name "range" p) [a] [] pos) (aaU ta):=by
 intro pins s σ H R I h;refine Call_ (wz I hg hm boot_range (PyProof.Rows.callWith_type1 (thn (ha pos pins s σ H _ I h) fun us s1 ⟨vs,H1,I1,r1,q1⟩=>?_) hs rfl));obtain⟨j,e,q1,q2,q⟩:=q1;subst e;cases r1 with
 |cons r rr=>
  cases rr;obtain⟨t,rfl⟩:=r;exact call_range_1 (DN I1 (by omega) (by omega) q1 q2 (by simpa using q))
theorem pq{a b:Expr}{ta:TA}{p pos:Pos}(hg:Gl X "range")(hm:X.mg "range" = none)(ha:PA X [a,b] ta)(hs:starEach [a,b] X.env=[(false,eval a X.env),(false,eval b X.env)]:=by rfl)(hs2:starEach [b] X.env=[(false,eval b X.env)]:=by rfl):
  PI X tg (.Call (.Name "range" p) [a,b] [] pos) (WR ta):=by
 intro pins s σ H R I h;refine Call_ (wz I hg hm boot_range (PyProof.Rows.callWith_type1 (thn (ha pos pins s σ H _ I h) fun us s1 ⟨vs,H1,I1,r1,q1⟩=>?_) (by rw[hs,hs2]) (by rw[hs2];rfl)));obtain⟨i,j,e,⟨q1,q2,q3,q4⟩,q⟩:=q1;subst e;cases r1 with
 |cons r rr=>
  cases rr with
  |cons r' rr=>
   cases rr;obtain⟨t,rfl⟩:=r;obtain⟨t',rfl⟩:=r';exact call_range_2 (DN I1 q1 q2 q3 q4 q)
def ac1(wi:TI)(g:TG)(tb:TS):TS:=fun D σ H=>wi σ H fun J H1=>∃W:Nat->Nat->St->Hp->Prop,(∃m,W 0 m σ H1)/\∀i m σ H,W i m σ H->
 (J.stop i H/\D.nx σ H)∨(J.go i H/\∃N:St->Hp->Prop,(∀σ' H',N σ' H'->∃m',m'<m/\W (i+1) m' σ' H')/\∀x H',J.yld i H x H'->g x σ H' fun σ2 H2=>tb { D with nx:=N,ct:=N,bk:=D.nx } σ2 H2)
def yW(fp:List Addr)(h:Heap):List (Addr×Obj):=fp.filterMap fun b=>(h.get? b).map fun o=>(b,o)
theorem jW{fp:List Addr}{h:Heap}{b:Addr}{o:Obj}(hb:b∈fp)(e:h.get? b=some o):(b,o)∈yW fp h:=List.mem_filterMap.mpr ⟨b,hb,by rw[e];rfl⟩
theorem Il{fp:List Addr}{h:Heap}{p:Addr×Obj}(hp:p∈yW fp h):p.1∈fp/\h.get? p.1=some p.2:=by
 obtain⟨b,hb,e⟩:=List.mem_filterMap.mp hp;cases q:h.get? b with
 |none=>rw[q]at e;cases e
 |some o=>
  rw[q]at e;have e':(b,o)=p:=Option.some.inj e;subst e';exact⟨hb,q⟩
theorem Inv.pinned{pins:List (Addr×Obj)}{σ:St}{H:Hp}{s:Shared}{fp:List Addr}(I:Inv X pins σ H s)(hf:∀b∈fp,Hl X pins H b)(ho:∀b∈fp,∃o,s.heap.get? b=some o/\∀v,o.data≠ .cell v):Inv X (pins++yW fp s.heap) σ H s:=
 I.E9 fun p hp=>(List.mem_append.mp hp).elim (fun z=>I.pin p (List.mem_append_right _ z)) fun z=>by
  obtain⟨hb,e⟩:=Il z;obtain⟨f0,f1,f2,_⟩:=hf p.1 hb;obtain⟨o,e',d⟩:=ho p.1 hb;rw[e]at e';cases e';exact⟨e,f0,f1,f2,d⟩
theorem Inv.pX{pins pl:List (Addr×Obj)}{σ:St}{H:Hp}{s:Shared}(I:Inv X (pins++pl) σ H s):Inv X pins σ H s:=I.E9 fun p hp=>I.pin p (List.mem_append_right _ (List.mem_append_left _ hp))
theorem mU{iter:Expr}{body:List Stmt}{wi:TI}{g:TG}{tb:TS}{pos:Pos}(hp:PassesOwn (model X.prog X.w) X.A X.env X.xe)(hc:X.calm=true)(hi:PI X tg iter wi)(hg:PG X tg g)(hb:PSs X body tb)
  (hs:∀x,foldedSetIterable iter X.env x=pure x:=by intro _;rfl):PS X (.For tg iter body [] pos) (ac1 wi g tb):=by
 intro pins s σ H D I h;refine wpAny_For (thn (hi pins s σ H _ I h) fun v s1 h1=>thn h1 fun itv s2 h2=>?_) hs;obtain⟨it,fp,tn,J,H2,e,I2,T,st2,f2,W,⟨m0,w0⟩,turn⟩:=h2;subst e;have stat:∀{H':Hp},(∀b∈fp,H' b=none)->∀b∈fp,Hl X pins H' b:=fun hn b hb=>⟨hn b hb,(f2 b hb).2⟩;refine codeAny_forLoop_any (fun n s'=>∃i σ' H',Inv X pins σ' H' s'/\tn i s'.heap/\(∀b∈fp,H' b=none)/\W i n σ' H') ?_ m0 ⟨0,σ,H2,I2,st2,fun b hb=>(f2 b hb).1,w0⟩;rintro n s3 ⟨i,σ3,H3,I3,st3,fr3,w3⟩;rcases turn i n σ3 H3 w3 with⟨stop,qn⟩|⟨go,N,hN,step⟩
 ·refine wpAny_passesOwn hp (thn (T.done X rfl rfl rfl hc i pins s3 σ3 H3 X.xe I3 (stat fr3) st3 stop) fun r s4 ⟨hr,I4⟩=>?_);subst hr;exact wpAny_execs_nil ⟨σ3,H3,I4,qn⟩
 ·refine wpAny_passesOwn hp (thn (T.item X rfl rfl rfl hc i pins s3 σ3 H3 X.xe I3 (stat fr3) st3 go) fun r s4 ⟨u,hr,h4⟩=>?_);subst hr;refine wpAny_passesOwn hp (thn h4 fun _ s5 ⟨x,H5,I5,r5,y5,st5,fr5⟩=>?_);have I5':=I5.pinned (stat fr5) (T.obj _ _ st5);refine wpAny_passesOwn hp (thn (hg _ s5 σ3 H5 x u _ I5' r5 (step x H5 y5)) fun _ s6 ⟨σ6,H6,I6,q6⟩=>?_);refine wpAny_passesOwn hp (thn (hb _ s6 σ6 H6 _ I6 q6) fun f s7 q7=>?_);have again:∀{σ7:St} {H7:Hp},Inv X (pins++yW fp s5.heap) σ7 H7 s7->N σ7 H7->∃m,m<n/\∃i σ' H',Inv X pins σ' H' s7/\tn i s7.heap/\(∀b∈fp,H' b=none)/\W i m σ' H':=fun {σ7 H7} I7 n7=>by
   obtain⟨m',hm,w7⟩:=hN σ7 H7 n7;refine⟨m',hm,i+1,σ7,H7,I7.pX,T.keep _ _ _ st5 fun b hb o e=>(I7.pin (b,o) (List.mem_append_right _ (List.mem_append_right _ (jW hb e)))).1,fun b hb=>?_,w7⟩;obtain⟨o,e,d⟩:=T.obj _ _ st5 b hb;exact(I7.pin (b,o) (List.mem_append_right _ (List.mem_append_right _ (jW hb e)))).2.1
  cases f with
  |next=>obtain⟨σ7,H7,I7,n7⟩:=q7;exact again I7 n7
  |cont=>obtain⟨σ7,H7,I7,n7⟩:=q7;exact again I7 n7
  |brk=>obtain⟨σ7,H7,I7,q7⟩:=q7;exact⟨σ7,H7,I7.pX,q7⟩
  |ret v=>obtain⟨x7,σ7,H7,I7,r7,q7⟩:=q7;exact⟨x7,σ7,H7,I7.pX,r7,q7⟩
end
theorem gY{lo:Int}{n:Nat}{g:TG}{tb:TS}{D:Ends}{σ:St}{H:Hp}(Pv:Nat->St->Hp->Prop)(h0:Pv 0 σ H)
  (hs:∀i σ H,i<n->Pv i σ H->g (.int (lo+i)) σ H fun σ2 H2=>tb { D with nx:=Pv (i+1),ct:=Pv (i+1),bk:=D.nx } σ2 H2) (hd:∀σ H,Pv n σ H->D.nx σ H):
  ∃W:Nat->Nat->St->Hp->Prop,(∃m,W 0 m σ H)/\∀i m σ H,W i m σ H->
   ((Itr lo n).stop i H/\D.nx σ H)∨((Itr lo n).go i H/\∃N:St->Hp->Prop,(∀σ' H',N σ' H'->∃m',m'<m/\W (i+1) m' σ' H')/\∀x H',(Itr lo n).yld i H x H'->g x σ H' fun σ2 H2=>tb { D with nx:=N,ct:=N,bk:=D.nx } σ2 H2):=by
 refine⟨fun i m σ H=>m=n-i/\i<=n/\Pv i σ H,⟨n,by simp,Nat.zero_le _,h0⟩,?_⟩;rintro i m σ H ⟨rfl,hi,p⟩;by_cases hlt:i<n
 ·refine .inr ⟨hlt,Pv (i+1),fun σ' H' p'=>⟨n-(i+1),by omega,rfl,hlt,p'⟩,fun x H' y=>?_⟩;obtain⟨e,y⟩:=y;subst e y;exact hs i σ _ hlt p
 ·have e:i=n:=by omega
  subst e;exact .inl ⟨Nat.le_refl _,hd σ H p⟩
abbrev R2:=V->V->Hp->VK->Prop
def OpR(X:Cx)(f:Value->Value->Sem Value)(r:R2):Prop:=
 ∀(pins:List (Addr×Obj)) (s:Shared) (σ:St) (H:Hp) (x y:V) (v u:Value) (Q:VK),Inv X pins σ H s->RelV x v->RelV y u->r x y H Q->
  wpAny (model X.prog X.w) X.A (f v u) (EP X pins σ Q) X.xe s
def UnR(X:Cx)(f:Value->Sem Value)(r:V->Hp->VK->Prop):Prop:=
 ∀(pins:List (Addr×Obj)) (s:Shared) (σ:St) (H:Hp) (x:V) (v:Value) (Q:VK),Inv X pins σ H s->RelV x v->r x H Q->
  wpAny (model X.prog X.w) X.A (f v) (EP X pins σ Q) X.xe s
def oB(X:Cx)(f:Value)(r:List V->Hp->VK->Prop):Prop:=
 ∀(pins:List (Addr×Obj)) (s:Shared) (σ:St) (H:Hp) (xs:List V) (us:List Value) (Q:VK),Inv X pins σ H s->Vals xs us->r xs H Q->
  wpAny (model X.prog X.w) X.A (call f us) (EP X pins σ Q) X.xe s
def tOp(r:R2)(ta tb:TE):TE:=fun σ H Q=>ta σ H fun x H1=>tb σ H1 fun y H2=>r x y H2 Q
def tUn(r:V->Hp->VK->Prop)(ta:TE):TE:=fun σ H Q=>ta σ H fun x H1=>r x H1 Q
inductive SII(C:Int->Int->Prop)(g:Int->Int->V)(x y:V)(H:Hp)(Q:VK):Prop|mk (i j:Int) (hx:x = .int i) (hy:y = .int j) (c:C i j) (q:Q (g i j) H)
def rI(C:Int->Int->Prop)(g:Int->Int->V):R2:=fun x y H Q=>SII C g x y H Q
inductive SI0(g:Int->Int->V)(x y:V)(H:Hp)(Q:VK):Prop|mk (i j:Int) (hx:x = .int i) (hy:y = .int j) (q:Q (g i j) H)
def rI0(g:Int->Int->V):R2:=fun x y H Q=>SI0 g x y H Q
inductive SU(g:Int->V)(x:V)(H:Hp)(Q:VK):Prop|mk (i:Int) (hx:x = .int i) (q:Q (g i) H)
def rU(g:Int->V):V->Hp->VK->Prop:=fun x H Q=>SU g x H Q
section
variable {X:Cx} {a b c:Expr} {ta tb tc:TE} {pos:Pos}
theorem Xl(ha:PE X a ta)(hb:PE X b tb){pins:List (Addr×Obj)}{s:Shared}{σ:St}{H:Hp}{R:V->V->Hp->Prop}(I:Inv X pins σ H s)
  (h:ta σ H fun x H1=>tb σ H1 fun y H2=>R x y H2) {Q:Value->Shared->Prop} {f:Value->Value->Sem Value}
  (hf:∀v u s2 x y H2,Inv X pins σ H2 s2->RelV x v->RelV y u->R x y H2->wpAny (model X.prog X.w) X.A (f v u) Q X.xe s2):
  wpAny (model X.prog X.w) X.A (eval a X.env) (fun v s₁=>wpAny (model X.prog X.w) X.A (eval b X.env) (fun u s₂=>wpAny (model X.prog X.w) X.A (f v u) Q X.xe s₂) X.xe s₁) X.xe s:=by
 refine thn (ha pins s σ H _ I h) fun v s1 ⟨x,H1,I1,r1,q1⟩=>?_;refine thn (hb pins s1 σ H1 _ I1 q1) fun u s2 ⟨y,H2,I2,r2,q2⟩=>?_;exact hf v u s2 x y H2 I2 r1 r2 q2
theorem aK{op:Operator}{r:R2}(ho:OpR X (binaryOp op) r)(ha:PE X a ta)(hb:PE X b tb):PE X (.BinOp a op b pos) (tOp r ta tb):=by
 intro pins s σ H Q I h;exact wpAny_BinOp (Xl ha hb I h fun v u s2 x y H2 I2 rx ry q=>ho pins s2 σ H2 x y v u Q I2 rx ry q)
theorem Lz{op:UnaryOp}{r:V->Hp->VK->Prop}(ho:UnR X (unaryOp op) r)(ha:PE X a ta):PE X (.UnaryOp op a pos) (tUn r ta):=by
 intro pins s σ H Q I h;exact UnaryOp_ (thn (ha pins s σ H _ I h) fun v s1 ⟨x,H1,I1,r1,q1⟩=>ho pins s1 σ H1 x v Q I1 r1 q1)
theorem opI{f:Value->Value->Sem Value}{C:Int->Int->Prop}{g:Int->Int->Int}
  (rule:∀(i j:Int) (t u:Tok) (s:Shared) (Q:Value->Shared->Prop) (E:Value->Shared->Prop),C i j->Q (.int (g i j) s.toks) { s with toks:=s.toks+1 }->wpAny (model X.prog X.w) X.A (f (.int i t) (.int j u)) Q E s):
  OpR X f (rI C fun i j=> .int (g i j)):=by
 intro pins s σ H x y v u Q I rx ry h;obtain⟨i,j,rfl,rfl,hc,q⟩:=h;obtain⟨t,rfl⟩:=rx;obtain⟨t',rfl⟩:=ry;exact rule i j t t' s _ _ hc ⟨.int (g i j),H,I.tok _,⟨_,rfl⟩,q⟩
theorem abT{f:Value->Value->Sem Value}{g:Int->Int->Int}
  (rule:∀(i j:Int) (t u:Tok) (s:Shared) (Q:Value->Shared->Prop) (E:Value->Shared->Prop),Q (.int (g i j) s.toks) { s with toks:=s.toks+1 }->wpAny (model X.prog X.w) X.A (f (.int i t) (.int j u)) Q E s):
  OpR X f (rI0 fun i j=> .int (g i j)):=by
 intro pins s σ H x y v u Q I rx ry h;obtain⟨i,j,rfl,rfl,q⟩:=h;obtain⟨t,rfl⟩:=rx;obtain⟨t',rfl⟩:=ry;exact rule i j t t' s _ _ ⟨.int (g i j),H,I.tok _,⟨_,rfl⟩,q⟩
theorem W4{f:Value->Value->Sem Value}{g:Int->Int->Bool}
  (rule:∀(i j:Int) (t u:Tok) (s:Shared) (Q:Value->Shared->Prop) (E:Value->Shared->Prop),Q (.bool (g i j)) s->wpAny (model X.prog X.w) X.A (f (.int i t) (.int j u)) Q E s):
  OpR X f (rI0 fun i j=> .bl (g i j)):=by
 intro pins s σ H x y v u Q I rx ry h;obtain⟨i,j,rfl,rfl,q⟩:=h;obtain⟨t,rfl⟩:=rx;obtain⟨t',rfl⟩:=ry;exact rule i j t t' s _ _ ⟨.bl (g i j),H,I,rfl,q⟩
def ad7(i j:Int):Prop:=0<j/\j<1073741824
def acK(i j:Int):Prop:=0<=j/\j<=1000000/\i.natAbs<2^64
theorem RV:OpR X (binaryOp .Add) (rI0 fun i j=> .int (i+j)):=abT fun _ _ _ _ _ _ _ q=>add_int q
theorem cB:OpR X (binaryOp .Sub) (rI0 fun i j=> .int (i-j)):=abT fun _ _ _ _ _ _ _ q=>sub_int q
theorem j6:OpR X (binaryOp .FloorDiv) (rI ad7 fun i j=> .int (i/j)):=opI fun i j _ _ _ _ _ hc q=>by
 have h1:(0:Int)<j:=hc.1;have h2:j<1073741824:=hc.2;exact floordiv_int (by omega) (by rw[Int.fdiv_eq_ediv_of_nonneg i (by omega)];exact q) (.inl (PyProof.noPylong_small (by omega)))
theorem dz:OpR X (binaryOp .Mod) (rI (fun _ j=>0<j) fun i j=> .int (i%j)):=opI fun i j _ _ _ _ _ hc q=>by
 have h1:(0:Int)<j:=hc;exact mod_int' (by omega) (by rw[Int.fmod_eq_emod_of_nonneg i (by omega)];exact q)
theorem Jz:OpR X (binaryOp .Pow) (rI acK fun i j=> .int (i^j.toNat)):=opI fun _ _ _ _ _ _ _ hc q=>pow_int_small hc.1 hc.2.1 hc.2.2 q
theorem unI{f:Value->Sem Value}{g:Int->Int}
  (rule:∀(i:Int) (t:Tok) (s:Shared) (Q:Value->Shared->Prop) (E:Value->Shared->Prop),Q (.int (g i) s.toks) { s with toks:=s.toks+1 }->wpAny (model X.prog X.w) X.A (f (.int i t)) Q E s):
  UnR X f (rU fun i=> .int (g i)):=by
 intro pins s σ H x v Q I rx h;obtain⟨i,rfl,q⟩:=h;obtain⟨t,rfl⟩:=rx;exact rule i t s _ _ ⟨.int (g i),H,I.tok _,⟨_,rfl⟩,q⟩
theorem Dp:UnR X (unaryOp .USub) (rU fun i=> .int (-i)):=unI fun _ _ _ _ _ q=>neg_int q
end
def aaJ:V->V->Bool
 |.non,.non=>true | .non,.int _=>true | .int _,.non=>true | .non,.bl _=>true | .bl _,.non=>true | .non,.str _=>true | .str _,.non=>true
 |.int _,.int _=>true | .bl _,.bl _=>true | .str _,.str _=>true | .byt _,.byt _=>true
 |.int _,.str _=>true | .str _,.int _=>true | .bl _,.str _=>true | .str _,.bl _=>true
 |_,_=>false
def rEq:R2:=fun x y H Q=>aaJ x y=true/\Q (.bl (decide (x=y))) H
def rNe:R2:=fun x y H Q=>aaJ x y=true/\Q (.bl (!decide (x=y))) H
theorem Gm{i j:Int}:decide (V.int i=V.int j)=(i==j):=by
 rw[Bool.eq_iff_iff];simp
theorem Nf{i j:Bool}:decide (V.bl i=V.bl j)=(i==j):=by
 rw[Bool.eq_iff_iff];simp
theorem G6{i j:Str}:decide (V.str i=V.str j)=(i==j):=by
 rw[Bool.eq_iff_iff];simp
theorem Fz{i j:Array UInt8}:decide (V.byt i=V.byt j)=(i.toList==j.toList):=by
 rw[Bool.eq_iff_iff];cases i;cases j;simp
section
variable {X:Cx} {a b c:Expr} {ta tb tc:TE} {pos:Pos}
theorem cT{pins:List (Addr×Obj)}{σ:St}{H:Hp}{s:Shared}{Q:VK}{k k':Bool}(I:Inv X pins σ H s)(q:Q (.bl k) H)(e:k=k'):EP X pins σ Q (.bool k') s:=by
 subst e;exact⟨.bl k,H,I,rfl,q⟩
theorem X3:OpR X (compareOp .Eq) rEq:=by
 intro pins s σ H x y v u Q I rx ry h;obtain⟨hs,q⟩:=h;cases x with
 |non=>
  cases rx;cases y with
  |non=>cases ry;exact PySem.EqNone.eq_none_none (cT I q (by simp))
  |bl j=>cases ry;exact PySem.EqNone.eq_none_bool (cT I q (by simp))
  |int j=>obtain⟨t',rfl⟩:=ry;exact PySem.EqNone.eq_none_int (cT I q (by simp))
  |str j=>obtain⟨t',rfl⟩:=ry;exact PySem.EqNone.eq_none_str (cT I q (by simp))
  |_=>exact absurd (show false=true from hs) Bool.false_ne_true
 |bl i=>
  cases rx;cases y with
  |non=>cases ry;exact PySem.EqNone.eq_bool_none (cT I q (by simp))
  |bl j=>cases ry;exact eq_bool (cT I q Nf)
  |str j=>obtain⟨t',rfl⟩:=ry;exact PySem.EqMixed.eq_bool_str (cT I q (by simp))
  |_=>exact absurd (show false=true from hs) Bool.false_ne_true
 |int i=>
  obtain⟨t,rfl⟩:=rx;cases y with
  |non=>cases ry;exact PySem.EqNone.eq_int_none (cT I q (by simp))
  |int j=>obtain⟨t',rfl⟩:=ry;exact eq_int (cT I q Gm)
  |str j=>obtain⟨t',rfl⟩:=ry;exact PySem.EqMixed.eq_int_str (cT I q (by simp))
  |_=>exact absurd (show false=true from hs) Bool.false_ne_true
 |str i=>
  obtain⟨t,rfl⟩:=rx;cases y with
  |non=>cases ry;exact PySem.EqNone.eq_str_none (cT I q (by simp))
  |bl j=>cases ry;exact PySem.EqMixed.eq_str_bool (cT I q (by simp))
  |int j=>obtain⟨t',rfl⟩:=ry;exact PySem.EqMixed.eq_str_int (cT I q (by simp))
  |str j=>obtain⟨t',rfl⟩:=ry;exact eq_str (cT I q G6)
  |_=>exact absurd (show false=true from hs) Bool.false_ne_true
 |byt i=>
  obtain⟨t,rfl⟩:=rx;cases y with
  |byt j=>obtain⟨t',rfl⟩:=ry;exact W.eq_bytes (cT I q Fz)
  |_=>exact absurd (show false=true from hs) Bool.false_ne_true
 |_=>cases y<;>exact absurd (show false=true from hs) Bool.false_ne_true
theorem XS:OpR X (compareOp .NotEq) rNe:=by
 intro pins s σ H x y v u Q I rx ry h;obtain⟨hs,q⟩:=h;cases x with
 |non=>
  cases rx;cases y with
  |non=>cases ry;exact PySem.EqNone.ne_none_none (cT I q (by simp))
  |bl j=>cases ry;exact PySem.EqNone.ne_none_bool (cT I q (by simp))
  |int j=>obtain⟨t',rfl⟩:=ry;exact PySem.EqNone.ne_none_int (cT I q (by simp))
  |str j=>obtain⟨t',rfl⟩:=ry;exact PySem.EqNone.ne_none_str (cT I q (by simp))
  |_=>exact absurd (show false=true from hs) Bool.false_ne_true
 |bl i=>
  cases rx;cases y with
  |non=>cases ry;exact PySem.EqNone.ne_bool_none (cT I q (by simp))
  |bl j=>cases ry;exact ne_bool (cT I q (congrArg not Nf))
  |str j=>obtain⟨t',rfl⟩:=ry;exact PySem.EqMixed.ne_bool_str (cT I q (by simp))
  |_=>exact absurd (show false=true from hs) Bool.false_ne_true
 |int i=>
  obtain⟨t,rfl⟩:=rx;cases y with
  |non=>cases ry;exact PySem.EqNone.ne_int_none (cT I q (by simp))
  |int j=>obtain⟨t',rfl⟩:=ry;exact ne_int (cT I q (congrArg not Gm))
  |str j=>obtain⟨t',rfl⟩:=ry;exact PySem.EqMixed.ne_int_str (cT I q (by simp))
  |_=>exact absurd (show false=true from hs) Bool.false_ne_true
 |str i=>
  obtain⟨t,rfl⟩:=rx;cases y with
  |non=>cases ry;exact PySem.EqNone.ne_str_none (cT I q (by simp))
  |bl j=>cases ry;exact PySem.EqMixed.ne_str_bool (cT I q (by simp))
  |int j=>obtain⟨t',rfl⟩:=ry;exact PySem.EqMixed.ne_str_int (cT I q (by simp))
  |str j=>obtain⟨t',rfl⟩:=ry;exact ne_str (cT I q (congrArg not G6))
  |_=>exact absurd (show false=true from hs) Bool.false_ne_true
 |byt i=>
  obtain⟨t,rfl⟩:=rx;cases y with
  |byt j=>obtain⟨t',rfl⟩:=ry;exact W.ne_bytes (cT I q (congrArg not Fz))
  |_=>exact absurd (show false=true from hs) Bool.false_ne_true
 |_=>cases y<;>exact absurd (show false=true from hs) Bool.false_ne_true
theorem xG:OpR X (compareOp .Lt) (rI0 fun i j=> .bl (decide (i<j))):=W4 fun _ _ _ _ _ _ _ q=>lt_int q
theorem RH:OpR X (compareOp .LtE) (rI0 fun i j=> .bl (decide (i<=j))):=W4 fun _ _ _ _ _ _ _ q=>le_int q
theorem qH:OpR X (compareOp .Gt) (rI0 fun i j=> .bl (decide (j<i))):=W4 fun _ _ _ _ _ _ _ q=>gt_int q
theorem OpR.or{f:Value->Value->Sem Value}{r r':R2}(h:OpR X f r)(h':OpR X f r'):OpR X f (fun x y H Q=>r x y H Q∨r' x y H Q):=by
 intro pins s σ H x y v u Q I rx ry q;rcases q with q|q
 ·exact h pins s σ H x y v u Q I rx ry q
 ·exact h' pins s σ H x y v u Q I rx ry q
theorem bw(b:Expr){op:CmpOp}(h:op≠ .In:=by decide)(h2:op≠ .NotIn:=by decide):behindInMarks op b=false:=by
 have e1:(op==CmpOp.In)=false:=by cases op<;>first|rfl|exact absurd rfl h
 have e2:(op==CmpOp.NotIn)=false:=by cases op<;>first|rfl|exact absurd rfl h2
 cases b<;>simp[behindInMarks,e1,e2]
theorem yx{op:CmpOp}{r:R2}(ho:OpR X (compareOp op) r)(ha:PE X a ta)(hb:PE X b tb)(hm:behindInMarks op b=false):PE X (.Compare a [op] [b] pos) (tOp r ta tb):=by
 intro pins s σ H Q I h;exact wpAny_Compare1 (Xl ha hb I h fun v u s2 x y H2 I2 rx ry q=>ho pins s2 σ H2 x y v u Q I2 rx ry q) hm
inductive adF(x:V)(H:Hp)(Q:Bool->Hp->Prop):Prop|mk (k:Bool) (hx:x = .bl k) (q:Q k H)
def Yb(t:TE):TT:=fun σ H Q=>t σ H fun x H'=>adF x H' Q
theorem aU{op:CmpOp}{r:R2}(ho:OpR X (compareOp op) r)(ha:PE X a ta)(hb:PE X b tb)(hm:behindInMarks op b=false):PT X (.Compare a [op] [b] pos) (Yb (tOp r ta tb)):=by
 intro pins s σ H Q I h;refine wpAny_isTrue_Compare1 (thn (ha pins s σ H _ I h) fun v s1 ⟨x,H1,I1,r1,q1⟩=>thn (hb pins s1 σ H1 _ I1 q1) fun u s2 ⟨y,H2,I2,r2,q2⟩=>
  thn (ho pins s2 σ H2 x y v u _ I2 r1 r2 q2) fun c s3 ⟨z,H3,I3,r3,k,e,q3⟩=>?_) hm
 subst e;cases r3;exact wpAny_truthy_bool ⟨H3,I3,q3⟩
theorem Q9{κ:Type}{kvs:List (κ×V)}{vs:List (κ×Value)}(r:KV kvs vs):(!vs.isEmpty)=!kvs.isEmpty:=by
 cases r<;>rfl
theorem Rg{xs:List V}{its:List Value}(r:Vals xs its):(!its.toArray.isEmpty)=!xs.isEmpty:=by
 cases r<;>simp
theorem zy:(sizeLine:Nat)<2^63:=by rw[sizeLine_eq];decide
theorem Ea:OpR X (binaryOp .Add) (fun x y H Q=>∃i j,x = .str i/\y = .str j/\i.length+j.length<=sizeLine/\Q (.str (i++j)) H):=by
 intro pins s σ H x y v u Q I rx ry h;obtain⟨i,j,rfl,rfl,hz,q⟩:=h;obtain⟨t,rfl⟩:=rx;obtain⟨t',rfl⟩:=ry;exact add_str (fun t' tk=>⟨.str (i++j),H,I.tok _,⟨_,rfl⟩,q⟩) hz
theorem vals1{x:V}{us:List Value}(r:Vals [x] us):∃u,us=[u]/\RelV x u:=by
 cases r with
 |cons r1 r2=>cases r2;exact⟨_,rfl,r1⟩
theorem vals2{x y:V}{us:List Value}(r:Vals [x,y] us):∃u w',us=[u,w']/\RelV x u/\RelV y w':=by
 cases r with
 |cons r1 r2=>
  cases r2 with
  |cons r3 r4=>cases r4;exact⟨_,_,rfl,r1,r3⟩
theorem DP:oB X (.builtin "abs") (fun xs H Q=>∃i,xs=[.int i]/\Q (.int (if i<0 then -i else i)) H):=by
 intro pins s σ H xs us Q I r h;obtain⟨i,rfl,q⟩:=h;obtain⟨u,rfl,t,rfl⟩:=vals1 r;exact call_abs_int fun u tk=>⟨.int (if i<0 then -i else i),H,I.tok _,⟨_,rfl⟩,q⟩
theorem HB(hc:X.calm=true):oB X (.builtin "max") (fun xs H Q=>∃i j,xs=[.int i,.int j]/\Q (.int (if j>i then j else i)) H):=by
 intro pins s σ H xs us Q I r h;obtain⟨i,j,rfl,q⟩:=h;obtain⟨u,w',rfl,⟨t,rfl⟩,⟨t',rfl⟩⟩:=vals2 r;refine max_two_ints (I.ok.hd hc) fun h' tk k=>⟨_,H,I.kept k,?_,q⟩;by_cases hj:j>i
 ·rw[if_pos hj,if_pos hj];exact⟨_,rfl⟩
 ·rw[if_neg hj,if_neg hj];exact⟨_,rfl⟩
theorem Gz(hc:X.calm=true):oB X (.builtin "min") (fun xs H Q=>∃i j,xs=[.int i,.int j]/\Q (.int (if j<i then j else i)) H):=by
 intro pins s σ H xs us Q I r h;obtain⟨i,j,rfl,q⟩:=h;obtain⟨u,w',rfl,⟨t,rfl⟩,⟨t',rfl⟩⟩:=vals2 r;refine min_two_ints (I.ok.hd hc) fun h' tk k=>⟨_,H,I.kept k,?_,q⟩;by_cases hj:j<i
 ·rw[if_pos hj,if_pos hj];exact⟨_,rfl⟩
 ·rw[if_neg hj,if_neg hj];exact⟨_,rfl⟩
def abM(K:W.Frag)(x:V)(H:Hp)(n:Nat):Prop:=
 match x with
 |.str y=>y.length<=sizeLine/\n=y.length
 |.byt y=>y.size<=sizeLine/\n=y.size
 |.ref p=>(∃xs,SqL K H p xs/\n=xs.length)∨∃xs,SqT K H p xs/\n=xs.length
 |_=>False
theorem Ld:oB X (.builtin "len") (fun xs H Q=>∃x n,xs=[x]/\abM X.K x H n/\Q (.int n) H):=by
 intro pins s σ H xs us Q I r h;obtain⟨x,n,rfl,e,q⟩:=h;obtain⟨u,rfl,rx⟩:=vals1 r;have hl:=zy;have hs:sizeLine=16777216:=sizeLine_eq;cases x with
 |str y=>
  obtain⟨t,rfl⟩:=rx;obtain⟨hy,e'⟩:y.length<=sizeLine/\n=y.length:=e;subst e';exact len_str (by omega) ⟨.int _,H,I.tok _,⟨_,rfl⟩,q⟩
 |byt y=>
  obtain⟨t,rfl⟩:=rx;obtain⟨hy,e'⟩:y.size<=sizeLine/\n=y.size:=e;subst e';exact W.len_bytes (by omega) ⟨.int _,H,I.tok _,⟨_,rfl⟩,q⟩
 |ref p=>
  cases rx;have e':(∃xs,SqL X.K H p xs/\n=xs.length)∨∃xs,SqT X.K H p xs/\n=xs.length:=e;rcases e' with⟨xs,hx,e'⟩|⟨xs,hx,e'⟩
  ·subst e';obtain⟨its,r',pl,hz⟩:=I.list hx;have hlen:=r'.length;exact Calls.call_len_list pl.isList (by simp only[List.size_toArray];omega) ⟨.int xs.length,H,I.tok _,⟨_,by simp only[List.size_toArray];rw[hlen]⟩,q⟩
  ·subst e';obtain⟨its,r',pl,hz⟩:=I.tuple hx;have hlen:=r'.length;exact len_tuple pl (by simp only[List.size_toArray];omega) ⟨.int xs.length,H,I.tok _,⟨_,by simp only[List.size_toArray];rw[hlen]⟩,q⟩
 |_=>exact(show False from e).elim
end
section
variable {prog:Program} {w:World} {A:Around} {E:Value->Shared->Prop} {s:Shared} {K:W.Frag} {x dx C f:Addr} {mA:Str->Option Value} {name:Str} {v:Value}
end
theorem J0.some_of{v:V}{o:Option Value}(r:J0 (some v) o):∃u,o=some u/\RelV v u:=by
 cases o with
 |none=>exact(show False from r).elim
 |some u=>exact⟨u,rfl,r⟩
theorem J0.none_of{o:Option Value}(r:J0 none o):o=none:=by
 cases o with
 |none=>rfl
 |some u=>exact(show False from r).elim
section
variable {P:Program} {w:World} {H H':Hp} {h h':Heap} {a C dx:Addr} {fs fs':List (Str×V)}
end
section
variable {X:Cx} {pins:List (Addr×Obj)} {σ:St} {H:Hp} {s:Shared} {a C dx:Addr} {fs:List (Str×V)} {f:Str} {v:V} {A:Around} {E:Value->Shared->Prop}
end
section
variable {X:Cx} {o e value:Expr} {f:Str} {pos pos' tpos:Pos} {ta tv:TE}
end
section
variable {X:Cx} {pins:List (Addr×Obj)} {σ:St} {H:Hp} {s:Shared} {A:Around} {E:Value->Shared->Prop} {Q:Value->Shared->Prop} {c:Value} {b:Bool}
end
structure mD(k:Nat)(A:Around):Prop where
 hd:A.handled=none
 dp:A.depth+3*k+5<recursionLimit
 un:A.units+16*k+200<cLine
theorem mD.mono{j k:Nat}{A:Around}(r:mD k A)(h:j<=k):mD j A:=⟨r.hd,by have:=r.dp;omega,by have:=r.un;omega⟩
theorem mD.deeper{k:Nat}{A:Around}(r:mD (k+1) A)(env:Env):mD k (A.deeper env):=
 ⟨r.hd,by have:=r.dp;show A.depth+1+3*k+5<_;omega,by have:=r.un;show A.units+3+16*k+200<_;omega⟩
theorem mD.depth{k:Nat}{A:Around}(r:mD k A):A.depth<recursionLimit:=by have:=r.dp;omega
theorem mD.units{k:Nat}{A:Around}(r:mD k A):A.units+64<cLine:=by have:=r.un;omega
theorem mD.MZ{k:Nat}{A:Around}(r:mD k A):A.units<cLine:=by have:=r.un;omega
def abP:TA:=fun _ H Q=>Q [] H
def Cm(ta:TE)(tr:TA):TA:=fun σ H Q=>ta σ H fun x H1=>tr σ H1 fun xs H2=>Q (x::xs) H2
section
variable {X:Cx} {e:Expr} {es:List Expr} {te:TE} {t:TA} {pos:Pos}
theorem ao:PA X [] abP:=fun _ _ _ _ H Q I h=>Calls.spliced_nil ⟨[],H,I,.nil,h⟩
theorem aG(ha:PE X e te)(hr:PA X es t)(hs:starEach (e::es) X.env=(false,eval e X.env)::starEach es X.env:=by rfl):PA X (e::es) (Cm te t):=by
 intro pos pins s σ H Q I h;rw[hs];show wpAny _ _ (spliced ((false,eval e X.env)::backTo pos (starEach es X.env))) _ _ s;refine Calls.spliced_cons (thn (ha pins s σ H _ I h) fun u s1 ⟨x,H1,I1,r1,q1⟩=>?_);exact thn (hr pos pins s1 σ H1 _ I1 q1) fun us s2 ⟨xs,H2,I2,r2,q2⟩=>⟨x::xs,H2,I2,.cons r1 r2,q2⟩
inductive acn(xs:List V)(o:HO)(H:Hp)(Q:VK):Prop|mk (hz:xs.length<=sizeLine) (q:∀p,H p=none->Q (.ref p) (upd H p o))
def adD(t:TA):TE:=fun σ H Q=>t σ H fun xs H1=>acn xs (.tup xs) H1 Q
def ac8(t:TA):TE:=fun σ H Q=>t σ H fun xs H1=>acn xs (.lst xs) H1 Q
theorem mK{x1}(h:PA X es t):PE X (.Tuple es x1 pos) (adD t):=by
 intro pins s σ H Q I hq;refine wpAny_Tuple_spliced (thn (h pos pins s σ H _ I hq) fun us s1 ⟨xs,H1,I1,r,z,q⟩=>⟨by rw[<-r.length];exact z,?_⟩);have hf:H1 s1.heap.objs.size=none:=I1.hok.fresh (Nat.le_refl _);refine⟨.ref s1.heap.objs.size,upd H1 s1.heap.objs.size (.tup xs),I1.laid (t':=s1.toks) (fun b u e=>Heap.get?_push_of_some _ e) (Nat.le_refl _) ?_,rfl,q _ hf⟩;exact⟨z,us,r,⟨_,Heap.get?_push_size _ rfl,rfl,_,rfl⟩⟩
theorem nq(h:PA X es t):PE X (.List es pos) (ac8 t):=by
 intro pins s σ H Q I hq;refine wpAny_List_spliced (thn (h pos pins s σ H _ I hq) fun us s1 ⟨xs,H1,I1,r,z,q⟩=>⟨by rw[<-r.length];exact z,?_⟩);have hf:H1 s1.heap.objs.size=none:=I1.hok.fresh (Nat.le_refl _);refine⟨.ref s1.heap.objs.size,upd H1 s1.heap.objs.size (.lst xs),I1.laid (t':=s1.toks) (fun b u e=>Heap.get?_push_of_some _ e) (Nat.le_refl _) ?_,rfl,q _ hf⟩;exact⟨z,us,0,r,Heap.get?_push_size _ rfl⟩
end
abbrev Sp:=List V->Hp->VK->XK->Prop
abbrev CXT:=List Env->Hp->Shared->XK->Value->Shared->Prop
structure Vp(P:Program)(w:World)(K:W.Frag)(mg:Str->Option Value)(base:Heap)(A:Around)(outer:List Env)(s:Shared)(H:Hp):Prop where
 frames:A.frames=some outer
 mod:Mod K mg base
 bs:∀b o,base.get? b=some o->s.heap.get? b=some o/\H b=none
 bsz:base.objs.size<=s.heap.objs.size
 E6:s.heap.FunFrames base outer
 frf:∀b∈frs outer,H b=none
 hok:HOk P w H s.heap
 bare:AllBare s.gens
def CE(outer:List Env)(P:Program)(w:World)(H:Hp)(s:Shared)(Q:VK)(u:Value)(s':Shared):Prop:=
 ∃v H',s'.os=s.os/\AllBare s'.gens/\Un (frs outer) [] H H' s.heap s'.heap/\HOk P w H' s'.heap/\RelV v u/\Q v H'
def CR(CX:CXT)(outer:List Env)(P:Program)(w:World)(H:Hp)(s:Shared)(Q:VK)(E:XK)(r:Result)(s':Shared):Prop:=
 match r with
 |.ok (.ret u)=>CE outer P w H s Q u s'
 |.ok _=>False
 |.error e=>CX outer H s E e s'
structure JC(P:Program)(w:World)(K:W.Frag)(mg:Str->Option Value)(base:Heap)(CX:CXT)(k:Nat)(f:Addr)(fd:FuncData)(ps:List Str)(sp:Sp):Prop where
 len:∀vs H Q E,sp vs H Q E->vs.length=ps.length
 run:∀(A:Around) (outer:List Env) (s:Shared) (H:Hp) (args:Args) (us:List Value) (vs:List V) (Q:VK) (E:XK),mD k A->Vp P w K mg base A outer s H->BindsTo s fd args (ps.zip us)->Vals vs us->sp vs H Q E->
  codeAny (model P w) A (.call (.ref f) args) (CR CX outer P w H s Q E) s
section
variable {X:Cx} {pins:List (Addr×Obj)} {σ:St} {H:Hp} {s s':Shared}
theorem Inv.env0(I:Inv X pins σ H s):Vp X.prog X.w X.K X.mg X.base X.A X.stack s H:=
 ⟨I.ok.frames,I.ok.mod,I.bs,Nat.le_trans I.ok.bsz I.sz,I.stack,I.Bq,I.hok,I.bare⟩
theorem Inv.after{Q:VK}{u:Value}(I:Inv X pins σ H s)(h:CE X.stack X.prog X.w H s Q u s'):EP X pins σ Q u s':=by
 obtain⟨v,H',os,bare,un,hok,r,q⟩:=h;obtain⟨hh,g,d,t,os'⟩:=s';obtain rfl:os'=s.os:=os;exact⟨v,H',I.call (h':=hh) (g':=g) (d':=d) (t':=t) (ch:=[]) un hok bare (fun b z=>absurd z (by simp)),r,q⟩
end
def Pz(sp:Sp)(dvs:List V)(E:XK)(t:TA):TE:=fun σ H Q=>t σ H fun vs H1=>sp (vs++dvs) H1 Q E
def Binds(K:W.Frag)(fd:FuncData)(ps:List Str)(ds:List Value):Prop:=
 ∀(s:Shared) (us:List Value),K.In s.heap->(us++ds).length=ps.length->BindsTo s fd ⟨us,[]⟩ (ps.zip (us++ds))
theorem Binds.all{K:W.Frag}{fd:FuncData}{ps:List Str}(h:∀us:List Value,us.length=ps.length->bindArgs fd ⟨us,[]⟩=pure (ps.zip us)):Binds K fd ps []:=fun s us _ hl=>by
 rw[List.append_nil]at hl⊢;exact .of_eq (h us hl)
def Passes(CX:CXT)(X:Cx)(E:XK):Prop:=∀(pins:List (Addr×Obj)) (σ:St) (H:Hp) (s:Shared) (e:Value) (s':Shared),Inv X pins σ H s->CX X.stack H s E e s'->X.xe e s'
section
variable {X:Cx} {CX:CXT} {k:Nat} {f C:Addr} {fd:FuncData} {ps:List Str} {sp:Sp} {dvs:List V} {ds:List Value} {E:XK} {x m:Str} {p pos apos:Pos} {e o:Expr} {es:List Expr} {ta:TE} {t:TA}
theorem MP{pins:List (Addr×Obj)}{σ:St}{H:Hp}{s:Shared}{Q:VK}{us:List Value}{vs:List V}(F:JC X.prog X.w X.K X.mg X.base CX k f fd ps sp)(hr:mD k X.A)(hb:Binds X.K fd ps ds)(hd:Vals dvs ds)(hx:Passes CX X E)
  (I:Inv X pins σ H s) (r:Vals vs us) (h:sp (vs++dvs) H Q E):wpAny (model X.prog X.w) X.A (call (.ref f) us) (EP X pins σ Q) X.xe s:=by
 have r2:Vals (vs++dvs) (us++ds):=r.append hd;have hl:(us++ds).length=ps.length:=by rw[<-r2.length];exact F.len _ _ _ _ h
 refine wpAny_call (codeAny_mono (F.run X.A X.stack s H ⟨us,[]⟩ (us++ds) (vs++dvs) Q E hr I.env0 (hb s us I.kIn hl) r2 h) fun r s' hq=>?_);cases r with
 |error e=>exact hx pins σ H s e s' I hq
 |ok fl=>
  cases fl with
  |ret u=>exact I.after hq
  |next=>exact False.elim hq
  |brk=>exact False.elim hq
  |cont=>exact False.elim hq
theorem Hv(F:JC X.prog X.w X.K X.mg X.base CX k f fd ps sp)(hr:mD k X.A)(hg:Gl X x)(hm:X.mg x=some (.ref f))(hk:W.keepIn X.K (.ref f)=true)(hb:Binds X.K fd ps ds)(hd:Vals dvs ds)(hx:Passes CX X E)
  (ha:PA X (e::es) t) (hdb:(x==("__debug__" : Str))=false:=by decide) (he:starEach (e::es) X.env=(false,eval e X.env)::starEach es X.env:=by rfl) (hpl:(backTo pos (starEach es X.env)).any (·.1)=false:=by rfl):
  PE X (.Call (.Name x p) (e::es) [] pos) (Pz sp dvs E t):=by
 intro pins s σ H Q I h;refine wpAny_Call_Name_kw (uG I hg hm ?_ hdb);refine W.callWith_K (h₀:=X.base) I.ok.mod.kin hk (thn (ha pos pins s σ H _ I h) fun us s1 ⟨vs,H1,I1,r,q⟩=>⟨I1.kIn,?_⟩) he hpl;exact MP F hr hb hd hx I1 r q
end
section
variable {X:Cx} {CX:CXT} {k:Nat} {f C:Addr} {fd:FuncData} {ps ks:List Str} {sp:Sp} {E:XK} {x m:Str} {p pos apos kpos:Pos} {e o:Expr} {es:List Expr} {kws:List Keyword} {te ta:TE} {t tk:TA} {nm:Option Str}
variable {g:List Value->List Value->List Value} {gV:List V->List V->List V}
end
structure aN(N P:List Str)(sc:Scope):Prop where
 kind:sc.kind = .function
 co:sc.isCoroutine=false
 gen:sc.isGenerator=false
 nd:N.Nodup
 pre:N.take P.length=P
 par:∀x∈P,sc.names.lookup x=some .local∨sc.names.lookup x=some .cell
 Jb:∀y∈sc.names,y.2≠ .free
theorem Ab{kindOf:Str->Option NameKind}{x:Str}:∀{binds:List (Str×Value)} {m:Str->Option Value},(∀v,(x,v)∉binds)->bindL kindOf binds m x=m x
 |[],_,_=>rfl
 |(n,v)::r,m,h=>by
  unfold bindL;rw[Ab fun w hw=>h w (List.mem_cons_of_mem _ hw)];split
  ·have:x≠n:=by rintro rfl;exact h v List.mem_cons_self
   simp[this]
  ·rfl
theorem yS{kindOf:Str->Option NameKind}{x:Str}:∀{binds:List (Str×Value)} {m:Str->Option Value},(∀v,(x,v)∉binds)->bindC kindOf binds m x=m x
 |[],_,_=>rfl
 |(n,v)::r,m,h=>by
  unfold bindC;rw[yS fun w hw=>h w (List.mem_cons_of_mem _ hw)];split
  ·rfl
  ·have:x≠n:=by rintro rfl;exact h v List.mem_cons_self
   simp[this]
theorem zX{kindOf:Str->Option NameKind}{x:Str}{v:Value}:∀{P:List Str} {vs:List Value} {i:Nat} {m:Str->Option Value},P.Nodup->P[i]?=some x->vs[i]?=some v->kindOf x=some .local->
  bindL kindOf (P.zip vs) m x=some v
 |[],_,_,_,_,h,_,_=>by simp at h
 |_::_,[],_,_,_,_,h,_=>by simp at h
 |p::P,w::vs,0,m,nd,h1,h2,hk=>by
  simp at h1 h2;subst h1;subst h2;show bindL kindOf ((p,w)::P.zip vs) m p=_;unfold bindL;rw[Ab fun v hv=>(List.nodup_cons.mp nd).1 (List.of_mem_zip hv).1,if_pos hk];simp
 |p::P,w::vs,i+1,m,nd,h1,h2,hk=>by
  show bindL kindOf ((p,w)::P.zip vs) m x=_;unfold bindL;exact zX (i:=i) (List.nodup_cons.mp nd).2 (by simpa using h1) (by simpa using h2) hk
theorem zE{kindOf:Str->Option NameKind}{x:Str}{v:Value}:∀{P:List Str} {vs:List Value} {i:Nat} {m:Str->Option Value},P.Nodup->P[i]?=some x->vs[i]?=some v->kindOf x≠some .local->
  bindC kindOf (P.zip vs) m x=some v
 |[],_,_,_,_,h,_,_=>by simp at h
 |_::_,[],_,_,_,_,h,_=>by simp at h
 |p::P,w::vs,0,m,nd,h1,h2,hk=>by
  simp at h1 h2;subst h1;subst h2;show bindC kindOf ((p,w)::P.zip vs) m p=_;unfold bindC;rw[yS fun v hv=>(List.nodup_cons.mp nd).1 (List.of_mem_zip hv).1,if_neg hk];simp
 |p::P,w::vs,i+1,m,nd,h1,h2,hk=>by
  show bindC kindOf ((p,w)::P.zip vs) m x=_;unfold bindC;exact zE (i:=i) (List.nodup_cons.mp nd).2 (by simpa using h1) (by simpa using h2) hk
def start(N:List Str)(vs:List V):St:=vs.map some++List.replicate (N.length-vs.length) none
def Rf(CX:CXT)(P:Program)(w:World)(K:W.Frag)(mg:Str->Option Value)(base:Heap)(N:List Str)(qual:Str)(scope:Scope)(f:Addr)(cd:Value)(A:Around)(outer:List Env)(s:Shared)(H:Hp)(E:XK):Cx where
 prog:=P
 w:=w
 K:=K
 mg:=mg
 base:=base
 A:=A.deeper (envOfC qual scope s.heap.objs.size f cd)
 N:=N
 s₀:=s
 H₀:=H
 env:=envOfC qual scope s.heap.objs.size f cd
 outer:=outer
 stack:=envOfC qual scope s.heap.objs.size f cd::outer
 ex:=[]
 calm:=true
 fn:=fun _=>true
 pn:=[]
 xe:=fun e s'=>wpAny (model P w) (A.deeper (envOfC qual scope s.heap.objs.size f cd)) (leaving (envOfC qual scope s.heap.objs.size f cd) e) (fun _ s''=>CX outer H s E e s'') (fun e' s''=>CX outer H s E e' s'') s'
theorem DK{sc:Scope}{n:Nat}{x:Str}(h:sc.names.lookup x=some .cell):∃c,(cellsFrom n sc.names []).lookup x=some c:=by
 have q:=W.cellsFrom_some sc.names n [] (.inl h);exact Option.isSome_iff_exists.mp q
theorem Gn{CX:CXT}{P:Program}{w:World}{K:W.Frag}{mg:Str->Option Value}{base:Heap}{N ps:List Str}{qual:Str}{scope:Scope}{f:Addr}{cd:Value}{A:Around}{outer:List Env}{s s1:Shared}{H:Hp}{E:XK}{us:List Value}{vs:List V}
  (S:aN N ps scope) (hd:A.handled=none) (e0:Vp P w K mg base A outer s H) (hl:vs.length=ps.length) (r:Vals vs us)
  (x:InCallC s s.heap.objs.size (bindL (envOfC qual scope s.heap.objs.size f cd).kindOf (ps.zip us) fun _=>none) (cellsFrom (s.heap.objs.size+1) scope.names []) (bindC (envOfC qual scope s.heap.objs.size f cd).kindOf (ps.zip us) fun _=>none) s1):
  Inv (Rf CX P w K mg base N qual scope f cd A outer s H E) [] (start N vs) H s1:=by
 have hpl:ps.length<=N.length:=by have:=congrArg List.length S.pre;rw[List.length_take]at this;omega
 obtain⟨h1,tk,rfl,hk⟩:=x.done;have noA:∀b:Addr,b∉(Rf CX P w K mg base N qual scope f cd A outer s H E).ex:=fun b z=>absurd (show b∈([]:List Addr)from z) (by simp);refine⟨⟨e0.mod,S.kind,rfl,rfl,Nat.le_refl _,fun y z c h1 h2=>?_,fun y hy=>?_,fun y c _ h=>?_,fun _=>hd,Around.frames_deeper e0.frames,.inr ⟨rfl,rfl⟩,fun b z=>absurd z (noA b),e0.bs,e0.bsz,fun b _ _=>noA b,fun b z=>absurd z (noA b),e0.E6,e0.frf⟩,
  rfl,e0.bare,Un.kept hk,⟨_,x.toInCall.ns,fun i y v h1 h2 h3=>?_⟩,fun y c h=>⟨_,x.cell y c h⟩,e0.hok.fresh (Nat.le_refl _),fun y c h=>?_,fun p hp=>absurd (show p∈([]:List (Addr×Obj))from hp) (by simp),e0.hok.kept hk,?_⟩
 ·exact name_of_addr x.apart (PySem.mem_of_lookup h1) (PySem.mem_of_lookup h2)
 ·have hy:scope.names.lookup y=some .cell∨scope.names.lookup y=some .free:=hy;rcases hy with hy|hy
  ·exact DK hy
  ·exact absurd rfl (S.Jb _ (PySem.mem_of_lookup hy))
 ·exact Nat.le_of_lt (x.above y c (PySem.mem_of_lookup h))
 ·have hi:i<vs.length:=by
   unfold start at h2;by_cases hi:i<vs.length
   ·exact hi
   ·rw[List.getElem?_append_right (by simpa using hi)]at h2;rw[List.getElem?_replicate]at h2;split at h2<;>cases h2
  have ha:vs[i]?=some v:=by
   unfold start at h2;rw[List.getElem?_append_left (by simpa using hi),List.getElem?_map]at h2;cases e:vs[i]? with
   |none=>rw[e]at h2;cases h2
   |some a=>rw[e]at h2;cases h2;rfl
  obtain⟨u,hu,rv⟩:=r.get ha;have hp:ps[i]?=some y:=by
   rw[<-S.pre,List.getElem?_take_of_lt (by omega)];exact h1
  have ndP:ps.Nodup:=by rw[<-S.pre];exact S.nd.sublist (List.take_sublist _ _)
  refine⟨u,rv,?_⟩;rcases S.par y (List.mem_of_getElem? hp)with k|k
  ·exact .inl ⟨k,zX ndP hp hu k⟩
  ·obtain⟨c,e⟩:=DK (n:=s.heap.objs.size+1) k;refine .inr ⟨.inl k,c,e,?_⟩;have q:=x.cell y c e;rw[zE ndP hp hu (by show scope.names.lookup y≠_;rw[k];decide)]at q;exact q
 ·exact e0.hok.fresh (Nat.le_of_lt (x.above y c (PySem.mem_of_lookup h)))
 ·unfold start;show _=N.length;rw[List.length_append,List.length_map,List.length_replicate];omega
theorem Yq{CX:CXT}{P:Program}{w:World}{K:W.Frag}{mg:Str->Option Value}{base:Heap}{k:Nat}{f:Addr}{name qual:Str}{params:Arguments}{body:List Stmt}{scope:Scope}{dV kV doc pm cdv ct oc:Value}{an od:Option Addr}
  {osl:Array (Option Value)} {N ps:List Str} {sp:Sp} (lk:K.lookup f=some ⟨oc,od,.func (W.fnOf name qual params body scope dV kV doc pm an cdv ct),osl⟩) (hcd:W.codeIn K cdv qual=true) (S:aN N ps scope)
  (len:∀vs H Q E,sp vs H Q E->vs.length=ps.length)
  (hbody:∀(A:Around) (outer:List Env) (s:Shared) (H:Hp) (vs:List V) (Q:VK) (E:XK),mD k (A.deeper (envOfC qual scope s.heap.objs.size f cdv))->sp vs H Q E->
   ∃t,PSs (Rf CX P w K mg base N qual scope f cdv A outer s H E) body t/\t { nx:=fun _ H'=>Q .non H',rt:=Q } (start N vs) H):
  JC P w K mg base CX (k+1) f (W.fnOf name qual params body scope dV kV doc pm an cdv ct) ps sp:=by
 refine⟨len,fun A outer s H args us vs Q E hr e0 hb r hsp=>?_⟩;have hl:=len _ _ _ _ hsp;have KX:K.In s.heap:=e0.mod.kin.keeps fun b o e=>(e0.bs b o e).1;have lim:s.heap.NoLimit:=e0.mod.nolimit.keeps fun b o e=>(e0.bs b o e).1;have hkind:∀y∈ps.zip us,scope.names.lookup y.1=some .local∨(scope.names.lookup y.1=some .cell/\((cellsFrom (s.heap.objs.size+1) scope.names []).lookup y.1).isSome=true):=fun⟨n,v⟩ hy=>by
  rcases S.par n (List.of_mem_zip hy).1 with q|q
  ·exact .inl q
  ·exact .inr ⟨q,W.cellsFrom_some _ _ _ (.inl q)⟩
 refine codeAny_call_function hr.depth (KX _ _ lk) rfl S.co S.gen rfl (W.codeRec_of KX hcd) (hb _ _ _ _ ?_);refine wpAny_newFunctionEnv_cells S.kind hkind fun env he s1 x=>?_;subst he;refine⟨lim.keeps x.toInCall.keep,codeAny_func ?_⟩;obtain⟨t,ht,hq⟩:=hbody A outer s H vs Q E (hr.deeper _) hsp;have I:Inv (Rf CX P w K mg base N qual scope f cdv A outer s H E) [] (start N vs) H s1:=Gn S hr.hd e0 hl r x;refine wpAny_mono (ht [] s1 (start N vs) H _ I hq) (fun fl s' hs=>?_) fun e s' hs=>hs;have fin:∀{σ':St} {H':Hp} {v:V} {u:Value},Inv (Rf CX P w K mg base N qual scope f cdv A outer s H E) [] σ' H' s'->RelV v u->Q v H'->CE outer P w H s Q u s':=
  fun {σ' H' v u} J rv q=>⟨v,H',J.os,J.bare,J.base,J.hok,rv,q⟩
 cases fl with
 |ret u=>
  obtain⟨v,σ',H',J,rv,q⟩:=hs;exact fin J rv q
 |next=>
  obtain⟨σ',H',J,q⟩:=hs;exact fin (v:=V.non) (u:=Value.none) J rfl q
 |brk=>
  obtain⟨_,_,_,q⟩:=hs;exact False.elim q
 |cont=>
  obtain⟨_,_,_,q⟩:=hs;exact False.elim q
section
variable {X:Cx} {x:Str} {p pos:Pos} {e:Expr} {es:List Expr} {t:TA} {id T:String} {r:List V->Hp->VK->Prop}
def tCB(r:List V->Hp->VK->Prop)(t:TA):TE:=fun σ H Q=>t σ H fun vs H1=>r vs H1 Q
theorem aM(hc:oB X (.builtin id) r)(hg:Gl X x)(hm:X.mg x=none)(hv:bootBuiltins x=some (.builtin id))(ha:PA X (e::es) t)(hn:x≠ "__name__" := by decide)(hdb:(x==("__debug__" : Str))=false:=by decide)
  (he:starEach (e::es) X.env=(false,eval e X.env)::starEach es X.env:=by rfl) (hpl:(backTo pos (starEach es X.env)).any (·.1)=false:=by rfl):PE X (.Call (.Name x p) (e::es) [] pos) (tCB r t):=by
 intro pins s σ H Q I h;refine wpAny_Call_Name_kw (wz I hg hm hv ?_ hn hdb);exact PyProof.Rows.callWith_builtin1 (thn (ha pos pins s σ H _ I h) fun us s1 ⟨vs,H1,I1,r1,q1⟩=>hc pins s1 σ H1 vs us Q I1 r1 q1) he hpl
theorem cg(hc:oB X (.type T) r)(hg:Gl X x)(hm:X.mg x=none)(hv:bootBuiltins x=some (.type T))(ha:PA X (e::es) t)(hn:x≠ "__name__" := by decide)(hdb:(x==("__debug__" : Str))=false:=by decide)
  (he:starEach (e::es) X.env=(false,eval e X.env)::starEach es X.env:=by rfl) (hpl:(backTo pos (starEach es X.env)).any (·.1)=false:=by rfl):PE X (.Call (.Name x p) (e::es) [] pos) (tCB r t):=by
 intro pins s σ H Q I h;refine wpAny_Call_Name_kw (wz I hg hm hv ?_ hn hdb);exact PyProof.Rows.callWith_type1 (thn (ha pos pins s σ H _ I h) fun us s1 ⟨vs,H1,I1,r1,q1⟩=>hc pins s1 σ H1 vs us Q I1 r1 q1) he hpl
end
end L2
namespace HT
open PySem PyProof.Rows
section
open PySem.SeqAt
open PySem.AutoSeq1 (wpAny_loadPart')
open PySem.MeetsSeq PySem.MeetsSeq2 PySem.MeetsSeq3
end
section
variable {prog:Program} {w:World} {A:Around} {E:Value->Shared->Prop} {s:Shared}
theorem Qn{t b:Addr}{vs ws:List Value}{Q:Value->Shared->Prop}(ht:IsTup s.heap t vs.toArray)(hb:IsTup s.heap b ws.toArray)(hv:vs≠[])
  (h1:ws=[]->Q (.ref t) s) (h2:ws≠[]->Q (.ref s.heap.objs.size) { s with heap:=s.heap.push { cls:= .type "tuple",data:= .seq (vs++ws).toArray } })
  (hsz:vs.length+ws.length<=sizeLine):wpAny (model prog w) A (binaryOp .Add (.ref t) (.ref b)) Q E s:=by
 obtain⟨⟨cls,dd,data,sl⟩,ho,hc,n,hd⟩:=id ht;obtain⟨⟨cls2,dd2,data2,sl2⟩,ho2,hc2,n2,hd2⟩:=id hb;simp only at hc hd hc2 hd2;subst hc hd hc2 hd2;have e:vs.toArray++ws.toArray=(vs++ws).toArray:=by simp
 by_cases hw:ws=[]
 ·exact concat_meets ⟨_,ho,rfl⟩ ⟨_,ho2,rfl⟩ noFill_tuple_add seq_tuple_add PySem.F.slot_tuple_add PySem.F.entry_tuple_add (PySem.F.args_tuple_add_2 _ _)
   (tuple_addW1 t b vs.toArray ws.toArray n n2 dd dd2 sl sl2 (by simpa using hv) (by simp[hw])) ⟨ho,ho2,h1 hw⟩
 ·refine concat_meets ⟨_,ho,rfl⟩ ⟨_,ho2,rfl⟩ noFill_tuple_add seq_tuple_add PySem.F.slot_tuple_add PySem.F.entry_tuple_add (PySem.F.args_tuple_add_2 _ _)
   (tuple_addW2 t b vs.toArray ws.toArray n n2 dd dd2 sl sl2 (by simpa using hv) (by simpa using hw) (by rw[List.size_toArray,List.size_toArray];exact hsz)) ⟨ho,ho2,?_⟩
  rw[e];exact h2 hw
def sIx(n d:Nat):Option Int->Nat
 |none=>d
 |some v=>if v<0 then(v+(n:Int)).toNat else min v.toNat n
theorem iW(n d:Nat):sIx n d none=d:=rfl
theorem kI(n d k:Nat):sIx n d (some (k:Int))=min k n:=by
 show(if(k:Int)<0 then((k:Int)+(n:Int)).toNat else min (k:Int).toNat n)=min k n;rw[if_neg (by omega),Int.toNat_natCast]
theorem TJ(n d:Nat)(hd:d<=n)(o:Option Int):sIx n d o<=n:=by
 cases o with
 |none=>exact hd
 |some v=>
  show(if v<0 then(v+(n:Int)).toNat else min v.toNat n)<=n;by_cases hv:v<0
  ·rw[if_pos hv];omega
  ·rw[if_neg hv];exact Nat.min_le_right _ _
theorem G4(v:Int)(n d:Nat):(if v<0 then max (v+(n:Int)) 0 else min v (n:Int))=((sIx n d (some v):Nat):Int):=by
 show(if v<0 then max (v+(n:Int)) 0 else min v (n:Int))=(((if v<0 then(v+(n:Int)).toNat else min v.toNat n):Nat):Int);by_cases hv:v<0
 ·simp only[if_pos hv];omega
 ·simp only[if_neg hv];omega
theorem E4(lo hi:Option Int)(n:Nat):Builtin.Slice.sliceAdjust lo hi 1 (n:Int)=(((sIx n 0 lo:Nat):Int),((sIx n n hi:Nat):Int)):=by
 have h1:¬((1:Int)<0):=by omega
 unfold Builtin.Slice.sliceAdjust;simp only[h1,if_false];refine Prod.ext ?_ ?_
 ·cases lo with
  |none=>rfl
  |some v=>exact G4 v n 0
 ·cases hi with
  |none=>rfl
  |some v=>exact G4 v n n
theorem Eb(i j:Nat):Builtin.Slice.slicePlaces (i:Int) (j:Int) 1=j-i:=by
 unfold Builtin.Slice.slicePlaces;have h1:(1:Int)>0:=by omega
 simp only[h1,if_true,Int.ediv_one];split<;>omega
theorem vZ{v:Value}{o:Option Int}{Q:Option Int->Shared->Prop}(p:IsPart v o)(h:Q o s):wpAny (model prog w) A (Builtin.Slice.slicePartIndex v) Q E s:=by
 cases p with
 |none=>exact slicePart_none h
 |int i t=>exact slicePart_int h
theorem lH{sl:Addr}{vl vu:Value}{lo hi:Option Int}{n:Nat}{Q:Int×Int×Nat->Shared->Prop}(hs:s.heap.IsSliceOf sl vl vu .none)(pl:IsPart vl lo)(pu:IsPart vu hi)
  (h:Q (((sIx n 0 lo:Nat):Int),1,sIx n n hi-sIx n 0 lo) s):wpAny (model prog w) A (Builtin.Slice.sliceApplied (.ref sl) (pure (n:Int))) Q E s:=by
 obtain⟨os,hos,hcs,hds⟩:=id hs;unfold Builtin.Slice.sliceApplied Builtin.Slice.sliceFields;refine wpAny_bind (wpAny_bind (wpAny_field hos hds (x:=vl) rfl (wpAny_bind (wpAny_field hos hds (x:=vu) rfl (wpAny_bind (wpAny_field hos hds (x:= .none) rfl (wpAny_pure ?_)))))));refine wpAny_bind (slicePart_none ?_);show wpAny _ _ (if((1:Int)==0)=true then _ else _) _ _ s;rw[if_neg (by decide)];refine wpAny_bind (vZ pl (wpAny_bind (vZ pu (wpAny_bind (wpAny_pure ?_)))));show wpAny _ _ (match Builtin.Slice.sliceAdjust lo hi 1 (n:Int)with|(lo,hi)=>pure (lo,(1:Int),Builtin.Slice.slicePlaces lo hi 1)) _ _ s
 rw[E4 lo hi n];show wpAny _ _ (pure (((sIx n 0 lo:Nat):Int),(1:Int),Builtin.Slice.slicePlaces ((sIx n 0 lo:Nat):Int) ((sIx n n hi:Nat):Int) 1)) _ _ s;rw[Eb];exact wpAny_pure h
theorem Lj(xs:Array Value)(i k:Nat):((List.range k).filterMap fun(m:Nat)=>xs[((i:Int)+(m:Int)*1).toNat]?).toArray=((xs.toList.drop i).take k).toArray:=by
 have e:(fun(m:Nat)=>xs[((i:Int)+(m:Int)*1).toNat]?)=fun m=>xs[i+m]?:=by
  funext m
  have:((i:Int)+(m:Int)*1).toNat=i+m:=by omega
  rw[this]
 rw[e];have:=pick_run xs i k;rw[List.filterMap_map]at this;have e2:((fun x=>xs[x]?)∘fun x=>i+x)=fun m=>xs[i+m]?:=rfl;rw[e2]at this;rw[this]
theorem qY{t sl:Addr}{items:Array Value}{vl vu:Value}{lo hi:Option Int}{Q:Value->Shared->Prop}(ht:IsTup s.heap t items)(hs:s.heap.IsSliceOf sl vl vu .none)(pl:IsPart vl lo)(pu:IsPart vu hi)
  (hw:¬(sIx items.size 0 lo=0/\sIx items.size items.size hi=items.size))
  (h:Q (.ref s.heap.objs.size) { s with heap:=s.heap.push { cls:= .type "tuple",data:= .seq ((items.toList.drop (sIx items.size 0 lo)).take (sIx items.size items.size hi-sIx items.size 0 lo)).toArray } })
  (hsz:items.size<=sizeLine):wpAny (model prog w) A (getItem (.ref t) (.ref sl)) Q E s:=by
 have Lw:sizeOk (.seq ((items.toList.drop (sIx items.size 0 lo)).take (sIx items.size items.size hi-sIx items.size 0 lo)).toArray):=by
  show((items.toList.drop (sIx items.size 0 lo)).take (sIx items.size items.size hi-sIx items.size 0 lo)).toArray.size<=sizeLine;rw[List.size_toArray,List.length_take,List.length_drop,Array.length_toList];omega
 have hj:sIx items.size items.size hi<=items.size:=TJ _ _ (Nat.le_refl _) hi;obtain⟨os,hos,hcs,hds⟩:=id hs;have hTs:s.TypeIs (.ref sl) "slice" := ⟨os,hos,hcs⟩;unfold getItem;try with_reducible refine wpAny_holding ?_
 first|refine wpAny_bind (wpAny_pure ?_)|skip
 refine wpAny_bind (wpAny_sequenceKey ht.typeIs (by decide) ?_);refine wpAny_bind (wpAny_callSpecial?_slot (name:=Str.ofString "__getitem__") ht.typeIs PyProof.Rows.slot_tuple_getitem
  (wpAny_call_entry PyProof.Rows.slot_tuple_getitem ht.typeIs entry_tuple_getitem ?_ (args_tuple_getitem _ _)))
 show wpAny _ _ (Builtin.Tuple.tupleItemsOf (.ref t)>>=_) _ _ s;refine wpAny_bind (tupleItemsOf_ ht ?_);refine wpAny_bind (wpAny_typeOf hTs ?_);rw[if_pos (by decide)];refine wpAny_bind (lH hs pl pu ?_);have hno:¬((((sIx items.size 0 lo:Nat):Int)==0&&(1:Int)==1&&(sIx items.size items.size hi-sIx items.size 0 lo)==items.size)=true):=by
  intro q;rw[Bool.and_eq_true,Bool.and_eq_true]at q;have q1:((sIx items.size 0 lo:Nat):Int)=0:=eq_of_beq q.1.1;have q2:sIx items.size items.size hi-sIx items.size 0 lo=items.size:=eq_of_beq q.2;exact hw ⟨by omega,by omega⟩
 show wpAny _ _ (if(((sIx items.size 0 lo:Nat):Int)==0&&(1:Int)==1&&(sIx items.size items.size hi-sIx items.size 0 lo)==items.size)=true then _ else _) _ _ s;rw[if_neg hno,Lj];first
  |exact wpAny_bind (m:=Builtin.Tuple.tupleExact _) (wpAny_newObj_type (wpAny_pure ⟨_,rfl,wpAny_pure h⟩) Lw)
  |exact wpAny_bind (m:=Builtin.Tuple.tupleExact _) (wpAny_newObj_type (wpAny_bind (wpAny_pure (wpAny_pure ⟨_,rfl,wpAny_pure h⟩))) Lw)
  |exact wpAny_bind (wpAny_bind (m:=Builtin.Tuple.tupleExact _) (wpAny_newObj_type (wpAny_pure (wpAny_pure ⟨_,rfl,wpAny_pure h⟩)) Lw))
  |exact wpAny_bind (wpAny_bind (m:=Builtin.Tuple.tupleExact _) (wpAny_newObj_type (wpAny_pure ⟨_,rfl,wpAny_pure h⟩) Lw))
end
end HT
namespace L2
open PySem PySem.Spec PyProof.Rows
abbrev TO:=St->Hp->(Option Int->Hp->Prop)->Prop
def PO(X:Cx)(e:Option Expr)(t:TO):Prop:=
 ∀(pins:List (Addr×Obj)) (s:Shared) (σ:St) (H:Hp) (Q:Option Int->Hp->Prop),Inv X pins σ H s->t σ H Q->
  wpAny (model X.prog X.w) X.A (evalPart e X.env) (fun u s'=>∃o H',Inv X pins σ H' s'/\IsPart u o/\Q o H') X.xe s
def Og:TO:=fun _ H Q=>Q none H
inductive aa7(x:V)(H:Hp)(Q:Option Int->Hp->Prop):Prop|mk (i:Int) (hx:x = .int i) (q:Q (some i) H)
def aaK(t:TE):TO:=fun σ H Q=>t σ H fun x H1=>aa7 x H1 Q
theorem intsAre_of{ns:List Int}:∀{us:List Value},Vals (ns.map V.int) us->IntsAre us ns:=by
 induction ns with
 |nil=>intro us r;rw[List.map_nil]at r;cases r;exact .nil
 |cons n ns ih=>
  intro us r;rw[List.map_cons]at r;cases r with
  |cons r1 r2=>
   obtain⟨t,e⟩:=r1;subst e;exact .cons n t (ih r2)
section
variable {X:Cx} {e:Expr} {te:TE} {lo hi:Option Expr} {tl th:TO} {pos p2:Pos}
theorem u6:PO X none Og:=by
 intro pins s σ H Q I h;rw[evalPart_none];exact wpAny_pure ⟨none,H,I,.none,h⟩
theorem vp(h:PE X e te):PO X (some e) (aaK te):=by
 intro pins s σ H Q I hw;rw[evalPart_some];refine thn (h pins s σ H _ I hw) fun u s1 ⟨x,H1,I1,r1,q1⟩=>?_;obtain⟨i,rfl,q⟩:=q1;obtain⟨t,rfl⟩:=r1;exact⟨some i,H1,I1,.int i t,q⟩
def SlR(X:Cx)(r:V->Option Int->Option Int->Hp->VK->Prop):Prop:=
 ∀(pins:List (Addr×Obj)) (s:Shared) (σ:St) (H:Hp) (x:V) (v vl vu:Value) (lo hi:Option Int) (sl:Addr) (Q:VK),Inv X pins σ H s->RelV x v->s.heap.IsSliceOf sl vl vu .none->IsPart vl lo->IsPart vu hi->r x lo hi H Q->
  ∃T id,typeLookup (.type T) "__getitem__" = pure (some (.builtin id))/\s.TypeIs v T/\wpAny (model X.prog X.w) X.A (getItem v (.ref sl)) (EP X pins σ Q) X.xe s
theorem SlR.or{r r':V->Option Int->Option Int->Hp->VK->Prop}(h:SlR X r)(h':SlR X r'):SlR X (fun x lo hi H Q=>r x lo hi H Q∨r' x lo hi H Q):=by
 intro pins s σ H x v vl vu lo hi sl Q I rx hs pl pu q;rcases q with q|q
 ·exact h pins s σ H x v vl vu lo hi sl Q I rx hs pl pu q
 ·exact h' pins s σ H x v vl vu lo hi sl Q I rx hs pl pu q
def tSl(r:V->Option Int->Option Int->Hp->VK->Prop)(te:TE)(tl th:TO):TE:=fun σ H Q=>te σ H fun x H1=>tl σ H1 fun l H2=>th σ H2 fun u H3=>r x l u H3 Q
theorem qD{r:V->Option Int->Option Int->Hp->VK->Prop}(hr:SlR X r)(he:PE X e te)(hl:PO X lo tl)(hu:PO X hi th):PE X (.Subscript e (.Slice lo hi none p2) pos) (tSl r te tl th):=by
 intro pins s σ H Q I h;refine Subscript_ (thn (he pins s σ H _ I h) fun v s1 ⟨x,H1,I1,r1,q1⟩=>?_);refine wpAny_Slice (thn (hl pins s1 σ H1 _ I1 q1) fun vl s2 ⟨l,H2,I2,pl,q2⟩=>thn (hu pins s2 σ H2 _ I2 q2) fun vu s3 ⟨u,H3,I3,pu,q3⟩=>?_);rw[evalPart_none];refine wpAny_pure ?_;have I4:Inv X pins σ H3 { s3 with heap:=s3.heap.push { cls:= .type "slice",data:= .fields #[vl,vu,.none] } }:=I3.kept (t':=s3.toks) fun b ob q=>Heap.get?_push_of_some _ q;obtain⟨T,id,hT,ht,hg⟩:=hr pins { s3 with heap:=s3.heap.push { cls:= .type "slice",data:= .fields #[vl,vu,.none] } } σ H3 x v vl vu l u s3.heap.objs.size Q I4 r1 (Heap.IsSliceOf.new ..) pl pu q3;show wpAny (model X.prog X.w) X.A (subscriptTail e (.Slice lo hi none p2) v (.ref s3.heap.objs.size)) (EP X pins σ Q) X.xe { s3 with heap:=s3.heap.push { cls:= .type "slice",data:= .fields #[vl,vu,.none] } };exact tail_any (ops:=[.ref s3.heap.objs.size,v]) ht hT hg (by with_unfolding_all rfl)
def yE(xs:List V)(lo hi:Option Int):List V:=(xs.drop (HT.sIx xs.length 0 lo)).take (HT.sIx xs.length xs.length hi-HT.sIx xs.length 0 lo)
theorem uU(xs:List V)(lo hi:Option Int):(yE xs lo hi).length<=xs.length:=by
 unfold yE;rw[List.length_take,List.length_drop];omega
def adP(K:W.Frag):V->Option Int->Option Int->Hp->VK->Prop:=fun x lo hi H Q=>∃a xs,x = .ref a/\SqT K H a xs/\
 ¬(HT.sIx xs.length 0 lo=0/\HT.sIx xs.length xs.length hi=xs.length)/\∀p,H p=none->Q (.ref p) (upd H p (.tup (yE xs lo hi)))
theorem UN:SlR X (adP X.K):=by
 intro pins s σ H x v vl vu lo hi sl Q I rx hs pl pu h;obtain⟨a,xs,rfl,hx,hw,q⟩:=h;cases rx;obtain⟨its,r,ht,hz⟩:=I.tuple hx;have hlen:its.toArray.size=xs.length:=by rw[List.size_toArray];exact r.length.symm
 refine⟨"tuple",_,PyProof.Rows.slot_tuple_getitem.lookup,ht.typeIs,?_⟩;refine HT.qY ht hs pl pu (by rw[hlen];exact hw) ?_ (by rw[hlen];exact hz);rw[hlen];refine⟨.ref s.heap.objs.size,_,I.laid (t':=s.toks) (o:= .tup (yE xs lo hi)) (fun b ob q=>Heap.get?_push_of_some _ q) (Nat.le_refl _) ?_,rfl,q _ (I.hok.fresh (Nat.le_refl _))⟩;exact⟨Nat.le_trans (uU xs lo hi) hz,_,(r.drop (HT.sIx xs.length 0 lo)).take (HT.sIx xs.length xs.length hi-HT.sIx xs.length 0 lo),IsTup.new _ _⟩
def ZG(K:W.Frag):R2:=fun x y H Q=>∃a b xs ys,x = .ref a/\y = .ref b/\SqT K H a xs/\SqT K H b ys/\xs≠[]/\xs.length+ys.length<=sizeLine/\
 (ys=[]->Q (.ref a) H)/\(ys≠[]->∀p,H p=none->Q (.ref p) (upd H p (.tup (xs++ys))))
theorem Vals.xW{xs:List V}{us:List Value}(r:Vals xs us):us=[]↔xs=[]:=by
 cases r with
 |nil=>simp
 |cons _ _=>simp
theorem Qy:OpR X (binaryOp .Add) (ZG X.K):=by
 intro pins s σ H x y v u Q I rx ry h;obtain⟨a,b,xs,ys,rfl,rfl,ha,hb,hx,hz,q1,q2⟩:=h;cases rx;cases ry;obtain⟨its,r1,p1,_⟩:=I.tuple ha;obtain⟨its2,r2,p2,_⟩:=I.tuple hb;refine HT.Qn p1 p2 (fun z=>hx (r1.xW.mp z)) (fun z=>⟨.ref a,H,I,rfl,q1 (r2.xW.mp z)⟩) (fun z=>?_) (by rw[<-r1.length,<-r2.length];exact hz);refine⟨.ref s.heap.objs.size,_,I.laid (t':=s.toks) (o:= .tup (xs++ys)) (fun b ob q=>Heap.get?_push_of_some _ q) (Nat.le_refl _) ?_,rfl,q2 (fun w=>z (r2.xW.mpr w)) _ (I.hok.fresh (Nat.le_refl _))⟩;exact⟨by rw[List.length_append];exact hz,_,r1.append r2,IsTup.new _ _⟩
end
def ixN(n:Nat)(i:Int):Option Nat:=if 0<=i then(if i<n then some i.toNat else none)else if -(n:Int)<=i then some (i+n).toNat else none
def atI{α:Type}(xs:List α)(i:Int):Option α:=(ixN xs.length i).bind fun j=>xs[j]?
theorem Gj{n:Nat}{i:Int}{j:Nat}(h:ixN n i=some j):seqIndex? i n=some j/\j<n/\-(n:Int)<=i/\i<n:=by
 unfold ixN at h;by_cases h0:0<=i
 ·rw[if_pos h0]at h;by_cases h1:i<n
  ·rw[if_pos h1]at h;have e:i.toNat=j:=Option.some.inj h;exact⟨by rw[seqIndex_of h0 h1,e],by omega,by omega,h1⟩
  ·rw[if_neg h1]at h;cases h
 ·rw[if_neg h0]at h;by_cases h1:-(n:Int)<=i
  ·rw[if_pos h1]at h;have e:(i+n).toNat=j:=Option.some.inj h;exact⟨by rw[seqIndex_neg (by omega) h1,e],by omega,h1,by omega⟩
  ·rw[if_neg h1]at h;cases h
theorem BH{α:Type}{xs:List α}{i:Int}{v:α}(h:atI xs i=some v):∃j,seqIndex? i xs.length=some j/\xs[j]?=some v/\j<xs.length/\-(xs.length:Int)<=i/\i<xs.length:=by
 unfold atI at h;cases e:ixN xs.length i with
 |none=>rw[e]at h;cases h
 |some j=>
  rw[e]at h;obtain⟨h1,h2,h3,h4⟩:=Gj e;exact⟨j,h1,h,h2,h3,h4⟩
theorem Pq{α:Type}{xs:List α}{j:Nat}{v:α}(h:xs[j]?=some v):atI xs (j:Int)=some v:=by
 have hj:j<xs.length:=(List.getElem?_eq_some_iff.mp h).1;have e:ixN xs.length (j:Int)=some j:=by
  unfold ixN;rw[if_pos (by omega),if_pos (by omega)];simp
 unfold atI;rw[e];exact h
def NK(b:Expr):Prop:=∀o i,subscripted b false o i=operate [o,i] (getItem o i)
def IxR(X:Cx)(r:R2):Prop:=
 ∀(value slice:Expr) (pins:List (Addr×Obj)) (s:Shared) (σ:St) (H:Hp) (x y:V) (v u:Value) (Q:VK),Inv X pins σ H s->RelV x v->RelV y u->r x y H Q->
  subscripted slice false v u=operate [v,u] (getItem v u)->wpAny (model X.prog X.w) X.A (subscriptTail value slice v u) (EP X pins σ Q) X.xe s
def MtR(X:Cx)(id:String)(r:V->List V->Hp->VK->Prop):Prop:=
 ∀(pins:List (Addr×Obj)) (s:Shared) (σ:St) (H:Hp) (x:V) (xs:List V) (v:Value) (us:List Value) (Q:VK),Inv X pins σ H s->RelV x v->Vals xs us->r x xs H Q->
  wpAny (model X.prog X.w) X.A (call (.builtin id) (v::us)) (EP X pins σ Q) X.xe s
section
variable {X:Cx} {a b:Expr} {ta tb:TE} {pos:Pos}
theorem IxR.or{r r':R2}(h:IxR X r)(h':IxR X r'):IxR X (fun x y H Q=>r x y H Q∨r' x y H Q):=by
 intro value slice pins s σ H x y v u Q I rx ry q hs;rcases q with q|q
 ·exact h value slice pins s σ H x y v u Q I rx ry q hs
 ·exact h' value slice pins s σ H x y v u Q I rx ry q hs
theorem bh{r:R2}(hr:IxR X r)(ha:PE X a ta)(hb:PE X b tb)(hs:NK b):PE X (.Subscript a b pos) (tOp r ta tb):=by
 intro pins s σ H Q I h;exact Subscript_ (Xl ha hb I h fun v u s2 x y H2 I2 rx ry q=>hr a b pins s2 σ H2 x y v u Q I2 rx ry q (hs _ _))
def abV(K:W.Frag):R2:=fun x y H Q=>∃p xs i v,x = .ref p/\y = .int i/\SqL K H p xs/\atI xs i=some v/\Q v H
def ab9(K:W.Frag):R2:=fun x y H Q=>∃p xs i v,x = .ref p/\y = .int i/\SqT K H p xs/\atI xs i=some v/\Q v H
def abY:R2:=fun x y H Q=>∃z i c,x = .str z/\y = .int i/\z.length<=sizeLine/\atI z.cps.toList i=some c/\Q (.str ⟨#[c]⟩) H
theorem Nv:IxR X (abV X.K):=by
 intro value slice pins s σ H x y v u Q I rx ry h hs;obtain⟨p,xs,i,z,rfl,rfl,hq,he,q⟩:=h;cases rx;obtain⟨t,rfl⟩:=ry;obtain⟨its,r,pl,hz⟩:=I.list hq;obtain⟨j,h1,h2,h3,h4,h5⟩:=BH he;obtain⟨w,ew,rw'⟩:=r.get h2;have hl:=r.length;have hn:=zy;have fin:EP X pins σ Q w s:=⟨z,H,I,rw',q⟩;by_cases h0:0<=i
 ·have hj:i.toNat=j:=by
   rw[seqIndex_of h0 h5]at h1;exact Option.some.inj h1
  exact item_listR pl.isList h0 (by omega) (by rw[hj];simpa using ew) fin hs
 ·have hj:(i+(its.toArray.size:Int)).toNat=j:=by
   rw[seqIndex_neg (by omega) h4]at h1;rw[List.size_toArray,<-hl];exact Option.some.inj h1
  exact subscriptTail_builtinR (x:=w) pl.isList.typeIs slot_list_getitem.lookup
   (wpAny_getItem_list_neg (Q:=fun r s'=>r=w/\EP X pins σ Q r s') pl.isList (by omega) (by rw[List.size_toArray]<;>omega) (by omega) (by rw[hj];simpa using ew) ⟨rfl,fin⟩) hs
theorem UY:IxR X (ab9 X.K):=by
 intro value slice pins s σ H x y v u Q I rx ry h hs;obtain⟨p,xs,i,z,rfl,rfl,hq,he,q⟩:=h;cases rx;obtain⟨t,rfl⟩:=ry;obtain⟨its,r,pl,hz⟩:=I.tuple hq;obtain⟨j,h1,h2,h3,h4,h5⟩:=BH he;obtain⟨w,ew,rw'⟩:=r.get h2;have hl:=r.length;have hn:=zy;have fin:EP X pins σ Q w s:=⟨z,H,I,rw',q⟩;exact subscriptTail_builtinR (x:=w) pl.typeIs slot_tuple_getitem.lookup
  (getItem_tuple (j:=j) (Q:=fun r s'=>r=w/\EP X pins σ Q r s') pl (by omega) (by omega) (by rw[List.size_toArray,<-hl];exact h1) (by simpa using ew) ⟨rfl,fin⟩) hs
theorem SV:IxR X abY:=by
 intro value slice pins s σ H x y v u Q I rx ry h hs;obtain⟨z,i,c,rfl,rfl,hz,he,q⟩:=h;obtain⟨t,rfl⟩:=rx;obtain⟨t',rfl⟩:=ry;obtain⟨j,h1,h2,h3,h4,h5⟩:=BH he;have hl:z.cps.toList.length=z.length:=by simp[Str.length]
 rw[hl]at h1 h4 h5;have hn:=zy;exact tail_any (typeIs_str s z t) slot_str_getitem.lookup (getItem_str (c:=c) (by
  have e1:decide (i < -(2^63:Int))=false:=decide_eq_false (by omega);have e2:decide (i≥2^63)=false:=decide_eq_false (by omega);rw[e1,e2,Bool.or_false]) (by rw[h1];simpa using h2) ⟨.str ⟨#[c]⟩,H,I.tok _,⟨_,rfl⟩,q⟩) hs
def rIx(K:W.Frag):R2:=fun x y H Q=>abV K x y H Q∨ab9 K x y H Q∨abY x y H Q
theorem UW:IxR X (rIx X.K):=Nv.or (UY.or SV)
theorem D8(its:List Value)(n j:Nat)(u:Value):Obj.mapSeq (·.setIfInBounds j u) { cls:= .type "list",data:= .seq its.toArray n }={ cls:= .type "list",data:= .seq (its.set j u).toArray n }:=by
 simp[Obj.mapSeq]
theorem Inv.lst{pins:List (Addr×Obj)}{σ:St}{H:Hp}{s:Shared}{p:Addr}{xs:List V}(I:Inv X pins σ H s)(h:H p=some (.lst xs)):
  ∃(its:List Value) (n:Nat),Vals xs its/\s.heap.get? p=some { cls:= .type "list",data:= .seq its.toArray n }/\xs.length<=sizeLine:=by
 obtain⟨z,its,n,r,e⟩:=I.hok p _ h;exact⟨its,n,r,e,z⟩
theorem Inv.Rv{pins:List (Addr×Obj)}{σ:St}{H:Hp}{s:Shared}{p:Addr}{xs ys:List V}{its its':List Value}{n n':Nat}{f:Obj->Obj}(I:Inv X pins σ H s)(h:H p=some (.lst xs))
  (ho:s.heap.get? p=some { cls:= .type "list",data:= .seq its.toArray n }) (hf:f { cls:= .type "list",data:= .seq its.toArray n }={ cls:= .type "list",data:= .seq its'.toArray n' }) (r:Vals ys its') (hz:ys.length<=sizeLine) (t:Nat):
  Inv X pins σ (upd H p (.lst ys)) { s with heap:=s.heap.update p f,toks:=t }:=by
 have e:(s.heap.update p f).get? p=some { cls:= .type "list",data:= .seq its'.toArray n' }:=by
  rw[Heap.get?_update_self f ho (by rw[hf]<;>rfl),hf]
 refine I.write (x:=p) (e:=p) (by rw[h];trivial) (.inl rfl) (fun b u hb q=>(Heap.get?_update_other _ _ (Ne.symm hb)).trans q) ⟨_,e⟩ ?_;exact⟨hz,its',n',r,e⟩
inductive SSet(o i v:V)(H:Hp)(Q:Hp->Prop):Prop|mk (p:Addr) (xs:List V) (k:Int) (j:Nat) (ho:o = .ref p) (hi:i = .int k) (hp:H p=some (.lst xs)) (hj:ixN xs.length k=some j) (q:Q (upd H p (.lst (xs.set j v))))
def aaR:V->V->V->Hp->(Hp->Prop)->Prop:=fun o i v H Q=>SSet o i v H Q
theorem set_list:acd X aaR:=by
 intro pins s σ H o i v ov iv u Q I ro ri rv h;obtain⟨p,xs,k,j,rfl,rfl,hp,hj,q⟩:=h;cases ro;obtain⟨t,rfl⟩:=ri;obtain⟨its,n,r,ho,hz⟩:=I.lst hp;obtain⟨h1,h2,h3,h4⟩:=Gj hj;have hl:=r.length;have hn:=zy;have I':Inv X pins σ (upd H p (.lst (xs.set j v))) { s with heap:=s.heap.update p (Obj.mapSeq (·.setIfInBounds j u)) }:=
  I.Rv hp ho (D8 its n j u) (r.set rv j) (by rw[List.length_set];exact hz) s.toks
 by_cases h0:0<=k
 ·have hk:k.toNat=j:=by
   rw[seqIndex_of h0 h4]at h1;exact Option.some.inj h1
  exact W.ki_setAt ho h0 (by omega) (by rw[List.size_toArray,<-hl];exact h4) (by rw[hk];exact⟨_,I',q⟩)
 ·have hk:(k+(its.toArray.size:Int)).toNat=j:=by
   rw[seqIndex_neg (by omega) h3]at h1;rw[List.size_toArray,<-hl];exact Option.some.inj h1
  exact W.ki_setBack ho (by omega) (by rw[List.size_toArray,<-hl];exact h3) (by omega) (by rw[hk];exact⟨_,I',q⟩)
theorem yJ(lo hi:Option Int)(n:Nat):(sliceBounds lo hi none n).1=((HT.sIx n 0 lo:Nat):Int)/\(sliceBounds lo hi none n).2.1=((HT.sIx n n hi:Nat):Int)/\(sliceBounds lo hi none n).2.2=1:=by
 refine⟨?_,?_,rfl⟩
 ·cases lo with
  |none=>simp[sliceBounds,HT.sIx]
  |some i=>
   simp only[sliceBounds,HT.sIx,Option.getD_none,show(1:Int)>0 by decide,if_true];by_cases h:i<0
   ·simp only[h,if_true]<;>omega
   ·simp only[h,if_false]<;>omega
 ·cases hi with
  |none=>simp[sliceBounds,HT.sIx]
  |some i=>
   simp only[sliceBounds,HT.sIx,Option.getD_none,show(1:Int)>0 by decide,if_true];by_cases h:i<0
   ·simp only[h,if_true]<;>omega
   ·simp only[h,if_false]<;>omega
theorem yC(its:List Value)(lo hi:Option Int):slicePick its.toArray lo hi none=((its.drop (HT.sIx its.length 0 lo)).take (HT.sIx its.length its.length hi-HT.sIx its.length 0 lo)).toArray:=by
 obtain⟨h1,h2,h3⟩:=yJ lo hi its.toArray.size;unfold slicePick;rw[h1,h2,h3];simp only[sliceRange_one,pick_run,List.size_toArray]<;>rfl
def ac3(K:W.Frag):V->Option Int->Option Int->Hp->VK->Prop:=fun x lo hi H Q=>∃a xs,x = .ref a/\SqL K H a xs/\∀p,H p=none->Q (.ref p) (upd H p (.lst (yE xs lo hi)))
theorem Pk:SlR X (ac3 X.K):=by
 intro pins s σ H x v vl vu lo hi sl Q I rx hs pl pu h;obtain⟨a,xs,rfl,hx,q⟩:=h;cases rx;obtain⟨its,r,ht,hz⟩:=I.list hx;have hlen:=r.length;refine⟨"list",_,slot_list_getitem.lookup,ht.isList.typeIs,?_⟩;refine wpAny_getItem_list_slice ht.isList hs pl pu .none (by simp) ?_ (by rw[List.size_toArray]<;>omega);rw[yC,<-hlen];refine⟨.ref s.heap.objs.size,_,I.laid (t':=s.toks) (o:= .lst (yE xs lo hi)) (fun b ob q=>Heap.get?_push_of_some _ q) (Nat.le_refl _) ?_,rfl,q _ (I.hok.fresh (Nat.le_refl _))⟩;exact⟨Nat.le_trans (uU xs lo hi) hz,_,0,(r.drop (HT.sIx xs.length 0 lo)).take (HT.sIx xs.length xs.length hi-HT.sIx xs.length 0 lo),Heap.get?_push_size _ rfl⟩
def uT:V->Bool
 |.non=>true
 |.bl _=>true
 |.int _=>true
 |.str _=>true
 |_=>false
def eqV:V->V->Bool
 |.non,.non=>true
 |.bl a,.bl b=>a==b
 |.bl a,.int b=>(if a then 1 else 0)==b
 |.int a,.bl b=>a==(if b then 1 else 0)
 |.int a,.int b=>a==b
 |.str a,.str b=>a==b
 |_,_=>false
theorem U9{A:Around}{s:Shared}{y x:V}{u v:Value}(ry:RelV y u)(rx:RelV x v)(fy:uT y=true)(fx:uT x=true):SeqAt.EqAt A s u v (eqV y x):=by
 cases y with
 |non=>
  cases ry;cases x with
  |non=>cases rx;exact SeqAt.EqAt.same _
  |bl b=>cases rx;exact SeqAt.EqAt.none_bool b
  |int b=>obtain⟨t,rfl⟩:=rx;exact SeqAt.EqAt.none_int b t
  |str b=>obtain⟨t,rfl⟩:=rx;exact SeqAt.EqAt.none_str b t
  |_=>exact absurd (show false=true from fx) Bool.false_ne_true
 |bl a=>
  cases ry;cases x with
  |non=>cases rx;exact SeqAt.EqAt.bool_none a
  |bl b=>cases rx;exact SeqAt.EqAt.bool_bool a b
  |int b=>obtain⟨t,rfl⟩:=rx;exact SeqAt.EqAt.bool_int a b t
  |str b=>obtain⟨t,rfl⟩:=rx;exact SeqAt.EqAt.bool_str a b t
  |_=>exact absurd (show false=true from fx) Bool.false_ne_true
 |int a=>
  obtain⟨t',rfl⟩:=ry;cases x with
  |non=>cases rx;exact SeqAt.EqAt.int_none a t'
  |bl b=>cases rx;exact SeqAt.EqAt.int_bool a t' b
  |int b=>obtain⟨t,rfl⟩:=rx;exact SeqAt.EqAt.int_int a t' b t
  |str b=>obtain⟨t,rfl⟩:=rx;exact SeqAt.EqAt.int_str a t' b t
  |_=>exact absurd (show false=true from fx) Bool.false_ne_true
 |str a=>
  obtain⟨t',rfl⟩:=ry;cases x with
  |non=>cases rx;exact SeqAt.EqAt.str_none a t'
  |bl b=>cases rx;exact SeqAt.EqAt.str_bool a t' b
  |int b=>obtain⟨t,rfl⟩:=rx;exact SeqAt.EqAt.str_int a t' b t
  |str b=>obtain⟨t,rfl⟩:=rx;exact SeqAt.EqAt.str_str a t' b t
  |_=>exact absurd (show false=true from fx) Bool.false_ne_true
 |_=>exact absurd (show false=true from fy) Bool.false_ne_true
theorem zK:oB X (.type "list") (fun xs H Q=>∃p ys,xs=[.ref p]/\(SqL X.K H p ys∨SqT X.K H p ys)/\∀l,H l=none->Q (.ref l) (upd H l (.lst ys))):=by
 intro pins s σ H xs us Q I r h;obtain⟨p,ys,rfl,hq,q⟩:=h;obtain⟨u,rfl,rx⟩:=vals1 r;cases rx;have fin:∀(its:List Value),Vals ys its->ys.length<=sizeLine->∀(h':Heap) (c':Nat),(∀b o',s.heap.get? b=some o'->h'.get? b=some o')->
   h'.get? s.heap.objs.size=some { cls:= .type "list",dict:=none,data:= .seq its.toArray c',slots:=#[] }->EP X pins σ Q (.ref s.heap.objs.size) { s with heap:=h' }:=fun its r' hz h' c' kp e=>
  ⟨.ref s.heap.objs.size,_,I.laid (t':=s.toks) kp (Nat.le_refl _) (show j5 X.prog X.w _ h' _ (.lst ys)from⟨hz,its,c',r',e⟩),rfl,q _ (I.hok.fresh (Nat.le_refl _))⟩
 rcases hq with hq|hq
 ·obtain⟨its,r',pl,hz⟩:=I.list hq;have hlen:=r'.length;obtain⟨o,ho,hc,n,hd⟩:=pl.isList;exact call_list_seq p (.inl rfl) ho hc hd (fun h' c' kp e=>fin its r' hz h' c' kp e) (by simp only[List.size_toArray]<;>omega)
 ·obtain⟨its,r',pl,hz⟩:=I.tuple hq;have hlen:=r'.length;obtain⟨o,ho,hc,n,hd⟩:=pl;exact call_list_seq p (.inr rfl) ho hc hd (fun h' c' kp e=>fin its r' hz h' c' kp e) (by simp only[List.size_toArray]<;>omega)
theorem yu:oB X (.type "tuple") (fun xs H Q=>∃p ys,xs=[.ref p]/\((SqL X.K H p ys/\∀l,H l=none->Q (.ref l) (upd H l (.tup ys)))∨(SqT X.K H p ys/\Q (.ref p) H))):=by
 intro pins s σ H xs us Q I r h;obtain⟨p,ys,rfl,h⟩:=h;obtain⟨u,rfl,rx⟩:=vals1 r;cases rx;rcases h with⟨hq,q⟩|⟨hq,q⟩
 ·obtain⟨its,r',pl,hz⟩:=I.list hq;have hlen:=r'.length;refine call_tuple_list pl.isList (fun h' kp=>?_) (by simp only[List.size_toArray]<;>omega);have I1:Inv X pins σ H { s with heap:=h' }:=I.kept (t':=s.toks) kp;have I2:Inv X pins σ (upd H h'.objs.size (.tup ys)) { s with heap:=h'.push { cls:= .type "tuple",data:= .seq its.toArray } }:=
   I1.laid (t':=s.toks) (fun b o e=>Heap.get?_push_of_some _ e) (Nat.le_refl _) (show j5 X.prog X.w _ _ _ (.tup ys)from⟨hz,its,r',IsTup.new _ _⟩)
  exact⟨.ref h'.objs.size,_,I2,rfl,q _ (I1.hok.fresh (Nat.le_refl _))⟩
 ·obtain⟨its,r',pl,hz⟩:=I.tuple hq;exact call_tuple_same pl ⟨.ref p,H,I,rfl,q⟩
def tyV(K:W.Frag)(T:String)(x:V)(H:Hp):Prop:=match x with
 |.str _=>T = "str"
 |.int _=>T = "int"
 |.ref p=>(T = "list" /\ ∃xs,SqL K H p xs)∨(T = "tuple" /\ ∃o,K.lookup p=some o/\o.cls = .type "tuple" /\ o.dict=none)∨
   (T = "dict" /\ ((∃kvs,H p=some (.dK kvs))∨∃kvs,H p=some (.dT kvs)))∨(T = "set" /\ ∃S n,H p=some (.set S n))
 |_=>False
theorem Vc{pins:List (Addr×Obj)}{σ:St}{H:Hp}{s:Shared}{T:String}{x:V}{v:Value}(I:Inv X pins σ H s)(r:RelV x v)(ty:tyV X.K T x H):
  s.TypeIs v T/\∀a,v = .ref a->∃ob,s.heap.get? a=some ob/\ob.dict=none:=by
 cases x with
 |str z=>
  obtain⟨t,rfl⟩:=r;cases (show T = "str" from ty);exact⟨typeIs_str s z t,fun _ e=>nomatch e⟩
 |int i=>
  obtain⟨t,rfl⟩:=r;cases (show T = "int" from ty);exact⟨typeIs_int s i t,fun _ e=>nomatch e⟩
 |ref p=>
  cases r;rcases ty with⟨rfl,xs,hq⟩|⟨rfl,o,hk,hc,hd⟩|⟨rfl,hk⟩|⟨rfl,S,n,hk⟩
  ·obtain⟨its,_,pl,_⟩:=I.list hq;refine⟨pl.isList.typeIs,fun a e=>?_⟩;cases e;obtain⟨o,n,e,c,hd,_⟩:=pl;exact⟨o,e,hd⟩
  ·refine⟨⟨o,I.kIn p o hk,hc⟩,fun a e=>?_⟩;cases e;exact⟨o,I.kIn _ o hk,hd⟩
  ·have z:∃o,s.heap.get? p=some o/\o.ExactDict:=by
    rcases hk with⟨kvs,hk⟩|⟨kvs,hk⟩
    ·obtain⟨_,_,_,_,o,_,_,e,ex,_⟩:=I.hok p _ hk;exact⟨o,e,ex⟩
    ·obtain⟨_,_,_,_,o,_,_,e,ex,_⟩:=I.hok p _ hk;exact⟨o,e,ex⟩
   obtain⟨o,e,ex⟩:=z;refine⟨⟨o,e,ex.1⟩,fun a e2=>?_⟩;cases e2;exact⟨o,e,ex.2.1⟩
  ·obtain⟨o,_,_,_,e,ex,_⟩:=I.hok p _ hk;refine⟨⟨o,e,ex.1⟩,fun a e2=>?_⟩;cases e2;exact⟨o,e,ex.2.1⟩
 |_=>exact False.elim ty
def tBM(K:W.Frag)(T:String)(r:V->List V->Hp->VK->Prop)(to:TE)(t:TA):TE:=fun σ H Q=>to σ H fun x H1=>tyV K T x H1/\t σ H1 fun xs H2=>r x xs H2 Q
variable {o e:Expr} {es:List Expr} {to:TE} {t:TA} {name:Str} {apos cpos:Pos} {T id:String} {r:V->List V->Hp->VK->Prop}
theorem X4(pa:PlainAttrs T)(slot:Slot T name id)(hty:typeOf (.builtin id)=pure (.type "method_descriptor"))(hm:MtR X id r)(ho:PE X o to)(ha:PA X (e::es) t)
  (hbase:attributeBase o name X.env (eval o X.env)=eval o X.env:=by rfl)
  (hfew:((backTo cpos (starEach (e::es) X.env)).all (fun x=>!x.1)&&(backToKw cpos (keywordEach [] X.env)).all (fun x=>x.1.isSome)
   && decide ((e::es).length+([]:List Keyword).length+(if([]:List Keyword).isEmpty then 0 else 1)<30))=true:=by rfl)
  (hline:(apos.endLine==cpos.line)=true:=by rfl) (hs:starEach (e::es) X.env=(false,eval e X.env)::starEach es X.env:=by rfl) (hplain:(backTo cpos (starEach es X.env)).any (·.1)=false:=by rfl):
  PE X (.Call (.Attribute o name apos) (e::es) [] cpos) (tBM X.K T r to t):=by
 intro pins s σ H Q I h;refine wpAny_Call_method_late hbase hfew hline rfl (thn (ho pins s σ H _ I h) fun v s1 ⟨x,H1,I1,r1,ty,q1⟩=>?_);obtain⟨h1,h2⟩:=Vc I1 r1 ty;refine⟨T,id,pa,slot,hty,h1,h2,?_⟩;have hA:=ha cpos pins s1 σ H1 _ I1 q1;rw[hs]at hA⊢;refine Calls.callWith_builtin (by show(false||(backTo cpos (starEach es X.env)).any (·.1))=false;rw[hplain]<;>rfl) (Calls.evalArgs_plain ?_);exact thn hA fun us s2 ⟨vs,H2,I2,r2,q2⟩=>hm pins s2 σ H2 x vs v us Q I2 r1 r2 q2
end
def MtM(X:Cx)(id:String)(r:V->List V->Hp->VK->Prop):Prop:=
 ∀(pins:List (Addr×Obj)) (s:Shared) (σ:St) (H:Hp) (x:V) (xs:List V) (v:Value) (us:List Value) (Q:VK),Inv X pins σ H s->RelV x v->Vals xs us->r x xs H Q->
  wpAny (model X.prog X.w) X.A (call (.builtin id) (v::us)) (EP X pins σ Q) X.xe s
theorem Vals.one{x:V}{us:List Value}(h:Vals [x] us):∃u,us=[u]/\RelV x u:=by
 cases h with
 |cons r h=>cases h;exact⟨_,rfl,r⟩
theorem Vals.two{x y:V}{us:List Value}(h:Vals [x,y] us):∃u v,us=[u,v]/\RelV x u/\RelV y v:=by
 cases h with
 |cons r h=>
  obtain⟨v,rfl,q⟩:=Vals.one h;exact⟨_,_,rfl,r,q⟩
theorem Vals.rep{xs:List V}{us:List Value}(h:Vals xs us):∀k:Nat,Vals (List.replicate k xs).flatten (List.replicate k us).flatten
 |0=> .nil
 |k+1=>by
  rw[List.replicate_succ,List.replicate_succ,List.flatten_cons,List.flatten_cons];exact Vals.append h (Vals.rep h k)
theorem foldl_rep(its:List Value):∀(k:Nat) (acc:List Value),
  List.foldl (fun x1 x2=>x1++x2) acc.toArray (List.replicate k its.toArray)=(acc++(List.replicate k its).flatten).toArray
 |0,acc=>by simp
 |k+1,acc=>by
  have e:acc.toArray++its.toArray=(acc++its).toArray:=by simp
  have e2:(acc++its)++(List.replicate k its).flatten=acc++(List.replicate (k+1) its).flatten:=by
   rw[List.replicate_succ,List.flatten_cons,List.append_assoc]
  rw[<-e2,<-foldl_rep its k (acc++its),<-e,List.replicate_succ,List.foldl_cons]
section
variable {X:Cx} {pins:List (Addr×Obj)} {σ:St} {H:Hp} {s:Shared} {l b:Addr} {xs ys zs:List V}
theorem Inv.adV{its its':List Value}{n:Nat}{f:Array Value->Array Value}{t':Nat}(I:Inv X pins σ H s)(hH:H l=some (.lst xs))
  (e:s.heap.get? l=some { cls:= .type "list",data:= .seq its.toArray n }) (hf:f its.toArray=its'.toArray) (hv:Vals ys its') (hz:ys.length<=sizeLine):
  Inv X pins σ (upd H l (.lst ys)) { s with heap:=s.heap.update l (Obj.mapSeq f),toks:=t' }:=by
 have q:=PySem.IsL.update e f;rw[hf]at q;refine I.write (x:=l) (e:=l) (by rw[hH];exact trivial) (.inl rfl) (fun b' u hb hu=>(Heap.get?_update_other s.heap (Obj.mapSeq f) (Ne.symm hb)).trans hu) ⟨_,q⟩ ?_;exact⟨hz,its',_,hv,q⟩
theorem Inv.aaZ{its:List Value}{t':Nat}(I:Inv X pins σ H s)(hv:Vals ys its)(hz:ys.length<=sizeLine):
  Inv X pins σ (upd H s.heap.objs.size (.lst ys)) { s with heap:=s.heap.push { cls:= .type "list",data:= .seq its.toArray },toks:=t' }:=
 I.laid (fun _ _ q=>Heap.get?_push_of_some _ q) (Nat.le_refl _) ⟨hz,its,0,hv,Heap.get?_push_size _ rfl⟩
theorem Inv.fresh(I:Inv X pins σ H s):H s.heap.objs.size=none:=I.hok.fresh (Nat.le_refl _)
theorem Inv.Vq(I:Inv X pins σ H s)(hH:H l=some (.lst xs)):xs.length<=sizeLine/\∃(its:List Value) (n:Nat),Vals xs its/\xs.length=its.length/\s.heap.get? l=some { cls:= .type "list",data:= .seq its.toArray n }:=by
 obtain⟨z,its,n,r,e⟩:=I.hok l _ hH;exact⟨z,its,n,r,r.length,e⟩
theorem Kz{n:Nat}(h:n<=sizeLine):Builtin.List.listTooLong n=false:=by
 unfold Builtin.List.listTooLong;exact decide_eq_false (by omega)
end
section
variable {X:Cx}
inductive ad6(x:V)(vs:List V)(H:Hp)(Q:VK):Prop|mk (l:Addr) (xs:List V) (y:V) (hx:x = .ref l) (hv:vs=[y]) (hl:H l=some (.lst xs)) (hz:xs.length<sizeLine) (q:Q .non (upd H l (.lst (xs++[y]))))
def FT:V->List V->Hp->VK->Prop:=fun x vs H Q=>ad6 x vs H Q
theorem yV:MtM X "list.append" FT:=by
 intro pins s σ H x vs v us Q I rx rv h;obtain⟨l,xs,y,rfl,rfl,hH,hz,q⟩:=h;cases rx;obtain⟨u,rfl,ru⟩:=rv.one;obtain⟨z,its,n,r,hl,e⟩:=I.Vq hH;refine call_meets F.slot_list_append ⟨_,e,rfl⟩ F.entry_list_append (F.args_list_append_2 _ _) (PySem.list_append l its.toArray n u (by rw[List.size_toArray];omega)) ⟨e,?_⟩;refine⟨.non,_,I.adV (its':=its++[u]) hH e (by simp) (r.append (.cons ru .nil)) ?_,rfl,q⟩;rw[List.length_append,List.length_singleton];omega
def acC:R2:=fun x y H Q=>∃l b xs zs,x = .ref l/\y = .ref b/\H l=some (.lst xs)/\H b=some (.lst zs)/\xs.length+zs.length<=sizeLine/\∀p,H p=none->Q (.ref p) (upd H p (.lst (xs++zs)))
theorem Tc:OpR X (binaryOp .Add) acC:=by
 intro pins s σ H x y v u Q I rx ry h;obtain⟨l,b,xs,zs,rfl,rfl,hH,hB,hz,q⟩:=h;cases rx;cases ry;obtain⟨z,its,n,r,hl,e⟩:=I.Vq hH;obtain⟨z2,its2,n2,r2,hl2,e2⟩:=I.Vq hB;refine PySem.P.add_list e e2 ?_ (by rw[List.size_toArray,List.size_toArray];omega);have ea:its.toArray++its2.toArray=(its++its2).toArray:=by simp
 rw[ea];exact⟨.ref _,_,I.aaZ (t':=s.toks) (r.append r2) (by rw[List.length_append];omega),rfl,q _ I.fresh⟩
def adG:R2:=fun x y H Q=>∃l k xs,x = .ref l/\y = .int k/\H l=some (.lst xs)/\-(2^63)<=k/\k<2^63/\xs.length*k.toNat<=sizeLine/\
 ∀p,H p=none->Q (.ref p) (upd H p (.lst (List.replicate k.toNat xs).flatten))
theorem len_rep{α:Type}(xs:List α)(k:Nat):(List.replicate k xs).flatten.length=k*xs.length:=by
 induction k with
 |zero=>simp
 |succ k ih=>rw[List.replicate_succ,List.flatten_cons,List.length_append,ih,Nat.succ_mul,Nat.add_comm]
theorem R7:OpR X (binaryOp .Mult) adG:=by
 intro pins s σ H x y v u Q I rx ry h;obtain⟨l,k,xs,rfl,rfl,hH,h1,h2,hz,q⟩:=h;cases rx;obtain⟨t,rfl⟩:=ry;obtain⟨z,its,n,r,hl,e⟩:=I.Vq hH;have hlen:its.toArray.size*k.toNat<=sizeLine:=by rw[List.size_toArray,<-hl];exact hz
 have hcap:¬its.toArray.size*k.toNat>(2^63-1)/8:=by
  have:(sizeLine:Nat)<=(2^63-1)/8:=by decide
  omega
 have hfit:¬(!Builtin.List.listFitsIndex k)=true:=by
  rw[fitsIndex_both h1 h2];exact Bool.false_ne_true
 have aa5:¬Builtin.List.listTooLong (its.toArray.size*k.toNat)=true:=by
  rw[Kz hlen];exact Bool.false_ne_true
 have hnew:List.foldl (fun x1 x2=>x1++x2) #[] (List.replicate (if its.toArray.isEmpty=true then 0 else k.toNat) its.toArray)=(List.replicate k.toNat its).flatten.toArray:=by
  have f0:∀m:Nat,List.foldl (fun x1 x2=>x1++x2) #[] (List.replicate m its.toArray)=(List.replicate m its).flatten.toArray:=fun m=>by
   have:=foldl_rep its m [];rw[List.nil_append]at this;exact this
  rw[f0];cases its with
  |nil=>simp
  |cons a r'=>rw[if_neg (by simp)]
 refine wpAny_binaryOp_repeat_ref (T:= "list") (U:= "int") (by decide) ⟨_,e,rfl⟩ (fun s'=>typeIs_int s' k t) noFill_list_mul F.fills_int_mul F.slot_int_rmul repeat_list F.slot_int_index.lookup
  (call_meets F.slot_int_rmul (typeIs_int s k t) F.entry_int_rmul (F.args_int_rmul_2 _ _) (int___rmul___int_list k t l its.toArray n)
   ⟨e,rfl,⟨_,e,rfl⟩,call_meets F.slot_list_mul ⟨_,e,rfl⟩ F.entry_list_mul (F.args_list_mul_2 _ _) (AutoListH.list___mul___list_int_3 l its.toArray n k t hfit hcap aa5) ⟨e,?_⟩⟩)
 rw[hnew];exact⟨.ref _,_,I.aaZ (t':=s.toks) (r.rep k.toNat) (by rw[len_rep,Nat.mul_comm];exact hz),rfl,q _ I.fresh⟩
end
section
variable {prog:Program} {w:World} {A:Around} {E:Value->Shared->Prop} {s:Shared}
end
section
variable {X:Cx}
end
section
variable {κ:Type} [DecidableEq κ]
def JX(kvs:List (κ×V))(k:κ):Option V:=(kvs.find? fun kv=>decide (kv.1=k)).map (·.2)
theorem JD{p:κ×V}{r:List (κ×V)}{k:κ}(e:p.1=k):JX (p::r) k=some p.2:=by simp[JX,List.find?_cons,e]
theorem JM{p:κ×V}{r:List (κ×V)}{k:κ}(e:¬p.1=k):JX (p::r) k=JX r k:=by simp[JX,List.find?_cons,e]
theorem KV.val{kvs:List (κ×V)}{vs:List (κ×Value)}(r:KV kvs vs)(k:κ):J0 (JX kvs k) (valueAt vs k):=by
 unfold KV at r;induction r with
 |nil=>exact True.intro
 |@cons p q ps qs h t ih=>
  obtain⟨h1,h2⟩:=h;by_cases e:p.1=k
  ·have e':q.1=k:=h1.symm.trans e;have b:valueAt (q::qs) k=some q.2:=by simp[valueAt,List.find?_cons,e']
   rw[JD e,b];exact h2
  ·have e':¬q.1=k:=fun z=>e (h1.trans z);have b:valueAt (q::qs) k=valueAt qs k:=by simp[valueAt,List.find?_cons,e']
   rw[JM e,b];exact ih
end
section
variable {P:Program} {w:World} {H:Hp} {h:Heap} {a:Addr}
end
section
variable {X:Cx} {pins:List (Addr×Obj)} {σ:St} {H:Hp} {s:Shared} {a:Addr} {y v:V} {u r:Value} {o:Option V} {A:Around} {E:Value->Shared->Prop}
end
section
variable {X:Cx} {pins:List (Addr×Obj)} {σ:St} {H:Hp} {s:Shared} {a:Addr} {kvs:List (Key×V)} {k:Key} {u:Value} {A:Around} {E:Value->Shared->Prop}
end
section
variable {X:Cx} {o i e value:Expr} {pos pos' tpos:Pos} {td ty tv:TE}
end
section
variable {X:Cx} {pos:Pos}
end
section
variable {X:Cx} {pins:List (Addr×Obj)} {σ:St} {H:Hp} {s:Shared} {a:Addr} {y d:V} {u r:Value} {o:Option V} {A:Around} {E:Value->Shared->Prop}
end
section
variable {X:Cx} {o e f:Expr} {apos cpos:Pos} {td ty tx:TE}
end
section
variable {X:Cx} {pins:List (Addr×Obj)} {σ:St} {H:Hp} {s:Shared} {a:Addr} {kvs:List (Key×V)} {A:Around} {E:Value->Shared->Prop}
end
section
variable {X:Cx} {pins:List (Addr×Obj)} {σ:St} {H:Hp} {s:Shared} {a:Addr} {y:V} {u:Value} {A:Around} {E:Value->Shared->Prop}
end
end L2
namespace Att
open PySem PySem.W PySem.Calls PyProof.Rows
theorem uF{P:Params}{h:Heap}:∀(ns:List Int) (vs:List Value),WellAll P h vs (ns.map WData.int)->IntsAre vs ns:=by
 intro ns;induction ns with
 |nil=>
  intro vs w;rw[List.map_nil]at w;cases w;exact .nil
 |cons n ns ih=>
  intro vs w;rw[List.map_cons]at w;cases w with
  |cons a b=>
   cases a;exact .cons _ _ (ih _ b)
theorem HZ{l:OpenLaw}{n:Nat}(hn:l.most=some n){P:Params}{h:Heap}{args:List WData}{vals:List Value}
  (hpre:l.row.toRowW.claim.pre args=true) (hwl:WellAll P h vals args):
  ∃a vs ns,vals=[Value.ref a]/\args=[WData.list (ns.map WData.int)]/\h.get? a=some { cls:= .type "list",data:= .seq vs.toArray }/\IntsAre vs ns/\ns.length<=n:=by
 have hsh:WShape.hasAll [] args [.list .int]=true:=(pre_splitW hpre).1;have hc:l.pre.holds [] { args:=args }=true:=(pre_splitW hpre).2;obtain⟨d,r,rfl,h1,h2⟩:=hasAllW_cons hsh;obtain rfl:=hasAllW_nil h2;obtain⟨xs,rfl,h3⟩:=hasW_list h1;obtain⟨ns,rfl⟩:=items_int h3;have hlen:ns.length<=n:=by
  unfold OpenLaw.pre at hc;have h4:(WTm.not (.lt (.lit (.int (n:Int))) (.len (.arg 0)))).holds [] { args:=[.list (ns.map .int)] }=true:=by
   have h4:=(holds_andW hc).1;rw[hn]at h4;exact h4
  have h5:=condW_of h4 (w_not (w_lt w_lit (w_len_list (w_arg rfl))));rw[List.length_map]at h5;refine Nat.le_of_not_lt fun q=>?_;have q':(n:Int)<((ns.length:Nat):Int):=by omega
  first
   |(rw[decide_eq_true q']at h5;exact absurd h5 (by decide))
   |(simp at h5;omega)
 cases hwl with
 |cons w1 w2=>
  cases w2;cases w1 with
  |list ho hall=>exact⟨_,_,ns,rfl,rfl,ho,uF ns _ hall,hlen⟩
theorem Gi(l:OpenLaw)(args:List WData):l.row.toRowW.claim.post args (.bool true) args=true:=
 postW_of (r:=l.row.toRowW) (X:=(true==true))
  (show WShape.has [] (.bool true) .bool=true by first|rfl|decide|simp[WShape.has,WShape.arms,WShape.armsAll])
  (show(WTm.eq .res (.lit (.bool true))).value [] { args:=args,res:=some (.bool true),after:=args }=some (.bool (true==true))from w_eq_bool (w_res rfl) w_lit) rfl
theorem AW{l:OpenLaw}{n:Nat}{q:Program}{loose:List Str}{XP:(Str->Option Value)->Heap->Prop}{YP:World->Heap->Prop}{d:DefRec}
  (hn:l.most=some n) (hdf:d.params.defaults=[])
  (call:∀(w:World) (s₀ s₁:Shared) (mg mb:Str->Option Value) (fa:Addr) (o:Obj) (pm cd doc:Value) (a:Addr) (vs:List Value) (ns:List Int),
   Ground q loose [] XP w s₀ mg mb s₁.heap->YP w s₁.heap->
   s₁.heap.get? fa=some o->o.data = .func (docDef d.name d.params d.body d.scope pm cd doc)->s₁.heap.CodeRec cd d.name->mg d.name=some (.ref fa)->
   s₁.heap.get? a=some { cls:= .type "list",data:= .seq vs.toArray }->IntsAre vs ns->ns.length<=n->s₁.gens=#[]->
   codeAny (model l.prog w) callerA (.call (.ref fa) ⟨[.ref a],[]⟩) (fun r s'=>r = .ok (.ret (.bool true))/\OldK s₁.heap s'.heap/\s'.os=s₁.os/\AllBare s'.gens) s₁):
  WalkO q loose XP YP l.row.toRowW d [] (fun f vs=>PySem.call f vs):=by
 intro w s₀ s₁ mg mb G Y fa o pm cd doc dV kV ho hd hcd hD hmg hg args vals as hpre hlay hrd hwl hlo;obtain rfl:dV = .none:=Dflts.none hD hdf;obtain rfl:kV = .none:=Dflts.noKw hD;obtain⟨a,vs,ns,rfl,rfl,hobj,hints,hlen⟩:=HZ hn hpre hwl;refine enter_call (codeAny_mono (call w s₀ s₁ mg mb fa o pm cd doc a vs ns G Y ho (fd_plain hd) hcd hmg hobj hints hlen hg) fun r s' hq=>?_);obtain⟨rfl,h2,h3,h4⟩:=hq;exact⟨.inl ⟨.bool true,.bool true,[],rfl,fun _=>rfl,.bool true,Gi l _,fun _=>⟨List.Pairwise.nil,fun _ hm=>(nomatch hm)⟩⟩,h2,h3,h4⟩
section
variable {prog:Program} {w:World} {A:Around} {E:Value->Shared->Prop} {s:Shared} {K:Frag}
end
end Att
namespace L2
open PySem PySem.Spec PyProof.Rows
theorem GQ{vs:List Value}{ns:List Int}(h:IntsAre vs ns):Vals (ns.map V.int) vs:=by
 induction h with
 |nil=>exact .nil
 |cons n t h ih=>exact .cons ⟨t,rfl⟩ ih
def Only(H:Hp):Prop:=∀b,H b=none∨∃o xs,H b=some (.frz o (.lst xs))
theorem J5{P:Program}{w:World}{K:W.Frag}{mg mb:Str->Option Value}{CX:CXT}{k:Nat}{fa a:Addr}{fd:FuncData}{x:Str}{sp:Sp}{s₁:Shared}{vs:List Value}{ns:List Int}
  (KX:K.In s₁.heap) (hns:s₁.heap.Ns mainGlobals mg) (hb:s₁.heap.Ns builtinsNs mb) (hbb:∀x:Str,x≠ "__name__" -> mb x=bootBuiltins x) (hlim:s₁.heap.NoLimit) (hdig:s₁.heap.NoDigits) (hg:s₁.gens=#[])
  (ha:s₁.heap.get? a=some { cls:= .type "list",data:= .seq vs.toArray }) (hi:IntsAre vs ns) (hl:ns.length<=sizeLine) (hr:mD k callerA)
  (F:∀base:Heap,K.In base->base.Ns mainGlobals mg->JC P w K mg base CX k fa fd [x] sp) (hbind:∀(s:Shared) (u:Value),BindsTo s fd ⟨[u],[]⟩ [(x,u)])
  (hsp:∀H:Hp,Only H->SqL K H a (ns.map V.int)->sp [.ref a] H (fun v _=>v = .bl true) fun _ _ _=>False)
  (hCX:∀H e s',CX [] H s₁ (fun _ _ _=>False) e s'->False):
  codeAny (model P w) callerA (.call (.ref fa) ⟨[.ref a],[]⟩) (fun r s'=>r = .ok (.ret (.bool true))/\OldK s₁.heap s'.heap/\s'.os=s₁.os/\AllBare s'.gens) s₁:=by
 have rv:=GQ hi;have lenV:=hi.length;have core:∀H:Hp,Only H->SqL K H a (ns.map V.int)->HOk P w H s₁.heap->(∀b,H b≠none->b=a)->(H a≠none->K.lookup a=none)->
   codeAny (model P w) callerA (.call (.ref fa) ⟨[.ref a],[]⟩) (fun r s'=>r = .ok (.ret (.bool true))/\OldK s₁.heap s'.heap/\s'.os=s₁.os/\AllBare s'.gens) s₁:=by
  intro H hO hS hok hA hK;have Fv:∀{b:Addr} {o:Obj},s₁.heap.get? b=some o->H b=none->(JL s₁.heap H).get? b=some o:=fun e n=>LZ e n;have noA:∀{b:Addr} {o:Obj} {es:Array DictEntry} {ep:Nat},s₁.heap.get? b=some o->o.data = .dict es ep->H b=none:=fun {b o es ep} e d=>by
   cases q:H b with
   |none=>rfl
   |some u=>
    have e':b=a:=hA b (by rw[q];simp);subst e';rw[ha]at e;cases e;have d':Data.seq vs.toArray _=Data.dict es ep:=d;cases d'
  have nsK:∀{b:Addr} {m:Str->Option Value},s₁.heap.Ns b m->(JL s₁.heap H).Ns b m:=fun {b m} ⟨o,es,ep,e,d,r⟩=>⟨o,es,ep,Fv e (noA e d),d,r⟩;have hKb:K.In (JL s₁.heap H):=fun b o e=>Fv (KX b o e) (by
   cases q:H b with
   |none=>rfl
   |some u=>
    have e':b=a:=hA b (by rw[q];simp);subst e';rw[hK (by rw[q];simp)]at e;cases e)
  have hM:Mod K mg (JL s₁.heap H):=⟨hKb,nsK hns,⟨mb,nsK hb,hbb⟩,let⟨mc,h1,h2⟩:=hlim;⟨mc,nsK h1,h2⟩,let⟨mc,h1,h2⟩:=hdig;⟨mc,nsK h1,h2⟩⟩;have e0:Vp P w K mg (JL s₁.heap H) callerA [] s₁ H:=⟨rfl,hM,fun b o e=>Qd e,Nat.le_of_eq (Gx _ _),trivial,fun b hb=>absurd (show b∈([]:List Addr)from hb) (by simp),hok,.of_eq hg⟩;refine codeAny_mono ((F _ hKb (nsK hns)).run callerA [] s₁ H ⟨[.ref a],[]⟩ [.ref a] [.ref a] _ _ hr e0 (hbind s₁ (.ref a)) (.cons rfl .nil) (hsp H hO hS)) fun r s' h=>?_;cases r with
  |error e=>exact(hCX H e s' h).elim
  |ok fl=>
   cases fl with
   |next=>exact False.elim h
   |brk=>exact False.elim h
   |cont=>exact False.elim h
   |ret u=>
    obtain⟨v,H',os,bare,un,hok',r',q⟩:=h;have q':v = .bl true:=q;subst q';obtain rfl:u=Value.bool true:=r';refine⟨rfl,OldK.of_keep fun b o e=>?_,os,bare⟩;cases q:H b with
    |none=>exact un.keep b o e q (by intro z;exact absurd (show b∈([]:List Addr)from z) (by simp)) (by simp)
    |some u=>
     rcases hO b with z|⟨ob,xs,z⟩
     ·rw[q]at z;cases z
     ·have z2:=un.Ag b ob _ z;obtain⟨e1,_⟩:=hok b _ z;obtain⟨e2,_⟩:=hok' b _ z2;rw[e]at e1;cases e1;exact e2
 cases hk:K.lookup a with
 |some o=>
  have e:=KX a o hk;rw[ha]at e;cases e;refine core (fun _=>none) (fun _=> .inl rfl) (.inr ⟨_,vs.toArray,_,hk,rfl,rfl,rfl,by rw[List.size_toArray,lenV];exact hl,by simpa using rv⟩) (fun b u z=>by have z':(none:Option HO)=some u:=z;cases z') (fun b z=>absurd rfl z) fun z=>absurd rfl z
 |none=>
  refine core (fun b=>if b=a then some (.frz { cls:= .type "list",data:= .seq vs.toArray } (.lst (ns.map V.int)))else none) (fun b=>?_) (.inl (.inr ⟨{ cls:= .type "list",data:= .seq vs.toArray },if_pos rfl⟩)) (fun b u z=>?_) (fun b z=>?_) fun _=>hk
  ·by_cases hb:b=a
   ·exact .inr ⟨_,_,if_pos hb⟩
   ·exact .inl (if_neg hb)
  ·by_cases hb:b=a
   ·have z':=(if_pos hb).symm.trans z;cases z';subst hb;exact⟨ha,by rw[List.length_map];exact hl,vs,_,rv,ha⟩
   ·have z':=(if_neg hb).symm.trans z;cases z'
  ·by_cases hb:b=a
   ·exact hb
   ·exact absurd (if_neg hb) z
theorem O7{l:W.OpenLaw}{n k:Nat}{q:Program}{loose:List Str}{XP:(Str->Option Value)->Heap->Prop}{YP:World->Heap->Prop}{d:DefRec}{K:Params->W.Frag}{CX:World->CXT}{sp:World->Sp}{x:Str}
  (hn:l.most=some n) (hn2:n<=sizeLine) (hdf:d.params.defaults=[]) (hr:mD k callerA)
  (hY:∀(w:World) (h:Heap),YP w h->(K w.params).In h)
  (F:∀(w:World) (mg:Str->Option Value) (fa:Addr) (h:Heap),(K w.params).In h->h.Ns mainGlobals mg->mg d.name=some (.ref fa)->
   ∃fd:FuncData,(∀(s:Shared) (u:Value),BindsTo s fd ⟨[u],[]⟩ [(x,u)])/\
    ∀base:Heap,(K w.params).In base->base.Ns mainGlobals mg->JC l.prog w (K w.params) mg base (CX w) k fa fd [x] (sp w))
  (hsp:∀(w:World) (H:Hp) (a:Addr) (ns:List Int),ns.length<=n->Only H->SqL (K w.params) H a (ns.map V.int)->sp w [.ref a] H (fun v _=>v = .bl true) fun _ _ _=>False)
  (hCX:∀(w:World) (H:Hp) (s:Shared) (e:Value) (s':Shared),CX w [] H s (fun _ _ _=>False) e s'->False):
  W.WalkO q loose XP YP l.row.toRowW d [] (fun f vs=>PySem.call f vs):=by
 refine Att.AW hn hdf fun w s₀ s₁ mg mb fa o pm cd doc a vs ns G Y ho hd hcd hmg hobj hints hlen hg=>?_;have KX:=hY w _ Y;obtain⟨fd,hb,hF⟩:=F w mg fa _ KX G.T.g hmg;exact J5 KX G.T.g G.T.b G.T.builtins G.T.nolimit G.T.nodigits hg hobj hints (Nat.le_trans hlen hn2) hr hF hb (fun H hO hS=>hsp w H a ns hlen hO hS) fun H e s'=>hCX w H s₁ e s'
def aC(s:Stmt):Arguments:=match s with
 |.FunctionDef _ a _ _ _ _ _ _ _ _=>a
 |_=>{ posonlyargs:=[],args:=[],vararg:=none,kwonlyargs:=[],kw_defaults:=[],kwarg:=none,defaults:=[] }
def aA(s:Stmt):List Stmt:=match s with
 |.FunctionDef _ _ b _ _ _ _ _ _ _=>b
 |_=>[]
def aj(s:Stmt):Scope:=match s with
 |.FunctionDef _ _ _ _ _ _ sc _ _ _=>sc
 |_=>{ kind:= .function,names:=[],isGenerator:=false,isCoroutine:=false }
abbrev E0:XK:=fun _ _ _=>False
structure Fun(K:W.Frag)(x qual:Str)(st:Stmt)(f:Addr)(fd:FuncData):Prop where
 ex:∃(oc:Value) (od:Option Addr) (kV doc pm:Value) (an:Option Addr) (cdv ct:Value) (osl:Array (Option Value)),
  fd=W.fnOf x qual (aC st) (aA st) (aj st) .none kV doc pm an cdv ct/\K.lookup f=some ⟨oc,od,.func fd,osl⟩/\W.codeIn K cdv qual=true
 kp:W.keepIn K (.ref f)=true
section
variable {P:Program} {w:World} {K:W.Frag} {mg:Str->Option Value} {base:Heap}
theorem Fun.binds{x qual:Str}{st:Stmt}{f:Addr}{fd:FuncData}{ps:List Str}(F:Fun K x qual st f fd)
  (h:∀(kV doc pm:Value) (an:Option Addr) (cdv ct:Value) (us:List Value),us.length=ps.length->bindArgs (W.fnOf x qual (aC st) (aA st) (aj st) .none kV doc pm an cdv ct) ⟨us,[]⟩=pure (ps.zip us)):Binds K fd ps []:=by
 obtain⟨oc,od,kV,doc,pm,an,cdv,ct,osl,rfl,lk,hcd⟩:=F.ex;exact .all (h kV doc pm an cdv ct)
theorem Nb{x qual:Str}{st:Stmt}{f:Addr}{oc:Value}{od an:Option Addr}{osl:Array (Option Value)}{kV doc pm cdv ct:Value}(l:K.lookup f=some ⟨oc,od,.func (W.fnOf x qual (aC st) (aA st) (aj st) .none kV doc pm an cdv ct),osl⟩)
  (c:W.codeIn K cdv qual=true) (k:W.keepIn K (.ref f)=true):Fun K x qual st f (W.fnOf x qual (aC st) (aA st) (aj st) .none kV doc pm an cdv ct):=⟨⟨oc,od,kV,doc,pm,an,cdv,ct,osl,rfl,l,c⟩,k⟩
end
theorem bU{n:Nat}(h:n<=1000):n<sizeLine:=Nat.lt_of_le_of_lt h (by decide)
section
variable {X:Cx}
theorem pv(i:Nat){x:Str}{pos:Pos}(hN:X.N[i]?=some x:=by rfl)(hv:Vis X.env.scope x:=by first|exact Or.inl rfl|exact Or.inr (Or.inl rfl)|exact Or.inr (Or.inr rfl))(hd:(x==("__debug__" : Str))=false:=by decide)
  (hcd:(x==("__classdict__" : Str))=false:=by decide):PE X (.Name x pos) (abX i):=Ui hN hv hd hcd
end
theorem tW{A B:Prop}(h:B):if false=true then A else B:=by
 rw[if_neg Bool.false_ne_true];exact h
theorem QJ{A B:Prop}(h:A):if true=true then A else B:=by
 rw[if_pos rfl];exact h
theorem ni{c A B:Prop}[Decidable c](h1:c->A)(h2:¬c->B):if c then A else B:=by
 by_cases h:c
 ·rw[if_pos h];exact h1 h
 ·rw[if_neg h];exact h2 h
def Same(H H':Hp):Prop:=∀b o,H b=some o->H' b=some o
theorem Same.refl(H:Hp):Same H H:=fun _ _ h=>h
theorem Same.trans{H H1 H2:Hp}(a:Same H H1)(b:Same H1 H2):Same H H2:=fun c o h=>b c o (a c o h)
theorem Same.free{H H':Hp}(e:Same H H'){l:Addr}(h:H' l=Option.none):H l=Option.none:=by
 cases q:H l with
 |none=>rfl
 |some o=>
  rw[e l o q]at h;cases h
theorem Same.seq{K:W.Frag}{H H':Hp}{a:Addr}{xs:List V}(e:Same H H')(h:SqL K H a xs):SqL K H' a xs:=by
 rcases h with(h|⟨o,h⟩)|h
 ·exact .inl (.inl (e _ _ h))
 ·exact .inl (.inr ⟨o,e _ _ h⟩)
 ·exact .inr h
section
variable {κ:Type} [DecidableEq κ]
end
theorem us0{us:List Value}(h:us.length=0):us=[]:=List.eq_nil_of_length_eq_zero h
theorem usS{us:List Value}{n:Nat}(h:us.length=n+1):∃a r,us=a::r/\r.length=n:=by
 cases us with
 |nil=>cases h
 |cons a r=>exact⟨a,r,rfl,Nat.succ.inj h⟩
theorem us1{us:List Value}(h:us.length=1):∃a,us=[a]:=by
 obtain⟨a,r,rfl,k⟩:=usS h;obtain rfl:=us0 k;exact⟨a,rfl⟩
theorem us2{us:List Value}(h:us.length=2):∃a b,us=[a,b]:=by
 obtain⟨a,r,rfl,k⟩:=usS h;obtain⟨b,rfl⟩:=us1 k;exact⟨a,b,rfl⟩
theorem us3{us:List Value}(h:us.length=3):∃a b c,us=[a,b,c]:=by
 obtain⟨a,r,rfl,k⟩:=usS h;obtain⟨b,c,rfl⟩:=us2 k;exact⟨a,b,c,rfl⟩
theorem us4{us:List Value}(h:us.length=4):∃a b c d,us=[a,b,c,d]:=by
 obtain⟨a,r,rfl,k⟩:=usS h;obtain⟨b,c,d,rfl⟩:=us3 k;exact⟨a,b,c,d,rfl⟩
structure tD(P:Program)(w:World)(outer:List Env)(H:Hp)(s:Shared)(E:XK)(e:Value)(s':Shared):Prop where
 ex:∃(ea C:Addr) (a0:Value) (B:Heap) (H':Hp),e = .ref ea/\s'.os=s.os/\AllBare s'.gens/\Heap.FlyingW B outer ea (.ref C) a0 s'.heap/\HOk P w H' B/\Un (frs outer) [] H H' s.heap s'.heap/\
  (∀b o,s.heap.get? b=some o->b∈frs outer∨∃o',B.get? b=some o')/\E (.ref C) none H'
theorem vK{P:Program}{w:World}{outer:List Env}{H:Hp}{s s':Shared}{e:Value}(h:tD P w outer H s E0 e s'):False:=by
 obtain⟨_,_,_,_,_,_,_,_,_,_,_,_,q⟩:=h.ex;exact q
theorem MG{X:Cx}:Passes (tD X.prog X.w) X E0:=fun _ _ _ _ _ _ _ h=>(vK h).elim
section
variable {X:Cx} {pins:List (Addr×Obj)} {σ:St} {H:Hp} {s:Shared}
theorem Inv.Fx(I:Inv X pins σ H s){b:Addr}{o:Obj}(e:X.s₀.heap.get? b=some o)(hb:b∉X.fs):b∉frs X.stack:=fun z=>by
 rcases List.mem_cons.mp (I.Dg b z)with q|q
 ·exact absurd (Nat.lt_of_lt_of_le (Heap.lt_size e) I.ok.above) (by rw[<-q];exact Nat.lt_irrefl _)
 ·exact hb q
theorem xM(I:Inv X pins σ H s){b:Addr}{o:Obj}(e:s.heap.get? b=some o)(hb:b∉frs X.stack):(W.hideAll s.heap (frs X.stack)).get? b=some o:=W.hideAll_get _ e hb
theorem Inv.Rz(I:Inv X pins σ H s):HOk X.prog X.w H (W.hideAll s.heap (frs X.stack)):=fun b o e=>
 (I.hok b o e).stay (fun c u hc q=>xM I q fun z=>by
  have n:=I.Bq c z;rcases hc with rfl|hc
  ·rw[n]at e;cases e
  ·rw[n]at hc;cases hc) (fun _ q=>q) fun _ _ q=>q
theorem Inv.abN(I:Inv X pins σ H s)(hex:X.ex=[]){H':Hp}{h':Heap}(keep:∀b o,s.heap.get? b=some o->H b=none->b∉frs X.stack->h'.get? b=some o)
  (slot:∀b o,s.heap.get? b=some o->H b=none->b∈X.fs->∃sl,h'.get? b=some { o with slots:=sl }) (free:∀b o,s.heap.get? b=some o->H b=none->H' b=none) (there:∀b o,s.heap.get? b=some o->∃o',h'.get? b=some o')
  (tups:∀b xs,H b=some (.tup xs)->H' b=some (.tup xs)) (Ag:∀b o u,H b=some (.frz o u)->H' b=some (.frz o u)) (BZ:∀b ps,H b=some (.tbl ps)->∃more,H' b=some (.tbl (ps++more))):
  Un (frs X.outer) [] X.H₀ H' X.s₀.heap h':=by
 have nx:∀b:Addr,b∉X.ex:=fun b=>by rw[hex];simp
 refine⟨fun b o e n hb _=>?_,fun b o e n hb _=>?_,fun b o e n _=>?_,fun b o e _=>?_,fun b xs e=>tups b xs (I.base.tups b xs e),fun b o u e=>Ag b o u (I.base.Ag b o u e),fun b ps e=>?_⟩
 ·exact keep b o (I.base.keep b o e n hb (nx b)) (I.base.free b o e n (nx b)) (I.Fx e hb)
 ·obtain⟨sl,e1⟩:=I.base.slot b o e n hb (nx b);obtain⟨sl',e2⟩:=slot b _ e1 (I.base.free b o e n (nx b)) hb;exact⟨sl',e2⟩
 ·obtain⟨o',e1⟩:=I.base.there b o e (nx b);exact free b o' e1 (I.base.free b o e n (nx b))
 ·obtain⟨o',e1⟩:=I.base.there b o e (nx b);exact there b o' e1
 ·obtain⟨m1,e1⟩:=I.base.BZ b ps e;obtain⟨m2,e2⟩:=BZ b _ e1;exact⟨m1++m2,by rw[e2,Array.append_assoc]⟩
end
abbrev cxF(P:Program)(w:World)(K:W.Frag)(mg:Str->Option Value)(base:Heap)(N:List Str)(qual:Str)(scope:Scope)(f:Addr)(cdv:Value)(A:Around)(outer:List Env)(s:Shared)(H:Hp)(E:XK):Cx:=
 Rf (tD P w) P w K mg base N qual scope f cdv A outer s H E
section
variable {P:Program} {w:World} {K:W.Frag} {mg:Str->Option Value} {base:Heap} {N:List Str} {qual:Str} {scope:Scope} {f:Addr} {cdv:Value} {A:Around} {outer:List Env} {s₀:Shared} {H₀:Hp} {E:XK}
theorem BJ{pins:List (Addr×Obj)}{σ:St}{H:Hp}{s:Shared}{h1:Heap}{e C:Addr}{vs:List Value}(I:Inv (cxF P w K mg base N qual scope f cdv A outer s₀ H₀ E) pins σ H s)(hx:Heap.MadeExcOf s.heap h1 e (.ref C) vs)(q:E (.ref C) none H):
  (cxF P w K mg base N qual scope f cdv A outer s₀ H₀ E).xe (.ref e) { s with heap:=h1 }:=by
 have hin:∀env∈envOfC qual scope s₀.heap.objs.size f cdv::outer,∀a,env.frame=some a->a∈frs (envOfC qual scope s₀.heap.objs.size f cdv::outer):=fun env he a ha=>List.mem_filterMap.mpr ⟨env,he,ha⟩;refine wpAny_leaves_madeW (base:=W.hideAll s.heap (frs (envOfC qual scope s₀.heap.objs.size f cdv::outer))) (h:=s.heap) (L:=s₀.heap.objs.size) I.ok.frames rfl (fun b o q=>W.of_hideAll _ q) (W.funFrames_hide I.stack hin) hx fun h' t x1 x2 x3 x4=>?_;have up:∀b o,s.heap.get? b=some o->b∈frs (envOfC qual scope s₀.heap.objs.size f cdv::outer)->∃sl,h'.get? b=some { o with slots:=sl }:=fun b o e hb=>by
  obtain⟨_,o',ho',hd⟩:=I.stack.mem hb;rw[e]at ho';cases ho';exact x4 b o (hx.keeps b o e) hd
 refine⟨e,C,.ref t,_,H,rfl,I.os,I.bare,x1,I.Rz,I.abN rfl (fun b o e _ hb=>x1.1 b o (xM I e hb)) (fun b o e _ hb=>up b o e (List.mem_cons_of_mem _ hb)) (fun _ _ _ n=>n) (fun b o e=>?_) (fun _ _ z=>z) (fun _ _ _ z=>z) (fun b ps z=>⟨#[],by rw[z];simp⟩),fun b o e=>?_,q⟩
 ·by_cases hb:b∈frs (envOfC qual scope s₀.heap.objs.size f cdv::outer)
  ·obtain⟨sl,z⟩:=up b o e hb;exact⟨_,z⟩
  ·exact⟨o,x1.1 b o (xM I e hb)⟩
 ·by_cases hb:b∈frs outer
  ·exact .inl hb
  ·obtain⟨o',e1⟩:=I.base.there b o e (by intro z;cases z);exact .inr ⟨o',xM I e1 (I.Fx e hb)⟩
theorem N5:Passes (tD P w) (cxF P w K mg base N qual scope f cdv A outer s₀ H₀ E) E:=by
 intro pins σ H s e s' I h;obtain⟨ea,C,a0,B,H',rfl,os,bare,fl,hok,un,old,q⟩:=h.ex;refine wpAny_leaves_onW (L:=s₀.heap.objs.size) I.ok.frames rfl fl fun h' x1 x2=>?_;have inB:∀b o,s.heap.get? b=some o->b∉frs (envOfC qual scope s₀.heap.objs.size f cdv::outer)->∃o',B.get? b=some o'/\s'.heap.get? b=some o':=fun b o e hb=>by
  rcases old b o e with z|⟨o',z⟩
  ·exact absurd z hb
  ·exact⟨o',z,fl.1 b o' z⟩
 have up:∀b o,s'.heap.get? b=some o->b∈frs (envOfC qual scope s₀.heap.objs.size f cdv::outer)->∃sl,h'.get? b=some { o with slots:=sl }:=fun b o e hb=>by
  obtain⟨_,o',ho',hd⟩:=fl.2.2.1.mem hb;rw[e]at ho';cases ho';exact x2 b o e hd
 refine⟨ea,C,a0,B,H',rfl,os.trans I.os,bare,x1,hok,I.abN rfl (fun b o e n hb=>?_) (fun b o e n hb=>?_) (fun b o e n=>un.free b o e n (by simp)) (fun b o e=>?_) un.tups un.Ag un.BZ,fun b o e=>?_,q⟩
 ·obtain⟨o',e1,e2⟩:=inB b o e hb;have e3:=un.keep b o e n hb (by simp);rw[e2]at e3;cases e3;exact x1.1 b _ e1
 ·obtain⟨sl,e1⟩:=un.slot b o e n (List.mem_cons_of_mem _ hb) (by simp);obtain⟨sl',e2⟩:=up b _ e1 (List.mem_cons_of_mem _ hb);exact⟨sl',e2⟩
 ·by_cases hb:b∈frs (envOfC qual scope s₀.heap.objs.size f cdv::outer)
  ·obtain⟨o',e1⟩:=un.there b o e (by simp);obtain⟨sl,e2⟩:=up b o' e1 hb;exact⟨_,e2⟩
  ·obtain⟨o',e1,_⟩:=inB b o e hb;exact⟨o',x1.1 b o' e1⟩
 ·by_cases hb:b∈frs outer
  ·exact .inl hb
  ·obtain⟨o',e1⟩:=I.base.there b o e (by intro z;cases z);obtain⟨o2,e2,_⟩:=inB b o' e1 (I.Fx e hb);exact .inr ⟨o2,e2⟩
end
def Tf(C:Addr)(E:XK)(t:TA):TS:=fun _ σ H=>t σ H fun vs H1=>vs.length<=sizeLine/\E (.ref C) none H1
structure ExC(mg:Str->Option Value)(base:Heap)(x:Str)(C:Addr):Prop where
 ex:∃bm newId,OwnCls x C bm newId mg base/\∃(Bn inN:String) (bmN:List Value) (B nid initId:String),ExcBaseFacts Bn newId inN bmN/\bm.contains (.type Bn)=true/\ExcBaseFacts B nid initId bm
theorem Cw{P:Program}{w:World}{K:W.Frag}{mg:Str->Option Value}{base:Heap}{N:List Str}{qual:Str}{scope:Scope}{f:Addr}{cdv:Value}{A:Around}{outer:List Env}{s₀:Shared}{H₀:Hp}{E:XK}
  {x:Str} {C:Addr} {np cpos pos:Pos} {e:Expr} {es:List Expr} {t:TA} (O:ExC mg base x C) (hg:Gl (cxF P w K mg base N qual scope f cdv A outer s₀ H₀ E) x) (ha:PA (cxF P w K mg base N qual scope f cdv A outer s₀ H₀ E) (e::es) t)
  (hdb:(x==("__debug__" : Str))=false:=by decide)
  (he:starEach (e::es) (cxF P w K mg base N qual scope f cdv A outer s₀ H₀ E).env=(false,eval e (cxF P w K mg base N qual scope f cdv A outer s₀ H₀ E).env)::starEach es (cxF P w K mg base N qual scope f cdv A outer s₀ H₀ E).env:=by rfl)
  (hpl:(backTo cpos (starEach es (cxF P w K mg base N qual scope f cdv A outer s₀ H₀ E).env)).any (·.1)=false:=by rfl):
  PS (cxF P w K mg base N qual scope f cdv A outer s₀ H₀ E) (.Raise (some (.Call (.Name x np) (e::es) [] cpos)) none pos) (Tf C E t):=by
 intro pins s σ H D I h;obtain⟨bm,newId,O,Bn,inN,bmN,B,nid,initId,Fn,hBn,FB⟩:=O.ex;obtain⟨tl,Nn,nm,q,bs,hdct,sn,sub,ab,col,dd,k0,k1,k2,k3,k5,mN,hC,hN,hni,T⟩:=O.obj;refine wpAny_Raise_call_subU (C:=C) (nm:=nm) (q:=q) (N:=Nn) (bs:=bs) (bm:=tl) (hdct:=hdct) (sn:=sn) (sub:=sub) (ab:=ab) (col:=col) (dd:=dd) (k0:=k0) (k1:=k1) (k2:=k2) (k3:=k3) (k5:=k5)
  Fn hBn FB (mN:=mN) (T.hasType FB.hasBase) (I.ok.hd rfl) (by rw[he];show(false||(backTo cpos (starEach es (cxF P w K mg base N qual scope f cdv A outer s₀ H₀ E).env)).any (·.1))=false;rw[hpl];rfl) hni (uG I hg O.bound ⟨rfl,?_⟩ hdb)
 have h2:=ha cpos pins s σ H _ I h;rw[he]at h2⊢;refine Calls.evalArgs_plain (wpAny_mono h2 (fun us s2 ⟨vs,H2,I2,r,z,q⟩=>⟨rfl,by rw[<-r.length];exact z,I2.bk _ _ hC,hN.keeps I2.bk,T.keeps I2.bk,fun h' e hm=>BJ I2 hm q⟩) fun _ _ y=>y)
theorem Fun.okF{P:Program}{w:World}{K:W.Frag}{mg:Str->Option Value}{base:Heap}{x qual:Str}{st:Stmt}{f:Addr}{fd:FuncData}{N ps:List Str}{k:Nat}{sp:Sp}(F:Fun K x qual st f fd)(S:aN N ps (aj st))(len:∀vs H Q E,sp vs H Q E->vs.length=ps.length)
  (hbody:∀(cdv:Value) (A:Around) (outer:List Env) (s:Shared) (H:Hp) (vs:List V) (Q:VK) (E:XK),mD k (A.deeper (envOfC qual (aj st) s.heap.objs.size f cdv))->sp vs H Q E->
   ∃t,PSs (cxF P w K mg base N qual (aj st) f cdv A outer s H E) (aA st) t/\t { nx:=fun _ H'=>Q .non H',rt:=Q } (start N vs) H):JC P w K mg base (tD P w) (k+1) f fd ps sp:=by
 obtain⟨oc,od,kV,doc,pm,an,cdv,ct,osl,rfl,lk,hcd⟩:=F.ex;exact Yq lk hcd S len fun A outer s H vs Q E hr hsp=>hbody cdv A outer s H vs Q E hr hsp
theorem Fun.okN{P:Program}{w:World}{K:W.Frag}{mg:Str->Option Value}{base:Heap}{x qual:Str}{st:Stmt}{f:Addr}{fd:FuncData}{N ps:List Str}{k:Nat}{sp:Sp}(F:Fun K x qual st f fd)(S:aN N ps (aj st))(len:∀vs H Q E,sp vs H Q E->vs.length=ps.length)
  (hbody:∀(cdv:Value) (A:Around) (outer:List Env) (s:Shared) (H:Hp) (vs:List V) (Q:VK) (E:XK),mD k (A.deeper (envOfC qual (aj st) s.heap.objs.size f cdv))->sp vs H Q E->
   ∃t,PSs (cxF P w K mg base N qual (aj st) f cdv A outer s H E).nox (aA st) t/\t { nx:=fun _ H'=>Q .non H',rt:=Q } (start N vs) H):JC P w K mg base (tD P w) (k+1) f fd ps sp:=
 F.okF S len fun cdv A outer s H vs Q E hr h=>let⟨t,a,b⟩:=hbody cdv A outer s H vs Q E hr h;⟨t,a.nox,b⟩
section
variable {X:Cx}
theorem OpR.imp{f:Value->Value->Sem Value}{r r':R2}(h:OpR X f r)(i:∀x y H Q,r' x y H Q->r x y H Q):OpR X f r':=fun pins s σ H x y v u Q I rx ry q=>h pins s σ H x y v u Q I rx ry (i _ _ _ _ q)
theorem IxR.imp{r r':R2}(h:IxR X r)(i:∀x y H Q,r' x y H Q->r x y H Q):IxR X r':=fun value slice pins s σ H x y v u Q I rx ry q hs=>h value slice pins s σ H x y v u Q I rx ry (i _ _ _ _ q) hs
theorem pF{x:Str}{i:Int}{pos:Pos}(hg:Gl X x)(hm:∃t,X.mg x=some (.int i t))(hd:(x==("__debug__" : Str))=false:=by decide):PE X (.Name x pos) (tC (.int i)):=by
 obtain⟨t,e⟩:=hm;exact Ar hg e ⟨t,rfl⟩ hd
structure Cal(P:Program)(w:World)(K:W.Frag)(mg:Str->Option Value)(base:Heap)(x:Str)(k:Nat)(ps:List Str)(sp:Sp):Prop where
 ex:∃(g:Addr) (gd:FuncData),mg x=some (.ref g)/\W.keepIn K (.ref g)=true/\Binds K gd ps []/\JC P w K mg base (tD P w) k g gd ps sp
theorem aq{x:Str}{k k':Nat}{ps:List Str}{sp:Sp}{p pos:Pos}{e:Expr}{es:List Expr}{t:TA}(C:Cal X.prog X.w X.K X.mg X.base x k ps sp)(hr:mD k' X.A)(hg:Gl X x)(ha:PA X (e::es) t)
  (hk:k<=k':=by decide) (hd:(x==("__debug__" : Str))=false:=by decide)
  (he:starEach (e::es) X.env=(false,eval e X.env)::starEach es X.env:=by rfl) (hpl:(backTo pos (starEach es X.env)).any (·.1)=false:=by rfl):PE X (.Call (.Name x p) (e::es) [] pos) (Pz sp [] E0 t):=by
 obtain⟨g,gd,hm,hkp,hb,F⟩:=C.ex;exact Hv F (hr.mono hk) hg hm hkp hb .nil MG ha hd he hpl
theorem ju{P:Program}{w:World}{K:W.Frag}{mg:Str->Option Value}{base:Heap}{N:List Str}{qual:Str}{scope:Scope}{f:Addr}{cdv:Value}{A:Around}{outer:List Env}{s₀:Shared}{H₀:Hp}{E:XK}
  {x:Str} {k k':Nat} {ps:List Str} {sp:Sp} {p pos:Pos} {e:Expr} {es:List Expr} {t:TA} (C:Cal P w K mg base x k ps sp) (hr:mD k' (cxF P w K mg base N qual scope f cdv A outer s₀ H₀ E).A) (hg:Gl (cxF P w K mg base N qual scope f cdv A outer s₀ H₀ E) x)
  (ha:PA (cxF P w K mg base N qual scope f cdv A outer s₀ H₀ E) (e::es) t) (hk:k<=k':=by decide) (hd:(x==("__debug__" : Str))=false:=by decide)
  (he:starEach (e::es) (cxF P w K mg base N qual scope f cdv A outer s₀ H₀ E).env=(false,eval e (cxF P w K mg base N qual scope f cdv A outer s₀ H₀ E).env)::starEach es (cxF P w K mg base N qual scope f cdv A outer s₀ H₀ E).env:=by rfl)
  (hpl:(backTo pos (starEach es (cxF P w K mg base N qual scope f cdv A outer s₀ H₀ E).env)).any (·.1)=false:=by rfl):
  PE (cxF P w K mg base N qual scope f cdv A outer s₀ H₀ E) (.Call (.Name x p) (e::es) [] pos) (Pz sp [] E t):=by
 obtain⟨g,gd,hm,hkp,hb,F⟩:=C.ex;exact Hv (X:=cxF P w K mg base N qual scope f cdv A outer s₀ H₀ E) F (hr.mono hk) hg hm hkp hb .nil N5 ha hd he hpl
theorem Ko{prog:Program}{w:World}{A:Around}{E:Value->Shared->Prop}{s:Shared}{t b:Addr}{vs ws:List Value}{Q:Value->Shared->Prop}(ht:IsTup s.heap t vs.toArray)(hb:IsTup s.heap b ws.toArray)(hv:vs=[])
  (h1:Q (.ref b) s):wpAny (model prog w) A (binaryOp .Add (.ref t) (.ref b)) Q E s:=by
 obtain⟨⟨cls,dd,data,sl⟩,ho,hc,n,hd⟩:=id ht;obtain⟨⟨cls2,dd2,data2,sl2⟩,ho2,hc2,n2,hd2⟩:=id hb;simp only at hc hd hc2 hd2;subst hc hd hc2 hd2;exact concat_meets ⟨_,ho,rfl⟩ ⟨_,ho2,rfl⟩ noFill_tuple_add seq_tuple_add PySem.F.slot_tuple_add PySem.F.entry_tuple_add (PySem.F.args_tuple_add_2 _ _)
   (tuple_addW0 t b vs.toArray ws.toArray n n2 dd dd2 sl sl2 (by simp[hv])) ⟨ho,ho2,h1⟩
def VQ(K:W.Frag):R2:=fun x y H Q=>∃a b ys,x = .ref a/\y = .ref b/\SqT K H a []/\SqT K H b ys/\Q (.ref b) H
theorem Nz:OpR X (binaryOp .Add) (VQ X.K):=by
 intro pins s σ H x y v u Q I rx ry h;obtain⟨a,b,ys,rfl,rfl,ha,hb,q⟩:=h;cases rx;cases ry;obtain⟨its,r1,p1,_⟩:=I.tuple ha;obtain⟨its2,r2,p2,_⟩:=I.tuple hb;exact Ko p1 p2 (r1.xW.mpr rfl) ⟨.ref b,H,I,rfl,q⟩
def Ku(K:W.Frag):R2:=fun x y H Q=>match x,y with
 |.int i,.int j=>Q (.int (i+j)) H
 |.str i,.str j=>i.length+j.length<=sizeLine/\Q (.str (i++j)) H
 |.ref a,.ref b=>(∃xs ys,H a=some (.lst xs)/\H b=some (.lst ys)/\xs.length+ys.length<=sizeLine/\∀p,H p=none->Q (.ref p) (upd H p (.lst (xs++ys))))∨
   (∃xs ys,SqT K H a xs/\SqT K H b ys/\xs.length+ys.length<=sizeLine/\(xs=[]->Q (.ref b) H)/\(xs≠[]->ys=[]->Q (.ref a) H)/\(xs≠[]->ys≠[]->∀p,H p=none->Q (.ref p) (upd H p (.tup (xs++ys)))))
 |_,_=>False
theorem v_add:OpR X (binaryOp .Add) (Ku X.K):=by
 refine((RV.or Ea).or (Tc.or (Qy.or Nz))).imp fun x y H Q h=>?_;unfold Ku at h;split at h
 ·exact .inl (.inl ⟨_,_,rfl,rfl,h⟩)
 ·exact .inl (.inr ⟨_,_,rfl,rfl,h⟩)
 ·rcases h with⟨xs,ys,h1,h2,h3,h4⟩|⟨xs,ys,h1,h2,h3,h4,h5,h6⟩
  ·exact .inr (.inl ⟨_,_,xs,ys,rfl,rfl,h1,h2,h3,h4⟩)
  ·by_cases hx:xs=[]
   ·subst hx;exact .inr (.inr (.inr ⟨_,_,ys,rfl,rfl,h1,h2,h4 rfl⟩))
   ·exact .inr (.inr (.inl ⟨_,_,xs,ys,rfl,rfl,h1,h2,hx,h3,h5 hx,h6 hx⟩))
 ·exact h.elim
def Tp:R2:=fun x y H Q=>match x,y with
 |.int i,.int j=>IntMulOk i j/\Q (.int (i*j)) H
 |.ref l,.int k=>∃xs,H l=some (.lst xs)/\-(2^63)<=k/\k<2^63/\xs.length*k.toNat<=sizeLine/\∀p,H p=none->Q (.ref p) (upd H p (.lst (List.replicate k.toNat xs).flatten))
 |_,_=>False
theorem Oa:OpR X (binaryOp .Mult) (rI IntMulOk fun i j=> .int (i*j)):=opI fun _ _ _ _ _ _ _ hc q=>mul_int q hc
theorem v_mul:OpR X (binaryOp .Mult) Tp:=by
 refine(Oa.or R7).imp fun x y H Q h=>?_;unfold Tp at h;split at h
 ·exact .inl ⟨_,_,rfl,rfl,h.1,h.2⟩
 ·obtain⟨xs,h1,h2,h3,h4,h5⟩:=h;exact .inr ⟨_,_,xs,rfl,rfl,h1,h2,h3,h4,h5⟩
 ·exact h.elim
inductive SIx(K:W.Frag)(p:Addr)(i:Int)(H:Hp)(Q:VK):Prop|mk (xs:List V) (v:V) (hs:SqL K H p xs∨SqT K H p xs) (ha:atI xs i=some v) (q:Q v H)
def aaB(K:W.Frag):R2:=fun x y H Q=>match x,y with
 |.ref p,.int i=>SIx K p i H Q
 |.str z,.int i=>∃c,z.length<=sizeLine/\atI z.cps.toList i=some c/\Q (.str ⟨#[c]⟩) H
 |_,_=>False
theorem ady:IxR X (aaB X.K):=by
 refine UW.imp fun x y H Q h=>?_;unfold aaB at h;split at h
 ·obtain⟨xs,v,h1|h1,h2,h3⟩:=h
  ·exact .inl ⟨_,xs,_,v,rfl,rfl,h1,h2,h3⟩
  ·exact .inr (.inl ⟨_,xs,_,v,rfl,rfl,h1,h2,h3⟩)
 ·obtain⟨c,h1,h2,h3⟩:=h;exact .inr (.inr ⟨_,_,c,rfl,rfl,h1,h2,h3⟩)
 ·exact h.elim
def ad9(H:Hp):V->Option String
 |.non=>some "NoneType"
 |.bl _=>some "bool"
 |.int _=>some "int"
 |.str _=>some "str"
 |.ref a=>match H a with
  |some (.lst _)=>some "list"
  |some (.frz _ (.lst _))=>some "list"
  |some (.tup _)=>some "tuple"
  |some (.dK _)=>some "dict"
  |_=>none
 |_=>none
theorem v_sum(hc:X.calm=true):oB X (.builtin "sum") (fun xs H Q=>∃(l:Addr) (ns:List Int),xs=[.ref l]/\SqL X.K H l (ns.map V.int)/\Q (.int ns.sum) H):=by
 intro pins s σ H xs us Q I r h;obtain⟨l,ns,rfl,hl,q⟩:=h;obtain⟨u,rfl,ru⟩:=r.one;cases ru;obtain⟨its,rv,pl,hz⟩:=I.list hl;have hi:=intsAre_of rv;obtain⟨xs,hx⟩:=hi.allInts.items;have hl':s.heap.IsList l (intItems xs):=hx▸pl.isList;refine sum_intListG (I.ok.hd hc) hl' fun h' tk t' hk=>?_;have e1:ns=xs.toList.map (·.1):=by
  rw[<-nums_intItems,<-hx];exact(show numsOf its.toArray.toList=ns from hi.numsOf).symm
 have e2:preSum (numAt xs) xs.size=ns.sum:=by
  rw[preSum_eq,List.take_of_length_le (by simp),e1]
 rw[e2];exact⟨.int _,H,I.kept hk,⟨_,rfl⟩,q⟩
def acp(K:W.Frag)(tl:TE):TI:=fun σ H R=>tl σ H fun x H1=>∃a,x = .ref a/\(((∃xs,SqL K H1 a xs)/\R (Itl K a) H1)∨((∃xs,SqT K H1 a xs)/\R (Itt K a) H1))
theorem Vi{tg l:Expr}{tl:TE}(hl:PE X l tl):PI X tg l (acp X.K tl):=by
 intro pins s σ H R I h;refine thn (hl pins s σ H _ I h) fun v s1 ⟨x,H1,I1,r1,a,e,q⟩=>?_;subst e;cases r1;rcases q with⟨⟨xs,hq⟩,q⟩|⟨⟨xs,hq⟩,q⟩
 ·have hh:PI X tg l (Yl X.K fun σ' H' Q=>Q (.ref a) H')->True:=fun _=>trivial;obtain⟨its,rv,p,hz⟩:=I1.list hq;refine wpAny_pyIter_list p.isList ?_;refine⟨s1.heap.objs.size,[s1.heap.objs.size],_,_,H1,rfl,I1.kept (t':=s1.toks) fun b o e=>Heap.get?_push_of_some _ e,Jh a _,⟨_,Heap.get?_push_size _ rfl,rfl,rfl⟩,fun b hb=>?_,q⟩;have e:b=s1.heap.objs.size:=by simpa using hb
  subst e;exact I1.Od (Nat.le_refl _) (I1.hok.fresh (Nat.le_refl _))
 ·obtain⟨its,rv,p,hz⟩:=I1.tuple hq;refine wpAny_pyIter_tuple (show s1.heap.IsTuple a its.toArray from p) ?_;refine⟨s1.heap.objs.size,[s1.heap.objs.size],_,_,H1,rfl,I1.kept (t':=s1.toks) fun b o e=>Heap.get?_push_of_some _ e,Ep a _,⟨_,Heap.get?_push_size _ rfl,rfl,rfl⟩,fun b hb=>?_,q⟩;have e:b=s1.heap.objs.size:=by simpa using hb
  subst e;exact I1.Od (Nat.le_refl _) (I1.hok.fresh (Nat.le_refl _))
end
theorem qM{env:Env}:∀(names:List (Str×NameKind)) (acc:List (Str×Addr)),(∀y∈names,y.2 = .free->∃c,env.cells.lookup y.1=some c)->(∀p∈acc,env.cells.lookup p.1=some p.2)->
 ∃cl,(forIn names acc fun(y:Str×NameKind) (cs:List (Str×Addr))=>match y with|(name,kind)=>if(kind== .free)=true then do let a<-cellOf env name;pure (ForInStep.yield ((name,a)::cs))else pure (ForInStep.yield cs))=(pure cl:Sem _)/\(∀p∈cl,env.cells.lookup p.1=some p.2)/\(∀p∈acc,p∈cl)/\∀y∈names,y.2 = .free->∃c,(y.1,c)∈cl
 |[],acc,_,ha=>⟨acc,rfl,ha,fun _ h=>h,fun _ h=>nomatch h⟩
 |(n,k)::r,acc,hf,ha=>by
  have hr:∀y∈r,y.2 = .free->∃c,env.cells.lookup y.1=some c:=fun y hy=>hf y (List.mem_cons_of_mem _ hy);by_cases hk:k = .free
  ·subst hk;obtain⟨c,hc⟩:=hf (n,.free) List.mem_cons_self rfl;obtain⟨cl,e,h1,h2,h3⟩:=qM r ((n,c)::acc) hr (fun p hp=>by
    rcases List.mem_cons.mp hp with rfl|hp
    ·exact hc
    ·exact ha p hp)
   refine⟨cl,?_,h1,fun p hp=>h2 p (List.mem_cons_of_mem _ hp),fun y hy hyf=>?_⟩
   ·rw[List.forIn_cons];simp only[beq_self_eq_true,if_true,cellOf,hc,pure_bind];exact e
   ·rcases List.mem_cons.mp hy with rfl|hy
    ·exact⟨c,h2 _ List.mem_cons_self⟩
    ·exact h3 y hy hyf
  ·have hb:(k==NameKind.free)=false:=by simpa using hk
   obtain⟨cl,e,h1,h2,h3⟩:=qM r acc hr ha;refine⟨cl,?_,h1,h2,fun y hy hyf=>?_⟩
   ·rw[List.forIn_cons];simp only[hb,Bool.false_eq_true,if_false,pure_bind];exact e
   ·rcases List.mem_cons.mp hy with rfl|hy
    ·exact absurd hyf hk
    ·exact h3 y hy hyf
theorem Eo{env:Env}{scope:Scope}(hf:∀y∈scope.names,y.2 = .free->∃c,env.cells.lookup y.1=some c):
  ∃cl,closureFor scope env=pure cl/\(∀x c,cl.lookup x=some c->env.cells.lookup x=some c)/\∀y∈scope.names,y.2 = .free->∃c,cl.lookup y.1=some c:=by
 obtain⟨cl,e,h1,_,h3⟩:=qM (env:=env) scope.names [] hf (fun _ h=>nomatch h);refine⟨cl,?_,fun x c h=>h1 (x,c) (PySem.mem_of_lookup h),fun y hy hyf=>?_⟩
 ·unfold closureFor;simp only[bind_pure_comp]at e⊢;rw[e];rfl
 ·obtain⟨c,hc⟩:=h3 y hy hyf;cases q:cl.lookup y.1 with
  |some d=>exact⟨d,rfl⟩
  |none=>
   have z:=List.lookup_eq_none_iff.mp q (y.1,c) hc;simp at z
def V7(sc:Scope)(cl:List (Str×Addr))(C:Addr)(env:Env):Env:=
 { scope:=sc,locals:=C,globals:=env.globals,cells:=cl,qual:=env.qual,func:=none,code:=env.code,frame:=env.frame,builtins:=env.builtins }
def cCx(X:Cx)(sc:Scope)(N:List Str)(cl:List (Str×Addr))(C:Addr)(s₀:Shared)(H₀:Hp)(ex:List Addr):Cx:=
 { X with env:=V7 sc cl C X.env,N:=N,s₀:=s₀,H₀:=H₀,outer:=X.stack,ex:=ex,fn:=fun _=>false,pn:=[],xe:=fun _ _=>False }
def cst(ix:List (Option Nat))(σ:St):St:=ix.map fun o=>match o with
 |none=>none
 |some i=>match σ[i]? with
  |some v=>v
  |none=>none
def PIf(X:Cx)(ifs:List Expr)(t:TT):Prop:=
 ∀(pins:List (Addr×Obj)) (s:Shared) (σ:St) (H:Hp) (Q:Bool->Hp->Prop),Inv X pins σ H s->t σ H Q->
  wpAny (model X.prog X.w) X.A (forIn ifs true fun c r=>if r=true then do let ok<-isTrue c X.env (eval c X.env);pure (ForInStep.yield ok)else pure (ForInStep.yield r)) (TP X pins σ Q) X.xe s
def IX:TT:=fun _ H Q=>Q true H
theorem cN{X:Cx}:PIf X [] IX:=fun _ _ _ H _ I h=>wpAny_tests_nil ⟨H,I,h⟩
theorem nK{prog:Program}{w:World}{A:Around}{R:Result->Shared->Prop}{s:Shared}{elt target iter:Expr}{ifs:List Expr}{scope:Scope}{pos:Pos}{it acc:Value}{env:Env}(I:Nat->Shared->Prop)
  (turn:∀n s,I n s->wpAny (model prog w) A (pyNext it) (fun r s₁=>match r with
   |none=>R (.ok .next) s₁
   |some v=>wpAny (model prog w) A (letOwnedTupleGo target it v) (fun _ s₀=>wpAny (model prog w) A (assign target env v) (fun _ s₂=>
     wpAny (model prog w) A (forIn ifs true fun c r=>if r=true then do let ok<-isTrue c env (eval c env);pure (ForInStep.yield ok)else pure (ForInStep.yield r)) (fun ok s₃=>
      if ok=true then wpAny (model prog w) A (eval elt env) (fun x s₄=>
       wpAny (model prog w) A (call (.builtin "list.append") [acc,x]) (fun _ s₅=>∃m,m<n/\I m s₅) (fun _ _=>False) s₄) (fun _ _=>False) s₃
      else ∃m,m<n/\I m s₃) (fun _ _=>False) s₂) (fun _ _=>False) s₀) (fun _ _=>False) s₁) (fun _ _=>False) s)
  (n:Nat) (h:I n s):
  codeAny (model prog w) A (.compLoop (.ListComp elt [⟨target,iter,ifs,0⟩] scope pos) 0 it acc env) R s:=by
 refine codeAny_loop rfl I (fun n s hI=>?_) n h;show wpAny _ A ((compTurn (.ListComp elt [⟨target,iter,ifs,0⟩] scope pos) 0 it acc env).onRaise (fun x=>do noteFrame x env;theTreesLotGoes x)) _ _ s
 refine wpAny_noted ?_;rw[compTurn_list];refine wpAny_bind (wpAny_standAt (wpAny_bind (wpAny_mono (turn n s hI) (fun r s₁ h₁=>?_) fun _ _ h'=>h'.elim)));cases r with
 |none=>exact wpAny_pure h₁
 |some v=>
  refine wpAny_bind (wpAny_mono h₁ (fun _ s₀ h₀=>?_) fun _ _ h'=>h'.elim);refine wpAny_bind (wpAny_mono h₀ (fun _ s₂ h₂=>wpAny_bind (wpAny_mono h₂ (fun ok s₃ h₃=>?_) fun _ _ h'=>h'.elim)) fun _ _ h'=>h'.elim);cases ok with
  |false=>exact wpAny_pure ⟨rfl,h₃⟩
  |true=>
   exact wpAny_bind (wpAny_bind (wpAny_mono h₃ (fun x s₄ h₄=>wpAny_bind (wpAny_mono h₄ (fun _ s₅ h₅=>wpAny_pure (wpAny_pure ⟨rfl,h₅⟩)) fun _ _ h'=>h'.elim)) fun _ _ h'=>h'.elim))
structure sX(ix:List (Option Nat))(g:TG)(tc:TT)(te:TE)(σ:St)(Q:VK)(J:It)(H1:Hp):Prop where
 go:∀D,H1 D=none->∃W:Nat->Nat->St->Hp->Prop,(∃m,W 0 m (cst ix σ) (upd H1 D (.lst [])))/\
  ∀i m σ' H',W i m σ' H'->(J.stop i H'/\Q (.ref D) H')∨(J.go i H'/\∀x H2,J.yld i H' x H2->g x σ' H2 fun σ3 H3=>tc σ3 H3 fun b H4=>
   if b=true then te σ3 H4 fun y H5=>∃ys,H5 D=some (.lst ys)/\ys.length<sizeLine/\∃m',m'<m/\W (i+1) m' σ3 (upd H5 D (.lst (ys++[y])))
   else ∃m',m'<m/\W (i+1) m' σ3 H4)
def QT(ix:List (Option Nat))(wi:TI)(g:TG)(tc:TT)(te:TE):TE:=fun σ H Q=>wi σ H fun J H1=>sX ix g tc te σ Q J H1
structure Dc(X:Cx)(scope sc:Scope)(N:List Str)(ix:List (Option Nat)):Prop where
 rel:relabel scope X.env=sc
 kind:scope.kind = .function
 cell:∀y∈scope.names,y.2≠ .cell
 names:∀x∈scope.names,x.2 = .local->scope.names.lookup x.1=some .local
 free:∀y∈scope.names,y.2 = .free->X.env.kindOf y.1=some .cell∨X.env.kindOf y.1=some .free
 len:N.length=ix.length
 ix:∀(j:Nat) (x:Str) (i:Nat),N[j]?=some x->ix[j]?=some (some i)->X.N[i]?=some x/\(x,NameKind.free)∈scope.names/\(sc.names.lookup x=some .cell∨sc.names.lookup x=some .free)
 has:∀x,(sc.names.lookup x=some .cell∨sc.names.lookup x=some .free)->(x,NameKind.free)∈scope.names
theorem zO{X:Cx}{tg iter elt:Expr}{ifs:List Expr}{scope sc:Scope}{pos ip:Pos}{wi:TI}{g:TG}{tc:TT}{te:TE}{N:List Str}{ix:List (Option Nat)}(O:Dc X scope sc N ix)(hc:X.calm=true)(hi:PI X tg iter wi)
  (hb:∀cl C s₀ H₀ ex,PG (cCx X sc N cl C s₀ H₀ ex) tg g/\PIf (cCx X sc N cl C s₀ H₀ ex) ifs tc/\PE (cCx X sc N cl C s₀ H₀ ex) elt te) (hs:∀x,foldedSetIterable iter X.env x=pure x)
  {use:Option (Value->Sem Unit)} {QQ:Value->Shared->Prop} {pins:List (Addr×Obj)} {s:Shared} {σ:St} {H:Hp} {Q:VK} (I:Inv X pins σ H s) (h:QT ix wi g tc te σ H Q)
  (fin:∀(D C:Addr) (s6:Shared) (H5:Hp) (m:Str->Option Value),Inv X pins σ H5 s6->s6.heap.Ns C m->Hl X pins H5 C->Q (.ref D) H5->compPost (model X.prog X.w) X.A X.xe use QQ (.ref D) C (.ok .next) s6):
  wpAny (model X.prog X.w) X.A (comprehension (.ListComp elt [⟨tg,iter,ifs,0⟩] scope pos) scope X.env ip (newList []) false (eval iter X.env) use) QQ X.xe s:=by
 have hcl:∃cl,closureFor scope X.env=pure cl/\(∀x c,cl.lookup x=some c->X.env.cells.lookup x=some c)/\∀y∈scope.names,y.2 = .free->∃c,cl.lookup y.1=some c:=
  Eo fun y hy hf=>I.ok.has y.1 (O.free y hy hf)
 obtain⟨cl,ecl,NT,abC⟩:=hcl;refine wpAny_comprehension_free (use:=use) rfl hs ecl O.kind O.names (thn (hi pins s σ H _ I h) fun v s1 h1=>thn h1 fun itv s2 h2=>?_);obtain⟨it,fp,tn,J,H2,e,I2,T,st2,f2,q2⟩:=h2;subst e;obtain⟨W,⟨m0,w0⟩,turn⟩:=q2.go s2.heap.objs.size I2.fresh;refine wpAny_newObj_type ?_;have I3:=I2.aaZ (its:=[]) (t':=s2.toks) (ys:=[]) .nil (Nat.zero_le _);generalize eH3:upd H2 s2.heap.objs.size (.lst [])=H3 at I3 w0;have eD:H3 s2.heap.objs.size=some (.lst []):=by rw[<-eH3];exact aD
 have ado:∀b∈fp,b≠s2.heap.objs.size:=fun b hb z=>by
  obtain⟨o,ho,_⟩:=T.obj _ _ st2 b hb;exact absurd (Heap.lt_size ho) (by rw[z];exact Nat.lt_irrefl _)
 have st3:tn 0 (s2.heap.push { cls:= .type "list",dict:=none,data:= .seq ([]:List Value).toArray }):=T.keep _ _ _ st2 fun b _ o e=>Heap.get?_push_of_some _ e;have f3:∀b∈fp,Hl X pins H3 b:=fun b hb=>⟨by rw[<-eH3,cD (ado b hb)];exact(f2 b hb).1,(f2 b hb).2⟩;generalize es3:({ s2 with heap:=s2.heap.push { cls:= .type "list",dict:=none,data:= .seq ([]:List Value).toArray },toks:=s2.toks }:Shared)=s3 at I3;have ab6:tn 0 s3.heap:=by rw[<-es3];exact st3
 refine wpAny_newFunctionEnv O.cell (fun y hy=>nomatch hy) (fun h4 adk acU=>?_) O.kind;have QB:∀b o,s3.heap.get? b=some o->h4.get? b=some o:=fun b o e=>(acU.2 b (Nat.ne_of_lt (Heap.lt_size e))).trans (Heap.get?_push_of_some _ e);have I4:Inv X pins σ H3 { s3 with heap:=h4,toks:=s3.toks+([]:List (Str×Value)).length }:=I3.kept QB;have adK:({ newEnv scope s3.heap.objs.size X.env.globals cl X.env.qual none .none (some X.env) builtinsNs with scope:=relabel scope X.env }:Env)=V7 sc cl s3.heap.objs.size X.env:=by rw[O.rel];rfl
 rw[adK];show codeAny _ _ _ (compPost (model X.prog X.w) X.A X.xe use QQ (.ref s2.heap.objs.size) s3.heap.objs.size) _;generalize eC:s3.heap.objs.size=C;generalize es4:({ s3 with heap:=h4,toks:=s3.toks+([]:List (Str×Value)).length }:Shared)=s4 at I4;have h4s:s4.heap=h4:=by rw[<-es4]
 have o4s:s4.os=s3.os:=by rw[<-es4]
 have fC:∀b∈fp,b≠C:=fun b hb z=>by
  obtain⟨o,ho,_⟩:=T.obj _ _ ab6 b hb;exact absurd (Heap.lt_size ho) (by rw[z,eC];exact Nat.lt_irrefl _)
 have okC:(cCx X sc N cl C s3 H3 fp).Ok:=by
  refine⟨I3.ok.mod,?_,I3.ok.glob,I3.ok.blt,Nat.le_of_eq eC,fun x y c h1 h2=>I3.ok.inj x y c (NT x c h1) (NT y c h2),fun x hx=>?_,fun x c z _=>(nomatch z),I3.ok.hd,I3.ok.frames,.inl rfl,fun b hb=>⟨fC b hb,fun x c e=>(f3 b hb).2.2.2.2.1 x c (NT x c e)⟩,
   I3.bs,Nat.le_trans I3.ok.bsz I3.sz,fun b o e hb=>?_,fun b hb z=>?_,I3.stack,I3.Bq⟩
  ·show sc.kind = .function;rw[<-O.rel];exact O.kind
  ·exact abC (x,.free) (O.has x hx) rfl
  ·rcases(f3 b hb).2.2.2.1 with z|z
   ·exact I3.ok.Q7 b o e z
   ·exact absurd (Nat.lt_of_lt_of_le (Heap.lt_size e) (Nat.le_trans I3.ok.bsz z)) (Nat.lt_irrefl _)
  ·rcases List.mem_cons.mp (I3.Dg b z)with z|z
   ·exact(f3 b hb).2.1 z
   ·exact(f3 b hb).2.2.1 z
 have IC:Inv (cCx X sc N cl C s3 H3 fp) [] (cst ix σ) H3 s4:=by
  refine⟨okC,o4s,I4.bare,?_,?_,fun x c e=>I4.cell x c (NT x c e),?_,fun x c e=>I4.pL x c (NT x c e),fun p hp=>(nomatch hp),I4.hok,?_⟩
  ·rw[h4s];exact Un.kept QB
  ·refine⟨_,by rw[h4s,<-eC];exact adk,fun j x v e1 e2 e3=>?_⟩;have e2':(cst ix σ)[j]?=some (some v):=e2;unfold cst at e2';rw[List.getElem?_map]at e2';cases q:ix[j]? with
   |none=>rw[q]at e2';cases e2'
   |some o=>
    rw[q]at e2';cases o with
    |none=>cases e2'
    |some i=>
     obtain⟨hx,hm,hsc⟩:=O.ix j x i e1 q;cases q2:σ[i]? with
     |none=>simp[q2]at e2'
     |some w'=>
      simp[q2]at e2';subst e2';obtain⟨m,hn,hl⟩:=I4.loc;have kf:=O.free (x,.free) hm rfl;have vis:Vis X.env.scope x:=by
       rcases kf with k|k
       ·exact .inr (.inl k)
       ·exact .inr (.inr k)
      obtain⟨u,r,l⟩:=hl i x v hx q2 vis;refine⟨u,r,?_⟩;rcases l with⟨k,_⟩|⟨_,c,e,z⟩
      ·rcases kf with k'|k'
       ·rw[k]at k';cases k'
       ·rw[k]at k';cases k'
      ·obtain⟨c',e'⟩:=abC (x,.free) hm rfl;have:=NT x c' e';rw[e]at this;cases this;exact .inr ⟨hsc,c,e',z⟩
  ·rw[<-eC];exact I3.fresh
  ·show(cst ix σ).length=N.length;rw[O.len];simp[cst]
 have st4:tn 0 s4.heap:=T.keep _ _ _ ab6 fun b _ o e=>by rw[h4s];exact QB b o e
 have stat:∀{H':Hp},(∀b∈fp,H' b=none)->∀b∈fp,Hl (cCx X sc N cl C s3 H3 fp) [] H' b:=fun hn b hb=>
  ⟨hn b hb,fC b hb,okC.Ra b hb,.inl hb,fun x c e=>(f3 b hb).2.2.2.2.1 x c (NT x c e),fun p hp=>(nomatch hp)⟩
 obtain⟨hg,ht,he⟩:=hb cl C s3 H3 fp;have loop:codeAny (model X.prog X.w) X.A (.compLoop (.ListComp elt [⟨tg,iter,ifs,0⟩] scope pos) 0 (.ref it) (.ref s2.heap.objs.size) (V7 sc cl C X.env))
   (compPost (model X.prog X.w) X.A X.xe use QQ (.ref s2.heap.objs.size) C) s4:=by
  refine nK (fun n s'=>∃i σ' H',Inv (cCx X sc N cl C s3 H3 fp) [] σ' H' s'/\tn i s'.heap/\(∀b∈fp,H' b=none)/\W i n σ' H') ?_ m0 ⟨0,cst ix σ,H3,IC,st4,fun b hb=>(f3 b hb).1,w0⟩;rintro n s5 ⟨i,σ5,H5,I5,st5,fr5,w5⟩;rcases turn i n σ5 H5 w5 with⟨stop,qn⟩|⟨go,step⟩
  ·refine thn (T.done (cCx X sc N cl C s3 H3 fp) rfl rfl rfl hc i [] s5 σ5 H5 (fun _ _=>False) I5 (stat fr5) st5 stop) fun r s6 ⟨hr,I6⟩=>?_;subst hr;obtain⟨m,hn,_⟩:=id I6.loc;have I7:Inv X pins σ H5 s6:=I3.UG (ch:=fp) I6.os I6.base I6.hok I6.bare fun b hb=>⟨(f3 b hb).2.2.2.1,(f3 b hb).2.1,(f3 b hb).2.2.2.2.1,(f3 b hb).2.2.2.2.2⟩;exact fin _ C s6 H5 m I7 hn (I3.Od (Nat.le_of_eq eC) I6.free) qn
  ·refine thn (T.item (cCx X sc N cl C s3 H3 fp) rfl rfl rfl hc i [] s5 σ5 H5 (fun _ _=>False) I5 (stat fr5) st5 go) fun r s6 ⟨u,hr,h6⟩=>?_;subst hr;refine thn h6 fun _ s7 ⟨x,H7,I7,r7,y7,st7,fr7⟩=>?_;have I7':=I7.pinned (stat fr7) (T.obj _ _ st7);have again:∀{σ9:St} {H9:Hp} {s9:Shared} {m':Nat},Inv (cCx X sc N cl C s3 H3 fp) ([]++yW fp s7.heap) σ9 H9 s9->m'<n->W (i+1) m' σ9 H9->
     ∃m,m<n/\∃i σ' H',Inv (cCx X sc N cl C s3 H3 fp) [] σ' H' s9/\tn i s9.heap/\(∀b∈fp,H' b=none)/\W i m σ' H':=fun {σ9 H9 s9 m'} I9 hm w9=>by
    refine⟨m',hm,i+1,σ9,H9,I9.pX,T.keep _ _ _ st7 fun b hb o e=>(I9.pin (b,o) (List.mem_append_right _ (List.mem_append_right _ (jW hb e)))).1,fun b hb=>?_,w9⟩;obtain⟨o,e,d⟩:=T.obj _ _ st7 b hb;exact(I9.pin (b,o) (List.mem_append_right _ (List.mem_append_right _ (jW hb e)))).2.1
   refine thn (hg _ s7 σ5 H7 x u _ I7' r7 (step x H7 y7)) fun _ s8 ⟨σ8,H8,I8,q8⟩=>?_;refine thn (ht _ s8 σ8 H8 _ I8 q8) fun b s9 ⟨H9,I9,q9⟩=>?_;cases b with
   |false=>
    rw[if_neg Bool.false_ne_true]at q9;obtain⟨m',hm,w9⟩:=q9;rw[if_neg Bool.false_ne_true];exact again I9 hm w9
   |true=>
    rw[if_pos rfl]at q9;rw[if_pos rfl];refine thn (he _ s9 σ8 H9 _ I9 q9) fun y s10 ⟨yv,H10,I10,r10,ys,e10,z10,m',hm,w10⟩=>?_;refine thn (yV _ s10 σ8 H10 (.ref s2.heap.objs.size) [yv] (.ref s2.heap.objs.size) [y] (fun _ H'=>W (i+1) m' σ8 H') I10 rfl (.cons r10 .nil) ⟨_,ys,yv,rfl,rfl,e10,z10,w10⟩) fun _ s11 ⟨_,H11,I11,_,w11⟩=>?_;exact again I11 hm w11
 exact codeAny_compStart_list loop (T.self _ _ _ _ _ st4 loop)
theorem dU{X:Cx}{tg iter elt:Expr}{ifs:List Expr}{scope sc:Scope}{pos:Pos}{wi:TI}{g:TG}{tc:TT}{te:TE}{N:List Str}{ix:List (Option Nat)}(O:Dc X scope sc N ix)(hc:X.calm=true)(hi:PI X tg iter wi)
  (hb:∀cl C s₀ H₀ ex,PG (cCx X sc N cl C s₀ H₀ ex) tg g/\PIf (cCx X sc N cl C s₀ H₀ ex) ifs tc/\PE (cCx X sc N cl C s₀ H₀ ex) elt te)
  (hs:∀x,foldedSetIterable iter X.env x=pure x:=by intro _;rfl):PE X (.ListComp elt [⟨tg,iter,ifs,0⟩] scope pos) (QT ix wi g tc te):=by
 intro pins s σ H Q I h;rw[eval_ListComp];exact zO (use:=none) (QQ:=EP X pins σ Q) O hc hi hb hs I h fun D C s6 H5 m I7 hn f q=>⟨m,hn,fun h' hs'=>⟨.ref D,H5,I7.turned (it:=C) (t':=s6.toks) (fun b o hb e=>(hs'.2 b hb).trans e) f.1 f.2.1 f.2.2.2.1 f.2.2.2.2.1 f.2.2.2.2.2,rfl,q⟩⟩
theorem rF{X:Cx}{i:Nat}{y:Str}{py spos:Pos}{tg iter elt:Expr}{ifs:List Expr}{scope sc:Scope}{pos:Pos}{wi:TI}{g:TG}{tc:TT}{te:TE}{N:List Str}{ix:List (Option Nat)}(hN:X.N.Nodup)(hi':X.N[i]?=some y)(hx:Loc X.env.scope y)
  (O:Dc X scope sc N ix) (hc:X.calm=true) (hi:PI X tg iter wi)
  (hb:∀cl C s₀ H₀ ex,PG (cCx X sc N cl C s₀ H₀ ex) tg g/\PIf (cCx X sc N cl C s₀ H₀ ex) ifs tc/\PE (cCx X sc N cl C s₀ H₀ ex) elt te)
  (hs:∀x,foldedSetIterable iter X.env x=pure x:=by intro _;rfl) (hsw:swapsWith (.ListComp elt [⟨tg,iter,ifs,0⟩] scope pos) (some (.Name y py)) spos.line X.env=pure true:=by rfl)
  (hf:X.fn y=true∨X.env.scope.names.lookup y=some .local:=by first|exact .inl rfl|exact .inr rfl|assumption):
  PS X (.Assign [.Name y py] (.ListComp elt [⟨tg,iter,ifs,0⟩] scope pos) spos) (Xn (QT ix wi g tc te) (oK i)):=by
 intro pins s σ H D I h;rw[exec_Assign_Name_used _ _ _ _ hsw];refine wpAny_bind (wpAny_standAt (wpAny_bind ?_));show wpAny _ X.A (do let _<-comprehension (.ListComp elt [⟨tg,iter,ifs,0⟩] scope pos) scope X.env _ (newList []) false (eval iter X.env) (some (assign (.Name y py) X.env))) _ _ s
 refine wpAny_bind (wpAny_mono (zO (use:=some (assign (.Name y py) X.env)) (QQ:=fun _ s'=>∃σ' H',Inv X pins σ' H' s'/\D.nx σ' H') O hc hi hb hs I h fun D1 C s6 H5 m I7 hn f q=>?_) (fun _ s' ⟨σ',H',I',q'⟩=>wpAny_pure (wpAny_pure ⟨σ',H',I',q'⟩)) fun _ _ e=>e);obtain⟨o,es,ep,ho,hc1,hc2⟩:=id hn;have I8:=I7.pinned (fp:=[C]) (fun b hb=>by
  have e:b=C:=by simpa using hb
  subst e;exact f) (fun b hb=>by
  have e:b=C:=by simpa using hb
  subst e;exact⟨o,ho,fun v z=>by first|(rw[hc1.2]at z;cases z)|(rw[hc2.1]at z;cases z)|(rw[hc1]at z;cases z)|(simp_all)⟩)
 show wpAny _ X.A (assign (.Name y py) X.env (.ref D1)) _ _ _;refine wpAny_assign_Name (tV I8 hN hi' hx (v:= .ref D1) rfl (fun s7 I9=>?_) hf);have hC:=(I9.pin (C,o) (List.mem_append_right _ (List.mem_append_right _ (jW (by simp) ho)))).1;refine⟨m,⟨o,es,ep,hC,hc1,hc2⟩,fun h' hs'=>⟨_,H5,I9.pX.turned (it:=C) (t':=s7.toks) (fun b o hb e=>(hs'.2 b hb).trans e) f.1 f.2.1 f.2.2.2.1 f.2.2.2.2.1 f.2.2.2.2.2,q⟩⟩
mutual
inductive RdD(K:W.Frag)(H:Hp):V->PyData->Prop
 |non:RdD K H .non .none
 |bl (b:Bool):RdD K H (.bl b) (.bool b)
 |int (i:Int):RdD K H (.int i) (.int i)
 |str (x:Str):RdD K H (.str x) (.str x)
 |lst {a:Addr} {xs:List V} {ds:List PyData}:SqL K H a xs->Ad K H xs ds->RdD K H (.ref a) (.list ds)
 |tup {a:Addr} {xs:List V} {ds:List PyData}:SqT K H a xs->Ad K H xs ds->RdD K H (.ref a) (.tuple ds)
inductive Ad(K:W.Frag)(H:Hp):List V->List PyData->Prop
 |nil:Ad K H [] []
 |cons {x:V} {d:PyData} {xs:List V} {ds:List PyData}:RdD K H x d->Ad K H xs ds->Ad K H (x::xs) (d::ds)
end
section
variable {X:Cx} {pins:List (Addr×Obj)} {σ:St} {H:Hp} {s:Shared}
mutual
theorem Inv.reads(I:Inv X pins σ H s):∀{x:V} {d:PyData} {u:Value},RdD X.K H x d->RelV x u->∃as,Reads s.heap u d as
 |_,_,_,.non,r=>by cases r;exact⟨_,.none⟩
 |_,_,_,.bl b,r=>by cases r;exact⟨_,.bool b⟩
 |_,_,_,.int i,r=>by obtain⟨t,rfl⟩:=r;exact⟨_,.int i t⟩
 |_,_,_,.str x,r=>by obtain⟨t,rfl⟩:=r;exact⟨_,.str x t⟩
 |_,_,_,.lst hq hs,r=>by
  cases r;obtain⟨its,rv,pl,_⟩:=I.list hq;obtain⟨as,ra⟩:=Inv.readsAll I hs rv;obtain⟨o,ho,hc,n,hd⟩:=pl.isList;exact⟨_,.list ho hc hd (by simpa using ra)⟩
 |_,_,_,.tup hq hs,r=>by
  cases r;obtain⟨its,rv,pl,_⟩:=I.tuple hq;obtain⟨as,ra⟩:=Inv.readsAll I hs rv;obtain⟨o,ho,hc,n,hd⟩:=pl;exact⟨_,.tuple ho hc hd (by simpa using ra)⟩
theorem Inv.readsAll(I:Inv X pins σ H s):∀{xs:List V} {ds:List PyData} {us:List Value},Ad X.K H xs ds->Vals xs us->∃as,ReadsAll s.heap us ds as
 |_,_,_,.nil,.nil=>⟨_,.nil⟩
 |_,_,_,.cons h1 h2,.cons r1 r2=>by
  obtain⟨as,a⟩:=Inv.reads I h1 r1;obtain⟨bs,b⟩:=Inv.readsAll I h2 r2;exact⟨_,.cons a b⟩
end
theorem Ad.ints{K:W.Frag}{H:Hp}:∀ns:List Int,Ad K H (ns.map V.int) (ns.map PyData.int)
 |[]=> .nil
 |n::r=> .cons (.int n) (Ad.ints r)
def gP(kb:List (Key×V)):List (Key×V)->Bool
 |[]=>true
 |(k,v)::r=>match JX kb k with
  |none=>false
  |some y=>eqV v y&&gP kb r
theorem Bb{A:Around}{kb:List (Key×V)}{vb:List (Key×Value)}(hb:KV kb vb)(fb:kb.all (fun p=>uT p.2)=true):∀{ka:List (Key×V)} {va:List (Key×Value)},KV ka va->ka.all (fun p=>uT p.2)=true->
  W.KeqHits A s vb va (gP kb ka)
 |[],_,.nil,_=> .nil
 |(k,v)::r,(k',v')::r',.cons ⟨e,rv⟩ t,f=>by
  cases (show k=k' from e);rw[List.all_cons,Bool.and_eq_true]at f;have hv:=KV.val hb k;cases q:JX kb k with
  |none=>
   have hn:valueAt vb k=none:=J0.none_of (by rw[q]at hv;exact hv);have e2:gP kb ((k,v)::r)=false:=by simp[gP,q]
   rw[e2];exact .miss hn
  |some y=>
   rw[q]at hv;obtain⟨u,hu,ru⟩:=J0.some_of hv;have fy:uT y=true:=by
    unfold JX at q;cases q2:kb.find? (fun kv=>decide (kv.1=k))with
    |none=>rw[q2]at q;cases q
    |some p=>
     rw[q2]at q;cases q;exact List.all_eq_true.mp fb p (List.mem_of_find?_eq_some q2)
   have e2:gP kb ((k,v)::r)=(eqV v y&&gP kb r):=by simp[gP,q]
   rw[e2];exact .hit hu (U9 rv ru f.1 fy) (Bb hb fb t f.2)
end
section
variable {X:Cx}
def K3(K:W.Frag)(g:Bool->Bool):R2:=fun x y H Q=>match x,y with
 |.int i,.int j=>Q (.bl (g (decide (i=j)))) H
 |.bl i,.bl j=>Q (.bl (g (decide (i=j)))) H
 |.str i,.str j=>Q (.bl (g (decide (i=j)))) H
 |.non,.non=>Q (.bl (g true)) H
 |.ref a,.ref b=>(∃d e,RdD K H (.ref a) d/\RdD K H (.ref b) e/\SeqAt.shaped d=true/\SeqAt.shaped e=true/\Q (.bl (g (PyData.eqv d e))) H)∨
   (∃ka kb,H a=some (.dK ka)/\H b=some (.dK kb)/\ka.all (fun p=>uT p.2)=true/\kb.all (fun p=>uT p.2)=true/\Q (.bl (g (ka.length==kb.length&&gP kb ka))) H)
 |.non,.ref _=>False
 |.ref _,.non=>False
 |x,y=>aaJ x y=true/\Q (.bl (g (decide (x=y)))) H
theorem Ru{k:Nat}(hr:mD k X.A):OpR X (compareOp .Eq) (fun x y H Q=>∃d e,RdD X.K H x d/\RdD X.K H y e/\SeqAt.shaped d=true/\SeqAt.shaped e=true/\Q (.bl (PyData.eqv d e)) H):=by
 intro pins s σ H x y v u Q I rx ry h;obtain⟨d,e,h1,h2,h3,h4,q⟩:=h;obtain⟨as,ra⟩:=I.reads h1 rx;obtain⟨bs,rb⟩:=I.reads h2 ry;exact eq_dataH ra rb h3 h4 hr.units ⟨.bl _,H,I,rfl,q⟩
theorem SR{k:Nat}(hr:mD k X.A):OpR X (compareOp .NotEq) (fun x y H Q=>∃d e,RdD X.K H x d/\RdD X.K H y e/\SeqAt.shaped d=true/\SeqAt.shaped e=true/\Q (.bl (!PyData.eqv d e)) H):=by
 intro pins s σ H x y v u Q I rx ry h;obtain⟨d,e,h1,h2,h3,h4,q⟩:=h;obtain⟨as,ra⟩:=I.reads h1 rx;obtain⟨bs,rb⟩:=I.reads h2 ry;exact ne_dataH ra rb h3 h4 hr.units ⟨.bl _,H,I,rfl,q⟩
theorem SQ{k:Nat}(hr:mD k X.A):OpR X (compareOp .Eq) (fun x y H Q=>∃a b ka kb,x = .ref a/\y = .ref b/\H a=some (.dK ka)/\H b=some (.dK kb)/\ka.all (fun p=>uT p.2)=true/\kb.all (fun p=>uT p.2)=true/\Q (.bl (ka.length==kb.length&&gP kb ka)) H):=by
 intro pins s σ H x y v u Q I rx ry h;obtain⟨a,b,ka,kb,rfl,rfl,h1,h2,h3,h4,q⟩:=h;cases rx;cases ry;obtain⟨_,ea,va,ra,da⟩:ka.length<=sizeLine/\(a==sysModules)=false/\∃vs,KV ka vs/\s.heap.DictOf (rJ X.prog X.w) a vs:=I.hok a _ h1;obtain⟨_,eb,vb,rb,db⟩:kb.length<=sizeLine/\(b==sysModules)=false/\∃vs,KV kb vs/\s.heap.DictOf (rJ X.prog X.w) b vs:=I.hok b _ h2;refine W.keq_eq ea eb da db hr.MZ (fun _=>Bb rb h4 ra h3) ⟨.bl _,H,I,?_,q⟩;show _=Value.bool _;rw[Paired.length ra,Paired.length rb]
theorem RB{k:Nat}(hr:mD k X.A):OpR X (compareOp .NotEq) (fun x y H Q=>∃a b ka kb,x = .ref a/\y = .ref b/\H a=some (.dK ka)/\H b=some (.dK kb)/\ka.all (fun p=>uT p.2)=true/\kb.all (fun p=>uT p.2)=true/\Q (.bl (!(ka.length==kb.length&&gP kb ka))) H):=by
 intro pins s σ H x y v u Q I rx ry h;obtain⟨a,b,ka,kb,rfl,rfl,h1,h2,h3,h4,q⟩:=h;cases rx;cases ry;obtain⟨_,ea,va,ra,da⟩:ka.length<=sizeLine/\(a==sysModules)=false/\∃vs,KV ka vs/\s.heap.DictOf (rJ X.prog X.w) a vs:=I.hok a _ h1;obtain⟨_,eb,vb,rb,db⟩:kb.length<=sizeLine/\(b==sysModules)=false/\∃vs,KV kb vs/\s.heap.DictOf (rJ X.prog X.w) b vs:=I.hok b _ h2;refine W.keq_ne ea eb da db hr.MZ (fun _=>Bb rb h4 ra h3) ⟨.bl _,H,I,?_,q⟩;show _=Value.bool _;rw[Paired.length ra,Paired.length rb]
theorem Tn{i j:Int}:decide (V.int i=V.int j)=decide (i=j):=by simp
theorem SJ{i j:Bool}:decide (V.bl i=V.bl j)=decide (i=j):=by simp
theorem Tz{i j:Str}:decide (V.str i=V.str j)=decide (i=j):=by simp
theorem v_eq{k:Nat}(hr:mD k X.A):OpR X (compareOp .Eq) (K3 X.K id):=by
 refine(X3.or ((Ru hr).or (SQ hr))).imp fun x y H Q h=>?_;unfold K3 at h;split at h
 ·exact .inl ⟨rfl,by rw[Tn];exact h⟩
 ·exact .inl ⟨rfl,by rw[SJ];exact h⟩
 ·exact .inl ⟨rfl,by rw[Tz];exact h⟩
 ·exact .inl ⟨rfl,by rw[decide_eq_true rfl];exact h⟩
 ·rcases h with⟨d,e,h⟩|⟨ka,kb,h⟩
  ·exact .inr (.inl ⟨d,e,h⟩)
  ·exact .inr (.inr ⟨_,_,ka,kb,rfl,rfl,h⟩)
 ·exact h.elim
 ·exact h.elim
 ·exact .inl h
theorem ad3{k:Nat}(hr:mD k X.A):OpR X (compareOp .NotEq) (K3 X.K not):=by
 refine(XS.or ((SR hr).or (RB hr))).imp fun x y H Q h=>?_;unfold K3 at h;split at h
 ·exact .inl ⟨rfl,by rw[Tn];exact h⟩
 ·exact .inl ⟨rfl,by rw[SJ];exact h⟩
 ·exact .inl ⟨rfl,by rw[Tz];exact h⟩
 ·exact .inl ⟨rfl,by rw[decide_eq_true rfl];exact h⟩
 ·rcases h with⟨d,e,h⟩|⟨ka,kb,h⟩
  ·exact .inr (.inl ⟨d,e,h⟩)
  ·exact .inr (.inr ⟨_,_,ka,kb,rfl,rfl,h⟩)
 ·exact h.elim
 ·exact h.elim
 ·exact .inl h
end
end L2
namespace PySem.SeqAt
open AutoSeq1 (wpAny_loadPart')
open MeetsSeq MeetsSeq2 MeetsSeq3 SeqRoads2
section
variable {A:Around} {s:Shared}
end
end PySem.SeqAt
namespace L2
open PySem PySem.Spec PyProof.Rows
section
variable {X:Cx}
end
theorem boot_isinstance:bootBuiltins "isinstance" = some (.builtin "isinstance"):=by decide +kernel
theorem boot_abs:bootBuiltins "abs" = some (.builtin "abs"):=by decide +kernel
theorem boot_sum:bootBuiltins "sum" = some (.builtin "sum"):=by decide +kernel
theorem boot_max:bootBuiltins "max" = some (.builtin "max"):=by decide +kernel
theorem boot_tuple:bootBuiltins "tuple" = some (.type "tuple"):=by decide +kernel
theorem boot_list:bootBuiltins "list" = some (.type "list"):=by decide +kernel
structure Fn(K:W.Frag)(mg:Str->Option Value)(x:Str)(st:Stmt)(ps:List Str):Prop where
 ex:∃(f:Addr) (fd:FuncData),Fun K x x st f fd/\mg x=some (.ref f)/\Binds K fd ps []
theorem Fn.cal{P:Program}{w:World}{K:W.Frag}{mg:Str->Option Value}{base:Heap}{x:Str}{st:Stmt}{N ps:List Str}{k:Nat}{sp:Sp}(F:Fn K mg x st ps)(S:aN N ps (aj st))(len:∀vs H Q E,sp vs H Q E->vs.length=ps.length)
  (hbody:∀(f:Addr) (cdv:Value) (A:Around) (outer:List Env) (s:Shared) (H:Hp) (vs:List V) (Q:VK) (E:XK),mD k (A.deeper (envOfC x (aj st) s.heap.objs.size f cdv))->sp vs H Q E->
   ∃t,PSs (cxF P w K mg base N x (aj st) f cdv A outer s H E).nox (aA st) t/\t { nx:=fun _ H'=>Q .non H',rt:=Q } (start N vs) H):Cal P w K mg base x (k+1) ps sp:=by
 obtain⟨f,fd,F,m,b⟩:=F.ex;exact⟨f,fd,m,F.kp,b,F.okN S len fun cdv A outer s H vs Q E hr h=>hbody f cdv A outer s H vs Q E hr h⟩
theorem Fn.Lx{P:Program}{w:World}{K:W.Frag}{mg:Str->Option Value}{base:Heap}{x:Str}{st:Stmt}{N ps:List Str}{k:Nat}{sp:Sp}(F:Fn K mg x st ps)(S:aN N ps (aj st))(len:∀vs H Q E,sp vs H Q E->vs.length=ps.length)
  (hbody:∀(f:Addr) (cdv:Value) (A:Around) (outer:List Env) (s:Shared) (H:Hp) (vs:List V) (Q:VK) (E:XK),mD k (A.deeper (envOfC x (aj st) s.heap.objs.size f cdv))->sp vs H Q E->
   ∃t,PSs (cxF P w K mg base N x (aj st) f cdv A outer s H E) (aA st) t/\t { nx:=fun _ H'=>Q .non H',rt:=Q } (start N vs) H):Cal P w K mg base x (k+1) ps sp:=by
 obtain⟨f,fd,F,m,b⟩:=F.ex;exact⟨f,fd,m,F.kp,b,F.okF S len fun cdv A outer s H vs Q E hr h=>hbody f cdv A outer s H vs Q E hr h⟩
theorem Same.new{H:Hp}{p:Addr}(h:H p=none)(o:HO):Same H (upd H p o):=fun b u q=>by rw[cD (cJ q h)];exact q
theorem Same.upd{H H':Hp}{p:Addr}(g:Same H H')(h:H p=none)(o:HO):Same H (L2.upd H' p o):=fun b u q=>by rw[cD (cJ q h)];exact g b u q
theorem Same.Vo{K:W.Frag}{H H':Hp}{a:Addr}{xs:List V}(e:Same H H')(h:SqT K H a xs):SqT K H' a xs:=by
 rcases h with(h|⟨o,h⟩)|h
 ·exact .inl (.inl (e _ _ h))
 ·exact .inl (.inr ⟨o,e _ _ h⟩)
 ·exact .inr h
theorem mulL{i j:Int}(h1:-(2^64)<i)(h2:i<2^64):IntMulOk i j:= .of_left (intBits_le_64 h1 h2)
theorem mulR{i j:Int}(h1:-(2^64)<j)(h2:j<2^64):IntMulOk i j:= .of_right (intBits_le_64 h1 h2)
theorem iz{N:List Str}(h:decide N.Nodup=true:=by kernel_rfl):N.Nodup:=of_decide_eq_true h
abbrev csF(l:List (Str×NameKind)):Scope:={ kind:= .function,names:=l,isGenerator:=false,isCoroutine:=false }
theorem cM{X:Cx}{scope sc:Scope}{N:List Str}{ix:List (Option Nat)}(sc':relabel scope X.env=sc:=by kernel_rfl)(kind:scope.kind = .function:=by kernel_rfl)(cell:scope.names.all (fun y=>y.2 != .cell)=true:=by kernel_rfl)
  (names:scope.names.all (fun x=>x.2 != .local||scope.names.lookup x.1==some .local)=true:=by kernel_rfl)
  (free:scope.names.all (fun y=>y.2 != .free||(X.env.scope.names.lookup y.1==some .cell||X.env.scope.names.lookup y.1==some .free))=true:=by kernel_rfl)
  (len:N.length=ix.length:=by kernel_rfl)
  (hix:(N.zip ix).all (fun p=>match p.2 with
   |none=>true
   |some i=>X.N[i]?==some p.1&&scope.names.any (fun y=>y.1==p.1&&y.2== .free)&&(sc.names.lookup p.1==some .cell||sc.names.lookup p.1==some .free))=true:=by kernel_rfl)
  (has:sc.names.all (fun y=>(y.2 != .cell&&y.2 != .free)||scope.names.any (fun z=>z.1==y.1&&z.2== .free))=true:=by kernel_rfl):Dc X scope sc N ix:=by
 have mem:∀x:Str,scope.names.any (fun y=>y.1==x&&y.2== .free)=true->(x,NameKind.free)∈scope.names:=fun x h=>by
  obtain⟨y,hy,e⟩:=List.any_eq_true.mp h;rw[Bool.and_eq_true]at e;obtain⟨a,b⟩:=y;have e1:a=x:=eq_of_beq e.1;have e2:b = .free:=eq_of_beq e.2;subst e1;subst e2;exact hy
 refine⟨sc',kind,fun y hy e=>?_,fun x hx e=>?_,fun y hy e=>?_,len,fun j x i h1 h2=>?_,fun x hx=>?_⟩
 ·have:=List.all_eq_true.mp cell y hy;rw[e]at this;cases this
 ·have:=List.all_eq_true.mp names x hx;rw[e]at this;simpa using this
 ·have:=List.all_eq_true.mp free y hy;rw[e]at this;simpa[Env.kindOf]using this
 ·have hm:(x,some i)∈N.zip ix:=by
   have:(N.zip ix)[j]?=some (x,some i):=by
    rw[List.getElem?_zip_eq_some];exact⟨h1,h2⟩
   exact List.mem_of_getElem? this
  have:=List.all_eq_true.mp hix _ hm;simp only[Bool.and_eq_true]at this;obtain⟨⟨a1,a2⟩,a3⟩:=this;refine⟨eq_of_beq a1,mem x a2,?_⟩;rw[Bool.or_eq_true]at a3;rcases a3 with z|z
  ·exact .inl (eq_of_beq z)
  ·exact .inr (eq_of_beq z)
 ·have hm:∃k,(x,k)∈sc.names/\(k = .cell∨k = .free):=by
   rcases hx with z|z
   ·exact⟨_,PySem.mem_of_lookup z,.inl rfl⟩
   ·exact⟨_,PySem.mem_of_lookup z,.inr rfl⟩
  obtain⟨k,hk,e⟩:=hm;have:=List.all_eq_true.mp has _ hk;rw[Bool.or_eq_true]at this;rcases this with z|z
  ·rcases e with e|e<;>(subst e;simp at z)
  ·exact mem x z
structure eZ(K:W.Frag)(x:Str)(st:Stmt):Prop where
 ex:∃(f:Addr) (oc:Value) (od:Option Addr) (kV doc pm:Value) (an:Option Addr) (cdv ct:Value) (sl:Array (Option Value)),W.nsIn K mainGlobals x=some (some (.ref f))/\
  K.lookup f=some ⟨oc,od,.func (W.fnOf x x (aC st) (aA st) (aj st) .none kV doc pm an cdv ct),sl⟩/\W.codeIn K cdv x=true/\W.keepIn K (.ref f)=true
theorem Qv{K:W.Frag}{x:Str}{st:Stmt}{f:Addr}{oc:Value}{od:Option Addr}{kV doc pm:Value}{an:Option Addr}{cdv ct:Value}{sl:Array (Option Value)}(a:W.nsIn K mainGlobals x=some (some (.ref f)))
  (l:K.lookup f=some ⟨oc,od,.func (W.fnOf x x (aC st) (aA st) (aj st) .none kV doc pm an cdv ct),sl⟩) (c:W.codeIn K cdv x=true) (k:W.keepIn K (.ref f)=true):eZ K x st:=
 ⟨f,oc,od,kV,doc,pm,an,cdv,ct,sl,a,l,c,k⟩
theorem eZ.fn{K:W.Frag}{h:Heap}{mg:Str->Option Value}{x:Str}{st:Stmt}{ps:List Str}(F:eZ K x st)(X:K.In h)(G:h.Ns mainGlobals mg)
  (hb:∀(kV doc pm:Value) (an:Option Addr) (cdv ct:Value) (us:List Value),us.length=ps.length->bindArgs (W.fnOf x x (aC st) (aA st) (aj st) .none kV doc pm an cdv ct) ⟨us,[]⟩=pure (ps.zip us)):Fn K mg x st ps:=by
 obtain⟨f,oc,od,kV,doc,pm,an,cdv,ct,sl,a,l,c,k⟩:=F.ex;have FF:=Nb (st:=st) l c k;exact⟨f,_,FF,W.mg_of X G a,FF.binds hb⟩
theorem eZ.fnA{K:W.Frag}{h:Heap}{mg:Str->Option Value}{x:Str}{st:Stmt}{ps:List Str}(F:eZ K x st)(X:K.In h)(G:h.Ns mainGlobals mg)
  (hb:∀(kV doc pm:Value) (an:Option Addr) (cdv ct:Value) (us:List Value),us.length=ps.length->bindArgs (W.fnOf x x (aC st) (aA st) (aj st) .none kV doc pm an cdv ct) ⟨us,[]⟩=pure (ps.zip us):=by
   intro _ _ _ _ _ _ us hl;first
    |(obtain⟨_,rfl⟩:=L2.us1 hl;rfl)
    |(obtain⟨_,_,rfl⟩:=L2.us2 hl;rfl)
    |(obtain⟨_,_,_,rfl⟩:=L2.us3 hl;rfl)
    |(obtain⟨_,_,_,_,rfl⟩:=L2.us4 hl;rfl)
    |(obtain rfl:=L2.us0 hl;rfl)
    |(obtain⟨_,_,_,_,_,rfl⟩:=L2.us5 hl;rfl)
    |(obtain⟨_,_,_,_,_,_,rfl⟩:=L2.us6 hl;rfl)):Fn K mg x st ps:=F.fn X G hb
theorem bW{N P:List Str}{sc:Scope}(kind:sc.kind = .function:=by rfl)(co:sc.isCoroutine=false:=by rfl)(gen:sc.isGenerator=false:=by rfl)(nd:N.Nodup:=by decide +kernel)(pre:N.take P.length=P:=by rfl)
  (par:∀x∈P,sc.names.lookup x=some .local∨sc.names.lookup x=some .cell:=by decide +kernel) (Jb:∀y∈sc.names,y.2≠ .free:=by decide +kernel):aN N P sc:=⟨kind,co,gen,nd,pre,par,Jb⟩
structure ItS(J:It)(xs:List V)(H1:Hp):Prop where
 go:∀i H',Same H1 H'->i<xs.length->J.go i H'
 yld:∀i H' x H2,Same H1 H'->J.yld i H' x H2->H2=H'/\(i<xs.length->xs[i]?=some x)
 stop:∀i H',Same H1 H'->xs.length<=i->J.stop i H'
theorem CN{K:W.Frag}{a:Addr}{xs:List V}{H1:Hp}(hq:SqL K H1 a xs):ItS (Itl K a) xs H1:=
 ⟨fun i H' g h=>⟨xs,xs[i],g.seq hq,by simp[h]⟩,fun i H' x H2 g y=>⟨y.1,fun _=>y.2 xs (g.seq hq)⟩,fun i H' g h=>⟨xs,g.seq hq,h⟩⟩
theorem yc{K:W.Frag}{a:Addr}{xs:List V}{H1:Hp}(hq:SqT K H1 a xs):ItS (Itt K a) xs H1:=
 ⟨fun i H' g h=>⟨xs,xs[i],g.Vo hq,by simp[h]⟩,fun i H' x H2 g y=>⟨y.1,fun _=>y.2 xs (g.Vo hq)⟩,fun i H' g h=>⟨xs,g.Vo hq,h⟩⟩
theorem vo{lo:Int}{n:Nat}{H1:Hp}:ItS (Itr lo n) ((List.range n).map fun i=>V.int (lo+(i:Nat))) H1:=
 ⟨fun i H' g h=>show i<n by simpa using h,fun i H' x H2 g y=>⟨y.1,fun h=>by
  have h':i<n:=by simpa using h
  rw[List.getElem?_map,List.getElem?_range h',y.2];rfl⟩,fun i H' g h=>show n<=i by simpa using h⟩
theorem mV{J:It}{xs:List V}{ix:List (Option Nat)}{tc:TT}{te:TE}{σ:St}{H1:Hp}{Q:VK}(I:ItS J xs H1)(hz:xs.length<=sizeLine){rest:St}(hst:cst ix σ=none::rest)(p:V->Bool)(F:V->V)
  (ht:∀H' x,Same H1 H'->x∈xs->∀k:Bool->Hp->Prop,k (p x) H'->tc (some x::rest) H' k)
  (he:∀H' x,Same H1 H'->x∈xs->p x=true->∀k:VK,k (F x) H'->te (some x::rest) H' k)
  (hQ:∀D,H1 D=none->Q (.ref D) (upd H1 D (.lst ((xs.filter p).map F)))):
  sX ix (oK 0) tc te σ Q J H1:=by
 constructor;intro D hD;refine⟨fun i m σ' H'=>m=xs.length-i/\i<=xs.length/\(∃o,σ'=o::rest)/\H'=upd H1 D (.lst (((xs.take i).filter p).map F)),⟨xs.length,by simp,Nat.zero_le _,⟨none,hst⟩,by simp⟩,?_⟩;rintro i m σ' H' ⟨rfl,hi,⟨o,rfl⟩,rfl⟩;have g:Same H1 (upd H1 D (.lst (((xs.take i).filter p).map F))):=Same.new hD _;by_cases hlt:i<xs.length
 ·refine .inr ⟨I.go i _ g hlt,fun x H2 y=>?_⟩;obtain⟨rfl,hx⟩:=I.yld i _ x H2 g y;have hx:=hx hlt;have hm:x∈xs:=List.mem_of_getElem? hx;have et:xs.take (i+1)=xs.take i++[x]:=by
   rw[List.take_add_one,hx];rfl
  show tc (some x::rest) _ _;refine ht _ x g hm _ ?_;cases hp:p x with
  |true=>
   rw[if_pos rfl];refine he _ x g hm hp _ ⟨_,aD,?_,xs.length-(i+1),by omega,rfl,hlt,⟨_,rfl⟩,?_⟩
   ·have h1:(((xs.take i).filter p).map F).length<=i:=by
     rw[List.length_map];exact Nat.le_trans (List.length_filter_le _ _) (by rw[List.length_take];omega)
    omega
   ·rw[Nk,et,List.filter_append,List.map_append];simp[hp]
  |false=>
   rw[if_neg Bool.false_ne_true];refine⟨xs.length-(i+1),by omega,rfl,hlt,⟨_,rfl⟩,?_⟩;rw[et,List.filter_append];simp[hp]
 ·have e:i=xs.length:=by omega
  subst e;refine .inl ⟨I.stop _ _ g (Nat.le_refl _),?_⟩;rw[List.take_length];exact hQ D hD
theorem PJ{J:It}{xs:List V}{g:TG}{tb:TS}{D:Ends}{σ:St}{H:Hp}(I:ItS J xs H)(Pv:Nat->St->Hp->Prop)(h0:Pv 0 σ H)(hsame:∀i σ' H',Pv i σ' H'->Same H H')
  (hs:∀i x σ' H',xs[i]?=some x->Pv i σ' H'->g x σ' H' fun σ2 H2=>tb { D with nx:=Pv (i+1),ct:=Pv (i+1),bk:=D.nx } σ2 H2) (hd:∀σ' H',Pv xs.length σ' H'->D.nx σ' H'):
  ∃W:Nat->Nat->St->Hp->Prop,(∃m,W 0 m σ H)/\∀i m σ H,W i m σ H->
   (J.stop i H/\D.nx σ H)∨(J.go i H/\∃N:St->Hp->Prop,(∀σ' H',N σ' H'->∃m',m'<m/\W (i+1) m' σ' H')/\∀x H',J.yld i H x H'->g x σ H' fun σ2 H2=>tb { D with nx:=N,ct:=N,bk:=D.nx } σ2 H2):=by
 refine⟨fun i m σ' H'=>m=xs.length-i/\i<=xs.length/\Pv i σ' H',⟨xs.length,by simp,Nat.zero_le _,h0⟩,?_⟩;rintro i m σ' H' ⟨rfl,hi,p⟩;have gs:=hsame i σ' H' p;by_cases hlt:i<xs.length
 ·refine .inr ⟨I.go i _ gs hlt,Pv (i+1),fun σ2 H2 p'=>⟨xs.length-(i+1),by omega,rfl,hlt,p'⟩,fun x H2 y=>?_⟩;obtain⟨rfl,hx⟩:=I.yld i _ x H2 gs y;exact hs i x σ' _ (hx hlt) p
 ·have e:i=xs.length:=by omega
  subst e;exact .inl ⟨I.stop _ _ gs (Nat.le_refl _),hd σ' H' p⟩
structure Bar(t:TE)(σ:St)(H:Hp)(Q:VK):Prop where
 go:t σ H Q
def adB(t:TE):TE:=fun σ H Q=>Bar t σ H Q
theorem Bar.by{t:TE}{σ:St}{H:Hp}{Q:VK}(R:V->Hp->Prop)(h:∀k:VK,(∀v H1,R v H1->k v H1)->t σ H k)(q:∀v H1,R v H1->Q v H1):Bar t σ H Q:=⟨h Q q⟩
theorem Jc{X:Cx}{e:Expr}{t:TE}(h:PE X e t):PE X e (adB t):=fun pins s σ H Q I q=>h pins s σ H Q I q.go
structure NQ(t:TS)(D:Ends)(σ:St)(H:Hp):Prop where
 go:t D σ H
def VN(t:TS):TS:=fun D σ H=>NQ t D σ H
theorem DM{X:Cx}{st:Stmt}{t:TS}(h:PS X st t):PS X st (VN t):=fun pins s σ H D I q=>h pins s σ H D I q.go
theorem NQ.by{t:TS}{D:Ends}{σ:St}{H:Hp}(R:St->Hp->Prop)(h:∀N:St->Hp->Prop,(∀σ' H',R σ' H'->N σ' H')->t { D with nx:=N } σ H)(q:∀σ' H',R σ' H'->D.nx σ' H'):NQ t D σ H:=by
 constructor;exact h D.nx q
end L2
namespace HT
open PySem PyProof.Rows
section
variable {prog:Program} {w:World} {A:Around} {E:Value->Shared->Prop} {s:Shared}
theorem rC{t sl:Addr}{items:Array Value}{vl vu:Value}{lo hi:Option Int}{Q:Value->Shared->Prop}(ht:IsTup s.heap t items)(hs:s.heap.IsSliceOf sl vl vu .none)(pl:IsPart vl lo)(pu:IsPart vu hi)
  (hw:sIx items.size 0 lo=0/\sIx items.size items.size hi=items.size) (h:Q (.ref t) s):wpAny (model prog w) A (getItem (.ref t) (.ref sl)) Q E s:=by
 obtain⟨os,hos,hcs,hds⟩:=id hs;have hTs:s.TypeIs (.ref sl) "slice" := ⟨os,hos,hcs⟩;unfold getItem;try with_reducible refine wpAny_holding ?_
 first|refine wpAny_bind (wpAny_pure ?_)|skip
 refine wpAny_bind (wpAny_sequenceKey ht.typeIs (by decide) ?_);refine wpAny_bind (wpAny_callSpecial?_slot (name:=Str.ofString "__getitem__") ht.typeIs PyProof.Rows.slot_tuple_getitem
  (wpAny_call_entry PyProof.Rows.slot_tuple_getitem ht.typeIs entry_tuple_getitem ?_ (args_tuple_getitem _ _)))
 show wpAny _ _ (Builtin.Tuple.tupleItemsOf (.ref t)>>=_) _ _ s;refine wpAny_bind (tupleItemsOf_ ht ?_);refine wpAny_bind (wpAny_typeOf hTs ?_);rw[if_pos (by decide)];refine wpAny_bind (lH hs pl pu ?_);have hyes:(((sIx items.size 0 lo:Nat):Int)==0&&(1:Int)==1&&(sIx items.size items.size hi-sIx items.size 0 lo)==items.size)=true:=by
  rw[hw.1,hw.2];simp
 show wpAny _ _ (if(((sIx items.size 0 lo:Nat):Int)==0&&(1:Int)==1&&(sIx items.size items.size hi-sIx items.size 0 lo)==items.size)=true then _ else _) _ _ s;rw[if_pos hyes];unfold Builtin.Tuple.tupleIsExact;refine wpAny_bind (wpAny_bind (wpAny_typeOf ht.typeIs (wpAny_pure ?_)));rw[if_pos (by decide)];exact wpAny_bind (wpAny_rule (wpAny_pure ⟨_,rfl,wpAny_pure h⟩))
end
end HT
namespace L2
open PySem PySem.Spec PyProof.Rows
section
variable {X:Cx}
theorem Jp:SlR X (fun x lo hi H Q=>∃a xs,x = .ref a/\SqT X.K H a xs/\(HT.sIx xs.length 0 lo=0/\HT.sIx xs.length xs.length hi=xs.length)/\Q (.ref a) H):=by
 intro pins s σ H x v vl vu lo hi sl Q I rx hs pl pu h;obtain⟨a,xs,rfl,hx,hw,q⟩:=h;cases rx;obtain⟨its,r,ht,hz⟩:=I.tuple hx;have hlen:its.toArray.size=xs.length:=by rw[List.size_toArray];exact r.length.symm
 refine⟨"tuple",_,PyProof.Rows.slot_tuple_getitem.lookup,ht.typeIs,?_⟩;exact HT.rC ht hs pl pu (by rw[hlen];exact hw) ⟨.ref a,H,I,rfl,q⟩
end
theorem boot_min:bootBuiltins "min" = some (.builtin "min"):=by decide +kernel
section
variable {X:Cx} (K:W.Frag)
theorem SlR.imp{r r':V->Option Int->Option Int->Hp->VK->Prop}(h:SlR X r)(i:∀x lo hi H Q,r' x lo hi H Q->r x lo hi H Q):SlR X r':=fun pins s σ H x v vl vu lo hi sl Q I rx hs pl pu q=>h pins s σ H x v vl vu lo hi sl Q I rx hs pl pu (i _ _ _ _ _ q)
theorem jK(hK:X.K=K:=by rfl):OpR X (binaryOp .Add) (Ku K):=by subst hK;exact v_add
theorem xix(hK:X.K=K:=by rfl):IxR X (aaB K):=by subst hK;exact ady
theorem xeq{k:Nat}(hr:mD k X.A)(hK:X.K=K:=by rfl):OpR X (compareOp .Eq) (K3 K id):=by subst hK;exact v_eq hr
theorem xne{k:Nat}(hr:mD k X.A)(hK:X.K=K:=by rfl):OpR X (compareOp .NotEq) (K3 K not):=by subst hK;exact ad3 hr
theorem jx(hK:X.K=K:=by rfl):oB X (.builtin "len") (fun xs H Q=>∃x n,xs=[x]/\abM K x H n/\Q (.int n) H):=by subst hK;exact Ld
theorem Vt(hc:X.calm=true)(hK:X.K=K:=by rfl):oB X (.builtin "sum") (fun xs H Q=>∃(l:Addr) (ns:List Int),xs=[.ref l]/\SqL K H l (ns.map V.int)/\Q (.int ns.sum) H):=by subst hK;exact v_sum hc
theorem xlist(hK:X.K=K:=by rfl):oB X (.type "list") (fun xs H Q=>∃p ys,xs=[.ref p]/\(SqL K H p ys∨SqT K H p ys)/\∀l,H l=none->Q (.ref l) (upd H l (.lst ys))):=by subst hK;exact zK
theorem jU(hK:X.K=K:=by rfl):oB X (.type "tuple") (fun xs H Q=>∃p ys,xs=[.ref p]/\((SqL K H p ys/\∀l,H l=none->Q (.ref l) (upd H l (.tup ys)))∨(SqT K H p ys/\Q (.ref p) H))):=by subst hK;exact yu
def abz(K:W.Frag):V->Option Int->Option Int->Hp->VK->Prop:=fun x lo hi H Q=>match x with
 |.ref a=>(∃xs,SqL K H a xs/\∀p,H p=none->Q (.ref p) (upd H p (.lst (yE xs lo hi))))∨
   (∃xs,SqT K H a xs/\¬(HT.sIx xs.length 0 lo=0/\HT.sIx xs.length xs.length hi=xs.length)/\∀p,H p=none->Q (.ref p) (upd H p (.tup (yE xs lo hi))))∨
   (∃xs,SqT K H a xs/\(HT.sIx xs.length 0 lo=0/\HT.sIx xs.length xs.length hi=xs.length)/\Q (.ref a) H)
 |_=>False
theorem xsl(hK:X.K=K:=by rfl):SlR X (abz K):=by
 subst hK;refine(Pk.or (UN.or Jp)).imp fun x lo hi H Q h=>?_;unfold abz at h;split at h
 ·rcases h with⟨xs,h⟩|⟨xs,h⟩|⟨xs,h⟩
  ·exact .inl ⟨_,xs,rfl,h⟩
  ·exact .inr (.inl ⟨_,xs,rfl,h⟩)
  ·exact .inr (.inr ⟨_,xs,rfl,h⟩)
 ·exact h.elim
theorem JB{tg l:Expr}{tl:TE}(hl:PE X l tl)(hK:X.K=K:=by rfl):PI X tg l (acp K tl):=by subst hK;exact Vi hl
theorem Pg{es:List Expr}{k:Nat}{t:TGs}{n:Nat}{pos:Pos}(hc:X.calm=true)(h:PGs X es t)(hK:X.K=K:=by rfl)
  (hn:(assignEach es X.env).length=n:=by rfl) (hst:(assignEach es X.env).findIdx? (·.1)=none:=by rfl):PG X (.Tuple es k pos) (Yp K n t):=by subst hK;exact U8 hc h hn hst
theorem uD{o e:Expr}{to:TE}{te:TE}{apos cpos:Pos}(ho:PE X o to)(he:PE X e te)(hK:X.K=K:=by rfl)
  (hbase:attributeBase o "append" X.env (eval o X.env)=eval o X.env:=by rfl)
  (hfew:((backTo cpos (starEach [e] X.env)).all (fun x=>!x.1)&&(backToKw cpos (keywordEach [] X.env)).all (fun x=>x.1.isSome)
   && decide ([e].length+([]:List Keyword).length+(if([]:List Keyword).isEmpty then 0 else 1)<30))=true:=by rfl)
  (hline:(apos.endLine==cpos.line)=true:=by rfl) (hs:starEach [e] X.env=(false,eval e X.env)::starEach [] X.env:=by rfl):
  PE X (.Call (.Attribute o "append" apos) [e] [] cpos) (tBM K "list" FT to (Cm te abP)):=by
 subst hK;exact X4 PySem.F.plainAttrs_list PySem.F.slot_list_append PySem.F.type_list_append yV ho (aG he ao hs) hbase hfew hline hs rfl
end
section
variable {X:Cx} {es:List Expr} {te:TE} {t:TA}
theorem lY{c:Const}{j}{p:Pos}(h:PE X (.Constant c j p) te)(hr:PA X es t):PA X ((.Constant c j p)::es) (Cm te t):=aG h hr rfl
theorem aO{x:Str}{p:Pos}(h:PE X (.Name x p) te)(hr:PA X es t):PA X ((.Name x p)::es) (Cm te t):=aG h hr rfl
theorem Vv{as:List Expr}{j}{p:Pos}(h:PE X (.Tuple as j p) te)(hr:PA X es t):PA X ((.Tuple as j p)::es) (Cm te t):=aG h hr rfl
theorem nM{a:Expr}{o:Operator}{b:Expr}{p:Pos}(h:PE X (.BinOp a o b p) te)(hr:PA X es t):PA X ((.BinOp a o b p)::es) (Cm te t):=aG h hr rfl
theorem YJ{o:UnaryOp}{a:Expr}{p:Pos}(h:PE X (.UnaryOp o a p) te)(hr:PA X es t):PA X ((.UnaryOp o a p)::es) (Cm te t):=aG h hr rfl
end
def Q8(a C:Addr):HO:= .ext fun h=>∃o vs,h.get? a=some o/\o.cls = .ref C/\o.data = .fields vs
theorem O9{P:Program}{w:World}{H:Hp}{h:Heap}{a C:Addr}{o:Obj}{vs:Array Value}(e:h.get? a=some o)(hc:o.cls = .ref C)(hd:o.data = .fields vs):j5 P w H h a (Q8 a C):=
 ⟨⟨o,vs,e,hc,hd⟩,⟨o,e⟩,fun _ _ ⟨o,vs,e,r⟩ k=>⟨o,vs,k o e,r⟩⟩
theorem j5.there{P:Program}{w:World}{H:Hp}{h:Heap}{a:Addr}{o:HO}(x:j5 P w H h a o):∃u,h.get? a=some u:=by
 cases o with
 |lst xs=>obtain⟨_,_,_,_,e⟩:=x;exact⟨_,e⟩
 |tup xs=>obtain⟨_,_,_,o,e,_⟩:=x;exact⟨_,e⟩
 |dK kvs=>obtain⟨_,_,_,_,o,_,_,e,_⟩:=x;exact⟨_,e⟩
 |dT kvs=>obtain⟨_,_,_,_,o,_,_,e,_⟩:=x;exact⟨_,e⟩
 |set S n=>obtain⟨o,_,_,_,e,_⟩:=x;exact⟨_,e⟩
 |ins C dx fs=>obtain⟨_,_,_,e,_⟩:=x;exact⟨_,e⟩
 |own y=>exact x
 |xd fs=>obtain⟨_,⟨_,_,_,e,_⟩,_⟩:=x;exact⟨_,e⟩
 |rng lo hi=>obtain⟨_,_,_,e⟩:=x;exact⟨_,e⟩
 |frz ob u=>obtain⟨e,_⟩:=x;exact⟨_,e⟩
 |tbl ps=>exact⟨_,(show h.get? a=some _ from x)⟩
 |met f y=>exact⟨_,(show h.get? a=some _ from x)⟩
 |ext φ=>exact x.2.1
structure ExS(base:Heap)(C R:Addr):Prop where
 cls:∃nm q N bs bm hdct sn sub ab col dd k0 k1 k2 k3 k5 newId,base.get? C=some (excClassObj nm q C N bs bm hdct sn sub ab col dd k0 k1 k2 k3 k5 newId)/\(Value.ref C::bm).contains (.ref R)=true
 top:∃nm q N bs bm hdct sn sub ab col dd k0 k1 k2 k3 k5 newId,base.get? R=some (excClassObj nm q R N bs bm hdct sn sub ab col dd k0 k1 k2 k3 k5 newId)/\bm.contains (.type "BaseException")=true
theorem vJ{M:Model}{A:Around}{E:Value->Shared->Prop}{h:Heap}{g:Array GenState}{d:Drawn}{t:Nat}{os:OsState}{e C R:Addr}{oe:Obj}{Q:Bool->Shared->Prop}{base:Heap}(S:ExS base C R)(kb:∀b o,base.get? b=some o->h.get? b=some o)
  (he:h.get? e=some oe) (hcls:oe.cls = .ref C) (hq:Q true ⟨h,g,d,t,os⟩):wpAny M A (excMatches (.ref e) (.ref R)) Q E ⟨h,g,d,t,os⟩:=by
 obtain⟨nm,q,N,bs,bm,hdct,sn,sub,ab,col,dd,k0,k1,k2,k3,k5,newId,hC,hs⟩:=S.cls;obtain⟨nm',q',N',bs',bm',ade,sn',sub',ab',col',dd',k0',k1',k2',k3',k5',newId',hR,hB⟩:=S.top;have hC:=kb _ _ hC;have hR:=kb _ _ hR;have hcB:(Value.ref R::bm').contains (.type "BaseException")=true:=by rw[List.contains_cons,hB,Bool.or_true]
 have f:=tc_notTuple;unfold excMatches
 repeat (first|(with_reducible refine wpAny_loadPart_at he ?_;rw[hcls])|with_reducible refine wpAny_loadPart_at hR ?_|(with_reducible refine wpAny_isSubtype_exc hR ?_;rw[hcB])|(with_reducible refine wpAny_isSubtype_exc hC ?_;rw[hs])|wp_step)
 exact hq
section
variable {X:Cx} {pins:List (Addr×Obj)} {σ:St} {H:Hp} {s:Shared}
theorem Inv.track{a:Addr}{o:HO}(I:Inv X pins σ H s)(hn:H a=none)(h0:∀u,X.s₀.heap.get? a≠some u)(hL:a≠X.env.locals)(hc:∀x c,X.env.cells.lookup x=some c->c≠a)(hp:∀p∈X.pn++pins,p.1≠a)
  (new:j5 X.prog X.w (upd H a o) s.heap a o):Inv X pins σ (upd H a o) s:=by
 have ne:∀b u,H b=some u->b≠a:=fun b u e=>cJ e hn;refine⟨I.ok,I.os,I.bare,⟨I.base.keep,I.base.slot,fun b u e n hx=>?_,I.base.there,fun b xs e=>?_,fun b u xs e=>?_,fun b ps e=>?_⟩,I.loc,I.cell,?_,fun x c e=>?_,fun p q=>?_,fun b u e=>?_,I.len⟩
 ·rw[cD (fun z=>h0 u (by rw[<-z];exact e))];exact I.base.free b u e n hx
 ·have:=I.base.tups b xs e;rw[cD (ne b _ this)];exact this
 ·have:=I.base.Ag b u xs e;rw[cD (ne b _ this)];exact this
 ·obtain⟨m,this⟩:=I.base.BZ b ps e;exact⟨m,by rw[cD (ne b _ this)];exact this⟩
 ·rw[cD (Ne.symm hL)];exact I.free
 ·rw[cD (hc x c e)];exact I.pL x c e
 ·obtain⟨e1,e2,e3⟩:=I.pin p q;exact⟨e1,by rw[cD (hp p q)];exact e2,e3⟩
 ·by_cases hb:b=a
  ·subst hb;rw[aD]at e;cases e;exact new
  ·rw[cD hb]at e;exact(I.hok b u e).stay (fun _ _ _ q=>q) (fun c q=>by rw[cD (ne c _ q)];exact q) fun c xs q=>by rw[cD (ne c _ q)];exact q
theorem Inv.unset{h':Heap}{t':Nat}{j:Nat}{n:Str}{v:Option Value}{m:Str->Option Value}(I:Inv X pins σ H s)(hN:X.N.Nodup)(hj:X.N[j]?=some n)(hm:s.heap.Ns X.env.locals m)
  (hn:h'.Ns X.env.locals fun y=>if y=n then v else m y) (hs:Heap.SameBut X.env.locals s.heap h'):Inv X pins (σ.set j none) H { s with heap:=h',toks:=t' }:=by
 obtain⟨m2,hn2,hl⟩:=id I.loc;obtain⟨oL,_,_,hoL,_⟩:=id hm;have em:m2=m:=by
  obtain⟨o1,es1,ep1,ho1,hd1,hk1,hf1⟩:=hn2;obtain⟨o2,es2,ep2,ho2,hd2,hk2,hf2⟩:=hm;rw[ho1]at ho2;cases ho2;rw[hd1]at hd2;cases hd2
  funext y;rw[<-hf1 y,<-hf2 y]
 subst em;refine⟨I.ok,I.os,I.bare,⟨fun b o e nn hb hx=>?_,fun b o e nn hb hx=>?_,I.base.free,fun b o e hx=>?_,I.base.tups,I.base.Ag,I.base.BZ⟩,⟨_,hn,fun i y u e1 e2 e3=>?_⟩,fun y c e=>?_,I.free,I.pL,fun p hp=>?_,fun b u e=>?_,by simpa using I.len⟩
 ·exact(hs.2 b (Nat.ne_of_lt (Nat.lt_of_lt_of_le (Heap.lt_size e) I.ok.above))).trans (I.base.keep b o e nn hb hx)
 ·obtain⟨sl,e1⟩:=I.base.slot b o e nn hb hx;exact⟨sl,(hs.2 b (Nat.ne_of_lt (Nat.lt_of_lt_of_le (Heap.lt_size e) I.ok.above))).trans e1⟩
 ·obtain⟨o',e1⟩:=I.base.there b o e hx;exact⟨o',(hs.2 b (Nat.ne_of_lt (Nat.lt_of_lt_of_le (Heap.lt_size e) I.ok.above))).trans e1⟩
 ·by_cases hji:i=j
  ·subst hji;by_cases hlt:i < σ.length
   ·rw[List.getElem?_set_self hlt]at e2;cases e2
   ·rw[List.getElem?_eq_none (by simp;omega)]at e2;cases e2
  ·rw[List.getElem?_set_ne (Ne.symm hji)]at e2;obtain⟨u',r',q⟩:=hl i y u e1 e2 e3;refine⟨u',r',?_⟩;rcases q with⟨k,e⟩|⟨k,c,e,z⟩
   ·refine .inl ⟨k,?_⟩;have:y≠n:=fun z=>hji (wR hN e1 (z▸hj));simp[this,e]
   ·exact .inr ⟨k,c,e,z.sameBut hs (I.cne y c e)⟩
 ·obtain⟨w',z⟩:=I.cell y c e;exact⟨w',z.sameBut hs (I.cne y c e)⟩
 ·obtain⟨e,nn,ne,nf,d⟩:=I.pin p hp;exact⟨(hs.2 p.1 ne).trans e,nn,ne,nf,d⟩
 ·refine(I.hok b u e).stay (fun c w' hc q=>(hs.2 c ?_).trans q) (fun _ q=>q) fun _ _ q=>q;rintro rfl;rcases hc with z|hc
  ·rw[<-z,I.free]at e;cases e
  ·rw[I.free]at hc;cases hc
end
def cxS(X:Cx)(a:Addr):Cx:={ X with A:=X.A.mark (some (.ref a)),calm:=false,xe:=fun _ _=>False }
theorem Inv.suite{X:Cx}{pins:List (Addr×Obj)}{σ:St}{H:Hp}{s:Shared}(I:Inv X pins σ H s)(a:Addr):Inv (cxS X a) pins σ H s:=
 ⟨⟨I.ok.mod,I.ok.kind,I.ok.glob,I.ok.blt,I.ok.above,I.ok.inj,I.ok.has,I.ok.cab,(fun z=>by cases z),I.ok.frames,I.ok.stk,I.ok.exf,I.ok.bs,I.ok.bsz,I.ok.Q7,I.ok.Ra,I.ok.E6,I.ok.frf⟩,
  I.os,I.bare,I.base,I.loc,I.cell,I.free,I.pL,I.pin,I.hok,I.len⟩
theorem Inv.Qt{X:Cx}{pins:List (Addr×Obj)}{σ:St}{H:Hp}{s:Shared}{a:Addr}(ok:X.Ok)(I:Inv (cxS X a) pins σ H s):Inv X pins σ H s:=
 ⟨ok,I.os,I.bare,I.base,I.loc,I.cell,I.free,I.pL,I.pin,I.hok,I.len⟩
structure ExI(K:W.Frag)(C:Addr):Prop where
 ga:W.findIn K (.ref C) "__getattribute__" = some (some (.builtin "BaseException.__getattribute__"))
 gt:W.findIn K (.ref C) "__getattr__" = some none
 cl:W.findIn K (.ref C) "__class__" = some (some (.builtin "object.__class__"))
 mb:W.mroIn K C (.type "BaseException")=some true
 mo:W.mroIn K C (.type "object")=some true
 is:(W.clsIn K C).isSome=true
section
variable {prog:Program} {w:World} {A:Around} {E:Value->Shared->Prop} {h:Heap} {g:Array GenState} {d:Drawn} {t:Nat} {os:OsState} {a C:Addr} {o:Obj} {K:W.Frag}
theorem Ry{R:Result->Shared->Prop}(S:ExI K C)(X:K.In h)(hx:h.get? a=some o)(hc:o.cls = .ref C)(hq:R (.ok (.ret (.ref C))) ⟨h,g,d,t,os⟩):
  codeAny (model prog w) A (.call (.builtin "getset_descriptor.__get__") ⟨[.builtin "object.__class__",.ref a,.ref C],[]⟩) R ⟨h,g,d,t,os⟩:=by
 have hT5:(⟨h,g,d,t,os⟩:Shared).TypeIs (.builtin "object.__class__") "getset_descriptor" := F.typeOf_object_class;have L1:=W.looks_mroIn (M:=model prog w) X S.mo;rw[<-F.owner_object_class]at L1;refine codeAny_call_builtin F.slot_gs_get.plain F.entry_gs_get (F.slot_gs_get.check _ _ _ _ _ _ _ _ hT5 (F.args_gs_get _ _ _) ?_)
 repeat (any_goals (first|assumption|(with_reducible refine wpAny_loadPart_at hx ?_;rw[hc])|with_reducible refine L1.at ?_|wp_step))
 refine⟨Code.quiet_builtin _ (by decide +kernel),codeAny_builtin F.entry_object_class ?_⟩
 repeat (any_goals (first|assumption|(with_reducible refine wpAny_loadPart_at hx ?_;rw[hc])|wp_step))
theorem Lg{tk:Tok}{Q:Fin->Shared->Prop}(S:ExI K C)(X:K.In h)(hx:h.get? a=some o)(hc:o.cls = .ref C)(hq:Q (.done (.ret (.ref C))) ⟨h,g,d,t,os⟩):
  wpAny (model prog w) A (Builtin.«object.__getattribute__» ⟨[.ref a,.str "__class__" tk],[]⟩) Q E ⟨h,g,d,t,os⟩:=by
 have hT5:(⟨h,g,d,t,os⟩:Shared).TypeIs (.builtin "object.__class__") "getset_descriptor" := F.typeOf_object_class;have L1:=W.looks_findIn (M:=model prog w) X S.cl;have f5:=F.typeOf_object_class;have f6:=F.slot_gs_get.lookup;have f7:=F.slot_gs_set.lookup
 repeat (any_goals (first|assumption|(with_reducible refine wpAny_loadPart_at hx ?_;rw[hc])|with_reducible refine L1.at ?_|wp_step))
 refine Ry S X hx hc ?_
 repeat (any_goals (first|assumption|wp_step))
theorem Kh{nameV:Value}{Q:Unit->Shared->Prop}(S:ExI K C)(X:K.In h)(hx:h.get? a=some o)(hc:o.cls = .ref C)(hq:Q () ⟨h,g,d,t,os⟩):
  wpAny (model prog w) A (checkBuiltinCall "BaseException.__getattribute__" ⟨[.ref a,nameV],[]⟩) Q E ⟨h,g,d,t,os⟩:=by
 have hk:builtinKind "BaseException.__getattribute__" = some .slot:=by decide +kernel
 have hs:splitId "BaseException.__getattribute__" = some ("BaseException","__getattribute__"):=by decide +kernel
 have L1:=W.looks_mroIn (M:=model prog w) X S.mb;have ha:=F.args_bexc_ga (.ref a) nameV;simp only[checkBuiltinCall,hk,hs];refine wpAny_bind ?_;unfold isInstance
 repeat (first|(with_reducible refine wpAny_loadPart_at hx ?_;rw[hc])|with_reducible refine L1.at ?_|wp_step)
 exact hq
theorem YQ{tk:Tok}{Q:Value->Shared->Prop}(S:ExI K C)(X:K.In h)(hx:h.get? a=some o)(hc:o.cls = .ref C)(hq:Q (.ref C) ⟨h,g,d,t,os⟩):
  wpAny (model prog w) A (getAttrBy (.ref a) (.str "__class__" tk) false) Q E ⟨h,g,d,t,os⟩:=by
 have f3:=F.excAttr_ValueError.ga.bind (.ref a);have L1:=W.looks_findIn (M:=model prog w) X S.ga;have L2:=W.looks_findIn (M:=model prog w) X S.gt;have hx2:(Value.builtin "BaseException.__getattribute__" == Value.builtin "object.__getattribute__")=false:=by decide +kernel
 have hx1:(onTheHeap (Value.ref C)&&Value.builtin "BaseException.__getattribute__" == Value.builtin "object.__getattribute__")=false:=by rw[hx2];rfl
 repeat (any_goals (first|assumption|(with_reducible refine wpAny_loadPart_at hx ?_;rw[hc])|with_reducible refine L1.at ?_|with_reducible refine L2.at ?_|wp_step))
 refine codeAny_call_builtin F.excAttr_ValueError.ga.plain F.entry_bexc_ga (Kh S X hx hc (Lg S X hx hc ?_))
 repeat (any_goals (first|assumption|wp_step))
theorem Ou{Q:Option Value->Shared->Prop}(S:ExI K C)(X:K.In h)(hx:h.get? a=some o)(hc:o.cls = .ref C)(hq:Q (some (.ref C)) ⟨h,g,d,t+1,os⟩):
  wpAny (model prog w) A (getAttr? (.ref a) "__class__") Q E ⟨h,g,d,t,os⟩:=by
 unfold getAttr? getAttrBy?
 repeat (any_goals (first|assumption|with_reducible apply YQ S X hx hc|wp_step))
end
theorem xH{K:W.Frag}{a C:Addr}(S:ExI K C):W.KitX K (.ref a) (.ref C) (fun h=>∃o vs,h.get? a=some o/\o.cls = .ref C/\o.data = .fields vs) where
 ty:=fun M h _ p=>by
  obtain⟨o,_,h1,h2,_⟩:=p;exact h2▸(W.Looks.ld h1).andThen .now
 it:=fun _ _ X _=>by
  have hi:=S.is;unfold W.clsIn at hi;split at hi
  ·rename_i c' d' cd' sl' ho
   intro A' Q' E' s' k q;unfold isType loadHead;exact wpAny_bind (wpAny_loadPart (k _ _ (X _ _ ho)) (wpAny_pure q))
  ·cases hi
 ne:=fun h tp dd its n sl X htp=>by
  have hi:=S.is;refine Bool.eq_false_iff.mpr fun q=>?_;have e:C=tp:=Value.ref.inj (beq_iff_eq.mp q);subst e;unfold W.clsIn at hi;split at hi
  ·rename_i c' d' cd' sl' ho
   have z:=(X _ _ ho).symm.trans htp;cases z
  ·cases hi
 ca:=fun {prog w A E Q s} X p k=>by
  obtain⟨o,vs,h1,h2,_⟩:=p;obtain⟨h0,g,d,t,os⟩:=s;exact Ou S X h1 h2 k
theorem FP:∀{Ds:List Addr} {us:List Value},Vals (Ds.map V.ref) us->us=Ds.map Value.ref
 |[],_,.nil=>rfl
 |D::Ds,_,.cons r t=>by
  have e:=FP (Ds:=Ds) t;cases (show _=Value.ref D from r);rw[e];rfl
def RP(K:W.Frag):List V->Hp->VK->Prop:=fun xs H Q=>∃a C y b,xs=[.ref a,y]/\H a=some (Q8 a C)/\ExI K C/\
 ((∃D,y = .ref D/\W.kitOne K (.ref C) (.ref D)=some b)∨(∃T,y = .ty T/\W.kitOne K (.ref C) (.type T)=some b)∨(∃(p:Addr) (Ds:List Addr),y = .ref p/\H p=some (.tup (Ds.map V.ref))/\W.kitAny K (.ref C) (Ds.map Value.ref)=some b))/\Q (.bl b) H
theorem TV{X:Cx}:oB X (.builtin "isinstance") (RP X.K):=by
 intro pins s σ H xs us Q I r h;obtain⟨a,C,y,b,rfl,ha,S,h1,q⟩:=h;obtain⟨u,v,rfl,ru,rv⟩:=r.two;cases ru;have p:∃o vs,s.heap.get? a=some o/\o.cls = .ref C/\o.data = .fields vs:=(I.hok a _ ha).1;have fin:∀tk,EP X pins σ Q (.bool b) { s with toks:=tk }:=fun tk=>⟨.bl b,H,I.tok tk,rfl,q⟩;rcases h1 with⟨D,rfl,e⟩|⟨T,rfl,e⟩|⟨tp,Ds,rfl,ht,e⟩
 ·cases rv;exact W.kia_one (xH S) I.kIn p e (fun z=>nomatch z) fin
 ·cases rv;exact W.kia_one (xH S) I.kIn p e (fun z=>nomatch z) fin
 ·cases rv;obtain⟨its,r2,p2,_⟩:=I.tuple (SqT.of ht);have ei:=FP r2;subst ei;obtain⟨⟨cls,dd,data,sl⟩,ho,hc,n,hd⟩:=id p2;simp only at hc hd;subst hc hd;exact W.kia_tup (xH S) I.kIn p ho e (fun z=>nomatch z) fin
theorem Xa{X:Cx}(K:W.Frag)(hK:X.K=K:=by rfl):oB X (.builtin "isinstance") (RP K):=by subst hK;exact TV
theorem Ve{X:Cx}{x:Str}{C:Addr}{pos:Pos}(hg:Gl X x)(hm:X.mg x=some (.ref C))(hd:(x==("__debug__" : Str))=false:=by decide):PE X (.Name x pos) (tC (.ref C)):=Ar hg hm rfl hd
theorem M4{K:W.Frag}{h:Heap}{mg:Str->Option Value}{x:Str}{C:Addr}{newId inN Bn:String}{bmN:List Value}(X:K.In h)(G:h.Ns mainGlobals mg)(e:W.nsIn K mainGlobals x=some (some (.ref C)))
  (q:W.excIn K C [.type "ValueError",.type "Exception",.type "BaseException",.type "object"] newId=true) (Fn:ExcBaseFacts Bn newId inN bmN)
  (hBn:[Value.type "ValueError",.type "Exception",.type "BaseException",.type "object"].contains (.type Bn)=true):ExC mg h x C:=by
 refine⟨_,newId,⟨W.mg_of X G e,?_⟩,Bn,inN,bmN,_,_,_,Fn,hBn,F.excBase_ValueError⟩;unfold W.excIn at q;split at q
 ·rename_i dd cd sl ho
  split at q
  ·rename_i C' bm k0 k1 k2 k3 n k5 hm hs
   simp only[Bool.and_eq_true,beq_iff_eq,Bool.not_eq_true']at q;obtain⟨⟨⟨⟨⟨rfl,rfl⟩,hdel⟩,ht⟩,hok⟩,hni⟩:=q;obtain⟨nm,bs,mro,ns,qn,hdc,sn,sub,ab,col,del⟩:=cd;dsimp only at hm hdel hok hni;subst hm;subst hdel;have hsl:sl=#[k0,k1,k2,k3,some (.builtin n),k5]:=by
    obtain⟨l⟩:=sl;simp only at hs;rw[hs]
   subst hsl;exact⟨bm,ns,nm,qn,bs,hdc,sn,sub,ab,col,dd,k0,k1,k2,k3,k5,_,X _ _ ho,.of_isNs (W.isNs_of_in X hok),W.nsMap_none_of_in X hok hni,W.tail_of_in X ht⟩
  ·cases q
 ·cases q
def CG(K:W.Frag)(C R:Addr):Bool:=match K.lookup C with
 |some ⟨.type "type",_,.cls cd,sl⟩=>(match cd.mro,sl.toList with
  |.ref C'::bm,[_,_,_,_,some (.builtin _),_]=>C'==C&&!cd.hasDel&&(Value.ref C'::bm).contains (.ref R)
  |_,_=>false)
 |_=>false
theorem MR{K:W.Frag}{h:Heap}{C R:Addr}(X:K.In h)(q:CG K C R=true)(qr:W.ktsIn K R "BaseException" = true):ExS h C R:=by
 refine⟨?_,?_⟩
 ·unfold CG at q;split at q
  ·rename_i dd cd sl ho
   split at q
   ·rename_i C' bm k0 k1 k2 k3 n k5 hm hs
    simp only[Bool.and_eq_true,beq_iff_eq,Bool.not_eq_true']at q;obtain⟨⟨rfl,hdel⟩,ht⟩:=q;obtain⟨nm,bs,mro,ns,qn,hdc,sn,sub,ab,col,del⟩:=cd;dsimp only at hm hdel;subst hm;subst hdel;have hsl:sl=#[k0,k1,k2,k3,some (.builtin n),k5]:=by
     obtain⟨l⟩:=sl;simp only at hs;rw[hs]
    subst hsl;exact⟨nm,qn,ns,bs,bm,hdc,sn,sub,ab,col,dd,k0,k1,k2,k3,k5,n,X _ _ ho,ht⟩
   ·cases q
  ·cases q
 ·obtain⟨nm,qn,N,bs,bm,hdct,sn,sub,ab,col,dd,k0,k1,k2,k3,k5,newId,hR,hb,_⟩:=W.kts_cls X qr;exact⟨nm,qn,N,bs,bm,hdct,sn,sub,ab,col,dd,k0,k1,k2,k3,k5,newId,hR,hb⟩
section
variable {X:Cx} {a:Expr} {ta:TE}
end
end L2
namespace L2
open PySem
theorem jt:∀ns:List Int,PyData.canLayAll0 (ns.map PyData.int)=true
 |[]=>rfl
 |n::r=>by
  have:=jt r;simp[PyData.canLayAll0,PyData.canLay0,this]
theorem jQ:∀ns:List Int,PyData.depthAll (ns.map PyData.int)<=1
 |[]=>by simp[PyData.depthAll]
 |n::r=>by
  have:=jQ r;simp[PyData.depthAll,PyData.depth];omega
theorem vg(ns:List Int):SeqAt.shaped (.list (ns.map .int))=true:=by
 have h1:=jt ns;have h2:=jQ ns;simp only[SeqAt.shaped,PyData.canLay0,PyData.depth,h1,Bool.true_and];exact decide_eq_true (by omega)
theorem wu(ns:List Int):SeqAt.shaped (.tuple (ns.map .int))=true:=by
 have h1:=jt ns;have h2:=jQ ns;simp only[SeqAt.shaped,PyData.canLay0,PyData.depth,h1,Bool.true_and];exact decide_eq_true (by omega)
theorem Lf(ns ms:List Int):PyData.eqv (.list (ns.map .int)) (.list (ms.map .int))=decide (ns=ms):=by
 rw[PyData.eqv];exact W.ked_eqvAll ns ms
theorem AZ(ns ms:List Int):PyData.eqv (.tuple (ns.map .int)) (.tuple (ms.map .int))=decide (ns=ms):=by
 rw[PyData.eqv];exact W.ked_eqvAll ns ms
theorem adE{K:W.Frag}{g:Bool->Bool}{H:Hp}{a b:Addr}{ns ms:List Int}{Q:VK}(ha:SqL K H a (ns.map V.int))(hb:SqL K H b (ms.map V.int))(q:Q (.bl (g (decide (ns=ms)))) H):K3 K g (.ref a) (.ref b) H Q:=
 .inl ⟨_,_,.lst ha (Ad.ints ns),.lst hb (Ad.ints ms),vg ns,vg ms,by rw[Lf];exact q⟩
theorem abK{K:W.Frag}{g:Bool->Bool}{H:Hp}{a b:Addr}{ns ms:List Int}{Q:VK}(ha:SqT K H a (ns.map V.int))(hb:SqT K H b (ms.map V.int))(q:Q (.bl (g (decide (ns=ms)))) H):K3 K g (.ref a) (.ref b) H Q:=
 .inl ⟨_,_,.tup ha (Ad.ints ns),.tup hb (Ad.ints ms),wu ns,wu ms,by rw[AZ];exact q⟩
end L2
set_option maxHeartbeats 4000000
namespace L2
open PySem PySem.Spec PyProof.Rows
def ItA(t:Bool)(h:Heap)(it l:Addr)(i:Nat):Prop:=∃o,h.get? it=some o/\o.cls = .type (if t then "tuple_iterator" else "list_iterator")/\o.data = .fields #[.ref l,.int i 0]
def SqA(t:Bool)(h:Heap)(l:Addr)(items:Array Value):Prop:=∃o,h.get? l=some o/\o.cls = .type (if t then "tuple" else "list")/\∃n,o.data = .seq items n
theorem ItA.at{t:Bool}{h h':Heap}{it l:Addr}{i:Nat}(x:ItA t h it l i)(e:∀o,h.get? it=some o->h'.get? it=some o):ItA t h' it l i:=let⟨o,ho,r⟩:=x;⟨o,e o ho,r⟩
section
variable {prog:Program} {w:World} {A:Around} {E:Value->Shared->Prop} {s:Shared}
theorem Oe{t:Bool}{it l:Addr}{i:Nat}{items:Array Value}{x:Value}{Q:Value->Shared->Prop}(h1:ItA t s.heap it l i)(h2:SqA t s.heap l items)(hx:items[i]?=some x)
  (k:∀h',ItA t h' it l (i+1)->Heap.SameBut it s.heap h'->Q x { s with heap:=h' }):wpAny (model prog w) A (Builtin.SmallTypes.nextOf (.ref it)) Q E s:=by
 cases t with
 |false=>exact wpAny_nextOf_list_item h1 h2 hx k
 |true=>
  obtain⟨o,ho,hc,hd⟩:=id h1;obtain⟨ol,hol,_,nl,hdl⟩:=id h2;have ty:s.TypeIs (.ref it) "tuple_iterator" := ⟨o,ho,hc⟩;unfold Builtin.SmallTypes.nextOf;refine wpAny_bind (wpAny_callSpecial?_slot (name:=Str.ofString "__next__") ty F.slot_tuple_iterator_next (wpAny_call_entry F.slot_tuple_iterator_next ty F.entry_tuple_iterator_next ?_ (F.args_tuple_iterator_next_1 _)));show wpAny _ _ (field (.ref it) 0>>=_) _ _ s;refine wpAny_bind (wpAny_field ho hd (x:=Value.ref l) rfl ?_);show wpAny _ _ (if(Value.ref l==Value.none)=true then _ else _) _ _ s;rw[if_neg (show ¬((Value.ref l==Value.none)=true)from fun q=>Bool.false_ne_true q)];refine wpAny_bind (wpAny_field ho hd (x:=Value.int i 0) rfl ?_);refine wpAny_bind (wpAny_seqItems hol hdl (Q:=_) ?_);simp only[hx,Int.toNat_natCast];refine wpAny_bind (wpAny_setField ho hd (by simp) (wpAny_pure ⟨x,rfl,wpAny_pure (k _ ⟨_,Heap.get?_update_self _ ho (Obj.isFreed_of_fields (Obj.data_mapFields hd _)),?_,?_⟩ (Heap.SameBut.update ..))⟩))
  ·exact(Obj.cls_mapFields ..).trans hc
  ·rw[Obj.data_mapFields hd];simp[rawInt]
theorem Vl{t:Bool}{it l:Addr}{i:Nat}{items:Array Value}{Q:Value->Shared->Prop}(hh:A.handled=none)(h1:ItA t s.heap it l i)(h2:SqA t s.heap l items)(hx:items[i]?=none)
  (k:∀h' e,Heap.ExtBut it s.heap h'->(∃o,h'.get? e=some o/\o.cls = .type "StopIteration")->E (.ref e) { s with heap:=h' }):wpAny (model prog w) A (Builtin.SmallTypes.nextOf (.ref it)) Q E s:=by
 cases t with
 |false=>exact wpAny_nextOf_list_end hh h1 h2 hx k
 |true=>
  obtain⟨o,ho,hc,hd⟩:=id h1;obtain⟨ol,hol,_,nl,hdl⟩:=id h2;have ty:s.TypeIs (.ref it) "tuple_iterator" := ⟨o,ho,hc⟩;unfold Builtin.SmallTypes.nextOf;refine wpAny_bind (wpAny_callSpecial?_slot (name:=Str.ofString "__next__") ty F.slot_tuple_iterator_next (wpAny_call_entry F.slot_tuple_iterator_next ty F.entry_tuple_iterator_next ?_ (F.args_tuple_iterator_next_1 _)));show wpAny _ _ (field (.ref it) 0>>=_) _ _ s;refine wpAny_bind (wpAny_field ho hd (x:=Value.ref l) rfl ?_);show wpAny _ _ (if(Value.ref l==Value.none)=true then _ else _) _ _ s;rw[if_neg (show ¬((Value.ref l==Value.none)=true)from fun q=>Bool.false_ne_true q)];refine wpAny_bind (wpAny_field ho hd (x:=Value.int i 0) rfl ?_);refine wpAny_bind (wpAny_seqItems hol hdl (Q:=_) ?_);simp only[hx,Int.toNat_natCast];refine wpAny_bind (wpAny_rule (wpAny_bind (wpAny_setField ho hd (by simp) (Q:=_) ?_)));show wpAny _ _ (newExc (.type "StopIteration") []>>=_) _ _ _;refine wpAny_bind ?_;simp only[newTuple,newExc];refine wpAny_bind (wpAny_newObj_type (Q:=_) ?_ (by size_fits));refine wpAny_bind (m:=firstArgMember _ _) (wpAny_of_eq (a:=Value.none) (by first|rfl|(simp only[firstArgMember];done)) ?_)
  refine wpAny_newObj_type (Q:=_) ?_ (by size_fits);simp only[raiseNew];refine wpAny_bind (wpAny_handled (Q:=_) ?_);first|rw[hh]|rw[show A.in1.handled=Option.none from hh]
  refine wpAny_bind (wpAny_pure (wpAny_throw (k _ _ (((Heap.SameBut.update ..).extBut.push _).push _) ⟨_,Heap.get?_push_size _ rfl,rfl⟩)))
structure Apart(z TI TO i1 i2 l1 l2:Addr):Prop where
 own:[z,TI,TO,i1,i2].Nodup
 aeb:l1∉[z,TI,TO,i1,i2]
 aea:l2∉[z,TI,TO,i1,i2]
end
section
variable {X:Cx} {pins:List (Addr×Obj)} {σ:St} {H:Hp} {s:Shared} {h':Heap}
theorem Inv.IW{t':Nat}{ch:List Addr}(I:Inv X pins σ H s)(hf:∀b∈ch,Hl X pins H b)(k:∀b o,b∉ch->s.heap.get? b=some o->h'.get? b=some o):Inv X pins σ H { s with heap:=h',toks:=t' }:=by
 have far:∀b u,H b=some u->b∉ch:=fun b u e z=>by rw[(hf b z).1]at e;cases e
 refine I.step (g':=s.gens) (d':=s.drawn) (ch:=ch) (fun b hb=>?_) (fun b o _ _ hc e _=>k b o hc e) (fun b o _ _ hc e _=>⟨o.slots,k b o hc e⟩) (fun _ _ _ _ n=>n)
  (fun b o hc e=>⟨o,k b o hc e⟩) (fun _ _ e=>e) (fun _ _ _ e=>e) (fun b ps e=>⟨#[],by rw[e];simp⟩) (fun m hm=>?_) (fun b u e=>?_) I.bare
 ·obtain⟨_,f1,_,f3,f4,f5⟩:=hf b hb;exact⟨f3,f1,f4,f5⟩
 ·obtain⟨o,es,ep,ho,r⟩:=hm;exact⟨o,es,ep,k _ o (fun z=>(hf _ z).2.1 rfl) ho,r⟩
 ·refine(I.hok b u e).stay (fun c v hc q=>k c v ?_ q) (fun _ q=>q) fun _ _ q=>q;rcases hc with z|z
  ·rw[z];exact far b u e
  ·exact far c _ z
theorem Inv.adopt{p:Addr}{o:HO}(I:Inv X pins σ H s)(f:Hl X pins H p)(new:j5 X.prog X.w (upd H p o) s.heap p o):Inv X pins σ (upd H p o) s:=by
 obtain⟨f0,f1,_,f3,f4,f5⟩:=f;refine I.step (g':=s.gens) (d':=s.drawn) (t':=s.toks) (h':=s.heap) (ch:=[p]) (fun b hb=>?_) (fun b o _ _ hc e _=>e) (fun b o _ _ hc e _=>⟨o.slots,e⟩) (fun b _ hc _ n=>?_)
  (fun b o hc e=>⟨o,e⟩) (fun b xs e=>?_) (fun b xs _ e=>?_) (fun b ps e=>⟨#[],?_⟩) (fun m hm=>hm) (fun b u e=>?_) I.bare
 ·have e:b=p:=by simpa using hb
  subst e;exact⟨f3,f1,f4,f5⟩
 ·rw[cD fun z=>hc (by simp[z])];exact n
 ·rw[cD (cJ e f0)];exact e
 ·rw[cD (cJ e f0)];exact e
 ·rw[cD (cJ e f0),e];simp
 ·by_cases hb:b=p
  ·subst hb;rw[aD]at e;cases e;exact new
  ·rw[cD hb]at e;exact(I.hok b u e).stay (fun c v _ q=>q) (fun c q=>by rw[cD (cJ q f0)];exact q) fun c xs q=>by rw[cD (cJ q f0)];exact q
def SqX(K:W.Frag)(t:Bool)(H:Hp)(a:Addr)(xs:List V):Prop:=match t with
 |true=>SqT K H a xs
 |false=>SqL K H a xs
theorem Inv.OJ{t:Bool}{a:Addr}{xs:List V}(I:Inv X pins σ H s)(q:SqX X.K t H a xs):∃its:List Value,Vals xs its/\SqA t s.heap a its.toArray/\xs.length<=sizeLine:=by
 cases t with
 |false=>obtain⟨its,r,p,z⟩:=I.list q;exact⟨its,r,p.isList,z⟩
 |true=>obtain⟨its,r,p,z⟩:=I.tuple q;exact⟨its,r,p,z⟩
theorem Inv.J4{t:Bool}{a:Addr}{xs ys:List V}(I:Inv X pins σ H s)(q:SqX X.K t H a xs)(q':SqX X.K t H a ys):xs=ys:=by
 cases t with
 |false=>exact I.Du q q'
 |true=>exact I.Ae q q'
theorem Same.OJ{K:W.Frag}{t:Bool}{H H':Hp}{a:Addr}{xs:List V}(g:Same H H')(q:SqX K t H a xs):SqX K t H' a xs:=by
 cases t with
 |false=>exact g.seq q
 |true=>exact g.Vo q
end
theorem Ht:bootBuiltins "enumerate" = some (.type "enumerate"):=by decide +kernel
section
variable {prog:Program} {w:World} {A:Around} {E:Value->Shared->Prop} {s:Shared}
theorem Np{t:Bool}{e it l:Addr}{i:Nat}{items:Array Value}{x old:Value}{Q:Option Value->Shared->Prop}(he:IsEnum s.heap e it i old)(h1:ItA t s.heap it l i)(h2:SqA t s.heap l items)(hx:items[i]?=some x)(hne:e≠it)
  (k:∀h',IsEnumOut h' e it ((i:Int)+1) x s.heap.objs.size->ItA t h' it l (i+1)->h'.get? s.heap.objs.size=some { cls:= .type "tuple",data:= .seq #[.int i s.toks,x] }->
   (∀b o,b∉[e,it]->s.heap.get? b=some o->h'.get? b=some o)->Q (some (.ref s.heap.objs.size)) { s with heap:=h',toks:=s.toks+1 }):wpAny (model prog w) A (pyNext (.ref e)) Q E s:=by
 have ty:s.TypeIs (.ref e) "enumerate" := ⟨_,he,rfl⟩;unfold pyNext;refine wpAny_bind (wpAny_attempt (wpAny_callSpecial?_slot (name:=Str.ofString "__next__") ty F.slot_enumerate_next (wpAny_call_entry F.slot_enumerate_next ty F.entry_enumerate_next ?_ (F.args_enumerate_next_1 _))));obtain⟨hp,g,d,tk,os⟩:=s;have el:e<hp.objs.size:=Heap.lt_size he;show wpAny _ _ (field (.ref e) 2>>=_) _ _ _;refine wpAny_bind (wpAny_field he rfl (x:=Value.ref it) rfl ?_);refine wpAny_bind (Oe h1 h2 hx fun g1 n1 m1=>?_);replace m1:Heap.SameBut it hp g1:=m1;have e1:IsEnum g1 e it i old:=m1.extBut _ _ hne he;show wpAny _ _ (field (.ref e) 3>>=_) _ _ ⟨g1,g,d,tk,os⟩;refine wpAny_bind (wpAny_field e1 rfl (x:=rawInt i) rfl ?_);show wpAny _ _ (field (.ref e) 4>>=_) _ _ ⟨g1,g,d,tk,os⟩;refine wpAny_bind (wpAny_field e1 rfl (x:=Value.none) rfl ?_);show wpAny _ _ (mkInt i>>=_) _ _ ⟨g1,g,d,tk,os⟩;refine wpAny_bind (wpAny_mkInt (Q:=_) ?_);show wpAny _ _ (setField (.ref e) 3 (rawInt ((i:Int)+1))>>=_) _ _ ⟨g1,g,d,tk+1,os⟩;refine wpAny_bind (wpAny_setField_rec e1 (by simp) fun g2 e2 m2=>?_);replace m2:Heap.SameBut e g1 g2:=m2;replace e2:IsEnum g2 e it ((i:Int)+1) old:=e2;show wpAny _ _ (setField (.ref e) 4 .none>>=_) _ _ ⟨g2,g,d,tk+1,os⟩;refine wpAny_bind (wpAny_setField_rec e2 (by simp) fun g3 e3 m3=>?_);replace m3:Heap.SameBut e g2 g3:=m3;replace e3:IsEnum g3 e it ((i:Int)+1) old:=e3;show wpAny _ _ (newTuple [.int i tk,x]>>=_) _ _ ⟨g3,g,d,tk+1,os⟩;refine wpAny_bind (wpAny_newTuple (Q:=_) ?_);have sz:g3.objs.size=hp.objs.size:=by rw[m3.1,m2.1,m1.1]
 have e4:IsEnum (g3.push { cls:= .type "tuple",data:= .seq #[.int i tk,x] }) e it ((i:Int)+1) old:=Heap.get?_push_of_some _ e3;have t4:(g3.push { cls:= .type "tuple",data:= .seq #[.int i tk,x] }).get? hp.objs.size=some { cls:= .type "tuple",data:= .seq #[.int i tk,x] }:=by rw[<-sz];exact Heap.get?_push_size _ rfl
 have up4:∀b o,b≠e->b≠it->hp.get? b=some o->(g3.push { cls:= .type "tuple",data:= .seq #[.int i tk,x] }).get? b=some o:=fun b o c1 c2 q=>Heap.get?_push_of_some _ (m3.extBut _ _ c1 (m2.extBut _ _ c1 (m1.extBut _ _ c2 q)));have n4:ItA t (g3.push { cls:= .type "tuple",data:= .seq #[.int i tk,x] }) it l (i+1):=n1.at fun o q=>Heap.get?_push_of_some _ (m3.extBut _ _ (Ne.symm hne) (m2.extBut _ _ (Ne.symm hne) q));rw[sz];generalize g3.push { cls:= .type "tuple",data:= .seq #[.int i tk,x] }=g4 at e4 t4 up4 n4;show wpAny _ _ (Builtin.SmallTypes.ownedTupleIsFree (.ref e)>>=_) _ _ ⟨g4,g,d,tk+1,os⟩;refine wpAny_bind ?_;unfold Builtin.SmallTypes.ownedTupleIsFree;refine wpAny_bind (wpAny_field e4 rfl (x:=Value.none) rfl (wpAny_pure (Q:=_) ?_));simp only[if_true];refine wpAny_bind (wpAny_rule (Q:=_) ?_);refine wpAny_bind (wpAny_field e4 rfl (x:=old) rfl ?_);refine wpAny_bind (wpAny_setField_rec e4 (by simp) fun g5 e5 m5=>?_);replace m5:Heap.SameBut e g4 g5:=m5;replace e5:IsEnum g5 e it ((i:Int)+1) x:=e5;show wpAny _ _ (Builtin.SmallTypes.ownedTupleHandOut (.ref e) (.ref hp.objs.size)>>=_) _ _ ⟨g5,g,d,tk+1,os⟩;refine wpAny_bind ?_;unfold Builtin.SmallTypes.ownedTupleHandOut;refine wpAny_bind (wpAny_setField_rec e5 (by simp) fun g6 e6 m6=>?_);replace m6:Heap.SameBut e g5 g6:=m6;replace e6:IsEnumOut g6 e it ((i:Int)+1) x hp.objs.size:=e6;refine wpAny_setField_rec e6 (by simp) fun g7 e7 m7=>?_;replace m7:Heap.SameBut e g6 g7:=m7;replace e7:IsEnumOut g7 e it ((i:Int)+1) x hp.objs.size:=e7;have up:∀b o,b≠e->g4.get? b=some o->g7.get? b=some o:=fun b o c1 q=>m7.extBut _ _ c1 (m6.extBut _ _ c1 (m5.extBut _ _ c1 q));refine wpAny_bind (wpAny_letGo (wpAny_pure ⟨_,rfl,wpAny_pure (k g7 e7 (n4.at fun o q=>up _ o (Ne.symm hne) q) (up _ _ (Nat.ne_of_gt el) t4) fun b o hb q=>?_)⟩));simp only[List.mem_cons,List.not_mem_nil,or_false,not_or]at hb;exact up b o hb.1 (up4 b o hb.1 hb.2 q)
theorem Sh{t:Bool}{e it l:Addr}{i:Nat}{items:Array Value}{old:Value}{Q:Option Value->Shared->Prop}(hh:A.handled=none)(he:IsEnum s.heap e it i old)(h1:ItA t s.heap it l i)(h2:SqA t s.heap l items)(hx:items[i]?=none)
  (k:∀h',(∀b o,b∉[e,it]->s.heap.get? b=some o->h'.get? b=some o)->Q none { s with heap:=h' }):wpAny (model prog w) A (pyNext (.ref e)) Q E s:=by
 have ty:s.TypeIs (.ref e) "enumerate" := ⟨_,he,rfl⟩;unfold pyNext;refine wpAny_bind (wpAny_attempt (wpAny_callSpecial?_slot (name:=Str.ofString "__next__") ty F.slot_enumerate_next (wpAny_call_entry F.slot_enumerate_next ty F.entry_enumerate_next ?_ (F.args_enumerate_next_1 _))));show wpAny _ _ (field (.ref e) 2>>=_) _ _ _;refine wpAny_bind (wpAny_field he rfl (x:=Value.ref it) rfl ?_);refine wpAny_bind (Vl hh h1 h2 hx fun h' x m ⟨u,hu,cu⟩=>?_);refine wpAny_bind (wpAny_isInstance (T:= "StopIteration") (b:=true) ⟨u,hu,cu⟩ isSubtype_stop (wpAny_pure (k _ fun b o hb q=>m b o (fun z=>hb (by simp[z])) q)))
abbrev eA(t:Bool)(h:Heap)(l:Addr):Heap:=h.push { cls:= .type (if t then "tuple_iterator" else "list_iterator"),data:= .fields #[.ref l,.int 0 0] }
abbrev eB(t:Bool)(h:Heap)(l:Addr):Heap:=(eA t h l).push { cls:= .type "enumerate",data:= .fields #[.none,.bool false,.ref h.objs.size,rawInt 0,.none,.none] }
set_option maxRecDepth 100000 in
theorem Sq(l:Addr)(items:Array Value)(n:Nat)(dct:Option Addr)(sl:Array (Option Value)):
  Meets (Builtin.«enumerate.__new__» ⟨[.type "enumerate",.ref l],[]⟩) (fun _ R s=>s.heap.get? l=some { cls:= .type "tuple",dict:=dct,data:= .seq items n,slots:=sl }/\
   R (.ok (.ret (.ref (eA true s.heap l).objs.size))) { s with heap:=eB true s.heap l }):=
 .of_wp fun prog w A R s h=>by
  obtain⟨hp,g,d,tk,os⟩:=s;obtain⟨hl,h⟩:=h;have hsub:=sub_enumerate;have hL:Heap.IsTuple (Shared.heap ⟨hp,g,d,tk,os⟩) l items:=⟨_,hl,rfl,n,rfl⟩
  wp_walk using AutoSeq1.wpAny_loadPart' hl
  refine wpAny_stack_any fun st=>wpAny_pure ?_;split
  ·rename_i c _ _ _ _ _
   cases (c==Value.type "enumerate")
   ·wp_walk using AutoSeq1.wpAny_loadPart' hl,wpAny_pyIter_tuple hL
    exact⟨_,rfl,h⟩
   ·wp_walk using AutoSeq1.wpAny_loadPart' hl,wpAny_pyIter_tuple hL
    exact⟨_,rfl,h⟩
  ·wp_walk using AutoSeq1.wpAny_loadPart' hl,wpAny_pyIter_tuple hL
   exact⟨_,rfl,h⟩
theorem Zm(t:Bool)(l:Addr)(items:Array Value)(n:Nat)(dct:Option Addr)(sl:Array (Option Value)):
  Meets (Builtin.«enumerate.__new__» ⟨[.type "enumerate",.ref l],[]⟩) (fun _ R s=>s.heap.get? l=some { cls:= .type (if t then "tuple" else "list"),dict:=dct,data:= .seq items n,slots:=sl }/\
   R (.ok (.ret (.ref (eA t s.heap l).objs.size))) { s with heap:=eB t s.heap l }):=
 match t with
 |false=>meets_enumerate_newL l items n dct sl
 |true=>Sq l items n dct sl
theorem N8{t:Bool}{l:Addr}{items:Array Value}{Q:Value->Shared->Prop}(m:SqA t s.heap l items)
  (k:∀h',IsEnum h' (s.heap.objs.size+1) s.heap.objs.size 0 .none->ItA t h' s.heap.objs.size l 0->(∀c o,s.heap.get? c=some o->h'.get? c=some o)->Q (.ref (s.heap.objs.size+1)) { s with heap:=h' }):
  wpAny (model prog w) A (call (.type "enumerate") [.ref l]) Q E s:=by
 obtain⟨⟨c,dct,dt,sl⟩,hl,hc,n,hd⟩:=m;replace hc:c = .type (if t then "tuple" else "list"):=hc;replace hd:dt = .seq items n:=hd;subst hc hd;refine callType_new F.called_enumerate (by decide) (F.typeCall_enumerate_1 _) (F.newCall_enumerate_1 _) (fun obj=>F.args_object_init_2 obj _) F.entry_enumerate_new (Zm t l items n dct sl) ⟨hl,?_⟩;have y1:(eA t s.heap l).objs.size=s.heap.objs.size+1:=Heap.size_push ..;have o2:(eB t s.heap l).get? (eA t s.heap l).objs.size=some _:=Heap.get?_push_size _ rfl;have o1:(eB t s.heap l).get? s.heap.objs.size=some _:=Heap.get?_push_of_some _ (Heap.get?_push_size _ rfl);show _/\_;rw[y1]at o2⊢;exact⟨⟨_,o2,rfl⟩,k _ o2 ⟨_,o1,rfl,rfl⟩ fun c o q=>Heap.get?_push_of_some _ (Heap.get?_push_of_some _ q)⟩
end
section
variable {X:Cx} {pins:List (Addr×Obj)} {σ:St} {H:Hp} {s:Shared} {h':Heap}
structure EAt(t:Bool)(e it l:Addr)(i:Nat)(h:Heap):Prop where
 ee:∃old,IsEnum h e it (i:Int) old
 w1:ItA t h it l i
def Ite(K:W.Frag)(t:Bool)(a:Addr):It:=
 ⟨fun i H=>∃xs x,SqX K t H a xs/\xs[i]?=some x,
 fun i H v H'=>∃p x,v = .ref p/\H p=none/\H'=upd H p (.tup [.int (i:Int),x])/\∀xs,SqX K t H a xs->xs[i]?=some x,
 fun i H=>∃xs,SqX K t H a xs/\xs.length<=i⟩
theorem Hj{P:Program}{w:World}{K:W.Frag}{es:List Expr}{x1:Nat}{pos:Pos}{t:Bool}{e it a:Addr}(hne:e≠it):
  Turn P w K (.Tuple es x1 pos) (Ite K t a) [e,it] e (fun i h=>EAt t e it a i h) where
 mem:=by simp
 obj:=fun i h Z c hc=>by
  obtain⟨⟨old,ee⟩,⟨o1,h1,_,d1⟩⟩:=Z;simp only[List.mem_cons,List.not_mem_nil,or_false]at hc;rcases hc with rfl|rfl
  ·exact⟨_,ee,fun v q=>by cases q⟩
  ·exact⟨_,h1,fun v q=>by rw[d1]at q;cases q⟩
 keep:=fun i h h' Z k=>by
  obtain⟨⟨old,ee⟩,w1⟩:=Z;exact⟨⟨old,k _ (by simp) _ ee⟩,w1.at fun o q=>k _ (by simp) o q⟩
 item:=by
  intro X hP hw hK hc i pins s σ H E I hf Z hg;subst hP hw hK;obtain⟨xs,x,hq,hx⟩:=hg;obtain⟨its,r,p,_⟩:=I.OJ hq;obtain⟨u,hu,ru⟩:=r.get hx;obtain⟨⟨old,ee⟩,w1⟩:=Z;refine Np ee w1 p (x:=u) (by simpa using hu) hne fun g e1 n1 t1 k1=>⟨_,rfl,?_⟩;have el:e≠s.heap.objs.size:=Nat.ne_of_lt (Heap.lt_size ee);refine wpAny_letOwnedTupleGo_enum e1 fun g' e2 m'=>?_;have t2:g'.get? s.heap.objs.size=some { cls:= .type "tuple",data:= .seq #[.int i s.toks,u] }:=m'.extBut _ _ (Ne.symm el) t1;have I1:Inv X pins σ H { s with heap:=g',toks:=s.toks+1 }:=I.IW (t':=s.toks+1) (ch:=[e,it]) hf fun c o hc q=>m'.extBut _ _ (fun z=>hc (by simp[z])) (k1 c o hc q);have I2:Inv X pins σ (upd H s.heap.objs.size (.tup [.int (i:Int),x])) { s with heap:=g',toks:=s.toks+1 }:=I1.adopt (I.Od (Nat.le_refl _) I.fresh)
   ⟨by simp[sizeLine],[.int i s.toks,u],.cons ⟨_,rfl⟩ (.cons ru .nil),⟨_,t2,rfl,_,rfl⟩⟩
  refine⟨.ref s.heap.objs.size,_,I2,rfl,⟨_,x,rfl,I.fresh,rfl,fun xs' q=>by rw[I.J4 q hq];exact hx⟩,⟨⟨_,e2⟩,n1.at fun o q=>m'.extBut _ _ (Ne.symm hne) q⟩,fun c hc=>?_⟩;rw[cD]
  ·exact(hf c hc).1
  ·intro q;obtain⟨o,ho⟩:∃o,s.heap.get? c=some o:=by
    obtain⟨o1,h1,_,d1⟩:=w1;simp only[List.mem_cons,List.not_mem_nil,or_false]at hc;rcases hc with rfl|rfl
    ·exact⟨_,ee⟩
    ·exact⟨_,h1⟩
   exact absurd (Heap.lt_size ho) (by rw[q];exact Nat.lt_irrefl _)
 done:=by
  intro X hP hw hK hc i pins s σ H E I hf Z hg;subst hP hw hK;obtain⟨xs,hq,hend⟩:=hg;obtain⟨its,r,p,_⟩:=I.OJ hq;have n1:=r.length;obtain⟨⟨old,ee⟩,w1⟩:=Z;exact Sh (I.ok.hd hc) ee w1 p (by simp;omega) fun g k1=>⟨rfl,I.IW (t':=s.toks) (ch:=[e,it]) hf fun c o hc q=>k1 c o hc q⟩
 self:=fun _ _ _ _ _ Z h=>by
  obtain⟨⟨old,ee⟩,_⟩:=Z;exact wpAny_pyIter_enum ee h
def X5(K:W.Frag)(ta:TA):TI:=fun σ H R=>ta σ H fun vs H1=>∃t a xs,vs=[.ref a]/\SqX K t H1 a xs/\R (Ite K t a) H1
theorem IZ(K:W.Frag){e1:Expr}{es:List Expr}{x1:Nat}{pos':Pos}{ta:TA}{p pos:Pos}(hg:Gl X "enumerate")(hm:X.mg "enumerate" = none)(ha:PA X [e1] ta)(hK:X.K=K:=by rfl)
  (hs:starEach [e1] X.env=[(false,eval e1 X.env)]:=by rfl):PI X (.Tuple es x1 pos') (.Call (.Name "enumerate" p) [e1] [] pos) (X5 K ta):=by
 subst hK;intro pins s σ H R I h;refine Call_ (wz I hg hm Ht (PyProof.Rows.callWith_type1 (thn (ha pos pins s σ H _ I h) fun us s1 ⟨vs,H1,I1,r1,q1⟩=>?_) hs rfl));obtain⟨t,a,xs,e,hq,q⟩:=q1;subst e;cases r1 with
 |cons r rr=>
  cases rr;cases r;obtain⟨its,v1,p1,_⟩:=I1.OJ hq;refine N8 p1 fun h' ee w1 k=>?_;have I2:Inv X pins σ H1 { s1 with heap:=h' }:=I1.kept (t':=s1.toks) k;refine wpAny_pyIter_enum ee ⟨_,_,_,_,H1,rfl,I2,Hj (Nat.succ_ne_self _),⟨⟨_,ee⟩,w1⟩,fun c hc=>?_,q⟩;have hc':s1.heap.objs.size<=c:=by
   simp only[List.mem_cons,List.not_mem_nil,or_false]at hc;rcases hc with rfl|rfl
   ·exact Nat.le_add_right _ _
   ·exact Nat.le_refl _
  exact I1.Od hc' (I1.hok.fresh hc')
theorem G5{K:W.Frag}{t:Bool}{a:Addr}{xs:List V}{ix:List (Option Nat)}{te:TE}{σ:St}{H1:Hp}{Q:VK}(q1:SqX K t H1 a xs)(hz:xs.length<=sizeLine){rest:St}(hst:cst ix σ=none::none::rest)(F:Nat->V->V)
  (he:∀(H':Hp) (i:Nat) (x:V),Same H1 H'->xs[i]?=some x->∀k:VK,(∀H2,Same H' H2->k (F i x) H2)->te (some (.int (i:Int))::some x::rest) H' k)
  (hQ:∀D H',H1 D=none->Same H1 H'->H' D=some (.lst (xs.mapIdx F))->Q (.ref D) H'):
  sX ix (Yp K 2 (Qk (oK 0) (Qk (oK 1) acq))) IX te σ Q (Ite K t a) H1:=by
 constructor;intro D hD;refine⟨fun i m σ' H'=>m=xs.length-i/\i<=xs.length/\(∃o o',σ'=o::o'::rest)/\Same H1 H'/\H' D=some (.lst ((xs.mapIdx F).take i)),⟨xs.length,by simp,Nat.zero_le _,⟨none,none,hst⟩,Same.new hD _,by rw[aD];simp⟩,?_⟩;rintro i m σ' H' ⟨rfl,hi,⟨o,o',rfl⟩,g,hl⟩;by_cases hlt:i<xs.length
 ·have hx:xs[i]?=some xs[i]:=List.getElem?_eq_getElem hlt;refine .inr ⟨⟨xs,_,g.OJ q1,hx⟩,?_⟩;rintro v H2 ⟨p,x,rfl,hp,rfl,y1⟩;have ex:=y1 xs (g.OJ q1);have g2:Same H' (upd H' p (.tup [.int (i:Int),x])):=Same.new hp _;refine⟨p,[.int (i:Int),x],rfl,.inl (.inl aD),rfl,_,[x],rfl,x,[],rfl,rfl,?_⟩;change te (some (.int (i:Int))::some x::rest) (upd H' p (.tup [.int (i:Int),x])) _;refine he _ i x (g.trans g2) ex _ fun H3 g3=>⟨_,g3 _ _ (g2 _ _ hl),?_,xs.length-(i+1),by omega,rfl,by omega,⟨_,_,rfl⟩,?_,?_⟩
  ·rw[List.length_take,List.length_mapIdx];omega
  ·exact Same.upd ((g.trans g2).trans g3) hD _
  ·rw[aD,List.take_add_one];have e:(xs.mapIdx F)[i]?=some (F i x):=by rw[List.getElem?_mapIdx,ex];rfl
   rw[e];rfl
 ·refine .inl ⟨⟨xs,g.OJ q1,by omega⟩,hQ D H' hD g ?_⟩;rw[hl,List.take_of_length_le];rw[List.length_mapIdx];omega
theorem Ky{K:W.Frag}{t:Bool}{a:Addr}{xs:List V}{g:TG}{tb:TS}{D:Ends}{σ:St}{H:Hp}(Pv:Nat->St->Hp->Prop)(h0:Pv 0 σ H)(hsq:∀i σ' H',Pv i σ' H'->SqX K t H' a xs)
  (hs:∀(i:Nat) (x:V) (σ':St) (H':Hp) (p:Addr),xs[i]?=some x->Pv i σ' H'->H' p=none->g (.ref p) σ' (upd H' p (.tup [.int (i:Int),x])) fun σ2 H2=>tb { D with nx:=Pv (i+1),ct:=Pv (i+1),bk:=D.nx } σ2 H2)
  (hd:∀σ' H',Pv xs.length σ' H'->D.nx σ' H'):
  ∃W:Nat->Nat->St->Hp->Prop,(∃m,W 0 m σ H)/\∀i m σ H,W i m σ H->
   ((Ite K t a).stop i H/\D.nx σ H)∨((Ite K t a).go i H/\∃N:St->Hp->Prop,(∀σ' H',N σ' H'->∃m',m'<m/\W (i+1) m' σ' H')/\∀x H',(Ite K t a).yld i H x H'->g x σ H' fun σ2 H2=>tb { D with nx:=N,ct:=N,bk:=D.nx } σ2 H2):=by
 refine⟨fun i m σ' H'=>m=xs.length-i/\i<=xs.length/\Pv i σ' H',⟨xs.length,by simp,Nat.zero_le _,h0⟩,?_⟩;rintro i m σ' H' ⟨rfl,hi,pv⟩;have q1:=hsq i σ' H' pv;by_cases hlt:i<xs.length
 ·have hx:xs[i]?=some xs[i]:=List.getElem?_eq_getElem hlt;refine .inr ⟨⟨xs,_,q1,hx⟩,Pv (i+1),fun σ2 H2 p'=>⟨xs.length-(i+1),by omega,rfl,by omega,p'⟩,?_⟩;rintro v H2 ⟨p,x,rfl,hp,rfl,y1⟩;exact hs i x σ' H' p (y1 xs q1) pv hp
 ·have e:i=xs.length:=by omega
  refine .inl ⟨⟨xs,q1,by omega⟩,hd σ' H' ?_⟩;rw[<-e];exact pv
end
def Itd(lo:Int)(n:Nat):It:=⟨fun i _=>i<n,fun i H x H'=>H'=H/\x = .int (lo-i),fun i _=>n<=i⟩
theorem jV{P:Program}{w:World}{K:W.Frag}{tg:Expr}(it:Addr)(lo:Int)(n:Nat):Turn P w K tg (Itd lo n) [it] it (fun i h=>IsRangeIter h it (lo+(i:Nat)*(-1)) ((n:Int)-(i:Nat)) (-1)) where
 mem:=by simp
 obj:=fun i h st b hb=>by
  have e:b=it:=by simpa using hb
  subst e;exact⟨_,st,fun v z=>by
   have z':Data.fields _=Data.cell v:=z;cases z'⟩
 keep:=fun i h h' st k=>k it (by simp) _ st
 item:=by
  intro X hP hw hK hc i pins s σ H E I hf st hg;subst hP hw hK;obtain⟨f0,f1,f2,f3,f4,f5⟩:=hf it (by simp);have W:=Walks.range (prog:=X.prog) (w:=X.w) (I.ok.hd hc) it lo (-1) n;refine W.item i s _ _ hg st fun v h' tk hv st' kk=>?_;obtain⟨t,rfl⟩:=hv;have I1:Inv X pins σ H { s with heap:=h',toks:=tk }:=I.turned (fun b o hb e=>kk b o (by simpa using hb) e) f0 f1 f3 f4 f5;refine⟨_,rfl,K4 (s:={ s with heap:=h',toks:=tk }) (n:= "range_iterator") st' rfl rfl (by decide) ⟨.int (lo-i),H,I1,⟨t,?_⟩,⟨rfl,rfl⟩,st',fun b hb=>(hf b hb).1⟩⟩;rw[Int.mul_neg_one];rfl
 done:=by
  intro X hP hw hK hc i pins s σ H E I hf st hg;subst hP hw hK;obtain⟨f0,f1,f2,f3,f4,f5⟩:=hf it (by simp);exact wpAny_pyNext_range_end (I.ok.hd hc) st (by have:n<=i:=hg;omega) fun h' eb=>⟨rfl,I.turned (t':=s.toks) (fun b o hb e=>eb b o hb e) f0 f1 f3 f4 f5⟩
 self:=fun _ _ _ _ _ st h=>wpAny_pyIter_rangeiter st h
theorem rangeSize_down(a b:Int):Builtin.Range.rangeSize a b (-1)=if b<a then a-b else 0:=by
 unfold Builtin.Range.rangeSize;simp only[show ¬(-1:Int)>0 by decide,if_false,Int.neg_neg,Int.ediv_one];split<;>omega
theorem small_down{a b:Int}(ha:-(2^62)<=a)(ha':a<2^62)(hb:-(2^62)<=b)(hb':b<2^62):Builtin.Range.small a b (-1)=true:=by
 unfold Builtin.Range.small;rw[rangeSize_down];simp only[Builtin.Range.rangeFitsLong,Bool.and_eq_true,Bool.or_eq_true,decide_eq_true_eq,beq_iff_eq,show ¬(-1:Int)>0 by decide,if_false];split<;>omega
section
variable {X:Cx} {tg:Expr}
theorem Qe{pins:List (Addr×Obj)}{σ:St}{H:Hp}{s:Shared}{R:It->Hp->Prop}{E:Value->Shared->Prop}{lo hi:Int}{t u v:Tok}{tk:Nat}(I:Inv X pins σ H s)(h1:-(2^62)<=lo)(h2:lo<2^62)(h3:-(2^62)<=hi)(h4:hi<2^62)
  (q:R (Itd lo (lo-hi).toNat) H):wpAny (model X.prog X.w) X.A (pyIter (.ref s.heap.objs.size)) (PIE X pins σ tg R) E { s with heap:=s.heap.push { cls:= .type "range",data:= .fields #[.int lo t,.int hi u,.int (-1) v] },toks:=tk }:=by
 refine wpAny_pyIter_range (IsRange.new ..) (small_down h1 h2 h3 h4) ?_;have I1:Inv X pins σ H { s with heap:=s.heap.push { cls:= .type "range",data:= .fields #[.int lo t,.int hi u,.int (-1) v] },toks:=tk }:=I.kept fun b o e=>Heap.get?_push_of_some _ e;refine⟨(s.heap.push { cls:= .type "range",data:= .fields #[.int lo t,.int hi u,.int (-1) v] }).objs.size,[(s.heap.push { cls:= .type "range",data:= .fields #[.int lo t,.int hi u,.int (-1) v] }).objs.size],_,_,H,rfl,
  I1.kept (t':=tk) fun b o e=>Heap.get?_push_of_some _ e,jV _ lo (lo-hi).toNat,?_,fun b hb=>?_,q⟩
 ·have e1:lo+((0:Nat):Int)*(-1)=lo:=by simp
  have e2:(((lo-hi).toNat:Nat):Int)-((0:Nat):Int)=Builtin.Range.rangeSize lo hi (-1):=by rw[rangeSize_down];split<;>omega
  show IsRangeIter _ _ (lo+((0:Nat):Int)*(-1)) ((((lo-hi).toNat:Nat):Int)-((0:Nat):Int)) (-1);rw[e1,e2];exact Heap.get?_push_size _ rfl
 ·have e:b=(s.heap.push { cls:= .type "range",data:= .fields #[.int lo t,.int hi u,.int (-1) v] }).objs.size:=by simpa using hb
  subst e;exact I1.Od (Nat.le_refl _) (I1.hok.fresh (Nat.le_refl _))
def Yr(ta:TA):TI:=fun σ H R=>ta σ H fun vs H1=>∃i j:Int,vs=[.int i,.int j,.int (-1)]/\(-(2^62)<=i/\i<2^62/\-(2^62)<=j/\j<2^62)/\R (Itd i (i-j).toNat) H1
theorem Ih{a b c:Expr}{ta:TA}{p pos:Pos}(hg:Gl X "range")(hm:X.mg "range" = none)(ha:PA X [a,b,c] ta)(hs:starEach [a,b,c] X.env=(false,eval a X.env)::starEach [b,c] X.env:=by rfl)(hs2:(backTo pos (starEach [b,c] X.env)).any (·.1)=false:=by rfl):
  PI X tg (.Call (.Name "range" p) [a,b,c] [] pos) (Yr ta):=by
 intro pins s σ H R I h;refine Call_ (wz I hg hm boot_range (PyProof.Rows.callWith_type1 (thn (ha pos pins s σ H _ I h) fun us s1 ⟨vs,H1,I1,r1,q1⟩=>?_) hs hs2));obtain⟨i,j,e,⟨q1,q2,q3,q4⟩,q⟩:=q1;subst e;cases r1 with
 |cons r rr=>
  cases rr with
  |cons r' rr=>
   cases rr with
   |cons r'' rr=>
    cases rr;obtain⟨t,rfl⟩:=r;obtain⟨t',rfl⟩:=r';obtain⟨t'',rfl⟩:=r'';exact call_range_3 (by decide) (Qe (tk:=s1.toks) I1 q1 q2 q3 q4 q) (.inl (PyProof.noPylong_small (by omega)))
end
theorem KY{lo:Int}{n:Nat}{g:TG}{tb:TS}{D:Ends}{σ:St}{H:Hp}(Pv:Nat->St->Hp->Prop)(h0:Pv 0 σ H)
  (hs:∀i σ H,i<n->Pv i σ H->g (.int (lo-i)) σ H fun σ2 H2=>tb { D with nx:=Pv (i+1),ct:=Pv (i+1),bk:=D.nx } σ2 H2) (hd:∀σ H,Pv n σ H->D.nx σ H):
  ∃W:Nat->Nat->St->Hp->Prop,(∃m,W 0 m σ H)/\∀i m σ H,W i m σ H->
   ((Itd lo n).stop i H/\D.nx σ H)∨((Itd lo n).go i H/\∃N:St->Hp->Prop,(∀σ' H',N σ' H'->∃m',m'<m/\W (i+1) m' σ' H')/\∀x H',(Itd lo n).yld i H x H'->g x σ H' fun σ2 H2=>tb { D with nx:=N,ct:=N,bk:=D.nx } σ2 H2):=by
 refine⟨fun i m σ H=>m=n-i/\i<=n/\Pv i σ H,⟨n,by simp,Nat.zero_le _,h0⟩,?_⟩;rintro i m σ H ⟨rfl,hi,p⟩;by_cases hlt:i<n
 ·refine .inr ⟨hlt,Pv (i+1),fun σ' H' p'=>⟨n-(i+1),by omega,rfl,hlt,p'⟩,fun x H' y=>?_⟩;obtain⟨e,y⟩:=y;subst e y;exact hs i σ _ hlt p
 ·have e:i=n:=by omega
  subst e;exact .inl ⟨Nat.le_refl _,hd σ H p⟩
section
variable {X:Cx}
end
section
variable {X:Cx}
end
def Mg(base:Heap)(R:Addr)(j:Nat)(ts:Addr->TS)(D:Ends)(σ:St):XK:=fun cls _ H2=>∃C,cls = .ref C/\ExS base C R/\∀a,H2 a=none->
  ts a { nx:=fun σ' H'=>D.nx (σ'.set j none) H',rt:=D.rt,bk:=fun σ' H'=>D.bk (σ'.set j none) H',ct:=fun σ' H'=>D.ct (σ'.set j none) H' } (σ.set j (some (.ref a))) (upd H2 a (Q8 a C))
theorem FN{X:Cx}{n x:Str}{j:Nat}{R:Addr}{xp hpos:Pos}{b₀:Stmt}{suite:List Stmt}{ts:Addr->TS}{pins:List (Addr×Obj)}{σ:St}{H H1:Hp}{s s1 s2:Shared}{D:Ends}{ev:Value}
  (Vk:X.stack=X.env::X.outer) (hfr:X.env.frame=some X.env.locals) (hex:X.ex=[]) (hN:X.N.Nodup)
  (hj:X.N[j]?=some n) (hn:X.env.scope.names.lookup n=some .local) (hx:Gl X x) (hR:X.mg x=some (.ref R)) (hs:∀a,PSs (cxS X a) (b₀::suite) (ts a))
  (hdx:(x==("__debug__" : Str))=false) (I:Inv X pins σ H s) (I1:Inv X pins σ H1 s1) (hq:tD X.prog X.w X.stack H1 s1 (Mg X.base R j ts D σ) ev s2):
  wpAny (model X.prog X.w) X.A (noteFrame ev X.env) (fun _ s₂=>wpAny (model X.prog X.w) X.A (setFlight ev none) (fun _ s₃=>wpAny (model X.prog X.w) X.A (handleBy ev X.env [.ExceptHandler (some (.Name x xp)) (some n) (b₀::suite) hpos]) (SP X pins D) X.xe s₃) X.xe s₂) X.xe s2:=by
 have nx:∀b:Addr,b∉X.ex:=fun b=>by rw[hex];simp
 obtain⟨ea,Cc,a0,B,H2,rfl,os,bare,fl,hok,un,old,C',eC,S,q2⟩:=tD.ex hq;cases eC;rw[Vk]at fl;have Hi:frs X.stack=(X.env::X.outer).filterMap (·.frame):=by rw[Vk];rfl
 have oe:=fl.first;have newE:∀u,s1.heap.get? ea≠some u:=fun u z=>by
  rcases old ea u z with hb|⟨o',hb⟩
  ·rw[Hi]at hb;obtain⟨_,o,ho,hd⟩:=fl.2.2.1.mem hb;obtain⟨o2,vs2,e1,_,e2,_⟩:=oe;rw[e1]at ho;cases ho;exact hd _ e2
  ·rw[fl.2.1]at hb;cases hb
 have to:∀h6,Heap.FlyingW B (X.env::X.outer) ea (.ref Cc) a0 h6->s2.heap.UpToSlots h6->Inv X pins σ H2 { s2 with heap:=h6 }:=fun h6 fl6 up=>by
  refine I1.UG (ch:=[]) os ⟨fun b o e1 n1 hb _=>?_,fun b o e1 n1 hb _=>?_,fun b o e1 n1 _=>un.free b o e1 n1 (by simp),fun b o e1 _=>?_,un.tups,un.Ag,un.BZ⟩ (hok.kept fl6.1) bare (fun _ z=>nomatch z)
  ·rcases old b o e1 with z|⟨o',z⟩
   ·exact absurd z hb
   ·have e2:=un.keep b o e1 n1 hb (by simp);have e3:=fl.1 b o' z;rw[e2]at e3;cases e3;exact fl6.1 b _ z
  ·obtain⟨sl,e2⟩:=un.slot b o e1 n1 hb (by simp);rw[Hi]at hb;obtain⟨_,o2,ho,hd⟩:=fl.2.2.1.mem hb;rw[e2]at ho;cases ho;obtain⟨sl',e3⟩:=up b _ e2 hd;exact⟨sl',e3⟩
  ·rcases old b o e1 with z|⟨o',z⟩
   ·rw[Hi]at z;obtain⟨_,o2,ho,hd⟩:=fl.2.2.1.mem z;obtain⟨sl',e3⟩:=up b _ ho hd;exact⟨_,e3⟩
   ·exact⟨o',fl6.1 b o' z⟩
 have adY:X.A.frames=some (X.env::X.outer):=by rw[I.ok.frames,Vk]
 refine wpAny_looks_onW adY hfr fl fun h4 Wx up4=>?_;refine wpAny_landsW Wx fun h5 fl5 up5=>?_;have I5:=to h5 fl5 (up4.trans up5);obtain⟨ob,hob,hobc⟩:=fl5.there;refine wpAny_handleBy_cons (codeAny_handlers_test (uG (X:=cxS X ea) (I5.suite ea) hx hR ?_ hdx)) (by intro z;cases z);refine vJ S I5.bk hob hobc (codeAny_handlers_suite_as ?_);refine lands_againW fl5 fun h6 fl6 up6=>?_;have I6:=to h6 fl6 ((up4.trans up5).trans up6);obtain⟨oe6,vs6,e6,c6,d6,_⟩:=fl6.first;have hn2:H2 ea=none:=by
  cases z:H2 ea with
  |none=>rfl
  |some u=>
   exfalso
   obtain⟨o',z'⟩:=(hok ea u z).there;rw[fl.2.1]at z';cases z'
 have I7:Inv X pins σ (upd H2 ea (Q8 ea Cc)) { s2 with heap:=h6 }:=by
  refine I6.track hn2 (fun u z=>?_) (fun z=>?_) (fun y c e z=>?_) (fun p hp z=>?_) (O9 e6 c6 d6)
  ·obtain⟨o',e1⟩:=I1.base.there ea u z (nx ea);exact newE o' e1
  ·obtain⟨m,⟨o,_,_,ho,_⟩,_⟩:=I1.loc;exact newE o (by rw[z];exact ho)
  ·obtain⟨v',o,ho,_⟩:=I1.cell y c e;exact newE o (by rw[<-z];exact ho)
  ·exact newE p.2 (by rw[<-z];exact(I1.pin p hp).1)
 refine tV (X:=cxS X ea) (I7.suite ea) hN hj (.inl hn) (show RelV (.ref ea) (Value.ref ea)from rfl) (fun s8 I8=>?_) (.inr hn);have q3:=q2 ea hn2;have gone:∀{σ9:St} {H9:Hp} {s9:Shared} {Q':Unit->Shared->Prop},Inv (cxS X ea) pins σ9 H9 s9->(∀s10,Inv X pins (σ9.set j none) H9 s10->Q' () s10)->wpAny (model X.prog X.w) X.A (do bindName X.env n .none;unbindBehindTheSuite X.env n hpos) Q' X.xe s9:=
  fun {σ9 H9 s9 Q'} I9 k=>by
   have I9':Inv X pins σ9 H9 s9:=I9.Qt I.ok;obtain⟨m,hm9,_⟩:=id I9'.loc;exact wpAny_nameGoes_keeps hn hm9 (by rw[I.ok.kind];rfl) fun h' v' n' sb=>k _ (I9'.unset hN hj hm9 n' sb)
 refine wpAny_mono (hs ea pins s8 _ _ _ I8 q3) (fun fl9 s9 q9=>?_) fun _ _ z=>z.elim;cases fl9 with
 |next=>
  obtain⟨σ9,H9,I9,q9⟩:=q9;exact gone I9 fun s10 I10=>⟨_,H9,I10,q9⟩
 |brk=>
  obtain⟨σ9,H9,I9,q9⟩:=q9;exact gone I9 fun s10 I10=>⟨_,H9,I10,q9⟩
 |cont=>
  obtain⟨σ9,H9,I9,q9⟩:=q9;exact gone I9 fun s10 I10=>⟨_,H9,I10,q9⟩
 |ret u=>
  obtain⟨y,σ9,H9,I9,r9,q9⟩:=q9;exact gone I9 fun s10 I10=>⟨y,_,H9,I10,r9,q9⟩
def LK(base:Heap)(R:Addr)(sp:Sp)(j:Nat)(t:TA)(ts:Addr->TS):TS:=fun D σ H=>t σ H fun vs H1=>sp vs H1 (fun _ H2=>D.nx σ H2) (Mg base R j ts D σ)
theorem ED{X:Cx}{n x f:Str}{j k k':Nat}{ps:List Str}{sp:Sp}{R:Addr}{fp cpos epos xp hpos pos:Pos}{e:Expr}{es:List Expr}{b₀:Stmt}{suite:List Stmt}{t:TA}{ts:Addr->TS}
  (C:Cal X.prog X.w X.K X.mg X.base f k ps sp) (hr:mD k' X.A) (Vk:X.stack=X.env::X.outer) (hfr:X.env.frame=some X.env.locals) (hex:X.ex=[]) (hg:Gl X f) (ha:PA X.nox (e::es) t) (hN:X.N.Nodup)
  (hj:X.N[j]?=some n) (hn:X.env.scope.names.lookup n=some .local) (hx:Gl X x) (hR:X.mg x=some (.ref R)) (hs:∀a,PSs (cxS X a) (b₀::suite) (ts a)) (hk:k<=k':=by decide)
  (hdf:(f==("__debug__" : Str))=false:=by decide) (hdx:(x==("__debug__" : Str))=false:=by decide)
  (he:starEach (e::es) X.env=(false,eval e X.env)::starEach es X.env:=by rfl) (hpl:(backTo cpos (starEach es X.env)).any (·.1)=false:=by rfl)
  (hsw:swapsWith (.Call (.Name f fp) (e::es) [] cpos) none epos.line X.env=pure false:=by rfl):
  PS X (.Try [.Expr (.Call (.Name f fp) (e::es) [] cpos) epos] [.ExceptHandler (some (.Name x xp)) (some n) (b₀::suite) hpos] [] [] pos) (LK X.base R sp j t ts):=by
 intro pins s σ H D I h;obtain⟨gf,gd,hm,hkp,hb,F⟩:=C.ex;refine wpAny_Try_except (wpAny_execs_cons (wpAny_Expr_any (wpAny_Call_Name_kw (uG I hg hm ?_ hdf)) I.quiet hsw));refine W.callWith_K (h₀:=X.base) I.ok.mod.kin hkp (wpAny_mono (ha cpos pins s σ H _ (I.wish _) h) (fun us s1 ⟨vs,H1,I1',r,q⟩=>⟨I1'.kIn,?_⟩) fun _ _ z=>z.elim) he hpl;have I1:Inv X pins σ H1 s1:=I1'.pY;have hl:(us++[]).length=ps.length:=by
  rw[List.append_nil,<-r.length];exact F.len _ _ _ _ q
 refine wpAny_call (codeAny_mono (F.run X.A X.stack s1 H1 ⟨us,[]⟩ (us++[]) vs _ _ (hr.mono hk) I1.env0 (hb s1 us I1.kIn hl) (by rw[List.append_nil];exact r) q) fun rs s2 hq=>?_);cases rs with
 |ok fl=>
  cases fl with
  |ret u=>
   obtain⟨y,H2,I2,ry,q2⟩:=I1.after hq;exact wpAny_execs_nil (wpAny_execs_nil ⟨_,H2,I2,q2⟩)
  |next=>exact False.elim hq
  |brk=>exact False.elim hq
  |cont=>exact False.elim hq
 |error ev=>exact FN Vk hfr hex hN hj hn hx hR hs hdx I I1 hq
section
variable {X:Cx}
def tFn(mg:Str->Option Value)(x:Str):TE:=fun _ H Q=>∀g,mg x=some (.ref g)->Q (.ref g) H
theorem wZ{x:Str}{k:Nat}{ps:List Str}{sp:Sp}{pos:Pos}(C:Cal X.prog X.w X.K X.mg X.base x k ps sp)(hg:Gl X x)(hd:(x==("__debug__" : Str))=false:=by decide):PE X (.Name x pos) (tFn X.mg x):=by
 obtain⟨g,gd,hm,_,_,_⟩:=C.ex;intro pins s σ H Q I h;exact Ar (v:= .ref g) hg hm rfl hd pins s σ H Q I (h g hm)
theorem uf{x:Str}{k k':Nat}{ps:List Str}{sp:Sp}{pos:Pos}{e:Expr}{es:List Expr}{t:TA}{g:Addr}{pins:List (Addr×Obj)}{σ:St}{H1:Hp}{s1:Shared}{Q:VK}(C:Cal X.prog X.w X.K X.mg X.base x k ps sp)(hr:mD k' X.A)(ha:PA X (e::es) t)(hk:k<=k')
  (he:starEach (e::es) X.env=(false,eval e X.env)::starEach es X.env) (hpl:(backTo pos (starEach es X.env)).any (·.1)=false) (I1:Inv X pins σ H1 s1) (hm':X.mg x=some (.ref g)) (q:t σ H1 fun vs H2=>sp vs H2 Q E0):
  wpAny (model X.prog X.w) X.A (callWith pos (.ref g) [] (backTo pos (starEach (e::es) X.env)) (backToKw pos (keywordEach [] X.env))) (EP X pins σ Q) X.xe s1:=by
 obtain⟨g',gd,hm,hkp,hb,F⟩:=C.ex;rw[hm]at hm';cases hm';refine W.callWith_K (h₀:=X.base) I1.ok.mod.kin hkp (thn (ha pos pins s1 σ H1 _ I1 q) fun us s2 ⟨vs,H2,I2,r2,q2⟩=>⟨I2.kIn,?_⟩) he hpl;refine MP F (hr.mono hk) hb .nil MG I2 r2 ?_;rw[List.append_nil];exact q2
def Qh(mg:Str->Option Value)(x1 x2 x3:Str)(sp1 sp2 sp3:Sp)(tv:TE)(t:TA):TE:=fun σ H Q=>tv σ H fun v H1=>((∃g,mg x1=some (.ref g)/\v = .ref g)/\t σ H1 fun vs H2=>sp1 vs H2 Q E0)∨((∃g,mg x2=some (.ref g)/\v = .ref g)/\t σ H1 fun vs H2=>sp2 vs H2 Q E0)∨((∃g,mg x3=some (.ref g)/\v = .ref g)/\t σ H1 fun vs H2=>sp3 vs H2 Q E0)
theorem FZ{mg:Str->Option Value}{x1 x2 x3 y:Str}{k1 k2 k3 k':Nat}{ps1 ps2 ps3:List Str}{sp1 sp2 sp3:Sp}{p pos:Pos}{e:Expr}{es:List Expr}{tv:TE}{t:TA}(C1:Cal X.prog X.w X.K mg X.base x1 k1 ps1 sp1)(C2:Cal X.prog X.w X.K mg X.base x2 k2 ps2 sp2)(C3:Cal X.prog X.w X.K mg X.base x3 k3 ps3 sp3)(hr:mD k' X.A)(hv:PE X (.Name y p) tv)(ha:PA X (e::es) t)
  (hmg:X.mg=mg:=by rfl) (hk1:k1<=k':=by decide) (hk2:k2<=k':=by decide) (hk3:k3<=k':=by decide) (he:starEach (e::es) X.env=(false,eval e X.env)::starEach es X.env:=by rfl) (hpl:(backTo pos (starEach es X.env)).any (·.1)=false:=by rfl):PE X (.Call (.Name y p) (e::es) [] pos) (Qh mg x1 x2 x3 sp1 sp2 sp3 tv t):=by
 subst hmg;intro pins s σ H Q I h;refine wpAny_Call_Name_kw (thn (hv pins s σ H _ I h) fun u s1 ⟨v,H1,I1,r,q⟩=>?_);rcases q with⟨⟨g,hm,rfl⟩,q⟩|⟨⟨g,hm,rfl⟩,q⟩|⟨⟨g,hm,rfl⟩,q⟩
 ·obtain rfl:u=Value.ref g:=r;exact uf C1 hr ha hk1 he hpl I1 hm q
 ·obtain rfl:u=Value.ref g:=r;exact uf C2 hr ha hk2 he hpl I1 hm q
 ·obtain rfl:u=Value.ref g:=r;exact uf C3 hr ha hk3 he hpl I1 hm q
end
end L2
namespace Rm
def tk(b n:Int):Int:=if b=0 then n else n%b
theorem aZ(n:Int):tk 0 n=n:=if_pos rfl
theorem fZ{b:Int}(h:b≠0)(n:Int):tk b n=n%b:=if_neg h
theorem gj(b n:Int):tk b (tk b n)=tk b n:=by
 unfold tk;split
 ·rfl
 ·exact Int.emod_emod_of_dvd _ (Int.dvd_refl b)
theorem cj(b x y:Int):tk b (tk b x+y)=tk b (x+y):=by
 unfold tk;split
 ·rfl
 ·exact Int.emod_add_emod ..
theorem fU(b x y:Int):tk b (x+tk b y)=tk b (x+y):=by
 rw[Int.add_comm,cj,Int.add_comm]
theorem bD(b x y:Int):tk b (x*tk b y)=tk b (x*y):=by
 unfold tk;split
 ·rfl
 ·rw[Int.mul_emod,Int.emod_emod_of_dvd _ (Int.dvd_refl b),<-Int.mul_emod]
theorem cX(b x y:Int):tk b (tk b x*y)=tk b (x*y):=by
 rw[Int.mul_comm,bD,Int.mul_comm]
theorem aY{b x x' y y':Int}(h:tk b x=tk b x')(h':tk b y=tk b y'):tk b (x+y)=tk b (x'+y'):=by
 rw[<-cj,<-fU,h,h',fU,cj]
def S(rule:List Int)(f:Nat->Int)(n:Nat):Nat->Int
 |0=>0
 |m+1=>S rule f n m+rule.getD m 0*f (n-1-m)
theorem Ak{rule:List Int}{f g:Nat->Int}{n:Nat}:∀{m:Nat},(∀k,k<m->f (n-1-k)=g (n-1-k))->S rule f n m=S rule g n m
 |0,_=>rfl
 |m+1,h=>by
  unfold S;rw[Ak fun k hk=>h k (by omega),h m (by omega)]
theorem Tj(b:Int){rule:List Int}{f g:Nat->Int}{c:Int}{n:Nat}:∀m:Nat,tk b (S rule (fun i=>tk b (f i+c*g i)) n m)=tk b (S rule f n m+c*S rule g n m)
 |0=>by simp[S]
 |m+1=>by
  unfold S;have h1:=Tj b (rule:=rule) (f:=f) (g:=g) (c:=c) (n:=n) m;have h2:tk b (rule.getD m 0*tk b (f (n-1-m)+c*g (n-1-m)))=tk b (rule.getD m 0*(f (n-1-m)+c*g (n-1-m))):=bD ..;rw[aY h1 h2];congr 1;rw[Int.mul_add,Int.mul_add,Int.mul_left_comm (rule.getD m 0) c];omega
theorem getD_map{f:Int->Int}(h0:f 0=0):∀(l:List Int) (k:Nat),(l.map f).getD k 0=f (l.getD k 0)
 |[],k=>by simp[h0]
 |x::r,0=>by simp
 |x::r,k+1=>by
  have:=getD_map h0 r k;simpa using this
theorem Vd(p:Int){rule:List Int}{f:Nat->Int}{n:Nat}:∀m:Nat,tk p (S (rule.map (tk p)) (fun i=>tk p (f i)) n m)=tk p (S rule f n m)
 |0=>rfl
 |m+1=>by
  unfold S;refine aY (Vd p m) ?_;rw[getD_map (by unfold tk;split<;>simp),bD,cX]
def row(b:Int)(rule starts:List Int):Nat->List Int
 |0=>[]
 |n+1=>row b rule starts n++[if n<starts.length then starts.getD n 0 else tk b (S rule (fun i=>(row b rule starts n).getD i 0) n rule.length)]
theorem iD(b:Int)(rule starts:List Int):∀n,(row b rule starts n).length=n
 |0=>rfl
 |n+1=>by simp[row,iD b rule starts n]
def at_(b:Int)(rule starts:List Int)(n:Nat):Int:=(row b rule starts (n+1)).getD n 0
theorem BX(b:Int)(rule starts:List Int):∀{n i:Nat},i<n->(row b rule starts n).getD i 0=at_ b rule starts i
 |n+1,i,h=>by
  by_cases e:i=n
  ·subst e;rfl
  ·have hi:i<n:=by omega
   have hl:=iD b rule starts n;have:=BX b rule starts (n:=n) (i:=i) hi;rw[<-this];show(row b rule starts n++_).getD i 0=_;rw[List.getD_eq_getElem?_getD,List.getElem?_append_left (by omega),<-List.getD_eq_getElem?_getD]
theorem CZ(b:Int)(rule starts:List Int)(n:Nat):at_ b rule starts n=if n<starts.length then starts.getD n 0 else tk b (S rule (fun i=>(row b rule starts n).getD i 0) n rule.length):=by
 unfold at_;have hl:=iD b rule starts n;show(row b rule starts n++_).getD n 0=_;rw[List.getD_eq_getElem?_getD,List.getElem?_append_right (by omega),hl];simp
theorem oG{b:Int}{rule starts:List Int}{n:Nat}(h:n<starts.length):at_ b rule starts n=starts.getD n 0:=by
 rw[CZ,if_pos h]
theorem uy{b:Int}{rule starts:List Int}{n:Nat}(hl:rule.length=starts.length)(h:starts.length<=n):at_ b rule starts n=tk b (S rule (at_ b rule starts) n rule.length):=by
 rw[CZ,if_neg (by omega)];congr 1;refine Ak fun k hk=>BX b rule starts (by omega)
theorem GR(b:Int)(rule starts:List Int):∀n,row b rule starts n=(List.range n).map (at_ b rule starts)
 |0=>rfl
 |n+1=>by
  rw[List.range_succ,List.map_append,<-GR b rule starts n];show _++[_]=_++[at_ b rule starts n];rw[CZ]
theorem K5(b:Int)(rule starts:List Int)(n:Nat):row b rule starts (n+1)=row b rule starts n++[at_ b rule starts n]:=by
 rw[CZ];rfl
theorem rB{b:Int}{rule starts:List Int}(hl:rule.length=starts.length){g:Nat->Int}(h1:∀i,i<starts.length->g i=starts.getD i 0)
  (h2:∀i,starts.length<=i->g i=tk b (S rule g i rule.length)):∀n,at_ b rule starts n=g n:=by
 intro n;induction n using Nat.strongRecOn with
 |ind n ih=>
  by_cases h:n<starts.length
  ·rw[oG h,h1 n h]
  ·rw[uy hl (by omega),h2 n (by omega)];congr 1;exact Ak fun k hk=>ih _ (by omega)
theorem jZ{b:Int}{rule starts:List Int}:∀{n:Nat},n<=starts.length->row b rule starts n=starts.take n
 |0,_=>by simp[row]
 |n+1,h=>by
  rw[K5,jZ (by omega),oG (by omega),List.take_add_one,List.getD_eq_getElem?_getD,List.getElem?_eq_getElem (by omega)];rfl
theorem M6{p:Int}{rule starts:List Int}(hp:p≠0)(hl:rule.length=starts.length)(n:Nat):at_ p (rule.map (tk p)) (starts.map (tk p)) n=tk p (at_ 0 rule starts n):=by
 refine rB (by simpa using hl) (g:=fun i=>tk p (at_ 0 rule starts i)) (fun i hi=>?_) (fun i hi=>?_) n
 ·rw[oG (by simpa using hi),getD_map (by unfold tk;split<;>simp)]
 ·rw[List.length_map]at hi;show tk p (at_ 0 rule starts i)=_;rw[uy hl hi,aZ,List.length_map];exact(Vd p _).symm
def Bd(n:Nat)(x:Int):Prop:=x.natAbs<2^n
theorem Bd.mono{m n:Nat}{x:Int}(h:Bd m x)(hmn:m<=n):Bd n x:=Nat.lt_of_lt_of_le h (Nat.pow_le_pow_right (by decide) hmn)
theorem Bd.mul{m n:Nat}{x y:Int}(h:Bd m x)(h':Bd n y):Bd (m+n) (x*y):=by
 unfold Bd at *;rw[Int.natAbs_mul,Nat.pow_add];exact Nat.mul_lt_mul'' h h'
theorem Bd.add{n:Nat}{x y:Int}(h:Bd n x)(h':Bd n y):Bd (n+1) (x+y):=by
 unfold Bd at *;have:=Int.natAbs_add_le x y;rw[Nat.pow_succ];omega
theorem Bd.zero(n:Nat):Bd n 0:=Nat.pow_pos (by decide)
theorem Bd.of{n:Nat}{x:Int}(h1:-(2^n)<x)(h2:x<2^n):Bd n x:=by
 unfold Bd;have e:((2^n:Nat):Int)=(2:Int)^n:=by simp
 omega
theorem Bd.emod{n:Nat}{x b:Int}(hb:0<b)(h:Bd n b):Bd n (x%b):=by
 unfold Bd at *;have:=Int.emod_nonneg x (show b≠0 by omega);have:=Int.emod_lt_of_pos x hb;omega
theorem Bd.S{rule:List Int}{f:Nat->Int}{n a c:Nat}(hr:∀k,Bd a (rule.getD k 0)):∀m:Nat,(∀k,k<m->Bd c (f (n-1-k)))->Bd (a+c+m) (Rm.S rule f n m)
 |0,_=>Bd.zero _
 |m+1,h=>by
  unfold Rm.S;refine Bd.add (n:=a+c+m) (Bd.S hr m fun k hk=>h k (by omega)) (((hr m).mul (h m (by omega))).mono (by omega))
theorem uz(l:List Int)(k:Nat):l.getD k 0=0∨l.getD k 0∈l:=by
 by_cases h:k<l.length
 ·right;rw[List.getD_eq_getElem?_getD,List.getElem?_eq_getElem h];exact List.getElem_mem h
 ·left;rw[List.getD_eq_getElem?_getD,List.getElem?_eq_none (by omega)];rfl
theorem Bd.getD{l:List Int}{n:Nat}(h:∀x∈l,Bd n x)(k:Nat):Bd n (l.getD k 0):=by
 rcases uz l k with e|e
 ·rw[e];exact .zero n
 ·exact h _ e
theorem wU{b x:Int}{n:Nat}(hb:0<=b)(hb':Bd n b)(h:Bd n x):Bd n (tk b x):=by
 unfold tk;split
 ·exact h
 ·exact Bd.emod (by omega) hb'
theorem W8{b:Int}{rule starts:List Int}{a c:Nat}(hl:rule.length=starts.length)(hb:0<=b)(hb':Bd c b)(hr:∀x∈rule,Bd a x)(hs:∀x∈starts,Bd c x):
  ∀n,Bd (c+n*(a+rule.length)) (at_ b rule starts n):=by
 intro n;induction n using Nat.strongRecOn with
 |ind n ih=>
  by_cases h:n<starts.length
  ·rw[oG h];exact(Bd.getD hs n).mono (by omega)
  ·rw[uy hl (by omega)];by_cases h0:rule.length=0
   ·rw[h0];exact wU hb (hb'.mono (by omega)) (.zero _)
   ·have hn:0<n:=by omega
    have q:=Bd.S (rule:=rule) (f:=at_ b rule starts) (n:=n) (a:=a) (c:=c+(n-1)*(a+rule.length)) (fun k=>Bd.getD hr k) rule.length fun k hk=>by
     refine(ih (n-1-k) (by omega)).mono ?_;have:(n-1-k)*(a+rule.length)<=(n-1)*(a+rule.length):=Nat.mul_le_mul_right _ (by omega);omega
    have e:n*(a+rule.length)=(n-1)*(a+rule.length)+(a+rule.length):=by
     obtain⟨m,rfl⟩:∃m,n=m+1:=⟨n-1,by omega⟩;rw[Nat.add_sub_cancel,Nat.succ_mul]
    exact wU hb (hb'.mono (by omega)) (q.mono (by omega))
theorem JK{b:Int}{rule starts:List Int}(hl:rule.length=starts.length)(hb:0<b)(hs:∀x∈starts,0<=x/\x<b)(n:Nat):0<=at_ b rule starts n/\at_ b rule starts n<b:=by
 by_cases h:n<starts.length
 ·rw[oG h,List.getD_eq_getElem?_getD,List.getElem?_eq_getElem h];exact hs _ (List.getElem_mem h)
 ·rw[uy hl (by omega),fZ (by omega)];exact⟨Int.emod_nonneg _ (by omega),Int.emod_lt_of_pos _ hb⟩
end Rm
namespace Om
def jk:List Nat:=[2,3,5,7,11,13,17,19,23,29,31,37,41,43,47,53,59,61,67,71,73,79,83,89,97,101,103,107,109,113,127,131,137,139,149,151,157,163,167,173,179,181,191,193,197,199,211,223,227,229,233,239,241,251,257,263,269,271,277,281,283,293,307,311,313,317,331,337,347,349,353,359,367,373,379,383,389,397,401,409,419,421,431,433,439,443,449,457,461,463,467,479,487,491,499,503,509,521,523,541,547,557,563,569,571,577,587,593,599,601,607,613,617,619,631,641,643,647,653,659,661,673,677,683,691,701,709,719,727,733,739,743,751,757,761,769,773,787,797,809,811,821,823,827,829,839,853,857,859,863,877,881,883,887,907,911,919,929,937,941,947,953,967,971,977,983,991,997]
def chk(p:Nat):Nat->Bool
 |0=>true
 |a+1=>(Nat.beq a 0||Nat.beq ((Nat.pow a (p-1))%p) 1)&&chk p a
set_option maxRecDepth 100000 in
theorem Ek:(jk.all fun p=>chk p p)=true:=by decide +kernel
theorem Mv{p:Nat}:∀{n:Nat},chk p n=true->∀a,a<n->a≠0->a^(p-1)%p=1
 |n+1,h,a,ha,h0=>by
  unfold chk at h;rw[Bool.and_eq_true]at h;by_cases e:a=n
  ·subst e;have h1:=h.1;rw[Bool.or_eq_true]at h1;rcases h1 with h1|h1
   ·exact absurd (Nat.eq_of_beq_eq_true h1) h0
   ·exact Nat.eq_of_beq_eq_true h1
  ·exact Mv h.2 a (by omega) h0
theorem Ov{p a:Nat}(hp:p∈jk)(h0:a≠0)(h:a<p):a^(p-1)%p=1:=
 Mv (List.all_eq_true.mp Ek p hp) a h h0
theorem xU{p a:Int}{P:Nat}(hP:p=(P:Int))(hp:P∈jk)(h0:0<a)(h:a<p):a^(P-1)%p=1:=by
 obtain⟨n,rfl⟩:∃n:Nat,a=(n:Int):=⟨a.toNat,by omega⟩;subst hP;have:=Ov hp (a:=n) (by omega) (by omega);have e:((n:Int)^(P-1))=((n^(P-1):Nat):Int):=by simp
 rw[e,<-Int.natCast_emod,this];rfl
theorem mod_mul{x y x' y' p:Int}(h:x%p=x'%p)(h':y%p=y'%p):(x*y)%p=(x'*y')%p:=by
 rw[Int.mul_emod,h,h',<-Int.mul_emod]
theorem B5{x x' p:Int}(h:x%p=x'%p):∀n:Nat,(x^n)%p=(x'^n)%p
 |0=>by simp
 |n+1=>by rw[Int.pow_succ,Int.pow_succ];exact mod_mul (B5 h n) h
def Keeps(p a:Int)(e:Nat)(power square:Int)(left:Nat):Prop:=(power*square^left)%p=(a^e)%p
theorem Ay(p a:Int)(e:Nat):Keeps p a e 1 a e:=by unfold Keeps;rw[Int.one_mul]
theorem oZ(x:Int):∀n:Nat,(x*x)^n=x^(2*n)
 |0=>by simp
 |n+1=>by
  rw[Int.pow_succ,oZ x n,show 2*(n+1)=2*n+1+1 by omega,Int.pow_succ,Int.pow_succ,Int.mul_assoc]
theorem HM{p a:Int}{e:Nat}{power square:Int}{left:Nat}(h:Keeps p a e power square left)(ho:left%2=1):Keeps p a e (power*square%p) (square*square%p) (left/2):=by
 unfold Keeps at *;have h1:(power*square%p)%p=(power*square)%p:=Int.emod_emod_of_dvd _ (Int.dvd_refl p);have h2:=B5 (p:=p) (x:=square*square%p) (x':=square*square) (Int.emod_emod_of_dvd _ (Int.dvd_refl p)) (left/2);rw[mod_mul h1 h2,<-h,oZ,Int.mul_assoc];have e2:left=2*(left/2)+1:=by omega
 conv=>rhs;rw[e2,Int.pow_succ]
 rw[Int.mul_comm square]
theorem DY{p a:Int}{e:Nat}{power square:Int}{left:Nat}(h:Keeps p a e power square left)(ho:¬left%2=1):Keeps p a e power (square*square%p) (left/2):=by
 unfold Keeps at *;have h2:=B5 (p:=p) (x:=square*square%p) (x':=square*square) (Int.emod_emod_of_dvd _ (Int.dvd_refl p)) (left/2);rw[mod_mul rfl h2,<-h,oZ];have e2:left=2*(left/2):=by omega
 conv=>rhs;rw[e2]
theorem GY{p a:Int}{e:Nat}{power square:Int}(h:Keeps p a e power square 0):power%p=a^e%p:=by
 unfold Keeps at h
 rwa [Int.pow_zero,Int.mul_one]at h
end Om
namespace Pm
open Rm
def sm:Nat->(Nat->Int)->Int
 |0,_=>0
 |n+1,f=>sm n f+f n
theorem aB{f g:Nat->Int}:∀{n:Nat},(∀k,k<n->f k=g k)->sm n f=sm n g
 |0,_=>rfl
 |n+1,h=>by rw[sm,sm,aB fun k hk=>h k (by omega),h n (by omega)]
theorem gF:∀n:Nat,sm n (fun _=>0)=0
 |0=>rfl
 |n+1=>by rw[sm,gF n];rfl
theorem iH{f:Nat->Int}{n:Nat}(h:∀k,k<n->f k=0):sm n f=0:=by rw[aB h,gF]
theorem dW(f:Nat->Int):∀n:Nat,sm (n+1) f=f 0+sm n (fun i=>f (i+1))
 |0=>by simp[sm]
 |n+1=>by
  rw[sm,dW f n,sm,Int.add_assoc]
theorem cV(f g:Nat->Int):∀n:Nat,sm n (fun k=>f k+g k)=sm n f+sm n g
 |0=>rfl
 |n+1=>by rw[sm,sm,sm,cV f g n];omega
theorem bH(c:Int)(f:Nat->Int):∀n:Nat,sm n (fun k=>c*f k)=c*sm n f
 |0=>by simp[sm]
 |n+1=>by rw[sm,sm,bH c f n,Int.mul_add]
theorem fG{f:Nat->Int}{m:Nat}:∀{n:Nat},m<=n->(∀k,m<=k->k<n->f k=0)->sm n f=sm m f
 |0,h,_=>by rw[show m=0 by omega]
 |n+1,h,h0=>by
  by_cases e:m=n+1
  ·rw[e]
  ·rw[sm,fG (n:=n) (by omega) (fun k h1 h2=>h0 k h1 (by omega)),h0 n (by omega) (by omega),Int.add_zero]
theorem tk0(b:Int):tk b 0=0:=by unfold tk;split<;>simp
theorem jr{b:Int}{f g:Nat->Int}:∀{n:Nat},(∀k,k<n->tk b (f k)=tk b (g k))->tk b (sm n f)=tk b (sm n g)
 |0,_=>rfl
 |n+1,h=>by
  rw[sm,sm];exact aY (jr fun k hk=>h k (by omega)) (h n (by omega))
theorem tO(f:Nat->Int):∀n:Nat,((List.range n).map f).sum=sm n f
 |0=>rfl
 |n+1=>by rw[List.range_succ,List.map_append,List.sum_append,tO f n];simp[sm]
def cv:(Nat->Int)->(Nat->Int)->Nat->Int
 |f,g,0=>f 0*g 0
 |f,g,k+1=>f 0*g (k+1)+cv (fun i=>f (i+1)) g k
theorem gZ:∀(f g:Nat->Int) (k:Nat),cv f g k=sm (k+1) (fun j=>f j*g (k-j))
 |f,g,0=>by simp[cv,sm]
 |f,g,k+1=>by
  rw[cv,gZ _ g k,dW (fun j=>f j*g (k+1-j))];refine congrArg (_ + ·) (aB fun j hj=>?_);rw[show k+1-(j+1)=k-j by omega]
theorem AJ:∀(f g:Nat->Int) (k:Nat),cv f g (k+1)=cv f (fun i=>g (i+1)) k+f (k+1)*g 0
 |f,g,0=>rfl
 |f,g,k+1=>by
  rw[cv,AJ (fun i=>f (i+1)) g k,cv,Int.add_assoc]
theorem dY:∀(f g:Nat->Int) (k:Nat),cv f g k=cv g f k
 |f,g,0=>Int.mul_comm _ _
 |f,g,k+1=>by
  rw[cv,AJ,dY (fun i=>f (i+1)) g k,Int.add_comm,Int.mul_comm]
theorem gh{f f' g g':Nat->Int}{k:Nat}(h:∀i,i<=k->f i=f' i)(h':∀i,i<=k->g i=g' i):cv f g k=cv f' g' k:=by
 rw[gZ,gZ];exact aB fun j hj=>by rw[h j (by omega),h' _ (by omega)]
theorem jy{b:Int}{f f' g g':Nat->Int}{k:Nat}(h:∀i,i<=k->tk b (f i)=tk b (f' i))(h':∀i,i<=k->tk b (g i)=tk b (g' i)):tk b (cv f g k)=tk b (cv f' g' k):=by
 rw[gZ,gZ];exact jr fun j hj=>by rw[<-cX,<-bD,h j (by omega),h' _ (by omega),bD,cX]
theorem fP(f f' g:Nat->Int)(k:Nat):cv (fun i=>f i+f' i) g k=cv f g k+cv f' g k:=by
 rw[gZ,gZ,gZ,<-cV];exact aB fun j _=>Int.add_mul ..
theorem Bp(f g g':Nat->Int)(k:Nat):cv f (fun i=>g i+g' i) k=cv f g k+cv f g' k:=by
 rw[dY,fP,dY,dY g']
theorem gJ(c:Int)(f g:Nat->Int)(k:Nat):cv (fun i=>c*f i) g k=c*cv f g k:=by
 rw[gZ,gZ,<-bH];exact aB fun j _=>Int.mul_assoc ..
theorem bV:∀(f g h:Nat->Int) (k:Nat),cv (cv f g) h k=cv f (cv g h) k
 |f,g,h,0=>by simp[cv,Int.mul_assoc]
 |f,g,h,k+1=>by
  have e:(fun i=>cv f g (i+1))=fun i=>f 0*(fun i=>g (i+1)) i+cv (fun i=>f (i+1)) g i:=rfl;rw[cv,e,fP (fun i=>f 0*(fun i=>g (i+1)) i),gJ,bV (fun i=>f (i+1)) g h k,cv,cv,cv];rw[Int.mul_add,Int.mul_assoc];omega
theorem fj{f g:Nat->Int}{k:Nat}(h:∀i,i<=k->f i=0∨g (k-i)=0):cv f g k=0:=by
 rw[gZ];exact iH fun j hj=>by rcases h j (by omega)with e|e<;>rw[e]<;>simp
def co(p:List Int)(k:Nat):Int:=p.getD k 0
theorem eO(k:Nat):co [] k=0:=by simp[co]
theorem dH(x:Int)(r:List Int):co (x::r) 0=x:=by simp[co]
theorem jN(x:Int)(r:List Int)(k:Nat):co (x::r) (k+1)=co r k:=by simp[co]
theorem bJ{p:List Int}{k:Nat}(h:p.length<=k):co p k=0:=by
 rw[co,List.getD_eq_getElem?_getD,List.getElem?_eq_none h];rfl
theorem pJ{p:List Int}{k:Nat}(h:k<p.length):co p k=p[k]:=by
 rw[co,List.getD_eq_getElem?_getD,List.getElem?_eq_getElem h];rfl
theorem zQ{p:List Int}{k:Nat}(h:k<p.length):co p k∈p:=by rw[pJ h];exact List.getElem_mem h
def ofF(n:Nat)(f:Nat->Int):List Int:=(List.range n).map f
theorem aL(n:Nat)(f:Nat->Int):(ofF n f).length=n:=by simp[ofF]
theorem bK(n:Nat)(f:Nat->Int)(k:Nat):co (ofF n f) k=if k<n then f k else 0:=by
 by_cases h:k<n
 ·rw[if_pos h,co,ofF,List.getD_eq_getElem?_getD,List.getElem?_map,List.getElem?_range h];rfl
 ·rw[if_neg h,bJ (by rw[aL];omega)]
theorem C6(n:Nat)(f:Nat->Int):ofF (n+1) f=ofF n f++[f n]:=by
 rw[ofF,List.range_succ,List.map_append];rfl
theorem Mz(p:List Int):ofF p.length (co p)=p:=by
 apply List.ext_getElem (by rw[aL]);intro i h1 h2;simp only[ofF,List.getElem_map,List.getElem_range];exact pJ h2
theorem nQ{p q:List Int}(hl:p.length=q.length)(h:∀k,co p k=co q k):p=q:=by
 rw[<-Mz p,<-Mz q,hl];exact List.map_congr_left fun k _=>h k
theorem zu(p:List Int)(i:Nat)(x:Int)(k:Nat)(hi:i<p.length):co (p.set i x) k=if k=i then x else co p k:=by
 unfold co;rw[List.getD_eq_getElem?_getD,List.getElem?_set,List.getD_eq_getElem?_getD];by_cases e:i=k
 ·subst e;simp[hi]
 ·rw[if_neg e,if_neg (fun z=>e z.symm)]
theorem sU{f:Int->Int}(h:f 0=0)(p:List Int)(k:Nat):co (p.map f) k=f (co p k):=getD_map h p k
theorem bY(p q:List Int)(k:Nat):co (p++q) k=if k<p.length then co p k else co q (k-p.length):=by
 unfold co;by_cases h:k<p.length
 ·rw[if_pos h,List.getD_eq_getElem?_getD,List.getElem?_append_left h,<-List.getD_eq_getElem?_getD]
 ·rw[if_neg h,List.getD_eq_getElem?_getD,List.getElem?_append_right (by omega),<-List.getD_eq_getElem?_getD]
def trim:List Int->List Int
 |[]=>[]
 |x::r=>if x=0/\trim r=[]then[]else x::trim r
theorem jm:∀(p:List Int) (k:Nat),co (trim p) k=co p k
 |[],k=>rfl
 |x::r,k=>by
  rw[trim];have ih:=jm r;by_cases h:x=0/\trim r=[]
  ·rw[if_pos h];rw[h.2]at ih;cases k with
   |zero=>rw[eO,dH,h.1]
   |succ k=>rw[jN,<-ih k,eO,eO]
  ·rw[if_neg h];cases k with
   |zero=>rw[dH,dH]
   |succ k=>rw[jN,jN,ih k]
theorem tU{p:List Int}:trim p=[]↔∀k,co p k=0:=by
 constructor
 ·intro h k;rw[<-jm,h,eO]
 ·intro h;induction p with
  |nil=>rfl
  |cons x r ih=>
   rw[trim,if_pos ⟨by have:=h 0;rwa [dH]at this,ih fun k=>by have:=h (k+1);rwa [jN]at this⟩]
theorem qm:∀{p q:List Int},(∀k,co p k=co q k)->trim p=trim q
 |[],q,h=>by rw[show trim q=[]from tU.mpr fun k=>by rw[<-h k,eO]];rfl
 |x::r,[],h=>by rw[show trim (x::r)=[]from tU.mpr fun k=>by rw[h k,eO]];rfl
 |x::r,y::s,h=>by
  have e1:=h 0;rw[dH,dH]at e1;have e2:trim r=trim s:=qm fun k=>by have:=h (k+1);rwa [jN,jN]at this
  rw[trim,trim,e1,e2]
theorem Fo(p:List Int):trim (trim p)=trim p:=qm (jm p)
theorem fB:∀p:List Int,(trim p).length<=p.length
 |[]=>Nat.le_refl _
 |x::r=>by
  have:=fB r;rw[trim];split
  ·simp
  ·simp;omega
theorem oJ:∀{p:List Int} {n:Nat},(∀k,n<=k->co p k=0)->(trim p).length<=n
 |[],n,_=>Nat.zero_le _
 |x::r,0,h=>by rw[tU.mpr fun k=>h k (Nat.zero_le _)];exact Nat.le_refl 0
 |x::r,n+1,h=>by
  have:=oJ (p:=r) (n:=n) fun k hk=>by have:=h (k+1) (by omega);rwa [jN]at this
  rw[trim];split
  ·simp
  ·simp;omega
theorem zc(p:List Int):trim (p++[0])=trim p:=qm fun k=>by
 rw[bY];by_cases h:k<p.length
 ·rw[if_pos h]
 ·rw[if_neg h,bJ (p:=p) (by omega)];cases k-p.length with
  |zero=>rfl
  |succ j=>rw[jN,eO]
theorem uq:∀(p:List Int) {x:Int},x≠0->trim (p++[x])=p++[x]
 |[],x,h=>by simp[trim,h]
 |y::r,x,h=>by
  show trim (y::(r++[x]))=_;rw[trim,uq r h,if_neg (by simp)];rfl
theorem xR{p:List Int}{x:Int}(h:x∈trim p):x∈p:=by
 induction p with
 |nil=>exact h
 |cons y r ih=>
  rw[trim]at h;split at h
  ·cases h
  ·rcases List.mem_cons.mp h with rfl|h
   ·exact List.mem_cons_self
   ·exact List.mem_cons_of_mem _ (ih h)
structure Py(b:Int)(p:List Int):Prop where
 tr:trim p=p
 nu:∀x∈p,tk b x=x
theorem Py.co{b:Int}{p:List Int}(h:Py b p)(k:Nat):tk b (co p k)=co p k:=by
 by_cases hk:k<p.length
 ·exact h.nu _ (zQ hk)
 ·rw[bJ (by omega),tk0]
theorem Py.ext{b:Int}{p q:List Int}(h:Py b p)(h':Py b q)(e:∀k,tk b (Pm.co p k)=tk b (Pm.co q k)):p=q:=by
 rw[<-h.tr,<-h'.tr];exact qm fun k=>by rw[<-h.co k,<-h'.co k];exact e k
theorem Py.of{b:Int}{p:List Int}(h:∀x∈p,tk b x=x):Py b (trim p):=⟨Fo p,fun x hx=>h x (xR hx)⟩
theorem Py.nil(b:Int):Py b []:=⟨rfl,fun _ h=>nomatch h⟩
theorem dj{n:Nat}{f:Nat->Int}{x:Int}(h:x∈ofF n f):∃k,k<n/\x=f k:=by
 obtain⟨k,hk,e⟩:=List.mem_map.mp h;exact⟨k,List.mem_range.mp hk,e.symm⟩
theorem Py.ofF(b:Int)(n:Nat)(f:Nat->Int):Py b (trim (Pm.ofF n fun k=>tk b (f k))):=Py.of fun x hx=>by
 obtain⟨k,_,rfl⟩:=dj hx;exact gj ..
def add(b:Int)(p q:List Int):List Int:=trim (ofF (max p.length q.length) fun k=>tk b (co p k+co q k))
def mul(b:Int)(p q:List Int):List Int:=trim (ofF (p.length+q.length) fun k=>tk b (cv (co p) (co q) k))
theorem Mh(b:Int)(p q:List Int):Py b (mul b p q):=Py.ofF ..
theorem Dh(b:Int)(p q:List Int)(k:Nat):co (add b p q) k=tk b (co p k+co q k):=by
 rw[add,jm,bK];split
 ·rfl
 ·rw[bJ (p:=p) (by omega),bJ (p:=q) (by omega),Int.add_zero,tk0]
theorem mC(b:Int)(p q:List Int)(k:Nat):co (mul b p q) k=tk b (cv (co p) (co q) k):=by
 rw[mul,jm,bK];split
 ·rfl
 ·rw[fj,tk0];intro i hi;by_cases h:i<p.length
  ·exact .inr (bJ (by omega))
  ·exact .inl (bJ (by omega))
theorem mul_comm(b:Int)(p q:List Int):mul b p q=mul b q p:=(Mh ..).ext (Mh ..) fun k=>by rw[mC,mC,dY]
def W(f g:Nat->Int)(i k c:Nat):Int:=sm i (fun j=>if j<=c then f j*g (c-j)else 0)+(if i<=c/\c-i<k then f i*g (c-i)else 0)
theorem SW(f g:Nat->Int)(c:Nat):W f g 0 0 c=0:=by simp[W,sm]
theorem UH{f g:Nat->Int}{i k c:Nat}:W f g i (k+1) c=W f g i k c+(if c=i+k then f i*g k else 0):=by
 unfold W;by_cases h:c=i+k
 ·rw[if_pos h,if_pos (by omega),if_neg (by omega),show c-i=k by omega];omega
 ·rw[if_neg h];by_cases h2:i<=c/\c-i<k
  ·rw[if_pos h2,if_pos (by omega)];omega
  ·rw[if_neg h2,if_neg (by omega)];omega
theorem abx{f g:Nat->Int}{i n c:Nat}(hg:∀k,n<=k->g k=0):W f g i n c=W f g (i+1) 0 c:=by
 unfold W;rw[sm,if_neg (show ¬(i+1<=c/\c-(i+1)<0)by omega)];by_cases h:i<=c
 ·rw[if_pos h];by_cases h2:c-i<n
  ·rw[if_pos ⟨h,h2⟩];omega
  ·rw[if_neg (by omega),hg _ (by omega),Int.mul_zero];omega
 ·rw[if_neg (by omega),if_neg h];omega
theorem PD{f g:Nat->Int}{m c:Nat}(hf:∀k,m<=k->f k=0):W f g m 0 c=cv f g c:=by
 unfold W;rw[if_neg (by omega),Int.add_zero,gZ];by_cases h:m<=c+1
 ·rw[fG (n:=c+1) h fun k h1 _=>by rw[hf k h1,Int.zero_mul]];exact aB fun j hj=>if_pos (by omega)
 ·rw[fG (m:=c+1) (n:=m) (by omega) fun k h1 _=>if_neg (by omega)];exact aB fun j hj=>if_pos (by omega)
end Pm
namespace Pm
open Rm
theorem kE(F:Nat->Nat->Int)(m:Nat):∀n:Nat,sm m (fun k=>sm n (fun j=>F k j))=sm n (fun j=>sm m (fun k=>F k j))
 |0=>by simp only[sm];exact gF m
 |n+1=>by
  simp only[sm];rw[cV,kE F m n]
theorem Gp(rule:List Int)(f:Nat->Int)(n:Nat):∀m:Nat,S rule f n m=sm m (fun k=>co rule k*f (n-1-k))
 |0=>rfl
 |m+1=>by rw[S,sm,Gp rule f n m];rfl
def ks(p:List Int)(a:Nat->Int)(n:Nat):Int:=sm p.length (fun k=>co p k*a (n+k))
theorem Uv{b:Int}{rule p:List Int}{a:Nat->Int}(ha:∀n,rule.length<=n->tk b (a n)=tk b (S rule a n rule.length)){n:Nat}(hn:rule.length<=n):
  tk b (ks p a n)=tk b (S rule (ks p a) n rule.length):=by
 have e1:tk b (ks p a n)=tk b (sm p.length (fun k=>co p k*sm rule.length (fun j=>co rule j*a (n+k-1-j)))):=by
  refine jr fun k _=>?_;rw[<-bD,ha (n+k) (by omega),bD,Gp]
 rw[e1,Gp];congr 1;have e2:(fun k=>co p k*sm rule.length (fun j=>co rule j*a (n+k-1-j)))=fun k=>sm rule.length (fun j=>co rule j*(co p k*a (n+k-1-j))):=by
  funext k
  rw[<-bH];exact aB fun j _=>Int.mul_left_comm ..
 rw[e2,kE];refine aB fun j hj=>?_;rw[bH];congr 1;refine aB fun k _=>?_;rw[show n-1-j+k=n+k-1-j by omega]
theorem E7{b:Int}{rule p:List Int}{a:Nat->Int}(ha:∀n,rule.length<=n->tk b (a n)=tk b (S rule a n rule.length))(h0:∀n,n<rule.length->tk b (ks p a n)=0):
  ∀n,tk b (ks p a n)=0:=by
 intro n;induction n using Nat.strongRecOn with
 |ind n ih=>
  by_cases h:n<rule.length
  ·exact h0 n h
  ·rw[Uv ha (by omega),Gp];have:tk b (sm rule.length fun k=>co rule k*ks p a (n-1-k))=tk b (sm rule.length fun _=>0):=jr fun k hk=>by
    rw[<-bD,ih (n-1-k) (by omega),Int.mul_zero]
   rw[this,gF,tk0]
def aP(b:Int)(c:List Int):List Int:=ofF c.length (fun k=>tk b (0-co c (c.length-1-k)))++[1]
def cO(b:Int)(p:List Int):List Int:=ofF (p.length-1) (fun k=>tk b (0-co p (p.length-1-1-k)))
theorem bF(b:Int)(c:List Int):(aP b c).length=c.length+1:=by simp[aP,aL]
theorem rO(b x:Int):tk b (0-tk b (0-x))=tk b x:=by
 have h:tk b (tk b (0-x)+(0-tk b (0-x)))=tk b ((0-x)+(0-tk b (0-x))):=cj ..;have e1:tk b (0-x)+(0-tk b (0-x))=0:=by omega
 rw[e1]at h;have h2:tk b (tk b (0-tk b (0-x))+(0-x))=tk b 0:=by rw[cj,Int.add_comm];exact h.symm
 have h3:tk b (tk b (0-tk b (0-x)))=tk b x:=by
  have:=aY h2 (rfl:tk b x=tk b x);rw[show tk b (0-tk b (0-x))+(0-x)+x=tk b (0-tk b (0-x))by omega,Int.zero_add]at this;exact this
 rwa [gj]at h3
theorem qe{b:Int}{c:List Int}(h:∀x∈c,tk b x=x):cO b (aP b c)=c:=by
 refine nQ (by rw[cO,aL,bF];omega) fun k=>?_;rw[cO,bK,bF];by_cases hk:k<c.length+1-1
 ·rw[if_pos hk,aP,bY,aL,if_pos (by omega),bK,if_pos (by omega),rO];rw[show c.length-1-(c.length+1-1-1-k)=k by omega];exact h _ (zQ (by omega))
 ·rw[if_neg hk,bJ (by omega)]
theorem MJ{b:Int}{rule starts:List Int}(hl:rule.length=starts.length):∀n,rule.length<=n->tk b (at_ b rule starts n)=tk b (S rule (at_ b rule starts) n rule.length):=fun n hn=>by
 rw[uy hl (by omega),gj]
theorem Br{f:Nat->Int}{c:Nat}:∀n:Nat,(∀k,k<n->Bd c (f k))->Bd (c+n) (sm n f)
 |0,_=>Bd.zero _
 |n+1,h=>by
  rw[sm];exact Bd.add (n:=c+n) (Br n fun k hk=>h k (by omega)) ((h n (by omega)).mono (by omega))
theorem jD{p:List Int}{u:Nat}(h:∀x∈p,Bd u x)(k:Nat):Bd u (co p k):=Bd.getD h k
theorem aaA{p q:List Int}{u v:Nat}(h:∀x∈p,Bd u x)(h':∀x∈q,Bd v x)(k:Nat):Bd (u+v+p.length) (cv (co p) (co q) k):=by
 rw[<-PD (m:=p.length) fun j hj=>bJ hj,W,if_neg (by omega),Int.add_zero];refine Br _ fun j _=>?_;split
 ·exact(jD h j).mul (jD h' _)
 ·exact Bd.zero _
theorem M5{b:Int}{p q:List Int}{u v:Nat}(hb:0<=b)(hb1:b<1000)(hu:10<=u)(h:∀x∈p,Bd u x)(h':∀x∈q,Bd v x):∀x∈mul b p q,Bd (u+v+p.length) x:=by
 intro x hx;obtain⟨k,_,rfl⟩:=dj (xR hx);refine wU hb ?_ (aaA h h' k);exact(Bd.of (n:=10) (by omega) (by omega)).mono (by omega)
theorem pU{b:Int}{c:List Int}{u:Nat}(hb:0<=b)(hb1:b<1000)(hu:10<=u)(h:∀x∈c,Bd u x):∀x∈aP b c,Bd u x:=by
 intro x hx;rcases List.mem_append.mp hx with hx|hx
 ·obtain⟨k,_,rfl⟩:=dj hx;refine wU hb ((Bd.of (n:=10) (by omega) (by omega)).mono (by omega)) ?_;have:=jD h (c.length-1-k);unfold Bd at this⊢;rw[Int.zero_sub,Int.natAbs_neg];exact this
 ·rw[List.mem_singleton.mp hx];exact(Bd.of (n:=10) (by decide) (by decide)).mono hu
end Pm
namespace Pm
open Rm
theorem cW(x:Int)(j:Nat):∀n:Nat,sm n (fun i=>if i=j then x else 0)=if j<n then x else 0
 |0=>by simp[sm]
 |n+1=>by
  rw[sm,cW x j n];by_cases h:n=j
  ·rw[if_pos h,if_neg (by omega),if_pos (by omega)];omega
  ·rw[if_neg h];by_cases h2:j<n
   ·rw[if_pos h2,if_pos (by omega)];omega
   ·rw[if_neg h2,if_neg (by omega)];omega
theorem dZ{b x y:Int}:tk b (x-y)=0↔tk b x=tk b y:=by
 constructor
 ·intro h;have:=aY (b:=b) (x:=x-y) (x':=0) (y:=y) (y':=y) (by rw[h,tk0]) rfl
  rwa [show x-y+y=x by omega,Int.zero_add]at this
 ·intro h;have:=aY (b:=b) (x:=x) (x':=y) (y:=-y) (y':=-y) h rfl;rw[show x + -y=x-y by omega,show y + -y=0 by omega,tk0]at this;exact this
theorem pI(f:Int)(s:Nat)(g:Nat->Int)(k:Nat):cv (fun i=>if i=s then f else 0) g k=if s<=k then f*g (k-s)else 0:=by
 rw[gZ];have e:sm (k+1) (fun j=>(if j=s then f else 0)*g (k-j))=sm (k+1) (fun j=>if j=s then f*g (k-s)else 0):=aB fun j _=>by
  by_cases h:j=s
  ·rw[if_pos h,if_pos h,h]
  ·rw[if_neg h,if_neg h,Int.zero_mul]
 rw[e,cW];by_cases h:s<=k
 ·rw[if_pos h,if_pos (by omega)]
 ·rw[if_neg h,if_neg (by omega)]
structure Mon(m:List Int):Prop where
 pos:0<m.length
 one:co m (m.length-1)=1
structure Div(b:Int)(p m q r:List Int):Prop where
 qy:Py b q
 ry:Py b r
 short:r.length<m.length
 eq:∀k,tk b (cv (co q) (co m) k+co r k)=tk b (co p k)
theorem Div.uniq{b:Int}{p m q r q' r':List Int}(hm:Mon m)(h:Div b p m q r)(h':Div b p m q' r'):q=q'/\r=r':=by
 have hp:=hm.pos;have e1:∀k,tk b (cv (fun i=>co q i-co q' i) (co m) k+(co r k-co r' k))=0:=by
  intro k;have e2:cv (fun i=>co q i-co q' i) (co m) k=cv (co q) (co m) k-cv (co q') (co m) k:=by
   have:=fP (co q) (fun i=>-1*co q' i) (co m) k;rw[gJ]at this;have e3:(fun i=>co q i + -1*co q' i)=fun i=>co q i-co q' i:=by funext i;omega
   rw[e3]at this;omega
  rw[e2,show cv (co q) (co m) k-cv (co q') (co m) k+(co r k-co r' k)=(cv (co q) (co m) k+co r k)-(cv (co q') (co m) k+co r' k)by omega,dZ,h.eq,h'.eq]
 have e4:∀d j,q.length+q'.length<=j+d->tk b (co q j-co q' j)=0:=by
  intro d;induction d with
  |zero=>intro j hj;rw[bJ (by omega),bJ (by omega)];exact tk0 b
  |succ d ih=>
   intro j hj;have e5:=e1 (j+(m.length-1));have hs:=h.short;have hs':=h'.short;rw[bJ (p:=r) (by omega),bJ (p:=r') (by omega),Int.sub_zero,Int.add_zero,gZ]at e5;rw[<-e5];have e6:tk b (sm (j+(m.length-1)+1) fun i=>(co q i-co q' i)*co m (j+(m.length-1)-i))=tk b (sm (j+(m.length-1)+1) fun i=>if i=j then co q j-co q' j else 0):=jr fun i hi=>by
    by_cases c:i=j
    ·rw[if_pos c,c,show j+(m.length-1)-j=m.length-1 by omega,hm.one,Int.mul_one]
    ·rw[if_neg c];by_cases c2:i<j
     ·rw[bJ (p:=m) (by omega),Int.mul_zero]
     ·rw[<-cX,ih i (by omega),Int.zero_mul]
   rw[e6,cW,if_pos (by omega)]
 have eq:q=q':=h.qy.ext h'.qy fun k=>dZ.mp (e4 (q.length+q'.length) k (by omega));refine⟨eq,h.ry.ext h'.ry fun k=>?_⟩;have e7:=e1 k;rw[eq]at e7;have e8:(fun i=>co q' i-co q' i)=fun _=>0:=by funext i;omega
 rw[e8,fj (fun _ _=> .inl rfl),Int.zero_add]at e7;exact dZ.mp e7
structure Ib(b:Int)(p m:List Int)(s:Nat)(o l:List Int):Prop where
 eq:∀k,tk b (cv (co o) (co m) k+co l k)=tk b (co p k)
 zero:∀k,s+(m.length-1)<=k->co l k=0
 low:∀k,k<s->co o k=0
 ol:o.length=p.length-(m.length-1)
 ll:l.length=p.length
 on:∀k,tk b (co o k)=co o k
 ln:∀k,tk b (co l k)=co l k
theorem Ib.start{b:Int}{p m:List Int}(hp:∀k,tk b (co p k)=co p k):Ib b p m (p.length-(m.length-1)) (ofF (p.length-(m.length-1)) fun _=>0) p:=by
 have z:∀k,co (ofF (p.length-(m.length-1)) fun _=>0) k=0:=fun k=>by rw[bK];split<;>rfl
 exact⟨fun k=>by rw[fj fun i _=> .inl (z i),Int.zero_add],fun k hk=>bJ (by omega),fun k _=>z k,aL _ _,rfl,fun k=>by rw[z,tk0],hp⟩
def lf(b f:Int)(s t:Nat)(l m:List Int)(k:Nat):Int:=if s<=k/\k<s+t then tk b (co l k-f*co m (k-s))else co l k
theorem QD(b f:Int)(s:Nat)(l m:List Int)(k:Nat):lf b f s 0 l m k=co l k:=if_neg (by omega)
theorem QY(b f:Int)(s t:Nat)(l m:List Int)(k:Nat):lf b f s (t+1) l m k=if k=s+t then tk b (lf b f s t l m k-f*co m t)else lf b f s t l m k:=by
 unfold lf;by_cases h:k=s+t
 ·rw[if_pos h,if_pos (by omega),if_neg (by omega),show k-s=t by omega]
 ·rw[if_neg h];by_cases h2:s<=k/\k<s+t
  ·rw[if_pos h2,if_pos (by omega)]
  ·rw[if_neg h2,if_neg (by omega)]
theorem RJ{b f:Int}{s:Nat}{l m:List Int}(hl:∀k,tk b (co l k)=co l k)(k:Nat):lf b f s m.length l m k=tk b (co l k-(if s<=k then f*co m (k-s)else 0)):=by
 unfold lf;by_cases h:s<=k
 ·rw[if_pos h];by_cases h2:k<s+m.length
  ·rw[if_pos ⟨h,h2⟩]
  ·rw[if_neg (by omega),bJ (p:=m) (by omega),Int.mul_zero,Int.sub_zero,hl]
 ·rw[if_neg (by omega),if_neg h,Int.sub_zero,hl]
theorem Ib.step{b:Int}{p m o l l':List Int}{s:Nat}(hm:Mon m)(h:Ib b p m (s+1) o l)(hs:s<p.length-(m.length-1))(hl:l'.length=l.length)(e:∀k,co l' k=lf b (co l (s+(m.length-1))) s m.length l m k):
  Ib b p m s (o.set s (co l (s+(m.length-1)))) l':=by
 have hp:=hm.pos;have ho:=h.ol;have eo:co (o.set s (co l (s+(m.length-1))))=fun k=>co o k+(if k=s then co l (s+(m.length-1))else 0):=by
  funext k
  rw[zu _ _ _ _ (by omega)];by_cases c:k=s
  ·rw[if_pos c,if_pos c,c,h.low s (by omega),Int.zero_add]
  ·rw[if_neg c,if_neg c,Int.add_zero]
 have el:∀k,co l' k=tk b (co l k-(if s<=k then co l (s+(m.length-1))*co m (k-s)else 0)):=fun k=>by rw[e,RJ h.ln]
 refine⟨fun k=>?_,fun k hk=>?_,fun k hk=>?_,by rw[List.length_set,ho],by rw[hl,h.ll],fun k=>?_,fun k=>by rw[el,gj]⟩
 ·rw[eo,fP (co o),pI,el,fU,<-h.eq k];congr 1;omega
 ·rw[el,if_pos (by omega)];by_cases c:k=s+(m.length-1)
  ·rw[c,show s+(m.length-1)-s=m.length-1 by omega,hm.one,Int.mul_one,Int.sub_self,tk0]
  ·rw[h.zero k (by omega),bJ (p:=m) (by omega),Int.mul_zero,Int.sub_zero,tk0]
 ·rw[eo];simp only;rw[h.low k (by omega),if_neg (by omega),Int.add_zero]
 ·rw[zu _ _ _ _ (by omega)];split
  ·exact h.ln _
  ·exact h.on _
theorem Ib.stop{b:Int}{p m o l:List Int}(hm:Mon m)(h:Ib b p m 0 o l):Div b p m (trim o) (trim l):=by
 have hp:=hm.pos;have y:∀{x:List Int},(∀k,tk b (co x k)=co x k)->Py b (trim x):=fun hx=>Py.of fun z hz=>by
  obtain⟨k,hk,e⟩:=List.mem_iff_getElem.mp hz;rw[<-e,<-pJ hk];exact hx k
 refine⟨y h.on,y h.ln,?_,fun k=>?_⟩
 ·have:=oJ (p:=l) (n:=m.length-1) fun k hk=>h.zero k (by omega);omega
 ·rw[jm,<-h.eq k];congr 2;exact gh (fun i _=>jm _ _) (fun _ _=>rfl)
end Pm
namespace Pm
open Rm
theorem Dl(g:Nat->Int)(j:Nat):∀m:Nat,sm (j+m) (fun k=>if j<=k then g (k-j)else 0)=sm m g
 |0=>by
  rw[Nat.add_zero];exact iH fun k hk=>if_neg (by omega)
 |m+1=>by
  rw[<-Nat.add_assoc,sm,sm,Dl g j m,if_pos (by omega),Nat.add_sub_cancel_left]
theorem nA(p:List Int)(a:Nat->Int)(n:Nat){N:Nat}(h:p.length<=N):sm N (fun k=>co p k*a (n+k))=ks p a n:=
 fG h fun k h1 _=>by rw[bJ h1,Int.zero_mul]
theorem Sy{b:Int}{p q:List Int}{a:Nat->Int}(h:∀k,tk b (co p k)=tk b (co q k))(n:Nat):tk b (ks p a n)=tk b (ks q a n):=by
 rw[<-nA p a n (Nat.le_max_left p.length q.length),<-nA q a n (Nat.le_max_right p.length q.length)];exact jr fun k _=>by rw[<-cX,h k,cX]
theorem Mx{b:Int}(p q:List Int)(a:Nat->Int)(n:Nat):tk b (ks (add b p q) a n)=tk b (ks p a n+ks q a n):=by
 have hl:(add b p q).length<=max p.length q.length:=by
  have:=fB (ofF (max p.length q.length) fun k=>tk b (co p k+co q k))
  rwa [aL]at this
 rw[<-nA _ a n hl,<-nA p a n (Nat.le_max_left p.length q.length),<-nA q a n (Nat.le_max_right p.length q.length),<-cV];exact jr fun k _=>by rw[Dh,cX,Int.add_mul]
theorem HN{b:Int}(p q:List Int)(a:Nat->Int)(n:Nat):tk b (ks (mul b p q) a n)=tk b (ks p (ks q a) n):=by
 have hl:(mul b p q).length<=p.length+q.length:=by
  have:=fB (ofF (p.length+q.length) fun k=>tk b (cv (co p) (co q) k))
  rwa [aL]at this
 rw[<-nA _ a n hl];have e1:tk b (sm (p.length+q.length) fun k=>co (mul b p q) k*a (n+k))=tk b (sm (p.length+q.length) fun k=>sm p.length fun j=>co p j*(if j<=k then co q (k-j)*a (n+k)else 0)):=jr fun k _=>by
  rw[mC,cX,<-PD (m:=p.length) fun j hj=>bJ hj,W,if_neg (by omega),Int.add_zero,Int.mul_comm,<-bH];congr 1;refine aB fun j _=>?_;by_cases h:j<=k
  ·rw[if_pos h,if_pos h,Int.mul_comm,Int.mul_assoc]
  ·rw[if_neg h,if_neg h,Int.mul_zero,Int.mul_zero]
 rw[e1,kE];congr 1;refine aB fun j hj=>?_;rw[bH];congr 1;have e2:(fun k=>if j<=k then co q (k-j)*a (n+k)else 0)=fun k=>if j<=k then(fun i=>co q i*a (n+j+i)) (k-j)else 0:=by
  funext k
  by_cases h:j<=k
  ·rw[if_pos h,if_pos h];show _=co q (k-j)*a (n+j+(k-j));rw[show n+j+(k-j)=n+k by omega]
  ·rw[if_neg h,if_neg h]
 rw[e2,show p.length+q.length=j+(p.length-j+q.length)by omega];refine(Dl (fun i=>co q i*a (n+j+i)) j _).trans ?_;exact nA q a (n+j) (by omega)
theorem O5{b:Int}{p:List Int}{a:Nat->Int}(h:∀n,tk b (a n)=0)(n:Nat):tk b (ks p a n)=0:=by
 have:tk b (ks p a n)=tk b (sm p.length fun _=>0):=jr fun k _=>by rw[<-bD,h,Int.mul_zero]
 rw[this,gF,tk0]
def Kp(b:Int)(p:List Int)(a:Nat->Int):Prop:=∀n,tk b (ks p a n)=0
theorem Kp.RQ{b:Int}{q:List Int}{a:Nat->Int}(h:Kp b q a)(p:List Int):Kp b (mul b p q) a:=fun n=>by rw[HN];exact O5 h n
theorem Kp.aco{b:Int}{q:List Int}{a:Nat->Int}(h:Kp b q a)(p:List Int):Kp b (mul b q p) a:=by rw[mul_comm];exact h.RQ p
theorem Kp.add{b:Int}{p q:List Int}{a:Nat->Int}(h:Kp b p a)(h':Kp b q a):Kp b (add b p q) a:=fun n=>by
 rw[Mx,<-cj,h n,<-fU,h' n];exact tk0 b
theorem Kp.congr{b:Int}{p q:List Int}{a:Nat->Int}(e:∀k,tk b (co p k)=tk b (co q k))(h:Kp b p a):Kp b q a:=fun n=>by rw[<-Sy e];exact h n
theorem Kp.aP{b:Int}{rule:List Int}{a:Nat->Int}(ha:∀n,rule.length<=n->tk b (a n)=tk b (S rule a n rule.length)):Kp b (aP b rule) a:=fun n=>by
 unfold ks;rw[bF,sm];have e1:co (Pm.aP b rule) rule.length=1:=by
  rw[Pm.aP,bY,aL,if_neg (by omega),Nat.sub_self];rfl
 have e2:tk b (sm rule.length fun k=>co (Pm.aP b rule) k*a (n+k))=tk b (sm rule.length fun k=>-1*(co rule (rule.length-1-k)*a (n+k))):=jr fun k hk=>by
  rw[Pm.aP,bY,aL,if_pos hk,bK,if_pos hk,cX,Int.zero_sub,Int.neg_mul,Int.neg_one_mul]
 have e3:S rule a (n+rule.length) rule.length=sm rule.length fun k=>co rule (rule.length-1-k)*a (n+k):=by
  rw[Gp];have rev:∀(m:Nat) (f:Nat->Int),sm m f=sm m fun k=>f (m-1-k):=by
   intro m;induction m with
   |zero=>intro f;rfl
   |succ m ih=>
    intro f;rw[dW,sm,ih fun i=>f (i+1),Int.add_comm];have:m+1-1-m=0:=by omega
    rw[this];congr 1;exact aB fun k hk=>by rw[show m-1-k+1=m+1-1-k by omega]
  rw[rev];exact aB fun k hk=>by rw[show n+rule.length-1-(rule.length-1-k)=n+k by omega]
 rw[e1,Int.one_mul,<-cj,e2,cj,bH,<-e3,<-fU,ha (n+rule.length) (by omega),fU,Int.neg_one_mul,Int.add_left_neg,tk0]
theorem Div.kp{b:Int}{p m q r:List Int}{a:Nat->Int}(h:Div b p m q r)(hm:Kp b m a):Kp b p a↔Kp b r a:=by
 have e:∀n,tk b (ks p a n)=tk b (ks r a n):=fun n=>by
  have e1:∀k,tk b (co (Pm.add b (mul b q m) r) k)=tk b (co p k):=fun k=>by rw[Dh,mC,gj,cj];exact h.eq k
  rw[<-Sy e1,Mx,<-cj,hm.RQ q n,Int.zero_add]
 exact⟨fun z n=>by rw[<-e];exact z n,fun z n=>by rw[e];exact z n⟩
def In2(b:Int)(p q x:List Int):Prop:=∃u v,∀k,tk b (co x k)=tk b (cv (co u) (co p) k+cv (co v) (co q) k)
theorem Qj(p q:List Int)(k:Nat):co (add 0 p q) k=co p k+co q k:=by rw[Dh,aZ]
theorem Ii(p q:List Int)(k:Nat):co (mul 0 p q) k=cv (co p) (co q) k:=by rw[mC,aZ]
theorem In2.left(b:Int)(p q:List Int):In2 b p q p:=⟨[1],[],fun k=>by
 rw[fj (f:=co []) fun i _=> .inl (eO _),Int.add_zero,gZ,fG (m:=1) (by omega) fun j h1 _=>by rw[show co [1] j=0 from bJ (by simpa using h1),Int.zero_mul]];simp[sm,dH]⟩
theorem In2.swap{b:Int}{p q x:List Int}(h:In2 b p q x):In2 b q p x:=by
 obtain⟨u,v,e⟩:=h;exact⟨v,u,fun k=>by rw[e,Int.add_comm]⟩
theorem In2.trans{b:Int}{p q g s x:List Int}(hg:In2 b p q g)(hs:In2 b p q s)(h:In2 b g s x):In2 b p q x:=by
 obtain⟨a,c,eg⟩:=hg;obtain⟨a',c',es⟩:=hs;obtain⟨u,v,e⟩:=h;refine⟨add 0 (mul 0 u a) (mul 0 v a'),add 0 (mul 0 u c) (mul 0 v c'),fun k=>?_⟩;have e1:tk b (cv (co u) (co g) k)=tk b (cv (co u) (fun i=>cv (co a) (co p) i+cv (co c) (co q) i) k):=jy (fun _ _=>rfl) fun i _=>eg i;have e2:tk b (cv (co v) (co s) k)=tk b (cv (co v) (fun i=>cv (co a') (co p) i+cv (co c') (co q) i) k):=jy (fun _ _=>rfl) fun i _=>es i;rw[e,aY e1 e2];congr 1;have f1:∀y z:List Int,co (add 0 (mul 0 u y) (mul 0 v z))=fun i=>cv (co u) (co y) i+cv (co v) (co z) i:=fun y z=>by
  funext i;rw[Qj,Ii,Ii]
 rw[f1,f1,fP (cv (co u) (co a)),fP (cv (co u) (co c)),Bp,Bp,bV,bV,bV,bV];omega
theorem In2.kp{b:Int}{p q x:List Int}{a:Nat->Int}(h:In2 b p q x)(hp:Kp b p a)(hq:Kp b q a):Kp b x a:=by
 obtain⟨u,v,e⟩:=h;refine((hp.RQ u).add (hq.RQ v)).congr fun k=>?_;rw[Dh,mC,mC,gj,cj,fU,e]
theorem Div.in1{b:Int}{p m q r:List Int}(h:Div b p m q r):In2 b m r p:=by
 refine⟨q,[1],fun k=>?_⟩;obtain⟨u,v,e⟩:=In2.left b r [];rw[<-h.eq k];have:cv (co [1]) (co r) k=co r k:=by
  rw[gZ,fG (m:=1) (by omega) fun j h1 _=>by rw[show co [1] j=0 from bJ (by simpa using h1),Int.zero_mul]];simp[sm,dH]
 rw[this]
theorem Div.in2{b:Int}{p m q r:List Int}(h:Div b p m q r):In2 b p m r:=by
 refine⟨[1],q.map (-1 * ·),fun k=>?_⟩;have e1:cv (co [1]) (co p) k=co p k:=by
  rw[gZ,fG (m:=1) (by omega) fun j h1 _=>by rw[show co [1] j=0 from bJ (by simpa using h1),Int.zero_mul]];simp[sm,dH]
 have e2:co (q.map (-1 * ·))=fun i=>-1*co q i:=by funext i;rw[sU (by simp)]
 rw[e1,e2,gJ];have:=aY (h.eq k) (rfl:tk b (-1*cv (co q) (co m) k)=tk b (-1*cv (co q) (co m) k));rw[<-this];congr 1;omega
structure Gcd(b:Int)(p q g:List Int):Prop where
 py:Py b g
 mon:Mon g
 sum:In2 b p q g
 one:In2 b g [] p
 two:In2 b g [] q
theorem In2.dv{b:Int}{g p:List Int}(h:In2 b g [] p):∃u,∀k,tk b (co p k)=tk b (cv (co u) (co g) k):=by
 obtain⟨u,v,e⟩:=h;exact⟨u,fun k=>by rw[e,fj (g:=co []) fun i _=> .inr (eO _),Int.add_zero]⟩
end Pm
namespace Pm
open Rm
theorem wj{p:List Int}(h:p≠[]):p=p.dropLast++[co p (p.length-1)]:=by
 have hp:0<p.length:=List.length_pos_iff.mpr h
 conv=>lhs;rw[<-List.dropLast_concat_getLast h]
 congr 2;rw[pJ (by omega),List.getLast_eq_getElem]
theorem iu{p:List Int}(h:p≠[])(h0:co p (p.length-1)≠0):trim p=p:=by
 have e:=wj h;rw[e,uq _ h0]
theorem uh{p:List Int}(h:p≠[])(ht:trim p=p):co p (p.length-1)≠0:=by
 intro z;have e:=wj h;rw[z]at e;have e2:trim p=trim p.dropLast:=by
  conv=>lhs;rw[e]
  exact zc _
 have:=fB p.dropLast;rw[<-e2,ht,List.length_dropLast]at this;have hp:0<p.length:=List.length_pos_iff.mpr h;omega
structure xK(b:Int)(p m:List Int):Prop where
 py:Py b m
 len:m.length=p.length
 mon:p≠[]->Mon m
 to:∃c,∀k,tk b (co m k)=tk b (c*co p k)
 of:∃c,∀k,tk b (co p k)=tk b (c*co m k)
theorem In2.scale{b:Int}{p m:List Int}(h:∃c,∀k,tk b (co m k)=tk b (c*co p k))(q:List Int):In2 b p q m:=by
 obtain⟨c,e⟩:=h;refine⟨[c],[],fun k=>?_⟩;rw[fj (f:=co []) fun i _=> .inl (eO _),Int.add_zero,e,gZ,fG (m:=1) (by omega) fun j h1 _=>by rw[show co [c] j=0 from bJ (by simpa using h1),Int.zero_mul]];simp[sm,dH]
theorem xK.nil(b:Int):xK b [] []:=⟨Py.nil b,rfl,fun h=>absurd rfl h,⟨0,fun k=>by rw[eO,Int.zero_mul]⟩,⟨0,fun k=>by rw[eO,Int.zero_mul]⟩⟩
def gW(P:Nat)(p:List Int):List Int:=p.map fun x=>x*(co p (p.length-1))^(P-2)%(P:Int)
theorem IG{P:Nat}(hP:P∈Om.jk)(h2:2<=P){p:List Int}(hp:Py P p)(hn:p≠[]):xK P p (gW P p):=by
 have hpos:0<p.length:=List.length_pos_iff.mpr hn;have hP0:(P:Int)≠0:=by omega
 have tkP:∀n,tk (P:Int) n=n%(P:Int):=fun n=>fZ hP0 n;have l0:=uh hn hp.tr;have l1:=hp.co (p.length-1);rw[tkP]at l1;have r0:0<=co p (p.length-1):=by rw[<-l1];exact Int.emod_nonneg _ hP0
 have r1:co p (p.length-1)<(P:Int):=by rw[<-l1];exact Int.emod_lt_of_pos _ (by omega)
 generalize hl:co p (p.length-1)=a at l0 r0 r1;have hinv:(a^(P-2)*a)%(P:Int)=1:=by
  rw[<-Int.pow_succ,show(P-2).succ=P-1 by omega];exact Om.xU rfl hP (by omega) r1
 have e:∀k,co (gW P p) k=co p k*a^(P-2)%(P:Int):=fun k=>by
  rw[gW,sU (by simp),hl]
 have len:(gW P p).length=p.length:=by rw[gW,List.length_map]
 have top:co (gW P p) ((gW P p).length-1)=1:=by
  rw[len,e,hl,Int.mul_comm];exact hinv
 have hm:gW P p≠[]:=fun z=>by rw[z]at len;simp at len;omega
 refine⟨⟨iu hm (by rw[top];decide),fun x hx=>?_⟩,len,fun _=>⟨by omega,top⟩,⟨a^(P-2),fun k=>?_⟩,⟨a,fun k=>?_⟩⟩
 ·obtain⟨y,_,rfl⟩:=List.mem_map.mp hx;rw[tkP];exact Int.emod_emod_of_dvd _ (Int.dvd_refl _)
 ·rw[e,tkP,tkP,Int.emod_emod_of_dvd _ (Int.dvd_refl _),Int.mul_comm]
 ·rw[e,tkP,tkP,Int.mul_emod a,Int.emod_emod_of_dvd _ (Int.dvd_refl _),<-Int.mul_emod,Int.mul_left_comm a,Int.mul_comm a,Int.mul_emod,hinv];rw[Int.mul_one,Int.emod_emod_of_dvd _ (Int.dvd_refl _)]
structure KH(b:Int)(p q g s:List Int):Prop where
 gy:Py b g
 sy:Py b s
 gm:g≠[]->Mon g
 sm_:s≠[]->Mon s
 some:s=[]->g≠[]
 gi:In2 b p q g
 si:In2 b p q s
 pi:In2 b g s p
 qi:In2 b g s q
theorem KH.start{b:Int}{p q g s:List Int}(hg:xK b p g)(hs:xK b q s)(h:q=[]->p≠[]):KH b p q g s:=by
 have lg:=hg.len;have ls:=hs.len;have pn:g≠[]->p≠[]:=fun z e=>z (List.eq_nil_of_length_eq_zero (by rw[lg,e];rfl));have qn:s≠[]->q≠[]:=fun z e=>z (List.eq_nil_of_length_eq_zero (by rw[ls,e];rfl));refine⟨hg.py,hs.py,fun z=>hg.mon (pn z),fun z=>hs.mon (qn z),fun z e=>?_,In2.scale hg.to q,(In2.scale hs.to p).swap,In2.scale hg.of s,(In2.scale hs.of g).swap⟩;have q0:q=[]:=List.eq_nil_of_length_eq_zero (by rw[<-ls,z];rfl);exact h q0 (List.eq_nil_of_length_eq_zero (by rw[<-lg,e];rfl))
theorem KH.step{b:Int}{p q g s o l m:List Int}(h:KH b p q g s)(hs:s≠[])(d:Div b g s o l)(hm:xK b l m):KH b p q s m:=by
 have lm:=hm.len;have ln:m≠[]->l≠[]:=fun z e=>z (List.eq_nil_of_length_eq_zero (by rw[lm,e];rfl));have li:In2 b p q l:=h.gi.trans h.si d.in2;have gs:In2 b s m g:=(In2.left b s m).trans (In2.scale hm.of s).swap d.in1;refine⟨h.sy,hm.py,h.sm_,fun z=>hm.mon (ln z),fun _=>hs,h.si,li.trans li (In2.scale hm.to l),?_,?_⟩
 ·exact gs.trans (In2.left b s m) h.pi
 ·exact gs.trans (In2.left b s m) h.qi
theorem KH.stop{b:Int}{p q g s:List Int}(h:KH b p q g s)(hs:s=[]):Gcd b p q g:=by
 subst hs;exact⟨h.gy,h.gm (h.some rfl),h.gi,h.pi,h.qi⟩
end Pm
namespace Pm
open Rm
theorem u9{p:List Int}{k:Nat}(h:co p k≠0):k<p.length:=by
 by_cases c:k<p.length
 ·exact c
 ·exact absurd (bJ (by omega)) h
theorem FY{b:Int}(hb:tk b 1=1){p q:List Int}(hp:Mon p)(hq:Mon q):Mon (mul b p q)/\(mul b p q).length=p.length+q.length-1:=by
 have h1:=hp.pos;have h2:=hq.pos;have e:co (mul b p q) (p.length+q.length-2)=1:=by
  rw[mC,gZ];have:sm (p.length+q.length-2+1) (fun j=>co p j*co q (p.length+q.length-2-j))=sm (p.length+q.length-2+1) (fun j=>if j=p.length-1 then 1 else 0):=aB fun j hj=>by
   by_cases c:j=p.length-1
   ·rw[if_pos c,c,hp.one,show p.length+q.length-2-(p.length-1)=q.length-1 by omega,hq.one];rfl
   ·rw[if_neg c];by_cases c2:j<p.length-1
    ·rw[bJ (p:=q) (by omega),Int.mul_zero]
    ·rw[bJ (p:=p) (by omega),Int.zero_mul]
  rw[this,cW,if_pos (by omega),hb]
 have l1:=u9 (p:=mul b p q) (k:=p.length+q.length-2) (by rw[e];decide);have l2:(mul b p q).length<=p.length+q.length-1:=by
  refine oJ fun k hk=>?_;rw[bK];split
  ·rw[fj fun i hi=>?_,tk0];by_cases c:i<p.length
   ·exact .inr (bJ (by omega))
   ·exact .inl (bJ (by omega))
  ·rfl
 have l3:(mul b p q).length=p.length+q.length-1:=by omega
 exact⟨⟨by omega,by rw[l3,show p.length+q.length-1-1=p.length+q.length-2 by omega];exact e⟩,l3⟩
theorem eG(b:Int)(c:List Int):Mon (aP b c):=⟨by rw[bF];omega,by
 rw[bF,aP,bY,aL,if_neg (by omega),show c.length+1-1-c.length=0 by omega];rfl⟩
theorem dR(b:Int)(p:List Int):(cO b p).length=p.length-1:=by rw[cO,aL]
theorem kZ{b:Int}{w:List Int}(hw:∀k,tk b (co w k)=co w k)(hm:Mon w):aP b (cO b w)=w:=by
 have hp:=hm.pos;refine nQ (by rw[bF,dR];omega) fun k=>?_;rw[aP,bY,aL,dR];by_cases h:k<w.length-1
 ·rw[if_pos h,bK,if_pos h,cO,bK,if_pos (by omega),rO,show w.length-1-1-(w.length-1-1-k)=k by omega,hw]
 ·rw[if_neg h];by_cases c:k=w.length-1
  ·rw[c,Nat.sub_self,hm.one];rfl
  ·rw[bJ (p:=w) (by omega),bJ];simp;omega
theorem GB{b:Int}{rule:List Int}{a:Nat->Int}(n:Nat):tk b (ks (aP b rule) a n)=tk b (a (n+rule.length)-S rule a (n+rule.length) rule.length):=by
 unfold ks;rw[bF,sm];have e1:co (aP b rule) rule.length=1:=by
  rw[aP,bY,aL,if_neg (by omega),Nat.sub_self];rfl
 have e2:tk b (sm rule.length fun k=>co (aP b rule) k*a (n+k))=tk b (sm rule.length fun k=>-1*(co rule (rule.length-1-k)*a (n+k))):=jr fun k hk=>by
  rw[aP,bY,aL,if_pos hk,bK,if_pos hk,cX,Int.zero_sub,Int.neg_mul,Int.neg_one_mul]
 have e3:S rule a (n+rule.length) rule.length=sm rule.length fun k=>co rule (rule.length-1-k)*a (n+k):=by
  rw[Gp];have rev:∀(m:Nat) (f:Nat->Int),sm m f=sm m fun k=>f (m-1-k):=by
   intro m;induction m with
   |zero=>intro f;rfl
   |succ m ih=>
    intro f;rw[dW,sm,ih fun i=>f (i+1),Int.add_comm];have:m+1-1-m=0:=by omega
    rw[this];congr 1;exact aB fun k hk=>by rw[show m-1-k+1=m+1-1-k by omega]
  rw[rev];exact aB fun k hk=>by rw[show n+rule.length-1-(rule.length-1-k)=n+k by omega]
 rw[e1,Int.one_mul,<-cj,e2,cj,bH,<-e3];congr 1;omega
theorem Kp.rec{b:Int}{rule:List Int}{a:Nat->Int}(h:Kp b (Pm.aP b rule) a):∀n,rule.length<=n->tk b (a n)=tk b (S rule a n rule.length):=fun n hn=>by
 have:=h (n-rule.length);rw[GB,show n-rule.length+rule.length=n by omega]at this;exact dZ.mp this
theorem uY{b:Int}{w:List Int}{a:Nat->Int}(hw:∀k,tk b (co w k)=co w k)(hm:Mon w)(hk:Kp b w a)(ha:∀n,tk b (a n)=a n){starts:List Int}(hl:starts.length=w.length-1)(hs:∀i,i<starts.length->starts.getD i 0=a i)(n:Nat):
  at_ b (cO b w) starts n=a n:=by
 have lr:=dR b w;rw[<-kZ hw hm]at hk;refine rB (by omega) (g:=a) (fun i hi=>(hs i hi).symm) (fun i hi=>?_) n;rw[<-ha i];exact hk.rec i (by omega)
end Pm
namespace Dm
open Pm
def sg(m:Nat):Int:=if m%2=0 then 1 else -1
theorem qQ(m:Nat):sg (m+1)=-sg m:=by
 unfold sg;by_cases h:m%2=0
 ·rw[if_pos h,if_neg (by omega)]
 ·rw[if_neg h,if_pos (by omega)];rfl
theorem Gq(m n:Nat):sg (m+n)=sg m*sg n:=by
 induction n with
 |zero=>simp[sg]
 |succ n ih=>rw[<-Nat.add_assoc,qQ,qQ,ih,Int.mul_neg]
theorem Vn(m:Nat):sg m*sg m=1:=by
 unfold sg;split<;>rfl
def sk(c k:Nat):Nat:=if k<c then k else k+1
theorem aa6(c k:Nat):sk c k≠c:=by unfold sk;split<;>omega
def det:Nat->(Nat->Nat->Int)->Int
 |0,_=>1
 |n+1,f=>sm (n+1) fun c=>sg (n+c)*f n c*det n fun i k=>f i (sk c k)
theorem cL:∀{n:Nat} {f g:Nat->Nat->Int},(∀i k,i<n->k<n->f i k=g i k)->det n f=det n g
 |0,_,_,_=>rfl
 |n+1,f,g,h=>by
  unfold det;refine aB fun c hc=>?_;rw[h n c (by omega) hc,cL fun i k hi hk=>h i (sk c k) (by omega) (by unfold sk;split<;>omega)]
def lX(f:Nat->Nat->Int)(j:Nat)(u:Nat->Int):Nat->Nat->Int:=fun i k=>if k=j then u i else f i k
def oR(f:Nat->Nat->Int)(j:Nat)(u:Nat->Int):Nat->Nat->Int:=fun i k=>if i=j then u k else f i k
theorem fO(f:Nat->Nat->Int)(j:Nat)(u:Nat->Int)(i:Nat):lX f j u i j=u i:=if_pos rfl
theorem j7{f:Nat->Nat->Int}{j k:Nat}{u:Nat->Int}{i:Nat}(h:k≠j):lX f j u i k=f i k:=if_neg h
theorem Pa{c j:Nat}(h:c≠j):∃j',sk c j'=j/\(∀k,sk c k=j->k=j'):=by
 refine⟨if j<c then j else j-1,?_,fun k hk=>?_⟩
 ·unfold sk;split<;>(try split)<;>omega
 ·unfold sk at hk;split at hk<;>split<;>omega
theorem vB{n c j:Nat}(f:Nat->Nat->Int)(u:Nat->Int)(h:c≠j)(hc:c<n+1)(hj:j<n+1):∃j',j'<n/\∀u,(fun i k=>lX f j u i (sk c k))=lX (fun i k=>f i (sk c k)) j' u:=by
 obtain⟨j',e1,e2⟩:=Pa h;refine⟨j',?_,fun u=>?_⟩
 ·unfold sk at e1;split at e1<;>omega
 ·funext i k
  unfold lX;by_cases z:k=j'
  ·rw[if_pos z,if_pos (by rw[z,e1])]
  ·rw[if_neg z,if_neg fun w=>z (e2 k w)]
theorem jd:∀{n:Nat} (f:Nat->Nat->Int) {j:Nat} (_:j<n) (a:Int) (u v:Nat->Int),det n (lX f j fun i=>a*u i+v i)=a*det n (lX f j u)+det n (lX f j v)
 |0,_,_,h,_,_,_=>absurd h (Nat.not_lt_zero _)
 |n+1,f,j,hj,a,u,v=>by
  unfold det;rw[<-bH,<-cV];refine aB fun c hc=>?_;by_cases e:c=j
  ·subst e;have m:∀w,(fun i k=>lX f c w i (sk c k))=fun i k=>f i (sk c k):=fun w=>by funext i k;exact j7 (aa6 c k)
   rw[m,m,m,fO,fO,fO];rw[Int.mul_add,Int.add_mul];congr 1;rw[show sg (n+c)*(a*u n)=a*(sg (n+c)*u n)from Int.mul_left_comm ..,Int.mul_assoc a]
  ·obtain⟨j',hj',m⟩:=vB f u e hc hj;rw[m,m,m,jd _ hj',j7 e,j7 e,j7 e,Int.mul_add];congr 1;exact Int.mul_left_comm ..
theorem nG:∀{n:Nat} {f:Nat->Nat->Int} {j:Nat},j+1<n->(∀i,i<n->f i j=f i (j+1))->det n f=0
 |0,_,_,h,_=>absurd h (Nat.not_lt_zero _)
 |n+1,f,j,hj,h=>by
  unfold det;have e:sm (n+1) (fun c=>sg (n+c)*f n c*det n fun i k=>f i (sk c k))=sm (n+1) (fun c=>(if c=j then sg (n+j)*f n j*det n (fun i k=>f i (sk j k))else 0)+(if c=j+1 then -(sg (n+j)*f n j*det n (fun i k=>f i (sk j k)))else 0)):=aB fun c hc=>by
   by_cases e1:c=j
   ·rw[if_pos e1,if_neg (by omega),e1,Int.add_zero]
   ·by_cases e2:c=j+1
    ·rw[if_neg e1,if_pos e2,e2,Int.zero_add,<-h n (by omega),show n+(j+1)=n+j+1 by omega,qQ];have:det n (fun i k=>f i (sk (j+1) k))=det n (fun i k=>f i (sk j k)):=cL fun i k hi hk=>by
      by_cases z:k=j
      ·subst z;rw[show sk (k+1) k=k by unfold sk;rw[if_pos (by omega)],show sk k k=k+1 by unfold sk;rw[if_neg (by omega)],h i (by omega)]
      ·rw[show sk (j+1) k=sk j k by unfold sk;split<;>split<;>omega]
     rw[this,Int.neg_mul,Int.neg_mul]
    ·rw[if_neg e1,if_neg e2,Int.add_zero];have:det n (fun i k=>f i (sk c k))=0:=by
      by_cases z:j+1<c
      ·exact nG (j:=j) (by omega) fun i hi=>by rw[show sk c j=j by unfold sk;rw[if_pos (by omega)],show sk c (j+1)=j+1 by unfold sk;rw[if_pos (by omega)]];exact h i (by omega)
      ·exact nG (j:=j-1) (by omega) fun i hi=>by rw[show sk c (j-1)=j by unfold sk;rw[if_neg (by omega)];omega,show sk c (j-1+1)=j+1 by unfold sk;rw[if_neg (by omega)];omega];exact h i (by omega)
     rw[this,Int.mul_zero]
  rw[e,cV];have s1:∀(x:Int) (t N:Nat),t<N->sm N (fun c=>if c=t then x else 0)=x:=fun x t N ht=>by rw[cW,if_pos ht]
  rw[s1 _ _ _ (by omega),s1 _ _ _ hj];omega
def sw(j i:Nat):Nat:=if i=j then j+1 else if i=j+1 then j else i
theorem pK(f:Nat->Nat->Int)(j:Nat):lX f j (fun i=>f i j)=f:=by
 funext i k;unfold lX;split
 ·rename_i h;rw[h]
 ·rfl
theorem BF{n:Nat}(f:Nat->Nat->Int){j:Nat}(hj:j+1<n):det n (fun i k=>f i (sw j k))=-det n f:=by
 let D:=fun(x y:Nat->Int)=>det n (lX (lX f j x) (j+1) y)
 have z:∀x,D x x=0:=fun x=>nG hj fun i _=>by
  rw[j7 (by omega),fO,fO]
 have l2:∀x y y',D x (fun i=>1*y i+y' i)=1*D x y+D x y':=fun x y y'=>jd _ hj 1 y y';have cm:∀x y,lX (lX f j x) (j+1) y=lX (lX f (j+1) y) j x:=fun x y=>by
  funext i k;unfold lX;split<;>(try split)<;>first|rfl|omega
 have l1:∀x x' y,D (fun i=>1*x i+x' i) y=1*D x y+D x' y:=fun x x' y=>by
  show det n _=1*det n _+det n _;rw[cm,cm,cm];exact jd _ (by omega) 1 x x'
 have a:=z fun i=>1*f i j+f i (j+1);rw[l1,l2,l2,z,z]at a;have e1:D (fun i=>f i j) (fun i=>f i (j+1))=det n f:=by
  show det n _=_;rw[pK f j,pK]
 have e2:D (fun i=>f i (j+1)) (fun i=>f i j)=det n (fun i k=>f i (sw j k)):=cL fun i k _ _=>by
  unfold lX sw;by_cases c1:k=j+1
  ·rw[if_pos c1,if_neg (by omega),if_pos c1]
  ·rw[if_neg c1];by_cases c2:k=j
   ·rw[if_pos c2,if_pos c2]
   ·rw[if_neg c2,if_neg c2,if_neg c1]
 rw[e1,e2]at a;omega
def mv(h m k:Nat):Nat:=if k<h then k else if k<m then k+1 else if k=m then h else k
theorem Iw{h m:Nat}(hm:h<m)(k:Nat):mv h m k=sw h (mv (h+1) m k):=by
 unfold mv sw
 repeat' split
 all_goals omega
theorem oU{n:Nat}:∀(d:Nat) (f:Nat->Nat->Int) {h m:Nat},m=h+d->m<n->det n (fun i k=>f i (mv h m k))=sg d*det n f
 |0,f,h,m,e,hm=>by
  have:det n (fun i k=>f i (mv h m k))=det n f:=cL fun i k _ _=>by
   rw[show mv h m k=k by unfold mv;split<;>(try split)<;>(try split)<;>omega]
  rw[this];simp[sg]
 |d+1,f,h,m,e,hm=>by
  have e1:(fun i k=>f i (mv h m k))=fun i k=>(fun i k=>f i (sw h k)) i (mv (h+1) m k):=by
   funext i k;rw[Iw (by omega)]
  rw[e1,oU d (fun i k=>f i (sw h k)) (by omega) hm,BF f (by omega),qQ,Int.mul_neg,Int.neg_mul]
theorem qd{n:Nat}{f:Nat->Nat->Int}{a b:Nat}(hab:a<b)(hb:b<n)(h:∀i,i<n->f i a=f i b):det n f=0:=by
 have e:=oU (n:=n) (b-1-a) f (h:=a) (m:=b-1) (by omega) (by omega);have z:det n (fun i k=>f i (mv a (b-1) k))=0:=nG (j:=b-1) (by omega) fun i hi=>by
  rw[show mv a (b-1) (b-1)=a by unfold mv;rw[if_neg (by omega),if_neg (by omega),if_pos rfl],show mv a (b-1) (b-1+1)=b by unfold mv;rw[if_neg (by omega),if_neg (by omega),if_neg (by omega)];omega];exact h i hi
 rw[z]at e;have s:=Vn (b-1-a);have:sg (b-1-a)*(sg (b-1-a)*det n f)=det n f:=by rw[<-Int.mul_assoc,s,Int.one_mul]
 rw[<-e,Int.mul_zero]at this;exact this.symm
theorem jT:∀{n:Nat} (f:Nat->Nat->Int) {j:Nat} (_:j<n) (a:Int) (u v:Nat->Int),det n (oR f j fun i=>a*u i+v i)=a*det n (oR f j u)+det n (oR f j v)
 |0,_,_,h,_,_,_=>absurd h (Nat.not_lt_zero _)
 |n+1,f,j,hj,a,u,v=>by
  unfold det;rw[<-bH,<-cV];refine aB fun c hc=>?_;by_cases e:j=n
  ·subst e;have m:∀w,det j (fun i k=>oR f j w i (sk c k))=det j (fun i k=>f i (sk c k)):=fun w=>cL fun i k hi _=>if_neg (by omega);rw[m,m,m];show sg (j+c)*(if j=j then _ else _)*_=a*(sg (j+c)*(if j=j then _ else _)*_)+sg (j+c)*(if j=j then _ else _)*_;rw[if_pos rfl,if_pos rfl,if_pos rfl,Int.mul_add,Int.add_mul];congr 1;rw[show sg (j+c)*(a*u c)=a*(sg (j+c)*u c)from Int.mul_left_comm ..,Int.mul_assoc a]
  ·have m:∀w:Nat->Int,(fun i k=>oR f j w i (sk c k))=oR (fun i k=>f i (sk c k)) j fun k=>w (sk c k):=fun w=>by funext i k;rfl
   have r:∀w:Nat->Int,oR f j w n c=f n c:=fun w=>if_neg (fun z=>e z.symm);rw[m,m,m,r,r,r,jT (fun i k=>f i (sk c k)) (by omega) a (fun k=>u (sk c k)) (fun k=>v (sk c k)),Int.mul_add];congr 1;exact Int.mul_left_comm ..
theorem tri(T:Nat->Nat->Int):∀N:Nat,sm (N+1) (fun c=>sm N (fun c'=>T c c'))=sm (N+1) (fun b=>sm b (fun a=>T b a+T a (b-1)))
 |0=>by simp[sm]
 |N+1=>by
  have ih:=tri T N;rw[sm,show(fun c=>sm (N+1) fun c'=>T c c')=fun c=>sm N (fun c'=>T c c')+T c N from rfl,cV,ih]
  conv=>rhs;rw[sm]
  rw[cV,Nat.add_sub_cancel];have e:(fun c'=>T (N+1) c')=T (N+1):=rfl;rw[e];omega
theorem abe{a b:Nat}(h:a<b)(k:Nat):sk b (sk a k)=sk a (sk (b-1) k):=by
 unfold sk
 repeat' split
 all_goals omega
theorem sI:∀{n:Nat} {f:Nat->Nat->Int} {j:Nat},j+1<n->(∀k,k<n->f j k=f (j+1) k)->det n f=0
 |0,_,_,h,_=>absurd h (Nat.not_lt_zero _)
 |1,_,_,h,_=>absurd h (by omega)
 |n+2,f,j,hj,h=>by
  by_cases e:j=n
  ·subst e;have e1:det (j+2) f=sm (j+1+1) fun c=>sm (j+1) fun c'=>sg (j+1+c)*f (j+1) c*(sg (j+c')*f j (sk c c')*det j fun i k=>f i (sk c (sk c' k))):=by
    show sm (j+1+1) _=_;refine aB fun c _=>?_;rw[show det (j+1) (fun i k=>f i (sk c k))=sm (j+1) fun c'=>sg (j+c')*f j (sk c c')*det j fun i k=>f i (sk c (sk c' k))from rfl,<-bH]
   rw[e1,tri];refine iH fun b hb=>iH fun a ha=>?_;have f1:sk b a=a:=by unfold sk;rw[if_pos ha]
   have f2:sk a (b-1)=b:=by unfold sk;rw[if_neg (by omega)];omega
   have f3:(fun i k=>f i (sk b (sk a k)))=fun i k=>f i (sk a (sk (b-1) k)):=by funext i k;rw[abe ha]
   rw[f1,f2,f3,<-h b (by omega),<-h a (by omega)];have s1:sg (j+1+b)*sg (j+a)=-(sg (j+1+a)*sg (j+(b-1))):=by
    rw[<-Gq,<-Gq,<-qQ];unfold sg;rw[show(j+1+b+(j+a))%2=(j+1+a+(j+(b-1))+1)%2 by omega]
   generalize det j (fun i k=>f i (sk a (sk (b-1) k)))=M;have t1:sg (j+1+b)*f j b*(sg (j+a)*f j a*M)=(sg (j+1+b)*sg (j+a))*(f j b*f j a*M):=by
    simp only[Int.mul_assoc,Int.mul_left_comm]
   have t2:sg (j+1+a)*f j a*(sg (j+(b-1))*f j b*M)=(sg (j+1+a)*sg (j+(b-1)))*(f j b*f j a*M):=by
    simp only[Int.mul_assoc,Int.mul_left_comm]
   rw[t1,t2,s1,Int.neg_mul];omega
  ·unfold det;refine iH fun c hc=>?_;rw[sI (n:=n+1) (j:=j) (by omega) fun k hk=>h (sk c k) (by unfold sk;split<;>omega),Int.mul_zero]
theorem qx(f:Nat->Nat->Int)(j:Nat):oR f j (f j)=f:=by
 funext i k;unfold oR;split
 ·rename_i h;rw[h]
 ·rfl
theorem Ba{n:Nat}(f:Nat->Nat->Int){j:Nat}(hj:j+1<n):det n (fun i k=>f (sw j i) k)=-det n f:=by
 let D:=fun(x y:Nat->Int)=>det n (oR (oR f j x) (j+1) y)
 have z:∀x,D x x=0:=fun x=>sI hj fun k _=>by
  show(if j=j+1 then x k else if j=j then x k else f j k)=(if j+1=j+1 then x k else _);rw[if_neg (by omega),if_pos rfl,if_pos rfl]
 have l2:∀x y y',D x (fun i=>1*y i+y' i)=1*D x y+D x y':=fun x y y'=>jT _ hj 1 y y';have cm:∀x y,oR (oR f j x) (j+1) y=oR (oR f (j+1) y) j x:=fun x y=>by
  funext i k;unfold oR;split<;>(try split)<;>first|rfl|omega
 have l1:∀x x' y,D (fun i=>1*x i+x' i) y=1*D x y+D x' y:=fun x x' y=>by
  show det n _=1*det n _+det n _;rw[cm,cm,cm];exact jT _ (by omega) 1 x x'
 have a:=z fun i=>1*f j i+f (j+1) i;rw[l1,l2,l2,z,z]at a;have e1:D (fun i=>f j i) (fun i=>f (j+1) i)=det n f:=by
  show det n _=_;rw[qx f j,qx]
 have e2:D (fun i=>f (j+1) i) (fun i=>f j i)=det n (fun i k=>f (sw j i) k):=cL fun i k _ _=>by
  unfold oR sw;by_cases c1:i=j+1
  ·rw[if_pos c1,if_neg (by omega),if_pos c1]
  ·rw[if_neg c1];by_cases c2:i=j
   ·rw[if_pos c2,if_pos c2]
   ·rw[if_neg c2,if_neg c2,if_neg c1]
 rw[e1,e2]at a;omega
theorem ur{n:Nat}:∀(d:Nat) (f:Nat->Nat->Int) {h m:Nat},m=h+d->m<n->det n (fun i k=>f (mv h m i) k)=sg d*det n f
 |0,f,h,m,e,hm=>by
  have:det n (fun i k=>f (mv h m i) k)=det n f:=cL fun i k _ _=>by
   rw[show mv h m i=i by unfold mv;split<;>(try split)<;>(try split)<;>omega]
  rw[this];simp[sg]
 |d+1,f,h,m,e,hm=>by
  have e1:(fun i k=>f (mv h m i) k)=fun i k=>(fun i k=>f (sw h i) k) (mv (h+1) m i) k:=by
   funext i k;rw[Iw (by omega)]
  rw[e1,ur d (fun i k=>f (sw h i) k) (by omega) hm,Ba f (by omega),qQ,Int.mul_neg,Int.neg_mul]
theorem zF{n:Nat}{f:Nat->Nat->Int}{a b:Nat}(hab:a<b)(hb:b<n)(h:∀k,k<n->f a k=f b k):det n f=0:=by
 have e:=ur (n:=n) (b-1-a) f (h:=a) (m:=b-1) (by omega) (by omega);have z:det n (fun i k=>f (mv a (b-1) i) k)=0:=sI (j:=b-1) (by omega) fun k hk=>by
  rw[show mv a (b-1) (b-1)=a by unfold mv;rw[if_neg (by omega),if_neg (by omega),if_pos rfl],show mv a (b-1) (b-1+1)=b by unfold mv;rw[if_neg (by omega),if_neg (by omega),if_neg (by omega)];omega];exact h k hk
 rw[z]at e;have s:=Vn (b-1-a);have:sg (b-1-a)*(sg (b-1-a)*det n f)=det n f:=by rw[<-Int.mul_assoc,s,Int.one_mul]
 rw[<-e,Int.mul_zero]at this;exact this.symm
theorem Am{n:Nat}(f:Nat->Nat->Int){a b:Nat}(hab:a<b)(hb:b<n):det n (oR (oR f a (f b)) b fun k=>-1*f a k+0)=det n f:=by
 let D:=fun(x y:Nat->Int)=>det n (oR (oR f a x) b y)
 have z:∀x,D x x=0:=fun x=>zF hab hb fun k _=>by
  show(if a=b then x k else if a=a then x k else f a k)=(if b=b then x k else _);rw[if_neg (by omega),if_pos rfl,if_pos rfl]
 have l2:∀(c:Int) x y y',D x (fun i=>c*y i+y' i)=c*D x y+D x y':=fun c x y y'=>jT _ hb c y y';have cm:∀x y,oR (oR f a x) b y=oR (oR f b y) a x:=fun x y=>by
  funext i k;unfold oR;split<;>(try split)<;>first|rfl|omega
 have l1:∀x x' y,D (fun i=>1*x i+x' i) y=1*D x y+D x' y:=fun x x' y=>by
  show det n _=1*det n _+det n _;rw[cm,cm,cm];exact jT _ (by omega) 1 x x'
 have q:=z fun i=>1*f a i+f b i;rw[l1,l2,l2,z,z]at q;have e1:D (f a) (f b)=det n f:=by
  show det n _=_;rw[qx f a,qx]
 have e3:D (f b) (fun k=>-1*f a k+0)=-1*D (f b) (f a)+D (f b) (fun _=>0):=l2 (-1) (f b) (f a) (fun _=>0);have e4:D (f b) (fun _=>0)=0:=by
  have:=l2 0 (f b) (fun _=>0) (fun _=>0);have e5:=l2 (-1) (f b) (fun _=>0) (fun _=>0);simp only[Int.mul_zero,Int.add_zero]at e5;omega
 show D (f b) (fun k=>-1*f a k+0)=_;rw[e3,e4];have e6:D (fun i=>f a i) (fun i=>f b i)=det n f:=e1;have e7:D (fun i=>f b i) (fun i=>f a i)=D (f b) (f a):=rfl;rw[e6,e7]at q;omega
end Dm
namespace Dm
open Pm
theorem oA{n:Nat}(f:Nat->Nat->Int){j:Nat}(hj:j<n):det n (lX f j fun _=>0)=0:=by
 have e:=jd f hj (-1) (fun _=>0) (fun _=>0);simp only[Int.mul_zero,Int.add_zero]at e;omega
theorem rz{n:Nat}(f:Nat->Nat->Int){j:Nat}(hj:j<n)(x:Nat->Int)(u:Nat->Nat->Int):∀m:Nat,det n (lX f j fun i=>sm m fun h=>x h*u h i)=sm m fun h=>x h*det n (lX f j (u h))
 |0=>oA f hj
 |m+1=>by
  rw[sm,<-rz f hj x u m];have e:=jd f hj (x m) (u m) (fun i=>sm m fun h=>x h*u h i);rw[Int.add_comm,<-e];congr 2
  funext i
  rw[sm,Int.add_comm]
theorem NZ{n:Nat}{f:Nat->Nat->Int}{x:Nat->Int}(h:∀i,i<n->sm n (fun k=>f i k*x k)=0){j:Nat}(hj:j<n):x j*det n f=0:=by
 have e1:det n (lX f j fun i=>sm n fun k=>x k*f i k)=0:=by
  rw[<-oA f hj];refine cL fun i k hi _=>?_;unfold lX;split
  ·rw[<-h i hi];exact aB fun k _=>Int.mul_comm ..
  ·rfl
 rw[rz f hj x (fun k i=>f i k)]at e1;have e2:sm n (fun k=>x k*det n (lX f j fun i=>f i k))=sm n (fun k=>if k=j then x j*det n f else 0):=aB fun k hk=>by
  by_cases c:k=j
  ·rw[if_pos c,c,pK]
  ·rw[if_neg c];have z:det n (lX f j fun i=>f i k)=0:=by
    rcases Nat.lt_or_gt_of_ne c with l|l
    ·exact qd l hj fun i _=>by rw[fO,j7 (by omega)]
    ·exact qd l hk fun i _=>by rw[fO,j7 (by omega)]
   rw[z,Int.mul_zero]
 rw[e2,cW,if_pos hj]at e1;exact e1
def Bk(A:Nat->Nat->Int)(hd:Nat->Nat):Nat->Nat->Int:=fun i h=>A i (hd h)
def dt(A:Nat->Nat->Int)(hd:Nat->Nat)(r:Nat):Int:=det r (Bk A hd)
def cr(A:Nat->Nat->Int)(hd:Nat->Nat)(r h k:Nat):Int:=det r (lX (Bk A hd) h fun i=>A i k)
def bd(A:Nat->Nat->Int)(hd:Nat->Nat)(r i k:Nat):Int:=det (r+1) fun i' k'=>A (if i'=r then i else i') (if k'=r then k else hd k')
theorem vh(A:Nat->Nat->Int)(hd:Nat->Nat)(r i k:Nat):bd A hd r i k=A i k*dt A hd r-sm r fun h=>A i (hd h)*cr A hd r h k:=by
 unfold bd;rw[det,sm];have e1:sg (r+r)*A (if r=r then i else r) (if r=r then k else hd r)*det r (fun i' k'=>A (if i'=r then i else i') (if sk r k'=r then k else hd (sk r k')))=A i k*dt A hd r:=by
  rw[if_pos rfl,if_pos rfl,show sg (r+r)=1 by unfold sg;rw[if_pos (by omega)],Int.one_mul];congr 1;exact cL fun i' k' hi hk=>by
   rw[if_neg (by omega),show sk r k'=k' by unfold sk;rw[if_pos hk],if_neg (by omega)];rfl
 rw[e1];have e2:sm r (fun c=>sg (r+c)*A (if r=r then i else r) (if c=r then k else hd c)*det r (fun i' k'=>A (if i'=r then i else i') (if sk c k'=r then k else hd (sk c k'))))=sm r fun h=>-1*(A i (hd h)*cr A hd r h k):=aB fun c hc=>by
  rw[if_pos rfl,if_neg (by omega)];have m:det r (fun i' k'=>A (if i'=r then i else i') (if sk c k'=r then k else hd (sk c k')))=sg (r-1-c)*cr A hd r c k:=by
   rw[cr,<-oU (n:=r) (r-1-c) (lX (Bk A hd) c fun i=>A i k) (h:=c) (m:=r-1) (by omega) (by omega)];refine cL fun i' k' hi hk=>?_;rw[if_neg (by omega)];unfold sk mv lX Bk;by_cases c1:k'<c
   ·rw[if_pos c1,if_pos c1,if_neg (by omega),if_neg (by omega)]
   ·rw[if_neg c1,if_neg c1];by_cases c2:k'<r-1
    ·rw[if_pos c2,if_neg (by omega),if_neg (by omega)]
    ·rw[if_neg c2,if_pos (show k'+1=r by omega),if_pos (show k'=r-1 by omega),if_pos rfl]
  rw[m];have s:sg (r+c)*sg (r-1-c)=-1:=by
   rw[<-Gq];unfold sg;rw[if_neg (by omega)]
  have t:sg (r+c)*A i (hd c)*(sg (r-1-c)*cr A hd r c k)=(sg (r+c)*sg (r-1-c))*(A i (hd c)*cr A hd r c k):=by simp only[Int.mul_assoc,Int.mul_left_comm]
  rw[t,s]
 rw[e2,bH];omega
theorem Hq{A:Nat->Nat->Int}{hd:Nat->Nat}{r i:Nat}(k:Nat)(h:i<r):bd A hd r i k=0:=zF h (Nat.lt_succ_self r) fun k' _=>by
 rw[if_neg (by omega),if_pos rfl]
theorem MB{A:Nat->Nat->Int}{hd:Nat->Nat}{r i:Nat}(k:Nat)(h:i<r):sm r (fun h=>A i (hd h)*cr A hd r h k)=A i k*dt A hd r:=by
 have:=vh A hd r i k;rw[Hq k h]at this;omega
theorem Jg(A:Nat->Nat->Int)(hd:Nat->Nat)(r i k:Nat):sm r (fun h=>A i (hd h)*cr A hd r h k)=A i k*dt A hd r-bd A hd r i k:=by
 have:=vh A hd r i k;omega
def more(hd:Nat->Nat)(r c:Nat):Nat->Nat:=fun h=>if h=r then c else hd h
theorem yr(A:Nat->Nat->Int)(hd:Nat->Nat)(r c:Nat):dt A (more hd r c) (r+1)=bd A hd r r c:=cL fun i k _ _=>by
 unfold Bk more;by_cases h:i=r
 ·rw[if_pos h,h]
 ·rw[if_neg h]
theorem Ow(A:Nat->Nat->Int)(hd:Nat->Nat)(r c k:Nat):cr A (more hd r c) (r+1) r k=bd A hd r r k:=cL fun i k' _ _=>by
 unfold lX Bk more;by_cases h:i=r
 ·rw[if_pos h,h];by_cases h2:k'=r
  ·rw[if_pos h2,if_pos h2]
  ·rw[if_neg h2,if_neg h2,if_neg h2]
 ·rw[if_neg h];by_cases h2:k'=r
  ·rw[if_pos h2,if_pos h2]
  ·rw[if_neg h2,if_neg h2,if_neg h2]
theorem Cz(A:Nat->Nat->Int)(hd:Nat->Nat)(r c i k:Nat):
  sm r (fun h=>A i (hd h)*(bd A hd r r c*cr A hd r h k-cr A hd r h c*bd A hd r r k))+A i c*(dt A hd r*bd A hd r r k)=bd A hd r r c*(A i k*dt A hd r-bd A hd r i k)+bd A hd r r k*bd A hd r i c:=by
 have e1:sm r (fun h=>A i (hd h)*(bd A hd r r c*cr A hd r h k-cr A hd r h c*bd A hd r r k))=bd A hd r r c*sm r (fun h=>A i (hd h)*cr A hd r h k) + -(bd A hd r r k)*sm r (fun h=>A i (hd h)*cr A hd r h c):=by
  rw[<-bH,<-bH,<-cV];refine aB fun h _=>?_;rw[Int.mul_sub,Int.neg_mul,Int.mul_left_comm,<-Int.mul_assoc (A i (hd h)),Int.mul_comm (A i (hd h)*cr A hd r h c)];omega
 rw[e1,Jg,Jg,Int.mul_sub (-bd A hd r r k),Int.neg_mul,Int.neg_mul];have e2:A i c*(dt A hd r*bd A hd r r k)=bd A hd r r k*(A i c*dt A hd r):=by simp only[Int.mul_assoc,Int.mul_left_comm,Int.mul_comm]
 rw[e2];omega
theorem Jk{A:Nat->Nat->Int}{hd:Nat->Nat}{r c:Nat}(hp:bd A hd r r c≠0){h:Nat}(hh:h<r)(k:Nat):dt A hd r*cr A (more hd r c) (r+1) h k=bd A hd r r c*cr A hd r h k-cr A hd r h c*bd A hd r r k:=by
 let x:=fun h=>dt A hd r*cr A (more hd r c) (r+1) h k-(if h=r then dt A hd r*bd A hd r r k else bd A hd r r c*cr A hd r h k-cr A hd r h c*bd A hd r r k)
 have key:=NZ (n:=r+1) (f:=Bk A (more hd r c)) (x:=x) (fun i hi=>?_) (j:=h) (by omega)
 ·have e:det (r+1) (Bk A (more hd r c))=bd A hd r r c:=yr A hd r c;rw[e]at key;rcases Int.mul_eq_zero.mp key with z|z
  ·have z':dt A hd r*cr A (more hd r c) (r+1) h k-(if h=r then dt A hd r*bd A hd r r k else bd A hd r r c*cr A hd r h k-cr A hd r h c*bd A hd r r k)=0:=z;rw[if_neg (by omega)]at z';omega
  ·exact absurd z hp
 ·have e1:sm (r+1) (fun h=>Bk A (more hd r c) i h*x h)=dt A hd r*sm (r+1) (fun h=>A i (more hd r c h)*cr A (more hd r c) (r+1) h k) + -1*sm (r+1) (fun h=>A i (more hd r c h)*(if h=r then dt A hd r*bd A hd r r k else bd A hd r r c*cr A hd r h k-cr A hd r h c*bd A hd r r k)):=by
   rw[<-bH,<-bH,<-cV];refine aB fun h _=>?_;show A i (more hd r c h)*(dt A hd r*cr A (more hd r c) (r+1) h k-_)=_;rw[Int.mul_sub,Int.mul_left_comm];omega
  rw[e1,MB k hi,yr,sm,if_pos rfl,show more hd r c r=c from if_pos rfl];have e2:sm r (fun h=>A i (more hd r c h)*(if h=r then dt A hd r*bd A hd r r k else bd A hd r r c*cr A hd r h k-cr A hd r h c*bd A hd r r k))=sm r (fun h=>A i (hd h)*(bd A hd r r c*cr A hd r h k-cr A hd r h c*bd A hd r r k)):=aB fun h hh=>by
   rw[if_neg (by omega),show more hd r c h=hd h from if_neg (by omega)]
  rw[e2,Cz];have e3:dt A hd r*(A i k*bd A hd r r c)=bd A hd r r c*(A i k*dt A hd r):=by simp only[Int.mul_assoc,Int.mul_left_comm,Int.mul_comm]
  rw[e3,Int.mul_sub];have e4:bd A hd r r c*bd A hd r i k=bd A hd r r k*bd A hd r i c:=by
   by_cases z:i<r
   ·rw[Hq k z,Hq c z,Int.mul_zero,Int.mul_zero]
   ·rw[show i=r by omega,Int.mul_comm]
  rw[e4];omega
theorem Qz{A:Nat->Nat->Int}{hd:Nat->Nat}{r c:Nat}(hp:bd A hd r r c≠0)(i k:Nat):dt A hd r*bd A (more hd r c) (r+1) i k=bd A hd r r c*bd A hd r i k-bd A hd r i c*bd A hd r r k:=by
 rw[vh A (more hd r c) (r+1),yr,Int.mul_sub,<-bH,sm,Ow,show more hd r c r=c from if_pos rfl];have e2:sm r (fun h=>dt A hd r*(A i (more hd r c h)*cr A (more hd r c) (r+1) h k))=sm r (fun h=>A i (hd h)*(bd A hd r r c*cr A hd r h k-cr A hd r h c*bd A hd r r k)):=aB fun h hh=>by
  rw[Int.mul_left_comm,Jk hp hh,show more hd r c h=hd h from if_neg (by omega)]
 have e5:=Cz A hd r c i k;rw[e2,show dt A hd r*(A i c*bd A hd r r k)=A i c*(dt A hd r*bd A hd r r k)from Int.mul_left_comm ..,e5,Int.mul_sub];have e3:dt A hd r*(A i k*bd A hd r r c)=bd A hd r r c*(A i k*dt A hd r):=by simp only[Int.mul_assoc,Int.mul_left_comm,Int.mul_comm]
 rw[e3,Int.mul_comm (bd A hd r i c)];omega
def En(A:Nat->Nat->Int)(hd:Nat->Nat)(r i k:Nat):Int:=if i<r then cr A hd r i k else bd A hd r i k
theorem PB{A:Nat->Nat->Int}{hd:Nat->Nat}{r c:Nat}(hp:En A hd r r c≠0){i:Nat}(hi:i≠r)(k:Nat):dt A hd r*En A (more hd r c) (r+1) i k=En A hd r r c*En A hd r i k-En A hd r i c*En A hd r r k:=by
 have er:∀k,En A hd r r k=bd A hd r r k:=fun k=>if_neg (by omega);rw[er]at hp⊢;rw[er];unfold En;by_cases h:i<r
 ·rw[if_pos (by omega),if_pos h,if_pos h];exact Jk hp h k
 ·rw[if_neg (by omega),if_neg h,if_neg h];exact Qz hp i k
theorem Px(A:Nat->Nat->Int)(hd:Nat->Nat)(r c:Nat):dt A (more hd r c) (r+1)=En A hd r r c:=by
 rw[yr];exact(if_neg (by omega)).symm
theorem Pb(A:Nat->Nat->Int)(hd:Nat->Nat):dt A hd 0=1:=rfl
theorem Vg(A:Nat->Nat->Int)(hd:Nat->Nat)(r i k:Nat):A i k*dt A hd r=sm r (fun h=>A i (hd h)*En A hd r h k)+(if i<r then 0 else En A hd r i k):=by
 have e:sm r (fun h=>A i (hd h)*En A hd r h k)=sm r (fun h=>A i (hd h)*cr A hd r h k):=aB fun h hh=>by
  unfold En;rw[if_pos hh]
 rw[e];by_cases c:i<r
 ·rw[if_pos c,MB k c,Int.add_zero]
 ·rw[if_neg c,Jg];unfold En;rw[if_neg c];omega
end Dm
namespace Dm
open Pm Rm
def Dom(b:Int):Prop:=∀x y,tk b x≠0->tk b (x*y)=0->tk b y=0
theorem Dom.zero:Dom 0:=fun x y hx h=>by
 rw[aZ]at *;rcases Int.mul_eq_zero.mp h with z|z
 ·exact absurd z hx
 ·exact z
theorem fH{b x:Int}:tk b x=0↔∃e,x=b*e:=by
 unfold tk;split
 ·rename_i h
  constructor
  ·intro z;exact⟨0,by rw[z,Int.mul_zero]⟩
  ·rintro⟨e,he⟩;rw[he,h,Int.zero_mul]
 ·constructor
  ·intro z;exact⟨x/b,(Int.mul_ediv_cancel' (Int.dvd_of_emod_eq_zero z)).symm⟩
  ·rintro⟨e,he⟩;rw[he];exact Int.mul_emod_right b e
def turn(A:Nat->Nat->Int)(a c:Nat):Nat->Nat->Int:=oR (oR A a (A c)) c fun k=>-1*A a k+0
inductive Swp(n:Nat)(A0:Nat->Nat->Int):(Nat->Nat->Int)->Prop
 |refl:Swp n A0 A0
 |step {A:Nat->Nat->Int} {a c:Nat}:Swp n A0 A->a<c->c<n->Swp n A0 (turn A a c)
theorem Swp.det{n:Nat}{A0 A:Nat->Nat->Int}(h:Swp n A0 A):Dm.det n A=Dm.det n A0:=by
 induction h with
 |refl=>rfl
 |step _ h1 h2 ih=>rw[<-ih];exact Am _ h1 h2
theorem kj{A:Nat->Nat->Int}{a c i:Nat}(h1:i≠a)(h2:i≠c)(k:Nat):turn A a c i k=A i k:=by
 unfold turn oR;rw[if_neg h2,if_neg h1]
theorem wN{A:Nat->Nat->Int}{a c:Nat}(h:a≠c)(k:Nat):turn A a c a k=A c k:=by
 unfold turn oR;rw[if_neg h,if_pos rfl]
theorem jV(A:Nat->Nat->Int)(a c k:Nat):turn A a c c k=-A a k:=by
 unfold turn oR;rw[if_pos rfl];show -1*A a k+0=-A a k;omega
theorem Fi{A:Nat->Nat->Int}{hd:Nat->Nat}{r a c:Nat}(ha:r<=a)(hc:r<=c):dt (turn A a c) hd r=dt A hd r:=cL fun i k hi _=>kj (by omega) (by omega) _
theorem GN{A:Nat->Nat->Int}{hd:Nat->Nat}{r a c:Nat}(ha:r<=a)(hc:r<=c)(h k:Nat):cr (turn A a c) hd r h k=cr A hd r h k:=cL fun i k' hi _=>by
 show(if k'=h then turn A a c i k else turn A a c i (hd k'))=if k'=h then A i k else A i (hd k');rw[kj (by omega) (by omega),kj (by omega) (by omega)]
theorem Js{A:Nat->Nat->Int}{hd:Nat->Nat}{r a c:Nat}(ha:r<=a)(hac:a<c)(i k:Nat):En (turn A a c) hd r i k=if i=a then En A hd r c k else if i=c then -En A hd r a k else En A hd r i k:=by
 have hc:r<=c:=by omega
 unfold En;by_cases h:i<r
 ·rw[if_pos h,if_neg (by omega),if_neg (by omega),if_pos h];exact GN ha hc i k
 ·rw[if_neg h,vh,Fi ha hc];have e:∀j,sm r (fun h=>turn A a c j (hd h)*cr (turn A a c) hd r h k)=sm r (fun h=>turn A a c j (hd h)*cr A hd r h k):=fun j=>aB fun h _=>by rw[GN ha hc]
  rw[e];by_cases h1:i=a
  ·rw[if_pos h1,if_neg (by omega),vh,h1,wN (by omega)];congr 1;exact aB fun h _=>by rw[wN (by omega)]
  ·rw[if_neg h1];by_cases h2:i=c
   ·rw[if_pos h2,if_neg (by omega),vh,h2,jV];have:sm r (fun h=>turn A a c c (hd h)*cr A hd r h k)=-1*sm r (fun h=>A a (hd h)*cr A hd r h k):=by
     rw[<-bH];exact aB fun h _=>by rw[jV,Int.neg_mul];omega
    rw[this,Int.neg_mul];omega
   ·rw[if_neg h2,if_neg h,vh,kj h1 h2];congr 1;exact aB fun h _=>by rw[kj h1 h2]
def ln(L:List (List Int))(i:Nat):List Int:=L.getD i []
structure ClI(b:Int)(n W u:Nat)(A0:Nat->Nat->Int)(c:Nat)(A:Nat->Nat->Int)(hd:Nat->Nat)(r:Nat)(L:List (List Int))(last:Int):Prop where
 sw:Swp n A0 A
 len:L.length=n
 wd:∀i,i<n->(ln L i).length=W
 en:∀i k,i<n->k<W->co (ln L i) k=tk b (En A hd r i k)
 la:last=tk b (dt A hd r)
 nz:tk b (dt A hd r)≠0
 rn:r<=n
 hc:∀h,h<r->hd h<c
 up:∀h h',h<h'->h'<r->hd h<hd h'
 zero:∀k,k<c->(∀h,h<r->hd h≠k)->∀i,r<=i->i<n->tk b (En A hd r i k)=0
 full:c<=n->(r=c/\∀h,h<r->hd h=h)∨tk b (det n A)=0
 bdd:∀i k,Bd u (A i k)
 ge:∀h,h<r->∀k,k<hd h->(∀h',h'<r->hd h'≠k)->tk b (En A hd r h k)=0
theorem MH{u:Nat}:∀{n:Nat} {f:Nat->Nat->Int},(∀i k,i<n->k<n->Bd u (f i k))->Bd (n*(u+n)+1) (det n f)
 |0,_,_=>by
  show Bd (0*(u+0)+1) 1;rw[Nat.zero_mul];exact Bd.of (by decide) (by decide)
 |n+1,f,h=>by
  unfold det;have e:Bd (u+(n*(u+n)+1)+(n+1)) (sm (n+1) fun c=>sg (n+c)*f n c*det n fun i k=>f i (sk c k)):=Br _ fun c hc=>by
   have b1:=h n c (by omega) hc;have b2:=MH (u:=u) (n:=n) (f:=fun i k=>f i (sk c k)) fun i k hi hk=>h i (sk c k) (by omega) (by unfold sk;split<;>omega);have b3:=b1.mul b2;unfold Bd at b3⊢;rw[Int.mul_assoc,Int.natAbs_mul];have:(sg (n+c)).natAbs=1:=by unfold sg;split<;>rfl
   rw[this,Nat.one_mul];exact b3
  refine e.mono ?_;have:(n+1)*(u+(n+1))=n*(u+n)+n+u+(n+1):=by
   rw[Nat.succ_mul,show u+(n+1)=u+n+1 by omega,Nat.mul_add n (u+n) 1];omega
  omega
end Dm
namespace Dm
open Rm Pm
theorem qR{b x:Int}(h:tk b x=0):tk b (-x)=0:=by
 have:=bD b (-1) x;rw[h,Int.mul_zero,tk0]at this;rw[show -x=-1*x by omega,<-this]
theorem GF{b x:Int}(y:Int)(h:tk b x=0):tk b (y*x)=0:=by rw[<-bD,h,Int.mul_zero,tk0]
theorem Qa{b x y:Int}(h:tk b x=0)(h':tk b y=0):tk b (x+y)=0:=by rw[<-cj,h,Int.zero_add,h']
theorem QC{b x y:Int}(h:tk b x=0)(h':tk b y=0):tk b (x-y)=0:=by rw[Int.sub_eq_add_neg];exact Qa h (qR h')
theorem MF(f:Nat->Int)(n:Nat):sm n (fun k=>-f k)=-sm n f:=by
 have e:(fun k=>-f k)=fun k=>-1*f k:=funext fun k=>by omega
 rw[e,bH];omega
theorem R5(f g:Nat->Int)(n:Nat):sm n (fun k=>f k-g k)=sm n f-sm n g:=by
 have e:(fun k=>f k-g k)=fun k=>f k + -g k:=funext fun k=>by omega
 rw[e,cV,MF];omega
theorem Uj{b:Int}{f:Nat->Int}{n:Nat}(h:∀k,k<n->tk b (f k)=0):tk b (sm n f)=0:=by
 have:=jr (b:=b) (f:=f) (g:=fun _=>0) (n:=n) fun k hk=>by rw[h k hk,tk0]
 rw[this,gF,tk0]
def Rel(b:Int)(n m:Nat)(A:Nat->Nat->Int)(x:Nat->Int):Prop:=∀i,i<n->tk b (sm m fun k=>A i k*x k)=0
theorem Ik(A:Nat->Nat->Int)(x:Nat->Int)(i m:Nat):sm m (fun k=>-A i k*x k)=-sm m fun k=>A i k*x k:=by
 rw[<-MF];exact aB fun k _=>Int.neg_mul ..
theorem Rel.turn{b:Int}{n m:Nat}{A:Nat->Nat->Int}{x:Nat->Int}{a c:Nat}(hac:a<c)(hc:c<n):Rel b n m A x↔Rel b n m (turn A a c) x:=by
 have ha:a<n:=by omega
 constructor
 ·intro h i hi;by_cases c1:i=c
  ·rw[c1,aB (g:=fun k=>-A a k*x k) fun k _=>by rw[jV],Ik];exact qR (h a ha)
  ·by_cases c2:i=a
   ·rw[c2,aB (g:=fun k=>A c k*x k) fun k _=>by rw[wN (by omega)]];exact h c hc
   ·rw[aB (g:=fun k=>A i k*x k) fun k _=>by rw[kj c2 c1]];exact h i hi
 ·intro h i hi;by_cases c1:i=c
  ·have:=h a ha;rw[aB (g:=fun k=>A c k*x k) fun k _=>by rw[wN (by omega)]]at this;rw[c1];exact this
  ·by_cases c2:i=a
   ·have:=h c hc;rw[aB (g:=fun k=>-A a k*x k) fun k _=>by rw[jV],Ik]at this;rw[c2];have:=qR this
    rwa [Int.neg_neg]at this
   ·have:=h i hi;rw[aB (g:=fun k=>A i k*x k) fun k _=>by rw[kj c2 c1]]at this;exact this
theorem Swp.rel{b:Int}{n m:Nat}{A0 A:Nat->Nat->Int}{x:Nat->Int}(h:Swp n A0 A):Rel b n m A0 x↔Rel b n m A x:=by
 induction h with
 |refl=>exact Iff.rfl
 |step _ h1 h2 ih=>exact ih.trans (Rel.turn h1 h2)
def Ind(b:Int)(n m:Nat)(A:Nat->Nat->Int):Prop:=∀x,Rel b n m A x->∀k,k<m->tk b (x k)=0
theorem KL{A:Nat->Nat->Int}{hd:Nat->Nat}{r m k:Nat}{b:Int}{n:Nat}(hm:∀h,h<r->hd h<m)(hk:k<m)(hz:∀i,r<=i->i<n->tk b (En A hd r i k)=0):
  Rel b n m A fun j=>sm r (fun h=>if j=hd h then En A hd r h k else 0)-if j=k then dt A hd r else 0:=fun i hi=>by
 have e:sm m (fun j=>A i j*(sm r (fun h=>if j=hd h then En A hd r h k else 0)-if j=k then dt A hd r else 0))=sm r (fun h=>A i (hd h)*En A hd r h k)-A i k*dt A hd r:=by
  rw[aB (g:=fun j=>sm r (fun h=>if j=hd h then A i (hd h)*En A hd r h k else 0)-if j=k then A i k*dt A hd r else 0) fun j _=>?_,R5,cW,if_pos hk,kE]
  ·congr 1;exact aB fun h hh=>by rw[cW,if_pos (hm h hh)]
  ·rw[Int.mul_sub,<-bH];congr 1
   ·refine aB fun h _=>?_;by_cases c:j=hd h
    ·rw[if_pos c,if_pos c,c]
    ·rw[if_neg c,if_neg c,Int.mul_zero]
   ·by_cases c:j=k
    ·rw[if_pos c,if_pos c,c]
    ·rw[if_neg c,if_neg c,Int.mul_zero]
 rw[e];have q:=Vg A hd r i k;by_cases c:i<r
 ·rw[if_pos c,Int.add_zero]at q;rw[q,Int.sub_self,tk0]
 ·rw[if_neg c]at q;rw[q,show sm r (fun h=>A i (hd h)*En A hd r h k)-(sm r (fun h=>A i (hd h)*En A hd r h k)+En A hd r i k)=-En A hd r i k by omega];exact qR (hz i (by omega) hi)
end Dm
namespace Pm
open Rm
def Fs(f:Nat->Int)(n:Nat):Prop:=∀k,n<=k->f k=0
theorem Fs.co(p:List Int):Fs (co p) p.length:=fun _ h=>bJ h
theorem Fs.mono{f:Nat->Int}{m n:Nat}(h:Fs f m)(hmn:m<=n):Fs f n:=fun k hk=>h k (by omega)
theorem Fs.add{f g:Nat->Int}{n:Nat}(h:Fs f n)(h':Fs g n):Fs (fun k=>f k+g k) n:=fun k hk=>by show f k+g k=0;rw[h k hk,h' k hk];rfl
theorem Fs.mul{f:Nat->Int}{n:Nat}(c:Int)(h:Fs f n):Fs (fun k=>c*f k) n:=fun k hk=>by show c*f k=0;rw[h k hk,Int.mul_zero]
theorem Fs.cv{f g:Nat->Int}{m n:Nat}(h:Fs f m)(h':Fs g n):Fs (Pm.cv f g) (m+n):=fun k hk=>fj fun i _=>by
 by_cases c:m<=i
 ·exact .inl (h i c)
 ·exact .inr (h' _ (by omega))
theorem wB{b x:Int}(y:Int)(h:tk b x=0):tk b (y*x)=0:=by rw[<-bD,h,Int.mul_zero,tk0]
theorem nD{b:Int}{m:List Int}(hm:Mon m){f:Nat->Int}{n:Nat}(hf:Fs f n)(h:∀k,m.length-1<=k->tk b (cv f (co m) k)=0):∀k,tk b (f k)=0:=by
 have q:∀d j,n<=j+d->tk b (f j)=0:=fun d=>by
  induction d with
  |zero=>intro j hj;rw[hf j hj,tk0]
  |succ d ih=>
   intro j hj;have e:=h (j+(m.length-1)) (by omega);rw[gZ]at e;have e2:tk b (sm (j+(m.length-1)+1) fun i=>f i*co m (j+(m.length-1)-i))=tk b (sm (j+(m.length-1)+1) fun i=>if i=j then f j else 0):=jr fun i hi=>by
    by_cases c:i=j
    ·rw[if_pos c,c,Nat.add_sub_cancel_left,hm.one,Int.mul_one]
    ·rw[if_neg c,tk0];by_cases d2:i<j
     ·rw[bJ (by have:=hm.pos;omega),Int.mul_zero,tk0]
     ·rw[Int.mul_comm];exact wB _ (ih i (by omega))
   rw[e2,cW,if_pos (by omega)]at e;exact e
 exact fun k=>q n k (by omega)
def Dv(b:Int)(m:List Int)(f:Nat->Int):Prop:=∃s n,Fs s n/\∀k,tk b (f k)=tk b (cv s (co m) k)
theorem Dv.congr{b:Int}{m:List Int}{f g:Nat->Int}(e:∀k,tk b (f k)=tk b (g k))(h:Dv b m f):Dv b m g:=by
 obtain⟨s,n,hs,h⟩:=h;exact⟨s,n,hs,fun k=>by rw[<-e,h]⟩
theorem Dv.zero(b:Int)(m:List Int):Dv b m fun _=>0:=⟨fun _=>0,0,fun _ _=>rfl,fun k=>by rw[fj fun i _=> .inl rfl]⟩
theorem Dv.add{b:Int}{m:List Int}{f g:Nat->Int}(h:Dv b m f)(h':Dv b m g):Dv b m fun k=>f k+g k:=by
 obtain⟨s,n,hs,h⟩:=h;obtain⟨s',n',hs',h'⟩:=h';exact⟨fun k=>s k+s' k,n+n',(hs.mono (by omega)).add (hs'.mono (by omega)),fun k=>by rw[fP];exact aY (h k) (h' k)⟩
theorem Dv.smul{b:Int}{m:List Int}{f:Nat->Int}(c:Int)(h:Dv b m f):Dv b m fun k=>c*f k:=by
 obtain⟨s,n,hs,h⟩:=h;exact⟨fun k=>c*s k,n,hs.mul c,fun k=>by rw[gJ,<-bD,h,bD]⟩
theorem Dv.sub{b:Int}{m:List Int}{f g:Nat->Int}(h:Dv b m f)(h':Dv b m g):Dv b m fun k=>f k-g k:=
 (h.add (h'.smul (-1))).congr fun k=>by rw[show f k + -1*g k=f k-g k by omega]
theorem Dv.mul{b:Int}{m:List Int}{f g:Nat->Int}{n:Nat}(hg:Fs g n)(h:Dv b m f):Dv b m (cv g f):=by
 obtain⟨s,n',hs,h⟩:=h;exact⟨cv g s,n+n',hg.cv hs,fun k=>by rw[bV];exact jy (fun i _=>rfl) fun i _=>h i⟩
theorem Dv.self{b:Int}{m:List Int}{g:Nat->Int}{n:Nat}(hg:Fs g n):Dv b m (cv g (co m)):=⟨g,n,hg,fun _=>rfl⟩
theorem Dv.short{b:Int}{m:List Int}(hm:Mon m){f:Nat->Int}(hf:Fs f (m.length-1))(h:Dv b m f):∀k,tk b (f k)=0:=by
 obtain⟨s,n,hs,h⟩:=h;have z:=nD (b:=b) hm hs fun k hk=>by rw[<-h,hf k hk,tk0]
 intro k;rw[h,<-tk0 b,<-fj (f:=fun _=>(0:Int)) (g:=co m) (k:=k) fun i _=> .inl rfl];exact jy (fun i _=>by rw[z,tk0]) fun i _=>rfl
def tp(P:List Int)(a:Nat->Int)(k:Nat):Int:=sm (P.length-1-k) fun i=>co P (k+1+i)*a i
theorem Eh(P:List Int)(a:Nat->Int):Fs (tp P a) (P.length-1):=fun k hk=>by unfold tp;rw[show P.length-1-k=0 by omega];rfl
theorem R9{b:Int}{P:List Int}{a a':Nat->Int}(h:∀n,tk b (a n)=tk b (a' n))(k:Nat):tk b (tp P a k)=tk b (tp P a' k):=jr fun i _=>by rw[<-bD,h,bD]
theorem R0(P:List Int)(c:Int)(a a':Nat->Int)(k:Nat):tp P (fun n=>c*a n+a' n) k=c*tp P a k+tp P a' k:=by
 unfold tp;rw[<-bH,<-cV];refine aB fun i _=>?_;rw[Int.mul_add,Int.mul_left_comm]
theorem Kq{b:Int}{P:List Int}(hP:0<P.length){a:Nat->Int}(h0:tk b (ks P a 0)=0)(k:Nat):tk b (if k=0 then 0 else tp P a (k-1))=tk b (tp P (fun n=>a (n+1)) k+a 0*co P k):=by
 by_cases c:k=0
 ·rw[if_pos c,c,tk0,<-h0];refine congrArg (tk b) ?_;unfold ks tp;obtain⟨N,hN⟩:∃N,P.length=N+1:=⟨P.length-1,by omega⟩;rw[hN,dW,Nat.add_sub_cancel,Nat.sub_zero,Int.add_comm,Int.mul_comm (co P 0)];congr 1;exact aB fun i _=>by rw[Nat.zero_add,Nat.zero_add,Nat.add_comm 1 i]
 ·rw[if_neg c];by_cases d:k<P.length
  ·refine congrArg (tk b) ?_;unfold tp;rw[show P.length-1-(k-1)=(P.length-1-k)+1 by omega,dW,Int.add_comm];congr 1
   ·exact aB fun i _=>by rw[show k-1+1+(i+1)=k+1+i by omega]
   ·rw[show k-1+1+0=k by omega,Int.mul_comm]
  ·rw[Eh P a (k-1) (by omega),Eh P _ k (by omega),bJ (by omega),Int.mul_zero];rfl
theorem HC(x:Int)(q:List Int)(f:Nat->Int)(k:Nat):cv (co (x::q)) f k=x*f k+(if k=0 then 0 else cv (co q) f (k-1)):=by
 cases k with
 |zero=>rw[cv,dH,if_pos rfl,Int.add_zero]
 |succ k=>
  rw[cv,dH,if_neg (by omega),Nat.add_sub_cancel];congr 1
theorem adQ(q f:Nat->Int)(k:Nat):(if k=0 then 0 else cv q f (k-1))=cv q (fun i=>if i=0 then 0 else f (i-1)) k:=by
 cases k with
 |zero=>rw[if_pos rfl,cv,if_pos rfl,Int.mul_zero]
 |succ k=>rw[if_neg (by omega),Nat.add_sub_cancel,AJ,if_pos rfl,Int.mul_zero,Int.add_zero];rfl
theorem OB(x:Int)(q:List Int)(a:Nat->Int)(n:Nat):ks (x::q) a n=x*a n+ks q (fun n=>a (n+1)) n:=by
 unfold ks;rw[List.length_cons,dW,dH,Nat.add_zero];congr 1
theorem yw{b:Int}{P:List Int}(hP:0<P.length):∀(q:List Int) {a:Nat->Int},Kp b P a->Dv b P fun k=>cv (co q) (tp P a) k-tp P (ks q a) k
 |[],a,_=>(Dv.zero b P).congr fun k=>by
  rw[fj fun i _=> .inl (eO i)];have:tp P (ks [] a) k=0:=iH fun i _=>by show co P (k+1+i)*0=0;exact Int.mul_zero _
  rw[this];rfl
 |x::q,a,h=>by
  have h1:Kp b P fun n=>a (n+1):=fun n=>by
   have e:ks P (fun n=>a (n+1)) n=ks P a (n+1):=aB fun k _=>by show _*a (n+k+1)=_*a (n+1+k);rw[show n+k+1=n+1+k by omega]
   rw[e];exact h (n+1)
  have ih:=yw hP q h1;have d:=Dv.self (b:=b) (m:=P) ((Fs.co q).mul (a 0));refine(ih.add d).congr fun k=>?_;have e1:tk b (if k=0 then 0 else cv (co q) (tp P a) (k-1))=tk b (cv (co q) (tp P fun n=>a (n+1)) k+a 0*cv (co q) (co P) k):=by
   rw[adQ,<-gJ,jy (fun i _=>rfl) fun i _=>Kq hP (h 0) i,Bp];congr 2;rw[dY,gJ,gJ,dY]
  have e2:tp P (ks (x::q) a) k=x*tp P a k+tp P (ks q fun n=>a (n+1)) k:=by
   rw[<-R0];unfold tp;exact aB fun i _=>by rw[OB]
  rw[HC,e2,gJ];have e3:=aY e1 (rfl:tk b (-(tp P (ks q fun n=>a (n+1)) k))=_);rw[show x*tp P a k+(if k=0 then 0 else cv (co q) (tp P a) (k-1))-(x*tp P a k+tp P (ks q fun n=>a (n+1)) k)=(if k=0 then 0 else cv (co q) (tp P a) (k-1)) + -(tp P (ks q fun n=>a (n+1)) k)by omega,e3];refine congrArg (tk b) ?_;omega
theorem Dy{b:Int}{P:List Int}(hm:Mon P){e:Nat->Int}(h:∀k,tk b (tp P e k)=0):∀n,n<P.length-1->tk b (e n)=0:=fun n=>by
 induction n using Nat.strongRecOn with
 |ind n ih=>
  intro hn;have q:=h (P.length-1-1-n);unfold tp at q;rw[show P.length-1-(P.length-1-1-n)=n+1 by omega,sm]at q;have z:tk b (sm n fun i=>co P (P.length-1-1-n+1+i)*e i)=0:=by
   have:=jr (b:=b) (n:=n) (f:=fun i=>co P (P.length-1-1-n+1+i)*e i) (g:=fun _=>0) fun i hi=>by rw[tk0];exact wB _ (ih i hi (by omega))
   rw[this,gF,tk0]
  rw[<-cj,z,Int.zero_add,show P.length-1-1-n+1+n=P.length-1 by omega,hm.one,Int.one_mul]at q;exact q
theorem HW{b:Int}{rule:List Int}{a:Nat->Int}(ha:∀n,rule.length<=n->tk b (a n)=tk b (S rule a n rule.length))(q:List Int):
  Kp b q a↔Dv b (aP b rule) (cv (co q) (tp (aP b rule) a)):=by
 have hm:=eG b rule;have hK:Kp b (aP b rule) a:=Kp.aP ha;have A:=yw hm.pos q hK;constructor
 ·intro h;have z:Dv b (aP b rule) (tp (aP b rule) (ks q a)):=(Dv.zero b _).congr fun k=>by
   have:=R9 (b:=b) (P:=aP b rule) (a:=ks q a) (a':=fun _=>0) (fun n=>by rw[h n,tk0]) k;rw[this];exact(congrArg (tk b) (show tp (aP b rule) (fun _=>0) k=0 from iH fun i _=>Int.mul_zero _)).symm
  exact(A.add z).congr fun k=>by rw[Int.sub_add_cancel]
 ·intro h;have z:Dv b (aP b rule) (tp (aP b rule) (ks q a)):=(h.sub A).congr fun k=>by
   rw[show cv (co q) (tp (aP b rule) a) k-(cv (co q) (tp (aP b rule) a) k-tp (aP b rule) (ks q a) k)=tp (aP b rule) (ks q a) k by omega]
  have n0:=Dy hm (z.short hm (Eh _ _));rw[bF,Nat.add_sub_cancel]at n0;exact E7 ha n0
structure Yk(b:Int)(p:List Int)(t:Nat->Int)(g:List Int):Prop where
 mon:Mon g
 one:Dv b g (co p)
 two:Dv b g t
 sum:∃(N:Int) (u v:Nat->Int) (n:Nat),tk b N≠0/\Fs u n/\Fs v n/\∀k,tk b (N*co g k)=tk b (cv u (co p) k+cv v t k)
theorem C4{b:Int}{m:List Int}(hm:Mon m){p:List Int}(hp:∀k,tk b (co p k)=co p k):∃q r,Div b p m q r:=by
 have go:∀d,d<=p.length-(m.length-1)->∃o l,Ib b p m (p.length-(m.length-1)-d) o l:=fun d=>by
  induction d with
  |zero=>intro _;exact⟨_,_,Ib.start hp⟩
  |succ d ih=>
   intro hd;obtain⟨o,l,I⟩:=ih (by omega);obtain⟨s,hs⟩:∃s,p.length-(m.length-1)-d=s+1:=⟨p.length-(m.length-1)-d-1,by omega⟩;rw[hs]at I;refine⟨o.set s (co l (s+(m.length-1))),ofF l.length fun k=>lf b (co l (s+(m.length-1))) s m.length l m k,?_⟩;rw[show p.length-(m.length-1)-(d+1)=s by omega];refine I.step hm (by omega) (aL ..) fun k=>?_;rw[bK];by_cases c:k<l.length
   ·rw[if_pos c]
   ·rw[if_neg c];have hl:=I.ll;have hmp:=hm.pos;unfold lf;rw[if_neg (by omega),bJ (by omega)]
 obtain⟨o,l,I⟩:=go _ (Nat.le_refl _);rw[Nat.sub_self]at I;exact⟨_,_,I.stop hm⟩
theorem Aw{b:Int}(hD:∀x y,tk b x≠0->tk b (x*y)=0->tk b y=0){L:List Int}(hL:Mon L){N:Int}(hN:tk b N≠0){f:Nat->Int}{n:Nat}(hf:Fs f n)(h:Dv b L fun k=>N*f k):Dv b L f:=by
 obtain⟨o,r,D⟩:=C4 (b:=b) hL (p:=ofF n fun k=>tk b (f k)) fun k=>by
  rw[bK];split
  ·exact gj ..
  ·exact tk0 b
 have ef:∀k,tk b (co (ofF n fun k=>tk b (f k)) k)=tk b (f k):=fun k=>by
  rw[bK];by_cases c:k<n
  ·rw[if_pos c,gj]
  ·rw[if_neg c,hf k (by omega)]
 have e:∀k,tk b (f k)=tk b (cv (co o) (co L) k+co r k):=fun k=>by rw[D.eq,ef]
 have z:Dv b L fun k=>N*co r k:=(h.sub ((Dv.self (b:=b) (m:=L) (Fs.co o)).smul N)).congr fun k=>by
  rw[show N*f k-N*cv (co o) (co L) k=N*(f k-cv (co o) (co L) k)by rw[Int.mul_sub],<-bD,<-bD b N (co r k)];congr 2;have:=e k;have q:=aY this (rfl:tk b (-cv (co o) (co L) k)=_);rw[show f k-cv (co o) (co L) k=f k + -cv (co o) (co L) k by omega,q];exact congrArg (tk b) (by omega)
 have hr:Fs (fun k=>N*co r k) (L.length-1):=((Fs.co r).mono (by have:=D.short;omega)).mul N;have z0:=z.short hL hr;refine⟨co o,o.length,Fs.co o,fun k=>?_⟩;rw[e,<-fU,hD N _ hN (z0 k),Int.add_zero]
theorem Yk.keeps{b:Int}(hD:∀x y,tk b x≠0->tk b (x*y)=0->tk b y=0){rule:List Int}{a:Nat->Int}(ha:∀n,rule.length<=n->tk b (a n)=tk b (S rule a n rule.length)){g L:List Int}(h:Yk b (aP b rule) (tp (aP b rule) a) g)(hL:Mon L)
  (hP:∀k,tk b (co (aP b rule) k)=tk b (cv (co L) (co g) k)) (q:List Int):Kp b q a↔Dv b L (co q):=by
 rw[HW ha q];generalize aP b rule=P at h hP;obtain⟨t,nt,ht,hT⟩:=h.two;obtain⟨N,u,v,n,hN,hu,hv,hs⟩:=h.sum;generalize tp P a=T at h hT hs;have bez:∀k,tk b ((if k=0 then N else 0)-(cv u (co L) k+cv v t k))=0:=by
  refine nD (b:=b) h.mon (n:=1+(n+L.length)+(n+nt)) (fun k hk=>?_) fun k _=>?_
  ·show(if k=0 then N else 0)-(cv u (co L) k+cv v t k)=0;rw[if_neg (by omega),hu.cv (Fs.co L) k (by omega),hv.cv ht k (by omega)];rfl
  ·have e:cv (fun k=>(if k=0 then N else 0)-(cv u (co L) k+cv v t k)) (co g) k=N*co g k + -1*(cv u (cv (co L) (co g)) k+cv v (cv t (co g)) k):=by
    rw[<-bV,<-bV,<-fP,<-gJ];have e2:N*co g k=cv (fun k=>if k=0 then N else 0) (co g) k:=by rw[pI,if_pos (Nat.zero_le _),Nat.sub_zero]
    rw[e2,<-fP];refine gh (fun i _=>?_) fun i _=>rfl;omega
   rw[e,<-cj,hs,cj];have e3:tk b (cv u (co P) k+cv v T k)=tk b (cv u (cv (co L) (co g)) k+cv v (cv t (co g)) k):=aY (jy (fun i _=>rfl) fun i _=>hP i) (jy (fun i _=>rfl) fun i _=>hT i);have e4:=aY e3 (rfl:tk b (-1*(cv u (cv (co L) (co g)) k+cv v (cv t (co g)) k))=_);rw[e4,show ∀x:Int,x + -1*x=0 from fun x=>by omega,tk0]
 constructor
 ·rintro⟨s,ns,hs',e⟩;have qt:∀k,tk b (cv (co q) t k-cv s (co L) k)=0:=by
   refine nD (b:=b) h.mon (n:=(q.length+nt)+(ns+L.length)) (fun k hk=>?_) fun k _=>?_
   ·show cv (co q) t k-cv s (co L) k=0;rw[(Fs.co q).cv ht k (by omega),hs'.cv (Fs.co L) k (by omega)];rfl
   ·have e1:cv (fun k=>cv (co q) t k-cv s (co L) k) (co g) k=cv (co q) (cv t (co g)) k + -1*cv s (cv (co L) (co g)) k:=by
     rw[<-bV,<-bV,<-gJ,<-fP];exact gh (fun i _=>by omega) fun i _=>rfl
    have e2:tk b (cv (co q) (cv t (co g)) k)=tk b (cv s (cv (co L) (co g)) k):=by
     rw[<-jy (fun i _=>rfl) (fun i _=>hT i),e,jy (fun i _=>rfl) fun i _=>hP i]
    have e3:=aY e2 (rfl:tk b (-1*cv s (cv (co L) (co g)) k)=_);rw[e1,e3,show ∀x:Int,x + -1*x=0 from fun x=>by omega,tk0]
  refine Aw hD hL hN (Fs.co q) ?_;refine⟨fun k=>cv (co q) u k+cv v s k,(q.length+n)+(n+ns),((((Fs.co q).cv hu)).mono (by omega)).add ((hv.cv hs').mono (by omega)),fun k=>?_⟩;have e1:tk b (N*co q k)=tk b (cv (fun k=>cv u (co L) k+cv v t k) (co q) k):=by
   have e2:N*co q k=cv (fun k=>if k=0 then N else 0) (co q) k:=by rw[pI,if_pos (Nat.zero_le _),Nat.sub_zero]
   rw[e2];exact jy (fun i _=>dZ.mp (bez i)) fun i _=>rfl
  rw[e1,fP,fP];refine aY ?_ ?_
  ·exact congrArg (tk b) ((dY ..).trans (bV ..).symm)
  ·rw[bV,bV];refine jy (fun i _=>rfl) fun i _=>?_;rw[dY];exact dZ.mp (qt i)
 ·rintro⟨s,ns,hs',e⟩;refine⟨cv s t,ns+nt,hs'.cv ht,fun k=>?_⟩;rw[jy (fun i _=>e i) (fun i _=>hT i),jy (f:=cv s t) (fun i _=>rfl) (fun i _=>hP i)];refine congrArg (tk b) ?_;rw[bV,bV];refine gh (fun i _=>rfl) fun i _=>?_;rw[<-bV,<-bV];exact gh (fun j _=>dY ..) fun j _=>rfl
end Pm
namespace Om
def cH(p:Nat):Prop:=2<=p/\∀d,d∣p->d=1∨d=p
theorem cH.cop{p x:Nat}(h:cH p)(hx:¬p∣x):Nat.Coprime p x:=by
 rcases h.2 _ (Nat.gcd_dvd_left p x)with e|e
 ·exact e
 ·exact absurd (e▸Nat.gcd_dvd_right p x) hx
theorem cH.dvd{p x y:Nat}(h:cH p)(hd:p∣x*y):p∣x∨p∣y:=by
 by_cases c:p∣x
 ·exact .inl c
 ·exact .inr ((h.cop c).dvd_of_dvd_mul_left hd)
def ch:Nat->Nat->Nat
 |_,0=>1
 |0,_+1=>0
 |n+1,k+1=>ch n k+ch n (k+1)
theorem uc(n:Nat):ch n 0=1:=by cases n<;>rfl
theorem v9:∀(n k:Nat),n<k->ch n k=0
 |0,k+1,_=>rfl
 |n+1,k+1,h=>by rw[ch,v9 n k (by omega),v9 n (k+1) (by omega)]
theorem Hr:∀n,ch n n=1
 |0=>rfl
 |n+1=>by rw[ch,Hr n,v9 n (n+1) (by omega)]
theorem qg:∀n k:Nat,(k+1)*ch (n+1) (k+1)=(n+1)*ch n k
 |0,0=>rfl
 |0,k+1=>by
  have e:ch (0+1) (k+1+1)=ch 0 (k+1)+ch 0 (k+1+1):=rfl;rw[e,v9 0 (k+1) (by omega),v9 0 (k+1+1) (by omega)];simp
 |n+1,0=>by
  have:=qg n 0;have e:ch (n+1+1) (0+1)=ch (n+1) 0+ch (n+1) (0+1):=rfl;simp only[uc]at e⊢;rw[e];rw[uc]at this;omega
 |n+1,k+1=>by
  have h1:=qg n k;have h2:=qg n (k+1);rw[ch,Nat.mul_add];have e1:(k+1+1)*ch (n+1) (k+1)=(n+1)*ch n k+ch (n+1) (k+1):=by rw[Nat.succ_mul,h1]
  rw[e1,h2];have e2:ch (n+1) (k+1)=ch n k+ch n (k+1):=rfl;rw[e2,Nat.succ_mul (n+1),Nat.mul_add];omega
theorem cH.dch{p k:Nat}(h:cH p)(h0:0<k)(hk:k<p):p∣ch p k:=by
 obtain⟨n,rfl⟩:∃n,p=n+1:=⟨p-1,by have:=h.1;omega⟩;obtain⟨j,rfl⟩:∃j,k=j+1:=⟨k-1,by omega⟩;have e:=qg n j;rcases h.dvd (x:=j+1) (y:=Om.ch (n+1) (j+1)) (by rw[e];exact Nat.dvd_mul_right ..)with d|d
 ·exact absurd (Nat.le_of_dvd (by omega) d) (by omega)
 ·exact d
def sN(f:Nat->Nat):Nat->Nat
 |0=>0
 |n+1=>sN f n+f n
theorem CP{f g:Nat->Nat}:∀{n:Nat},(∀k,k<n->f k=g k)->sN f n=sN g n
 |0,_=>rfl
 |n+1,h=>by rw[sN,sN,CP fun k hk=>h k (by omega),h n (by omega)]
theorem ML(f g:Nat->Nat):∀n,sN (fun k=>f k+g k) n=sN f n+sN g n
 |0=>rfl
 |n+1=>by rw[sN,sN,sN,ML f g n];omega
theorem Mu(c:Nat)(f:Nat->Nat):∀n,sN (fun k=>c*f k) n=c*sN f n
 |0=>rfl
 |n+1=>by rw[sN,sN,Mu c f n,Nat.mul_add]
theorem wV(f:Nat->Nat):∀n,sN f (n+1)=f 0+sN (fun k=>f (k+1)) n
 |0=>by rw[sN,sN,sN];omega
 |n+1=>by rw[sN,wV f n,sN];omega
theorem Mp{p:Nat}{f:Nat->Nat}:∀{n:Nat},(∀k,k<n->p∣f k)->p∣sN f n
 |0,_=>Nat.dvd_zero _
 |n+1,h=>Nat.dvd_add (Mp fun k hk=>h k (by omega)) (h n (by omega))
theorem Ss(a:Nat):∀n,(a+1)^n=sN (fun k=>ch n k*a^k) (n+1)
 |0=>by simp[sN,ch]
 |n+1=>by
  rw[Nat.pow_succ,Ss a n,wV (fun k=>ch (n+1) k*a^k) (n+1)];have e1:sN (fun k=>ch (n+1) (k+1)*a^(k+1)) (n+1)=sN (fun k=>a*(ch n k*a^k)) (n+1)+sN (fun k=>ch n (k+1)*a^(k+1)) (n+1):=by
   rw[<-ML];refine CP fun k _=>?_;rw[ch,Nat.add_mul,Nat.pow_succ];congr 1;rw[Nat.mul_comm a,Nat.mul_assoc]
  have e2:sN (fun k=>ch n k*a^k) (n+1)=1+sN (fun k=>ch n (k+1)*a^(k+1)) (n+1):=by
   have e3:sN (fun k=>ch n k*a^k) (n+1+1)=sN (fun k=>ch n k*a^k) (n+1):=by rw[sN,v9 n (n+1) (by omega),Nat.zero_mul,Nat.add_zero]
   rw[<-e3,wV];rw[uc,Nat.pow_zero]
  rw[e1,Mu,uc,Nat.pow_zero,Nat.mul_add,Nat.mul_one,Nat.mul_comm];omega
theorem cH.pow{p:Nat}(h:cH p):∀a:Nat,a^p%p=a%p
 |0=>by rw[Nat.zero_pow (by have:=h.1;omega)]
 |a+1=>by
  obtain⟨n,rfl⟩:∃n,p=n+1:=⟨p-1,by have:=h.1;omega⟩;have e:(a+1)^(n+1)=1+sN (fun k=>ch (n+1) (k+1)*a^(k+1)) n+a^(n+1):=by
   rw[Ss,sN,wV,uc,Nat.pow_zero,Hr,Nat.one_mul,Nat.one_mul]
  obtain⟨c,hc⟩:(n+1)∣sN (fun k=>ch (n+1) (k+1)*a^(k+1)) n:=Mp fun k hk=>Nat.dvd_trans (h.dch (by omega) (by omega)) (Nat.dvd_mul_right ..);rw[e,hc,show 1+(n+1)*c+a^(n+1)=(a^(n+1)+1)+(n+1)*c by omega,Nat.add_mul_mod_self_left,Nat.add_mod,cH.pow h a,<-Nat.add_mod]
theorem cH.SY{p a:Nat}(h:cH p)(h0:a≠0)(ha:a<p):a^(p-1)%p=1:=by
 have hp:=h.1;have e:=h.pow a;obtain⟨n,rfl⟩:∃n,p=n+1:=⟨p-1,by omega⟩;rw[Nat.add_sub_cancel];have one:1<=a^n:=Nat.pow_pos (by omega);have d:(n+1)∣a*(a^n-1):=by
  have e2:a*(a^n-1)=a^(n+1)-a:=by rw[Nat.mul_sub,Nat.mul_one,Nat.pow_succ,Nat.mul_comm]
  rw[e2];exact Nat.dvd_of_mod_eq_zero (Nat.sub_mod_eq_zero_of_mod_eq e)
 rcases h.dvd d with d|⟨c,hc⟩
 ·exact absurd (Nat.le_of_dvd (by omega) d) (by omega)
 ·rw[show a^n=1+(n+1)*c by omega,Nat.add_mul_mod_self_left];exact Nat.mod_eq_of_lt (by omega)
end Om
namespace Pm
open Rm
def Kf(f:Nat->Int)(n:Nat)(a:Nat->Int):Prop:=∀m,sm n (fun k=>f k*a (m+k))=0
theorem Kf.less{f:Nat->Int}{n m:Nat}{a:Nat->Int}(h:Kf f m a)(hf:Fs f n)(hm:n<=m):Kf f n a:=fun i=>by
 rw[<-fG (n:=m) hm fun k h1 _=>by rw[hf k h1,Int.zero_mul]];exact h i
theorem Kf.lin{f g:Nat->Int}{n:Nat}{a:Nat->Int}(c d:Int)(h:Kf f n a)(h':Kf g n a):Kf (fun k=>c*f k+d*g k) n a:=fun i=>by
 have e:sm n (fun k=>(c*f k+d*g k)*a (i+k))=c*sm n (fun k=>f k*a (i+k))+d*sm n (fun k=>g k*a (i+k)):=by
  rw[<-bH,<-bH,<-cV];exact aB fun k _=>by rw[Int.add_mul,Int.mul_assoc,Int.mul_assoc]
 rw[e,h i,h' i];simp
theorem Kf.shift{f:Nat->Int}{n:Nat}{a:Nat->Int}(s:Nat)(h:Kf f n a):Kf (fun k=>if s<=k then f (k-s)else 0) (s+n) a:=fun i=>by
 have e:∀s,sm (s+n) (fun k=>(if s<=k then f (k-s)else 0)*a (i+k))=sm n (fun k=>f k*a (i+s+k)):=fun s=>by
  induction s generalizing i with
  |zero=>rw[Nat.zero_add];exact aB fun k _=>by rw[if_pos (Nat.zero_le _)];rfl
  |succ s ih=>
   rw[show s+1+n=(s+n)+1 by omega,dW,if_neg (by omega),Int.zero_mul,Int.zero_add];rw[show i+(s+1)=(i+1)+s by omega,<-ih (i+1)];refine aB fun k _=>?_;rw[show i+(k+1)=i+1+k by omega];by_cases c:s<=k
   ·rw[if_pos c,if_pos (by omega),show k+1-(s+1)=k-s by omega]
   ·rw[if_neg c,if_neg (by omega)]
 rw[e];exact h _
theorem Kf.div{f:Nat->Int}{n:Nat}{a:Nat->Int}{c:Int}(hc:c≠0)(h:Kf (fun k=>c*f k) n a):Kf f n a:=fun i=>by
 have e:=h i;rw[show(fun k=>c*f k*a (i+k))=fun k=>c*(f k*a (i+k))from funext fun k=>Int.mul_assoc ..,bH]at e;exact(Int.mul_eq_zero.mp e).resolve_left hc
theorem Kf.of{p:List Int}{a:Nat->Int}(h:Kp 0 p a):Kf (co p) p.length a:=fun i=>by
 have:=h i;rw[aZ]at this;exact this
theorem JQ:∀n:Nat,2<=n->∃p,Om.cH p/\p∣n:=fun n=>by
 induction n using Nat.strongRecOn with
 |ind n ih=>
  intro hn;by_cases h:∀d,d∣n->d=1∨d=n
  ·exact⟨n,⟨hn,h⟩,Nat.dvd_refl n⟩
  ·obtain⟨d,hd⟩:=Classical.not_forall.mp h;obtain⟨hd,hn1⟩:=Classical.not_imp.mp hd;have h0:d≠0:=fun e=>by rw[e]at hd;have:=Nat.eq_zero_of_zero_dvd hd;omega
   have hl:=Nat.le_of_dvd (by omega) hd;have h1:d≠1:=fun e=>hn1 (.inl e);have h2:d≠n:=fun e=>hn1 (.inr e);obtain⟨p,hp,hq⟩:=ih d (by omega) (by omega);exact⟨p,hp,Nat.dvd_trans hq hd⟩
theorem least_of{Q:Nat->Prop}(h:∃n,Q n):∃n,Q n/\∀m,Q m->n<=m:=by
 obtain⟨n,hn⟩:=h;induction n using Nat.strongRecOn with
 |ind n ih=>
  by_cases c:∃m,m<n/\Q m
  ·obtain⟨m,h1,h2⟩:=c;exact ih m h1 h2
  ·exact⟨n,hn,fun m hm=>by
    by_cases d:m<n
    ·exact absurd ⟨m,d,hm⟩ c
    ·omega⟩
theorem u0{p:Nat}{x:Int}:(p:Int)∣x↔p∣x.natAbs:=Int.ofNat_dvd_left
theorem pD{p:Nat}(hp:Om.cH p){x y:Int}(h:(p:Int)∣x*y):(p:Int)∣x∨(p:Int)∣y:=by
 rw[u0,Int.natAbs_mul]at h;rcases hp.dvd h with h|h
 ·exact .inl (u0.mpr h)
 ·exact .inr (u0.mpr h)
theorem Mq{d:Int}{f:Nat->Int}:∀{n:Nat},(∀k,k<n->d∣f k)->d∣sm n f
 |0,_=>⟨0,by rw[Int.mul_zero];rfl⟩
 |n+1,h=>Int.dvd_add (Mq fun k hk=>h k (by omega)) (h n (by omega))
theorem K8{d:Int}{f:Nat->Int}{n j:Nat}(hj:j<n)(h:d∣sm n f)(ho:∀k,k<n->k≠j->d∣f k):d∣f j:=by
 have e:sm n f=sm n (fun k=>if k=j then f j else 0)+sm n (fun k=>if k=j then 0 else f k):=by
  rw[<-cV];refine aB fun k _=>?_;by_cases c:k=j
  ·rw[if_pos c,if_pos c,c,Int.add_zero]
  ·rw[if_neg c,if_neg c,Int.zero_add]
 rw[cW,if_pos hj]at e;have h2:d∣sm n (fun k=>if k=j then 0 else f k):=Mq fun k hk=>by
  by_cases c:k=j
  ·rw[if_pos c];exact⟨0,by rw[Int.mul_zero]⟩
  ·rw[if_neg c];exact ho k hk c
 have:f j=sm n f-sm n (fun k=>if k=j then 0 else f k):=by omega
 rw[this];exact Int.dvd_sub h h2
theorem Yn{p:Nat}(hp:Om.cH p){f g:Nat->Int}(h:∀k,(p:Int)∣cv f g k):(∀k,(p:Int)∣f k)∨∀k,(p:Int)∣g k:=by
 by_cases hf:∀k,(p:Int)∣f k
 ·exact .inl hf
 by_cases hg:∀k,(p:Int)∣g k
 ·exact .inr hg
 obtain⟨i,hi,hi'⟩:=least_of (Classical.not_forall.mp hf);obtain⟨j,hj,hj'⟩:=least_of (Classical.not_forall.mp hg);have e:=h (i+j);rw[gZ]at e;have t:=K8 (j:=i) (by omega) e fun k hk hne=>by
  by_cases c:k<i
  ·have:(p:Int)∣f k:=Classical.byContradiction fun z=>by have:=hi' k z;omega
   exact Int.dvd_trans this (Int.dvd_mul_right ..)
  ·have:(p:Int)∣g (i+j-k):=Classical.byContradiction fun z=>by have:=hj' _ z;omega
   exact Int.dvd_trans this (Int.dvd_mul_left ..)
 rw[Nat.add_sub_cancel_left]at t;rcases pD hp t with t|t
 ·exact absurd t hi
 ·exact absurd t hj
theorem Fs.top{f:Nat->Int}:∀{n:Nat},Fs f n->(∀k,f k=0)∨∃d,d<n/\f d≠0/\Fs f (d+1)
 |0,h=> .inl fun k=>h k (Nat.zero_le _)
 |n+1,h=>by
  by_cases c:f n=0
  ·have h':Fs f n:=fun k hk=>by
    by_cases e:k=n
    ·rw[e];exact c
    ·exact h k (by omega)
   rcases Fs.top h' with z|⟨d,h1,h2,h3⟩
   ·exact .inl z
   ·exact .inr ⟨d,by omega,h2,h3⟩
  ·exact .inr ⟨n,by omega,c,h⟩
structure Lk(a:Nat->Int)(d:Nat)(f:Nat->Int):Prop where
 fs:Fs f (d+1)
 ne:f d≠0
 kf:Kf f (d+1) a
theorem Bw{a f:Nat->Int}{d:Nat}(hf:Lk a d f)(hd:∀e g,Lk a e g->d<=e):∀(n:Nat) (q:Nat->Int),Fs q n->Kf q n a->∃(m:Int) (G:Nat->Int) (N:Nat),m≠0/\Fs G N/\∀k,m*q k=cv G f k:=fun n=>by
 induction n using Nat.strongRecOn with
 |ind n ih=>
  intro q hq hk;rcases hq.top with z|⟨e,hen,hne,hfe⟩
  ·exact⟨1,fun _=>0,0,by decide,fun _ _=>rfl,fun k=>by rw[z k,fj fun i _=> .inl rfl];rfl⟩
  ·have hke:Kf q (e+1) a:=hk.less hfe (by omega);have hde:=hd e q ⟨hfe,hne,hke⟩;have ks:=hf.kf.shift (e-d);rw[show e-d+(d+1)=e+1 by omega]at ks;have kl:=hke.lin (f d) (-(q e)) ks;have fl:Fs (fun k=>f d*q k + -(q e)*(if e-d<=k then f (k-(e-d))else 0)) e:=fun k hk=>by
    show f d*q k + -(q e)*(if e-d<=k then f (k-(e-d))else 0)=0;rw[if_pos (by omega)];by_cases c:k=e
    ·rw[c,show e-(e-d)=d by omega,Int.neg_mul,Int.mul_comm (q e),Int.add_right_neg]
    ·rw[hfe k (by omega),hf.fs (k-(e-d)) (by omega),Int.mul_zero,Int.mul_zero];rfl
   obtain⟨m,G,N,hm,hG,hE⟩:=ih e hen _ fl (kl.less fl (by omega));refine⟨m*f d,fun k=>G k+m*q e*(if k=e-d then 1 else 0),N+(e-d+1),Int.mul_ne_zero hm hf.ne,fun k hk=>?_,fun k=>?_⟩
   ·show G k+m*q e*(if k=e-d then 1 else 0)=0;rw[hG k (by omega),if_neg (by omega),Int.mul_zero];rfl
   ·rw[fP,gJ,pI,<-hE k];by_cases c:e-d<=k
    ·rw[if_pos c,if_pos c,Int.mul_add,Int.one_mul,Int.neg_mul,Int.mul_neg,Int.mul_assoc,Int.mul_assoc,Int.neg_add_cancel_right]
    ·rw[if_neg c,if_neg c,Int.mul_add];simp[Int.mul_assoc]
theorem Zy{a:Nat->Int}{P:List Int}(hP:Mon P)(hk:Kp 0 P a):∃L,Mon L/\Py 0 L/\Kp 0 L a/\L.length<=P.length/\(∀q,Kp 0 q a->Dv 0 L (co q))/\∀e g,Lk a e g->L.length-1<=e:=by
 have hp:=hP.pos;have p0:Lk a (P.length-1) (co P):=⟨by rw[show P.length-1+1=P.length by omega];exact Fs.co P,by rw[hP.one];decide,by rw[show P.length-1+1=P.length by omega];exact Kf.of hk⟩;obtain⟨d,⟨f0,hf0⟩,hd⟩:=least_of (Q:=fun d=>∃f,Lk a d f) ⟨_,_,p0⟩;have hd':∀e g,Lk a e g->d<=e:=fun e g h=>hd e ⟨g,h⟩;obtain⟨c,⟨f,hf,hc⟩,hc'⟩:=least_of (Q:=fun c=>∃f,Lk a d f/\(f d).natAbs=c) ⟨_,f0,hf0,rfl⟩;obtain⟨m0,G0,N0,hm0,hG0,hE0⟩:=Bw hf hd' P.length (co P) (Fs.co P) (Kf.of hk);obtain⟨n,⟨m,G,N,hm,hG,hE,hn⟩,hn'⟩:=least_of (Q:=fun n=>∃(m:Int) (G:Nat->Int) (N:Nat),m≠0/\Fs G N/\(∀k,m*co P k=cv G f k)/\m.natAbs=n) ⟨_,m0,G0,N0,hm0,hG0,hE0,rfl⟩;have h1:m.natAbs=1:=by
  by_cases c2:m.natAbs=1
  ·exact c2
  ·have h0:m.natAbs≠0:=by omega
   obtain⟨p,hp,hd⟩:=JQ m.natAbs (by omega);have hpp:=hp.1;have hp0:(p:Int)≠0:=by omega
   obtain⟨m',em⟩:=u0.mpr hd;have hm':m'≠0:=fun z=>hm (by rw[em,z,Int.mul_zero]);rcases Yn hp (f:=G) (g:=f) fun k=>by rw[<-hE k,em,Int.mul_assoc];exact Int.dvd_mul_right .. with z|z
   ·exfalso
    obtain⟨G',hg⟩:=Classical.skolem.mp z;refine absurd (hn' m'.natAbs ⟨m',G',N,hm',fun k hk=>?_,fun k=>?_,rfl⟩) ?_
    ·have:=hg k;rw[hG k hk]at this;exact(Int.mul_eq_zero.mp this.symm).resolve_left hp0
    ·refine Int.eq_of_mul_eq_mul_left hp0 ?_;rw[<-gJ,<-Int.mul_assoc,<-em,hE k];exact gh (fun i _=>hg i) fun _ _=>rfl
    ·rw[<-hn,em,Int.natAbs_mul,Int.natAbs_natCast];have:0<m'.natAbs:=by omega
     have:2*m'.natAbs<=p*m'.natAbs:=Nat.mul_le_mul_right _ hpp;omega
   ·exfalso
    obtain⟨f',hg⟩:=Classical.skolem.mp z;have e:f=fun k=>p*f' k:=funext fun k=>hg k;have q:Lk a d f':=⟨fun k hk=>by
     have:=hg k;rw[hf.fs k hk]at this;exact(Int.mul_eq_zero.mp this.symm).resolve_left hp0,fun z=>hf.ne (by rw[hg d,z,Int.mul_zero]),by
     have:=hf.kf;rw[e]at this;exact this.div hp0⟩
    refine absurd (hc' _ ⟨_,q,rfl⟩) ?_;have e2:=congrArg Int.natAbs (hg d);rw[Int.natAbs_mul,Int.natAbs_natCast,hc]at e2;have hne:=q.ne;have:0<(f' d).natAbs:=by omega
    have:2*(f' d).natAbs<=p*(f' d).natAbs:=Nat.mul_le_mul_right _ hpp;rw[e2];show ¬p*(f' d).natAbs<=(f' d).natAbs;omega
 have hu:(f d).natAbs=1:=by
  rcases hG.top with z|⟨e,_,hne,hfe⟩
  ·exfalso
   have:=hE (P.length-1);rw[hP.one,Int.mul_one,fj fun i _=> .inl (z i)]at this;exact hm this
  ·have t:cv G f (e+d)=G e*f d:=by
    rw[gZ,aB (g:=fun i=>if i=e then G e*f d else 0) fun i _=>by
     by_cases c3:i=e
     ·rw[if_pos c3,c3,Nat.add_sub_cancel_left]
     ·rw[if_neg c3];by_cases c4:i<e
      ·rw[hf.fs _ (by omega),Int.mul_zero]
      ·rw[hfe i (by omega),Int.zero_mul],cW,if_pos (by omega)]
   have hx:G e*f d≠0:=Int.mul_ne_zero hne hf.ne;have e1:=hE (e+d);rw[t]at e1;have hl:e+d=P.length-1:=by
    by_cases c3:P.length<=e+d
    ·rw[bJ c3,Int.mul_zero]at e1;exact absurd e1.symm hx
    ·by_cases c4:e+d=P.length-1
     ·exact c4
     ·exfalso
      have e2:=hE (P.length-1);rw[hP.one,Int.mul_one,fj fun i hi=>by
       by_cases c5:e+1<=i
       ·exact .inl (hfe i c5)
       ·exact .inr (hf.fs _ (by omega))]at e2
      exact hm e2
   rw[hl,hP.one,Int.mul_one]at e1;have e3:=congrArg Int.natAbs e1;rw[Int.natAbs_mul,h1]at e3;exact Nat.eq_one_of_mul_eq_one_left e3.symm
 have hs:f d*f d=1:=by
  rcases Int.natAbs_eq (f d)with h|h<;>rw[h,hu]<;>rfl
 have hLc:∀k,co (ofF (d+1) fun k=>f d*f k) k=f d*f k:=fun k=>by
  rw[bK];by_cases c3:k<d+1
  ·rw[if_pos c3]
  ·rw[if_neg c3,hf.fs k (by omega),Int.mul_zero]
 have hM:Mon (ofF (d+1) fun k=>f d*f k):=⟨by rw[aL];omega,by rw[aL,Nat.add_sub_cancel,hLc,hs]⟩;have hK:Kp 0 (ofF (d+1) fun k=>f d*f k) a:=fun i=>by
  rw[aZ];unfold ks;rw[aL,aB (g:=fun k=>f d*(f k*a (i+k))) fun k _=>by rw[hLc,Int.mul_assoc],bH,hf.kf i,Int.mul_zero]
 refine⟨ofF (d+1) fun k=>f d*f k,hM,⟨?_,fun x _=>aZ x⟩,hK,?_,fun q hq=>?_,fun e g h=>by rw[aL];exact hd' e g h⟩
 ·refine iu (fun z=>?_) (by rw[hM.one];decide);have:=hM.pos;rw[z]at this;exact absurd this (by decide)
 ·rw[aL];have:=hd' _ _ p0;omega
 ·obtain⟨o,r,D⟩:=C4 (b:=0) hM (p:=q) fun k=>aZ _;have kr:=(D.kp hK).mp hq;have rn:r=[]:=by
   by_cases c3:r=[]
   ·exact c3
   ·exfalso
    have hl:0<r.length:=List.length_pos_iff.mpr c3;have hne:=uh c3 D.ry.tr;have:=hd' (r.length-1) (co r) ⟨by rw[show r.length-1+1=r.length by omega];exact Fs.co r,hne,by rw[show r.length-1+1=r.length by omega];exact Kf.of kr⟩;have hsh:=D.short;rw[aL]at hsh;omega
  refine⟨co o,o.length,Fs.co o,fun k=>?_⟩;rw[<-D.eq k,rn,eO,Int.add_zero]
end Pm
namespace Dm
open Pm Rm
theorem Ed{n:Nat}(f:Nat->Nat->Int)(x:Nat->Int){j:Nat}(hj:j<n):det n (lX f j fun i=>sm n fun k=>f i k*x k)=x j*det n f:=by
 have e0:(fun i=>sm n fun k=>f i k*x k)=fun i=>sm n fun k=>x k*f i k:=funext fun i=>aB fun k _=>Int.mul_comm ..;rw[e0,rz f hj x (fun k i=>f i k)];have e2:sm n (fun k=>x k*det n (lX f j fun i=>f i k))=sm n (fun k=>if k=j then x j*det n f else 0):=aB fun k hk=>by
  by_cases c:k=j
  ·rw[if_pos c,c,pK]
  ·rw[if_neg c];have z:det n (lX f j fun i=>f i k)=0:=by
    rcases Nat.lt_or_gt_of_ne c with l|l
    ·exact qd l hj fun i _=>by rw[fO,j7 (by omega)]
    ·exact qd l hk fun i _=>by rw[fO,j7 (by omega)]
   rw[z,Int.mul_zero]
 rw[e2,cW,if_pos hj]
theorem Ue{b:Int}{n:Nat}{f:Nat->Nat->Int}{x:Nat->Int}(h:Rel b n n f x){j:Nat}(hj:j<n):tk b (x j*det n f)=0:=by
 have hx:∀i,∃e,i<n->(sm n fun k=>f i k*x k)=b*e:=fun i=>by
  by_cases c:i<n
  ·obtain⟨e,he⟩:=fH.mp (h i c);exact⟨e,fun _=>he⟩
  ·exact⟨0,fun z=>absurd z c⟩
 obtain⟨e,he⟩:=Classical.skolem.mp hx;rw[<-Ed f x hj];have e1:det n (lX f j fun i=>sm n fun k=>f i k*x k)=det n (lX f j fun i=>b*e i+0):=cL fun i k hi _=>by
  unfold lX;split
  ·show(sm n fun k=>f i k*x k)=b*e i+0;rw[he i hi,Int.add_zero]
  ·rfl
 rw[e1,jd f hj b e (fun _=>0),oA f hj,Int.add_zero];exact fH.mpr ⟨_,rfl⟩
theorem Ei{b:Int}{n:Nat}{f:Nat->Nat->Int}(hD:Dom b)(h:tk b (det n f)≠0):Ind b n n f:=fun x hx k hk=>
 hD (det n f) (x k) h (by rw[Int.mul_comm];exact Ue hx hk)
structure Cp(b:Int)(n:Nat)(A0:Nat->Nat->Int)(c:Nat)(A:Nat->Nat->Int)(hd:Nat->Nat)(r:Nat):Prop where
 sw:Swp n A0 A
 nz:tk b (dt A hd r)≠0
 rn:r<=n
 hc:∀h,h<r->hd h<c
 up:∀h h',h<h'->h'<r->hd h<hd h'
 zero:∀k,k<c->(∀h,h<r->hd h≠k)->∀i,r<=i->i<n->tk b (En A hd r i k)=0
theorem Cp.bring{b:Int}{n:Nat}{A0:Nat->Nat->Int}{c:Nat}{A:Nat->Nat->Int}{hd:Nat->Nat}{r:Nat}(h:Cp b n A0 c A hd r){a:Nat}(hra:r<a)(han:a<n):Cp b n A0 c (turn A r a) hd r:=
 ⟨.step h.sw hra han,by rw[Fi (Nat.le_refl _) (by omega)];exact h.nz,h.rn,h.hc,h.up,fun k hk hn i h1 h2=>by
  rw[Js (Nat.le_refl _) hra];split
  ·exact h.zero k hk hn a (by omega) han
  ·split
   ·exact qR (h.zero k hk hn r (Nat.le_refl _) (by omega))
   ·exact h.zero k hk hn i h1 h2⟩
theorem Cp.free{b:Int}{n:Nat}{A0:Nat->Nat->Int}{c:Nat}{A:Nat->Nat->Int}{hd:Nat->Nat}{r:Nat}(h:Cp b n A0 c A hd r)(hD:Dom b)(hrn:r<n)(hp:tk b (En A hd r r c)≠0):Cp b n A0 (c+1) A (more hd r c) (r+1):=by
 have hpi:En A hd r r c≠0:=fun z=>hp (by rw[z];exact tk0 b);have ml:∀j,j<r->more hd r c j=hd j:=fun j hj=>if_neg (by omega);have me:more hd r c r=c:=if_pos rfl;refine⟨h.sw,by rw[Px];exact hp,by omega,fun j hj=>?_,fun j j' h1 h2=>?_,fun k hk hn i h1 h2=>?_⟩
 ·by_cases e:j=r
  ·rw[e,me];omega
  ·rw[ml j (by omega)];have:=h.hc j (by omega);omega
 ·by_cases e:j'=r
  ·rw[e,me,ml j (by omega)];exact h.hc j (by omega)
  ·rw[ml j' (by omega),ml j (by omega)];exact h.up j j' h1 (by omega)
 ·have hkc:k≠c:=fun e=>hn r (by omega) (by rw[me,e]);have hn':∀j,j<r->hd j≠k:=fun j hj=>by rw[<-ml j hj];exact hn j (by omega)
  refine hD _ _ h.nz ?_;rw[PB hpi (by omega)];exact QC (GF _ (h.zero k (by omega) hn' i (by omega) h2)) (GF _ (h.zero k (by omega) hn' r (Nat.le_refl _) hrn))
theorem Cp.step{b:Int}{n:Nat}{A0:Nat->Nat->Int}{c:Nat}{A:Nat->Nat->Int}{hd:Nat->Nat}{r:Nat}(h:Cp b n A0 c A hd r)(hD:Dom b):∃A hd r,Cp b n A0 (c+1) A hd r:=by
 by_cases z:∀i,r<=i->i<n->tk b (En A hd r i c)=0
 ·refine⟨A,hd,r,h.sw,h.nz,h.rn,fun j hj=>by have:=h.hc j hj;omega,h.up,fun k hk hn i h1 h2=>?_⟩;by_cases e:k=c
  ·rw[e];exact z i h1 h2
  ·exact h.zero k (by omega) hn i h1 h2
 ·obtain⟨i,hi⟩:=Classical.not_forall.mp z;obtain⟨h1,hi⟩:=Classical.not_imp.mp hi;obtain⟨h2,hi⟩:=Classical.not_imp.mp hi;by_cases e:i=r
  ·rw[e]at hi;exact⟨_,_,_,h.free hD (by omega) hi⟩
  ·refine⟨_,_,_,(h.bring (a:=i) (by omega) h2).free hD (by omega) ?_⟩;rw[Js (Nat.le_refl _) (by omega),if_pos rfl];exact hi
theorem Cp.ex{b:Int}(hD:Dom b)(h1:tk b 1≠0)(n:Nat)(A0:Nat->Nat->Int):∀c,∃A hd r,Cp b n A0 c A hd r
 |0=>⟨A0,fun _=>0,0,.refl,by rw[Pb];exact h1,Nat.zero_le _,fun h hh=>absurd hh (Nat.not_lt_zero _),fun _ _ _ h=>absurd h (Nat.not_lt_zero _),fun k hk=>absurd hk (Nat.not_lt_zero _)⟩
 |c+1=>by
  obtain⟨A,hd,r,h⟩:=Cp.ex hD h1 n A0 c;exact h.step hD
theorem Io{hd:Nat->Nat}{r m:Nat}(hc:∀h,h<r->hd h<m)(up:∀h h',h<h'->h'<r->hd h<hd h')(sur:∀k,k<m->∃j,j<r/\hd j=k):r=m/\∀k,k<m->hd k=k:=by
 have ge:∀j,j<r->j<=hd j:=fun j=>by
  induction j with
  |zero=>intro _;exact Nat.zero_le _
  |succ j ih=>
   intro hj;have:=ih (by omega);have:=up j (j+1) (by omega) hj;omega
 have all:∀k,k<m->k<r/\hd k=k:=fun k=>by
  induction k using Nat.strongRecOn with
  |ind k ih=>
   intro hk;obtain⟨j,hj,e⟩:=sur k hk;have g:=ge j hj;by_cases c:j=k
   ·rw[<-c];exact⟨hj,by rw[e,c]⟩
   ·have:=(ih j (by omega) (by omega)).2;omega
 refine⟨?_,fun k hk=>(all k hk).2⟩;by_cases c:r<=m
 ·by_cases c2:r=m
  ·exact c2
  ·have:=(all r (by omega)).1;omega
 ·have:=hc m (by omega);have:=ge m (by omega);omega
theorem EG{b:Int}{n:Nat}{A0:Nat->Nat->Int}(hD:Dom b)(h1:tk b 1≠0)(hI:Ind b n n A0):tk b (det n A0)≠0:=by
 obtain⟨A,hd,r,h⟩:=Cp.ex hD h1 n A0 n;have H:=Io h.hc h.up fun k hk=>by
  by_cases c:∃j,j<r/\hd j=k
  ·exact c
  ·exfalso
   have hn:∀j,j<r->hd j≠k:=fun j hj e=>c ⟨j,hj,e⟩;have R:=KL (A:=A) (hd:=hd) (r:=r) (m:=n) (k:=k) (b:=b) (n:=n) h.hc hk (h.zero k hk hn);have z:=hI _ (h.sw.rel.mpr R) k hk;rw[if_pos rfl,iH (fun j hj=>by rw[if_neg (fun e=>hn j hj e.symm)]),Int.zero_sub]at z;have:=qR z;rw[Int.neg_neg]at this;exact h.nz this
 obtain⟨e,H⟩:=H;subst e;rw[<-h.sw.det];have:=h.nz;have q:dt A hd r=det r A:=cL fun i k _ hk=>by unfold Bk;rw[H k hk]
 rwa [q]at this
end Dm
namespace Dm
open Pm Rm
def hk(a:Nat->Int):Nat->Nat->Int:=fun i j=>a (i+j)
theorem UL(x a:Nat->Int)(l i:Nat):sm l (fun k=>hk a i k*x k)=ks (ofF l x) a i:=by
 unfold ks;rw[aL];refine aB fun k hk'=>?_;rw[bK,if_pos hk',Int.mul_comm];rfl
theorem QG{b:Int}(hD:Dom b)(h1:tk b 1≠0){L:List Int}{a:Nat->Int}(hL:Mon L)(hw:∀k,tk b (co L k)=co L k)(hK:Kp b L a)(hm:∀q,Kp b q a->Dv b L (co q)):tk b (det (L.length-1) (hk a))≠0:=by
 refine EG hD h1 fun x hx k hk'=>?_;have e:=kZ hw hL;have ha:∀n,(cO b L).length<=n->tk b (a n)=tk b (S (cO b L) a n (cO b L).length):=Kp.rec (by rw[e];exact hK);have hq:Kp b (ofF (L.length-1) x) a:=E7 ha fun n hn=>by
  rw[dR]at hn;rw[<-UL];exact hx n hn
 have z:=(hm _ hq).short hL (by have:=Fs.co (ofF (L.length-1) x);rwa [aL]at this) k
 rwa [bK,if_pos hk']at z
theorem DW{b:Int}(hD:Dom b){l:Nat}{a:Nat->Int}(h:tk b (det l (hk a))≠0){q:List Int}(hq:q.length<=l)(hK:Kp b q a):∀k,tk b (co q k)=0:=fun k=>by
 have hI:=Ei hD h (co q) fun i hi=>by
  rw[UL];have e:ks (ofF l (co q)) a i=ks q a i:=by
   rw[<-nA q a i hq];unfold ks;rw[aL];exact aB fun k hk'=>by rw[bK,if_pos hk']
  rw[e];exact hK i
 by_cases c:k<l
 ·exact hI k c
 ·rw[bJ (by omega),tk0]
theorem Dom.pr{p:Nat}(hp:Om.cH p):Dom (p:Int):=fun x y hx h=>by
 have h2:=hp.1;obtain⟨e,he⟩:=fH.mp h;rcases pD hp (x:=x) (y:=y) ⟨e,he⟩with⟨z,hz⟩|⟨z,hz⟩
 ·exact absurd (fH.mpr ⟨z,hz⟩) hx
 ·exact fH.mpr ⟨z,hz⟩
end Dm
namespace Pm
open Rm Dm
structure GcZ(P:List Int)(T:Nat->Int)(g:List Int)(N:Int):Prop where
 mon:Mon g
 py:Py 0 g
 ne:N≠0
 one:Dv 0 g (co P)
 two:Dv 0 g T
 all:∀h:List Int,Mon h->Dv 0 h (co P)->Dv 0 h T->Dv 0 h (co g)
 good:∀(p:Nat) (s:List Int),Om.cH p->¬(p:Int)∣N->Mon s->Dv p s (co P)->Dv p s T->s.length<=g.length
theorem Dv.by{b:Int}{m:List Int}{f:Nat->Int}(h:Dv 0 m f):Dv b m f:=by
 obtain⟨s,n,hs,h⟩:=h;exact⟨s,n,hs,fun k=>by have:=h k;rw[aZ,aZ]at this;rw[this]⟩
theorem Dv.len{b:Int}(h1:tk b 1=1){m p:List Int}(hm:Mon m)(hp:Mon p)(h:Dv b m (co p)):m.length<=p.length:=by
 by_cases c:m.length<=p.length
 ·exact c
 ·exfalso
  have:=h.short hm ((Fs.co p).mono (by omega)) (p.length-1);rw[hp.one,h1]at this;exact absurd this (by decide)
theorem qG{b:Int}(h1:tk b 1=1){P g:List Int}(hP:Mon P)(hg:Mon g)(h:Dv b g (co P)):∃L:List Int,Mon L/\(∀k,tk b (co L k)=co L k)/\L.length+g.length=P.length+1/\∀k,tk b (co P k)=tk b (cv (co L) (co g) k):=by
 have hl:=h.len h1 hg hP;have hp:=hP.pos;have hgp:=hg.pos;obtain⟨s,n,hs,h⟩:=h;have key:∀d j,n<=j+d->P.length-g.length<j->tk b (s j)=0:=fun d=>by
  induction d with
  |zero=>intro j hj _;rw[hs j hj,tk0]
  |succ d ih=>
   intro j hj hj2;have e:=h (j+(g.length-1));rw[bJ (by omega),tk0,gZ]at e;have e2:tk b (sm (j+(g.length-1)+1) fun i=>s i*co g (j+(g.length-1)-i))=tk b (sm (j+(g.length-1)+1) fun i=>if i=j then s j else 0):=jr fun i hi=>by
    by_cases c:i=j
    ·rw[if_pos c,c,Nat.add_sub_cancel_left,hg.one,Int.mul_one]
    ·rw[if_neg c,tk0];by_cases d2:i<j
     ·rw[bJ (by omega),Int.mul_zero,tk0]
     ·rw[Int.mul_comm];exact wB _ (ih i (by omega) (by omega))
   rw[e2,cW,if_pos (by omega)]at e;exact e.symm
 have z:∀k,P.length-g.length<k->tk b (s k)=0:=fun k hk=>key n k (by omega) hk;have t1:tk b (s (P.length-g.length))=1:=by
  have e:=h (P.length-1);rw[hP.one,h1,gZ]at e;have e2:tk b (sm (P.length-1+1) fun i=>s i*co g (P.length-1-i))=tk b (sm (P.length-1+1) fun i=>if i=P.length-g.length then s (P.length-g.length)else 0):=jr fun i hi=>by
   by_cases c:i=P.length-g.length
   ·rw[if_pos c,c,show P.length-1-(P.length-g.length)=g.length-1 by omega,hg.one,Int.mul_one]
   ·rw[if_neg c,tk0];by_cases d2:i<P.length-g.length
    ·rw[bJ (by omega),Int.mul_zero,tk0]
    ·rw[Int.mul_comm];exact wB _ (z i (by omega))
  rw[e2,cW,if_pos (by omega)]at e;exact e.symm
 have hc:∀k,co (ofF (P.length-g.length+1) fun k=>tk b (s k)) k=tk b (s k):=fun k=>by
  rw[bK];by_cases c:k<P.length-g.length+1
  ·rw[if_pos c]
  ·rw[if_neg c,z k (by omega)]
 refine⟨ofF (P.length-g.length+1) fun k=>tk b (s k),⟨by rw[aL];omega,?_⟩,fun k=>?_,by rw[aL];omega,fun k=>?_⟩
 ·rw[aL,Nat.add_sub_cancel,hc,t1]
 ·rw[hc,gj]
 ·rw[h k];exact jy (fun i _=>by rw[hc,gj]) fun i _=>rfl
theorem tM{b:Int}{P:List Int}(hP:Mon P)(k:Nat):tk b (co P k)=tk b (co (aP b (cO b P)) k):=by
 have hp:=hP.pos;rw[aP,bY,aL,dR];by_cases c:k<P.length-1
 ·rw[if_pos c,bK,if_pos c,cO,bK,if_pos (by omega),rO,gj];rw[show P.length-1-1-(P.length-1-1-k)=k by omega]
 ·rw[if_neg c];by_cases d:k=P.length-1
  ·rw[d,hP.one,Nat.sub_self];rfl
  ·rw[bJ (by omega),bJ (by simp;omega)]
theorem keepsP{b:Int}{P:List Int}{a:Nat->Int}(hm:Mon P)(hK:Kp b P a)(q:List Int):Kp b q a↔Dv b P (cv (co q) (tp P a)):=by
 have A:=yw hm.pos q hK;constructor
 ·intro h;have z:Dv b P (tp P (ks q a)):=(Dv.zero b _).congr fun k=>by
   have:=R9 (b:=b) (P:=P) (a:=ks q a) (a':=fun _=>0) (fun n=>by rw[h n,tk0]) k;rw[this];exact(congrArg (tk b) (show tp P (fun _=>0) k=0 from iH fun i _=>Int.mul_zero _)).symm
  exact(A.add z).congr fun k=>by rw[Int.sub_add_cancel]
 ·intro h;have z:Dv b P (tp P (ks q a)):=(h.sub A).congr fun k=>by
   rw[show cv (co q) (tp P a) k-(cv (co q) (tp P a) k-tp P (ks q a) k)=tp P (ks q a) k by omega]
  have n0:=Dy hm (z.short hm (Eh _ _));have ha:∀n,(cO b P).length<=n->tk b (a n)=tk b (S (cO b P) a n (cO b P).length):=Kp.rec (hK.congr (tM hm));exact E7 ha fun n hn=>n0 n (by rw[dR]at hn;exact hn)
theorem Dr{b:Int}{m:List Int}(hm:Mon m){f g:Nat->Int}{n n':Nat}(hf:Fs f n)(hg:Fs g n')(h:∀k,tk b (cv f (co m) k)=tk b (cv g (co m) k)):∀k,tk b (f k)=tk b (g k):=fun k=>by
 refine dZ.mp (nD (b:=b) hm (f:=fun k=>f k-g k) (n:=n+n') (fun k hk=>?_) (fun k _=>?_) k)
 ·show f k-g k=0;rw[hf k (by omega),hg k (by omega)];rfl
 ·have e:cv (fun k=>f k-g k) (co m) k=cv f (co m) k + -1*cv g (co m) k:=by
   rw[<-gJ,<-fP];exact gh (fun i _=>by omega) fun i _=>rfl
  rw[e,aY (h k) rfl,show ∀x:Int,x + -1*x=0 from fun x=>by omega,tk0]
theorem Ji{P:List Int}{a:Nat->Int}(hP:Mon P)(hK:Kp 0 P a):∃g L,Mon L/\Py 0 L/\Kp 0 L a/\(∀q,Kp 0 q a->Dv 0 L (co q))/\L.length+g.length=P.length+1/\(∀k,co P k=cv (co L) (co g) k)/\GcZ P (tp P a) g (det (L.length-1) (hk a)):=by
 obtain⟨L,hL,hLy,hKL,hLP,hall,_⟩:=Zy hP hK;obtain⟨g,hg,hgy,hlen,hE⟩:=qG (b:=0) rfl hP hL (hall P hK);have hE':∀k,co P k=cv (co g) (co L) k:=fun k=>by have:=hE k;rwa [aZ,aZ]at this
 have hgP:Py 0 g:=⟨iu (fun z=>by have:=hg.pos;rw[z]at this;exact absurd this (by decide)) (by rw[hg.one];decide),fun x _=>aZ x⟩;have hLp:=hL.pos;have hgp:=hg.pos;refine⟨g,L,hL,hLy,hKL,hall,by omega,fun k=>by rw[hE',dY],hg,hgP,?_,⟨co L,L.length,Fs.co L,fun k=>by rw[hE',dY]⟩,?_,fun h hh h1 h2=>?_,fun p s hp hN hs h1 h2=>?_⟩
 ·have:=QG Dom.zero (by decide) hL (fun k=>aZ _) hKL hall
  rwa [aZ]at this
 ·obtain⟨s,n,hs,e⟩:=(keepsP hP hK L).mp hKL;refine⟨s,n,hs,Dr hL (Eh P a) (hs.cv (Fs.co g)) fun k=>?_⟩;rw[dY,e k,bV];exact congrArg (tk 0) (gh (fun _ _=>rfl) fun i _=>hE' i)
 ·obtain⟨A,hA,hAy,hAl,hAe⟩:=qG (b:=0) rfl hP hh h1;obtain⟨B,nB,hB,hBe⟩:=h2;have hKA:Kp 0 A a:=(keepsP hP hK A).mpr ⟨B,nB,hB,fun k=>by
   have e1:tk 0 (cv (co A) (tp P a) k)=tk 0 (cv (co A) (cv B (co h)) k):=jy (fun _ _=>rfl) fun i _=>hBe i;have e2:tk 0 (cv B (co P) k)=tk 0 (cv B (cv (co A) (co h)) k):=jy (fun _ _=>rfl) fun i _=>hAe i;rw[e1,e2,<-bV,<-bV];exact congrArg (tk 0) (gh (fun i _=>dY ..) fun _ _=>rfl)⟩
  obtain⟨C,nC,hC,hCe⟩:=hall A hKA;refine⟨C,nC,hC,Dr hL (Fs.co g) (hC.cv (Fs.co h)) fun k=>?_⟩;rw[<-hE',hAe k,jy (fun i _=>hCe i) fun _ _=>rfl,bV,bV];exact congrArg (tk 0) (gh (fun _ _=>rfl) fun i _=>dY ..)
 ·have hp2:=hp.1;have hp1:tk (p:Int) 1=1:=by rw[fZ (by omega)];exact Int.emod_eq_of_lt (by decide) (by omega)
  obtain⟨A,hA,hAy,hAl,hAe⟩:=qG (b:=p) hp1 hP hs h1;obtain⟨B,nB,hB,hBe⟩:=h2;have hKp:Kp p P a:=fun n=>by have:=hK n;rw[aZ]at this;rw[this,tk0]
  have hKA:Kp p A a:=(keepsP hP hKp A).mpr ⟨B,nB,hB,fun k=>by
   have e1:tk p (cv (co A) (tp P a) k)=tk p (cv (co A) (cv B (co s)) k):=jy (fun _ _=>rfl) fun i _=>hBe i;have e2:tk p (cv B (co P) k)=tk p (cv B (cv (co A) (co s)) k):=jy (fun _ _=>rfl) fun i _=>hAe i;rw[e1,e2,<-bV,<-bV];exact congrArg (tk p) (gh (fun i _=>dY ..) fun _ _=>rfl)⟩
  by_cases c:A.length<=L.length-1
  ·exfalso
   have z:=DW (Dom.pr hp) (fun z=>hN (fH.mp z)) c hKA (A.length-1);rw[hA.one,hp1]at z;exact absurd z (by decide)
  ·omega
end Pm
namespace Pm
open Rm Dm
theorem vQ{p:Int}(hp:p≠0){x y:Int}:tk p x=tk p y↔p∣x-y:=by
 rw[<-dZ,fH];exact⟨fun⟨e,h⟩=>⟨e,h⟩,fun⟨e,h⟩=>⟨e,h⟩⟩
theorem Jq{p:Nat}(hp:Om.cH p):tk (p:Int) 1=1:=by
 have:=hp.1;rw[fZ (by omega)];exact Int.emod_eq_of_lt (by decide) (by omega)
theorem Dv.same{b:Int}(h1:tk b 1=1){m p:List Int}(hm:Mon m)(hp:Mon p)(h:Dv b m (co p))(hl:m.length=p.length)(k:Nat):tk b (co p k)=tk b (co m k):=by
 obtain⟨L,hL,_,hlen,e⟩:=qG h1 hp hm h;have hm0:=hm.pos;have h2:L.length=1:=by omega
 have e0:co L 0=1:=by have:=hL.one;rwa [h2]at this
 rw[e k];refine congrArg (tk b) ?_;rw[gZ,fG (m:=1) (by omega) fun j h3 _=>by rw[bJ (p:=L) (by omega),Int.zero_mul]];simp[sm,e0]
structure Seen(g:List Int)(N:Int)(p:Nat)(s:List Int):Prop where
 mon:Mon s
 nu:∀k,tk (p:Int) (co s k)=co s k
 ge:g.length<=s.length
 eq:s.length=g.length->∀k,(p:Int)∣co s k-co g k
 good:¬(p:Int)∣N->s.length=g.length
theorem In2.to{b:Int}{g p q:List Int}(h:In2 b g [] p)(e:∀k,tk b (co p k)=tk b (co q k)):Dv b g (co q):=by
 obtain⟨u,h⟩:=h.dv;exact⟨co u,u.length,Fs.co u,fun k=>by rw[<-e,h]⟩
theorem GcZ.seen{P t g:List Int}{N:Int}(h:GcZ P (co t) g N){p:Nat}(hp:Om.cH p){P' t' s:List Int}(eP:∀k,tk (p:Int) (co P' k)=tk p (co P k))(et:∀k,tk (p:Int) (co t' k)=tk p (co t k))(hs:Gcd p P' t' s):Seen g N p s:=by
 have h2:=hp.1;have h1:=Jq hp;have d1:Dv p s (co P):=hs.one.to eP;have d2:Dv p s (co t):=hs.two.to et;have d3:Dv p g (co s):=by
  obtain⟨u,v,e⟩:=hs.sum;refine((((h.one.by (b:=p))).mul (Fs.co u)).add ((h.two.by (b:=p)).mul (Fs.co v))).congr fun k=>?_;rw[e];exact aY (jy (fun _ _=>rfl) fun i _=>(eP i).symm) (jy (fun _ _=>rfl) fun i _=>(et i).symm)
 have hge:=d3.len h1 h.mon hs.mon;exact⟨hs.mon,hs.py.co,hge,fun e k=>(vQ (by omega)).mp (d3.same h1 h.mon hs.mon e.symm k),fun z=>by
  have:=h.good p s hp z hs.mon d1 d2;omega⟩
theorem GcZ.told{P t g h:List Int}{N:Int}(H:GcZ P (co t) g N)(hh:Mon h)(h1:Dv 0 h (co P))(h2:Dv 0 h (co t))(hl:g.length<=h.length):h=g:=by
 have d:=H.all h hh h1 h2;have:=d.len rfl hh H.mon;exact nQ (by omega) fun k=>by have:=d.same rfl hh H.mon (by omega) k;rw[aZ,aZ]at this;exact this.symm
def nr(M x:Int):Int:=if 2*(x%M)>M then x%M-M else x%M
def Nr(M x:Int):Prop:=-M<2*x/\2*x<=M
theorem DG(M x:Int):M∣nr M x-x:=by
 have e:=Int.emod_add_mul_ediv x M;unfold nr;split
 ·exact⟨-(x/M)-1,by rw[Int.mul_sub,Int.mul_neg];omega⟩
 ·exact⟨-(x/M),by rw[Int.mul_neg];omega⟩
theorem B3{M:Int}(hM:0<M)(x:Int):Nr M (nr M x):=by
 have h0:=Int.emod_nonneg x (show M≠0 by omega);have h1:=Int.emod_lt_of_pos x hM;unfold nr Nr;split<;>omega
theorem Nr.eq{M x y:Int}(hM:0<M)(hx:Nr M x)(hy:Nr M y)(h:M∣x-y):x=y:=by
 obtain⟨c,hc⟩:=h;unfold Nr at hx hy;by_cases c0:c=0
 ·rw[c0,Int.mul_zero]at hc;omega
 ·exfalso
  rcases Int.lt_or_gt_of_ne c0 with l|l
  ·have:M*c<=M*(-1):=Int.mul_le_mul_of_nonneg_left (by omega) (by omega);omega
  ·have:M*1<=M*c:=Int.mul_le_mul_of_nonneg_left (by omega) (by omega);omega
theorem R8{M:Int}(hM:2<=M){x:Int}(h:M∣x-1):nr M x=1:=Nr.eq (M:=M) (by omega) (B3 (by omega) x) (by unfold Nr;omega) (by
 have:=Int.dvd_add (DG M x) h
 rwa [show nr M x-x+(x-1)=nr M x-1 by omega]at this)
theorem xq{M:Int}{p:Nat}(hp:Om.cH p)(hM:¬(p:Int)∣M){x:Int}(h1:M∣x)(h2:(p:Int)∣x):M*p∣x:=by
 obtain⟨y,rfl⟩:=h1;rcases pD hp h2 with z|⟨e,he⟩
 ·exact absurd z hM
 ·exact⟨e,by rw[he,Int.mul_assoc]⟩
structure WgI(P g:List Int)(N:Int)(told:List Int)(M:Int)(prime:Nat)(ripe:Bool)(bad good:Nat):Prop where
 mon:Mon told
 ge:g.length<=told.length
 le:told.length<=P.length
 pos:0<M
 div:∀q:Nat,Om.cH q->(q:Int)∣M->q<=prime
 ZK:told.length=g.length->∀k,M∣co told k-co g k
 near:M≠1->∀k,Nr M (co told k)
 Rb:∃X:Nat,(X:Int)∣N/\2^(19*bad)<=X/\∀q:Nat,Om.cH q->q∣X->q<=prime
 G8:0<good->told.length=g.length/\2^(19*good)<=M
 Ud:2<=good->(∀k,2*(co g k).natAbs<2^(19*(good-1)))->ripe=true/\told=g
 hi:M<=2^(21*(bad+good))
 first:M=1->told=P
theorem WgI.start{P g:List Int}{N:Int}(hP:Mon P)(hl:g.length<=P.length)(prime:Nat):WgI P g N P 1 prime true 0 0:=
 ⟨hP,hl,Nat.le_refl _,by decide,fun q hq h=>by
  have:=hq.1;have h3:=Int.le_of_dvd (by decide) h;omega,fun _ k=>⟨_,(Int.one_mul _).symm⟩,fun h=>absurd rfl h,⟨1,⟨N,(Int.one_mul N).symm⟩,by decide,fun q hq h=>by
  have:=hq.1;have h3:=Nat.le_of_dvd (by decide) h;omega⟩,fun h=>absurd h (by decide),fun h=>absurd h (by decide),by decide,fun _=>rfl⟩
theorem uo{N:Int}{prime p bad:Nat}(hp:Om.cH p)(hlt:prime<p)(hbig:2^19<=p)(hN:(p:Int)∣N)(h:∃X:Nat,(X:Int)∣N/\2^(19*bad)<=X/\∀q:Nat,Om.cH q->q∣X->q<=prime):
  ∃X:Nat,(X:Int)∣N/\2^(19*(bad+1))<=X/\∀q:Nat,Om.cH q->q∣X->q<=p:=by
 obtain⟨X,h1,h2,h3⟩:=h;refine⟨X*p,?_,?_,fun q hq hd=>?_⟩
 ·have:=xq (M:=(X:Int)) hp (fun z=>by have:=h3 p hp (Int.ofNat_dvd.mp z);omega) h1 hN
  rwa [Int.natCast_mul]
 ·rw[Nat.mul_add,Nat.pow_add];exact Nat.mul_le_mul h2 hbig
 ·rcases hq.dvd hd with z|z
  ·have:=h3 q hq z;omega
  ·exact Nat.le_of_dvd (by omega) z
theorem WgI.stay{P g told s:List Int}{N M:Int}{prime p bad good:Nat}{ripe:Bool}(h:WgI P g N told M prime ripe bad good)(hp:Om.cH p)(hlt:prime<p)(hbig:2^19<=p)(hs:Seen g N p s)(hl:told.length<s.length):WgI P g N told M p ripe (bad+1) good:=by
 have hN:(p:Int)∣N:=Classical.byContradiction fun z=>by have:=hs.good z;have:=h.ge;omega
 exact⟨h.mon,h.ge,h.le,h.pos,fun q hq hd=>by have:=h.div q hq hd;omega,h.ZK,h.near,uo hp hlt hbig hN h.Rb,h.G8,h.Ud,Int.le_trans h.hi (by
  have:(2:Nat)^(21*(bad+good))<=2^(21*(bad+1+good)):=Nat.pow_le_pow_right (by decide) (by omega)
  exact_mod_cast this),h.first⟩
theorem WgI.anew{P g told s:List Int}{N M:Int}{prime p bad good:Nat}{ripe:Bool}(h:WgI P g N told M prime ripe bad good)(hp:Om.cH p)(hlt:prime<p)(hbig:2^19<=p)(hhi:p<=2^21)(hs:Seen g N p s)(hl:s.length<told.length):
  ∃GX uH,GX+uH=bad+good+1/\WgI P g N (s.map (nr p)) p p true GX uH:=by
 have hp2:=hp.1;have hg0:good=0:=by
  by_cases c:good=0
  ·exact c
  ·have:=(h.G8 (by omega)).1;have:=hs.ge;omega
 have hle:=h.le;have hsp:=hs.mon.pos;have hpp:(2:Int)<=p:=by omega
 have hc:∀k,co (s.map (nr p)) k=nr p (co s k):=fun k=>sU (by unfold nr;rw[Int.zero_emod];split<;>omega) s k;have hm:Mon (s.map (nr p)):=⟨by rw[List.length_map];exact hsp,by rw[List.length_map,hc,hs.mon.one];exact R8 hpp ⟨0,by rw[Int.mul_zero];rfl⟩⟩;have El:(s.map (nr p)).length=g.length->∀k,(p:Int)∣co (s.map (nr p)) k-co g k:=fun e k=>by
  rw[hc];have:=Int.dvd_add (DG p (co s k)) (hs.eq (by rwa [List.length_map]at e) k)
  rwa [show nr p (co s k)-co s k+(co s k-co g k)=nr p (co s k)-co g k by omega]at this
 have hnear:(p:Int)≠1->∀k,Nr p (co (s.map (nr p)) k):=fun _ k=>by rw[hc];exact B3 (by omega) _
 have hdiv:∀q:Nat,Om.cH q->(q:Int)∣p->q<=p:=fun q _ hd=>Nat.le_of_dvd (by omega) (Int.ofNat_dvd.mp hd);by_cases c:s.length=g.length
 ·refine⟨bad,1,by omega,hm,by rw[List.length_map];exact hs.ge,by rw[List.length_map];omega,by omega,hdiv,El,hnear,?_,fun _=>⟨by rw[List.length_map];exact c,by exact_mod_cast hbig⟩,fun z=>absurd z (by decide),?_,fun z=>by omega⟩
  ·obtain⟨X,h1,h2,h3⟩:=h.Rb;exact⟨X,h1,h2,fun q hq hd=>by have:=h3 q hq hd;omega⟩
  ·have:(2:Nat)^21<=2^(21*(bad+1)):=Nat.pow_le_pow_right (by decide) (by omega)
   exact_mod_cast Nat.le_trans hhi this
 ·have hN:(p:Int)∣N:=Classical.byContradiction fun z=>c (hs.good z);refine⟨bad+1,0,by omega,hm,by rw[List.length_map];exact hs.ge,by rw[List.length_map];omega,by omega,hdiv,El,hnear,uo hp hlt hbig hN h.Rb,fun z=>absurd z (by decide),fun z=>absurd z (by decide),?_,fun z=>by omega⟩;have:(2:Nat)^21<=2^(21*(bad+1+0)):=Nat.pow_le_pow_right (by decide) (by omega)
  exact_mod_cast Nat.le_trans hhi this
theorem WgI.join{P g told s lW:List Int}{N M:Int}{prime p bad good:Nat}{ripe Qi:Bool}(h:WgI P g N told M prime ripe bad good)(hp:Om.cH p)(hlt:prime<p)(hbig:2^19<=p)(hhi:p<=2^21)(hs:Seen g N p s)(hl:s.length=told.length)
  (hl':lW.length=told.length) (ht:∀k,k<told.length->∃w:Int,(p:Int)∣M*w-(co s k-co told k)/\co lW k=nr (M*p) (co told k+M*w)) (hr:Qi=true↔lW=told):
  ∃GX uH,GX+uH=bad+good+1/\WgI P g N lW (M*p) p Qi GX uH:=by
 have hp2:=hp.1;have hM:=h.pos;have hpM:¬(p:Int)∣M:=fun z=>by have:=h.div p hp z;omega
 have hpp:(2:Int)<=p:=by omega
 have hMp:(2:Int)<=M*p:=by
  have:1*(2:Int)<=M*p:=Int.mul_le_mul (by omega) hpp (by decide) (by omega);omega
 have hle:=h.le;have hge:=h.ge;have htp:=h.mon.pos;have a1:∀k,M∣co lW k-co told k:=fun k=>by
  by_cases c:k<told.length
  ·obtain⟨w,_,e⟩:=ht k c;rw[e];have e1:M∣nr (M*p) (co told k+M*w)-(co told k+M*w):=Int.dvd_trans (Int.dvd_mul_right M p) (DG _ _);have e2:M∣M*w:=Int.dvd_mul_right ..;have:=Int.dvd_add e1 e2
   rwa [show nr (M * ↑p) (co told k+M*w)-(co told k+M*w)+M*w=nr (M * ↑p) (co told k+M*w)-co told k by omega]at this
  ·rw[bJ (by omega),bJ (by omega)];exact⟨0,by rw[Int.mul_zero];rfl⟩
 have a2:∀k,(p:Int)∣co lW k-co s k:=fun k=>by
  by_cases c:k<told.length
  ·obtain⟨w,h1,e⟩:=ht k c;rw[e];have e1:(p:Int)∣nr (M*p) (co told k+M*w)-(co told k+M*w):=Int.dvd_trans (Int.dvd_mul_left M p) (DG _ _);have:=Int.dvd_add e1 h1
   rwa [show nr (M * ↑p) (co told k+M*w)-(co told k+M*w)+(M*w-(co s k-co told k))=nr (M * ↑p) (co told k+M*w)-co s k by omega]at this
  ·rw[bJ (by omega),bJ (by omega)];exact⟨0,by rw[Int.mul_zero];rfl⟩
 have hnear:M*p≠1->∀k,Nr (M*p) (co lW k):=fun _ k=>by
  by_cases c:k<told.length
  ·obtain⟨w,_,e⟩:=ht k c;rw[e];exact B3 (by omega) _
  ·rw[bJ (by omega)];unfold Nr;omega
 have VZ:co lW (lW.length-1)=1:=by
  rw[hl'];refine Nr.eq (M:=M*p) (by omega) (hnear (by omega) _) (by unfold Nr;omega) (xq hp hpM ?_ ?_)
  ·have:=a1 (told.length-1)
   rwa [h.mon.one]at this
  ·have:=a2 (told.length-1);have e:=hs.mon.one;rw[hl]at e
   rwa [e]at this
 have hm:Mon lW:=⟨by omega,VZ⟩;have hdiv:∀q:Nat,Om.cH q->(q:Int)∣M*p->q<=p:=fun q hq hd=>by
  rcases pD hq hd with z|z
  ·have:=h.div q hq z;omega
  ·exact Nat.le_of_dvd (by omega) (Int.ofNat_dvd.mp z)
 have El:lW.length=g.length->∀k,M*p∣co lW k-co g k:=fun e k=>by
  refine xq hp hpM ?_ ?_
  ·have:=Int.dvd_add (a1 k) (h.ZK (by omega) k)
   rwa [show co lW k-co told k+(co told k-co g k)=co lW k-co g k by omega]at this
  ·have:=Int.dvd_add (a2 k) (hs.eq (by omega) k)
   rwa [show co lW k-co s k+(co s k-co g k)=co lW k-co g k by omega]at this
 have hhi':∀x,x=bad+good+1->M*p<=2^(21*x):=fun x hx=>by
  rw[hx,show 21*(bad+good+1)=21*(bad+good)+21 by omega,Int.pow_add];exact Int.mul_le_mul h.hi (by exact_mod_cast hhi) (by omega) (Int.le_of_lt (Int.pow_pos (by decide)))
 by_cases c:s.length=g.length
 ·refine⟨bad,good+1,by omega,hm,by omega,by omega,by omega,hdiv,El,hnear,?_,fun _=>⟨by omega,?_⟩,fun h2 hb=>?_,hhi' _ (by omega),fun z=>by omega⟩
  ·obtain⟨X,h1,h2,h3⟩:=h.Rb;exact⟨X,h1,h2,fun q hq hd=>by have:=h3 q hq hd;omega⟩
  ·rw[show 19*(good+1)=19*good+19 by omega,Int.pow_add];refine Int.mul_le_mul ?_ (by exact_mod_cast hbig) (by decide) (by omega);by_cases c0:good=0
   ·rw[c0];show(1:Int)<=M;omega
   ·exact(h.G8 (by omega)).2
  ·rw[Nat.add_sub_cancel]at hb;have hgo:=h.G8 (by omega);have hM1:M≠1:=fun z=>by
    rw[z]at hgo;have h3:=hgo.2;have:(2:Int)^(19*1)<=2^(19*good):=by exact_mod_cast Nat.pow_le_pow_right (n:=2) (by decide) (show 19*1<=19*good by omega)
    have:(2:Int)^(19*1)=524288:=by decide
    omega
   have gn:∀k,Nr M (co g k):=fun k=>by
    have h3:=hb k;have h4:=hgo.2;have h5:((2*(co g k).natAbs:Nat):Int)<M:=Int.lt_of_lt_of_le (by exact_mod_cast h3) h4;unfold Nr;omega
   have et:told=g:=nQ hgo.1 fun k=>(h.near hM1 k).eq hM (gn k) (h.ZK hgo.1 k);have gn':∀k,Nr (M*p) (co g k):=fun k=>by
    have h3:=gn k;unfold Nr at h3⊢;have:M*1<=M*p:=Int.mul_le_mul_of_nonneg_left (by omega) (by omega);omega
   have et':lW=g:=nQ (by omega) fun k=>(hnear (by omega) k).eq (by omega) (gn' k) (El (by omega) k);exact⟨hr.mpr (by rw[et',et]),et'⟩
 ·have hN:(p:Int)∣N:=Classical.byContradiction fun z=>c (hs.good z);have hg0:good=0:=by
   by_cases c0:good=0
   ·exact c0
   ·have:=(h.G8 (by omega)).1;omega
  subst hg0;exact⟨bad+1,0,by omega,hm,by omega,by omega,by omega,hdiv,El,hnear,uo hp hlt hbig hN h.Rb,fun z=>absurd z (by decide),fun z=>absurd z (by decide),hhi' _ (by omega),fun z=>by omega⟩
theorem WgI.few{P g told:List Int}{N M:Int}{prime bad good U V:Nat}{ripe:Bool}(h:WgI P g N told M prime ripe bad good)(hN:N≠0)(hV:Bd V N)(hU:∀k,Bd U (co g k))(hne:¬(ripe=true/\told=g)):19*(bad+good)<=V+U+38:=by
 obtain⟨X,h1,h2,_⟩:=h.Rb;have b1:19*bad<=V:=by
  have h3:=Nat.le_of_dvd (by omega) (u0.mp h1);have h4:2^(19*bad)<2^V:=Nat.lt_of_le_of_lt (Nat.le_trans h2 h3) hV;have:=(Nat.pow_lt_pow_iff_right (by decide:1<2)).mp h4;omega
 have b2:19*good<=U+38:=by
  by_cases c:2<=good
  ·by_cases d:∀k,2*(co g k).natAbs<2^(19*(good-1))
   ·exact absurd (h.Ud c d) hne
   ·obtain⟨k,hk⟩:=Classical.not_forall.mp d;have h3:(co g k).natAbs<2^U:=hU k;have h4:2^(19*(good-1))<2^(U+1):=by rw[Nat.pow_succ];omega
    have:=(Nat.pow_lt_pow_iff_right (by decide:1<2)).mp h4;omega
  ·omega
 omega
end Pm
namespace Om
theorem uP{n:Nat}(h2:2<=n)(h:∀d,2<=d->d*d<=n->¬d∣n):cH n:=⟨h2,fun d hd=>by
 by_cases c1:d=1
 ·exact .inl c1
 by_cases c2:d=n
 ·exact .inr c2
 exfalso
 obtain⟨e,he⟩:=hd;have d0:d≠0:=fun z=>by rw[z,Nat.zero_mul]at he;omega
 have e0:e≠0:=fun z=>by rw[z,Nat.mul_zero]at he;omega
 have e1:e≠1:=fun z=>by rw[z,Nat.mul_one]at he;omega
 by_cases c:d<=e
 ·exact h d (by omega) (by rw[he];exact Nat.mul_le_mul_left d c) ⟨e,he⟩
 ·exact h e (by omega) (by rw[he];exact Nat.mul_le_mul_right e (by omega)) ⟨d,by rw[he,Nat.mul_comm]⟩⟩
theorem HX{n d:Nat}(h2:2<=d)(h:d*d<=n)(hd:d∣n):¬cH n:=fun hp=>by
 have:d*2<=d*d:=Nat.mul_le_mul_left d h2;rcases hp.2 d hd with e|e<;>omega
def PR:Nat:=43571519119201362812999826845982751305620981793717429470673603275936152927709399635933610669671466973821241878720715105717436485894379942430461626673440299163796924436746229228614460476842261843714753967609841797025310982960825865753598345091694825344721438391478216968398650913464229700972723456395252658036295111351718208197542229884535562911430701228833268752819967566938433518416018400115565501955319083147587583881953995536441781216694995306260888155507575210
theorem SM:∀d,d<1100->2<=d->Nat.gcd d PR≠1:=by decide +kernel
theorem Hf{n:Nat}(h2:2<=n)(hn:n<1210000)(h:Nat.gcd n PR=1):cH n:=uP h2 fun d hd hdd hdv=>by
 by_cases c:d<1100
 ·refine SM d c hd ?_;have:Nat.gcd d PR∣Nat.gcd n PR:=Nat.dvd_gcd (Nat.dvd_trans (Nat.gcd_dvd_left ..) hdv) (Nat.gcd_dvd_right ..);rw[h]at this;exact Nat.dvd_one.mp this
 ·have:1100*1100<=d*d:=Nat.mul_le_mul (by omega) (by omega);omega
def unp:Nat->Nat->List Nat
 |0,_=>[]
 |k+1,n=>2*(n%64)::unp k (n/64)
def steps:List Nat:=3::([0x20750130318504818904528504f0c23d908c0421c30c218714c28518120a0892411830c218610918224954108f,0x4908d14c10620a1460431880ca08114418618f24b0c70870cf2070810c63870831c2244093141189381141252,0x4504205514d0811431d224b0432c61051030861903830423030c42e41051810c21d42853421c528510e0c90c6,0xc24c528804b0d50460870c32040c204f0841851c204818904308f3433024831083420c31050c31c50c90cc348,0x811441532c13c81030830c40892476020c11441940cd1530cf2031c818108114118f2060c72540436842c10c3,0x9892460420c74850c11410da40314714d24320408418e3c45031c50c40d41865432822413861c308a0e00c7189,0x2413063811473051871490451c22490461491c228324e0450c310320d24504c0cb0c12c41850c32830875c310f,0x4c0c51810812c10812c61c21020c604c0860c10c50421c540230d2070872462c32413990c37855442c1207083,0xc638c0c630414124510b18c04f08414a18248310204810360804624624578708a08a0cc1821890c72c10cb114,0x18c0c60490c63c21c608f1030c31890840c22410c210510504f0931415042c42c72042461881c32c31cb105058,0x1081810cf3095550810890481080cc1c20cd2070860450432c32832040db0c51030831c50c30cc34f7410831c2,0x30304608d2432091870840872c12011413c60833c304308d08108724c48618f2010c24051c50453c40810812c6,0xc33c408408d3023100ce35104b18c1815c11923c30813861c52443872032462834431dd2410c31431843872c3,0xd00c210234c08c04f20604308f10818414130e18708120a2453060c41821030813813c21960834c624f144149,0x1cf0c20c43c318b04e0c61c20ca3027c52412481c60872ca0c224414f0450423031cf8463050c70c6143195102,0x2410c62460870841880ca0811890832471413020c32442431440c50451812430981c91460c12461821860c6186,0x1860811860c53c60490cb1833c108c04c0d404e04b6043c61821c5045303585a051862830c21874862153c124b,0x14424e0c91836c424504908318120730204e3c108a1821060c20c430e3042c778504b0c118e1020c31032c90cd,0x2451c344108119442310e10228608d0861030c20c408f2882864490451033c608f1081c318504b28e1051cc2c7,0x1c31431c62c31c80490c21812451d80c31431c32451c31562031060871833d13013c50451090c50c12451020c1,0x452824861831810c624504f0c26430c23060d51092ca1460481020543c448624224138604805250d0c20c904e,0xc22852460d03810c52853013030836030467410cc1415c40c31440c90c21020c10c86491431c32091062ca209,0x891840cf0890462430890432c43cc20f3060cc1051056ca3021052890cc0c50cc6c71834520461530cf4442c1,0x18204b0cc1021c20ca14118b2820461502040c30831ce18a09614d2030453453030c31c51060cc0871431d5081,0x10810e10c1461c57831c330210b0491430c71410833d63023460841461092463031410c30860430cc0c510b6c7,0x3c108310330c2420c11410830c13890c718e0c30460813092c31110490c84862850cd20618d4432860c30c6149,0x1492461833040c82430d21cc14114c0d60c529b08a0c81861c80c408144108c0420c10c61410c534920c04e042,0x4052460c33070c224a25518308108114c2431d40420424931940430ce10510218d0840c53c61832880d3141546,0x14a2c628354308904b0c43060811411461c204e04324234308f34324218a0c22530873c224610518a0c320c306,0x3c25830c518418b2411430430cf39524318611808408718f14f1c23010818c70c60c66892411412d61553031c3,0xc22442c30d21020452430460c644414418614c0c310210518424624528c20d3841440c23033cc241141246306,0x2410830642451830460c21d12860872c90434473050c62411502451033020ca0c920c0420c71500870cc2c10c3,0x1863830c70891843c230c3c10830e20c20421c835404b1051870c31441863891c348204b0452413cc086109386,0x1861471431123c80cc24138d0810861900c210944d1413c620a2460841442451c504f3c828230118540204c081,0x1440983c305134909c0811440cf14a1851030c50541061820c30451091822430c31082535043c6546083241081,0x4228b0451020c42091871824c51061850c63420e11c518124618218148528f0ce0cd08618115b0460c83ca201,0x28c09014a2c10c61430420c13c320714310b3012c904608a4850ca44448308d2041431032070c308918310344c,0x48c0835850cf0c12073c80ca2040c31440cc08414120a2d308125218e0c42495450451835440845450d60cb0c6,0x24150425d1954032426010c61411853c44820c72101880451c90c20481c810504654530714414119254e282241,0x830433c20cf18618318408708f0cd0830c918f1c80460cc0833071850c708c04318518418e34614905428c482,0x5110908a1440c22830c31470813830c60c70c204c0830c420161110540638a1430422820ca0d40450d51c3381,0x2093100cb0421c80c438f0450421811851c30c228c0893c150124321231e30118b0c40830c91056031060813ce,0x18c1c31433c70c231030f2093061c20cc0c11533060810841820c92441824812d80c118b2410c51c9485181141,0x30408420a0813863013021c309030c51314904914d6051020c90c42451081c338a0c204804b1c20ca089241245,0x2c43c308a2c13c30c91410c22581810c62460d124c0c91c32c660a2c10860451021061432820c408124314f285,0x3462453040c30dd04228234824d0832910c414430308d15b1050451c308a18620a8c31034410cb0c660118b0c4,0x10308120114d3050ca0c53073862445c41440930c20c13080430863c72045423420461412092832061871470c8,0x1432824021034410d14810c80c72453ca54920718804e1813020421870d818231060308610350d0831c8049383,0x44138408a0c5247188a8420604320304318b0c61022411410cb10b28f0c614a0836c70c914a0cf68714328c099,0x480494410860461430452440d26842c408414f10510608c0c31030831c20432c12075c60432d02012101491c3,0x4c224a1442c63c61c22830c21860cf0c42ca0cf3812453014430c40833060c748504b0d83031c60c2243046206,0x921861052892cd3031430d80461411470c354309024918638910218c04b4810842013c90c2544141183084083,0x430c228b24a0c92c90420423c718510618518768c1093861830467440841440c20d21c204b0d23061d2189381,0x10f2c31033860c41821c30961410861c52851080c30460c614348318d1890931892c304b04c0861030810dd0c3,0x3c240210330314d0812c30c33c90492031050cd3c54c21891021032c13811831411410833c448c1433421c53c6,0x4309e0d00842010894050c970258918524148c1414862061051874411850421c32070c954218118204c24e181,0x1441882411500c824424828f0872032850c68851c30890481ce04510b3c42d31414470c22412422610c904f086,0x2c91065431461c81050450490870817413841832c610614160e1830cd2430810890c114c1053c1308243042106,0x4c21032ca3831c21060c504615015e1c540228308744924654108a09914109e1810c81c20451051052860d2081,0x831051870830462c420d60348824c1842490c204e0420c11881021870c318818a3961460c118528510b10314c,0x18310314d3860430900cb04819c08d18524118b1c51950433810840c30830c624934f14a08108730818408f286,0xc61440cf84228204211d04524c1050420ca2064860464414433c408d0810831e92893d41c33c80c118314f309,0x8910620a2c119208424210b1c51c53c124510b1090863c41911c30890460c52860c20d21091411520c418c507,0x40b1c615050108610b40314108f2821861873d12920c20451c20551431cb0c70a80810c61460c11500c5243253,0xed4830845061050451c314394c0830451c318524118308a0c63870c92c738910b10204c483141983103084083,0xc32452460451c33891034432880450cf18408334308318305110608c0c60451050525491860c5283086049084,0xc30cc3063811894440c50c418810218d25104314905404b30108c3c31c324b3120ca0890d9146183592141093,0xc11440cc0c33031412c330730308419208a2011440813863461461032031c21870861862442463c20c9309781,0x10b1870920490ce18c0d21c21c31501852860c92c43c20cf1c34490465042490c21c51840cb2862060450ca54b,0x8108d1472092470c50481890c340614708d2cc34e1814822490c714124308c0482854c204570524108a0db206,0x3cf3cb2460421860c31c20481062450c310308718f0813090d208714924a08f0c108c18114d20c0c42c324c109,0x10314a14108718c14c1ce1c53c310c18e0421c38032851c32c40810cf0841881843031883420c304f1850c1210,0x4c50cd0c60c51870c91411831820c10cb1054090861032031c534914d0cf1440890458820c43c2247147152246,0x1111c234f18e0c720714f0c31c510318531324b0c11861431c918c5011491c66c80e80842c420144768c108042,0x38d20904e1831834093c50580ce60745524610c1550c10c320604924c3020c118b1061441463422430c4183242,0x4083cf04b0c61021890433872c418c0831c51061413812090423420c12ca3c218160c0c21c504e54148314d147,0x1891870810814430431430c904b0450c41501471441441884061851030864840c31832c90c31030861c914124e,0xc84c36c62462450c34051050483120d32060463c204248a08c0c92410c60833c60c31d50831812432c73c914f,0x14f3061030c530738430638108610c1523095821860c33031035c44920812c90481c60c22410812c6282045043,0x5450c42c40c38071460452863020c31032070861c80c77412010cb5821c93cb0cc1024810c3482105102109087,0x2421093cc0861840890513cc24708c1841856c70c31490c71460c10d524228320418f0cb18a08c10e0c92442c1,0x420420c42071952490c20492cc24a1921891831473811834441850c60433c20c72481c914708c0450c73860c1,0x4840843031983021860450c750310c2420cf04308108131704510b18954904314610b04e04c0c308c1c3182486,0x6873c21023cd1473c20ca3842c30c31030811440c23450c14821051810d52075421890d60811440c518f181386,0x430871431c60832892c10c30cb2861430480c42423c40c50451c20c424b2530c324c0c61412c40cb0480420c1,0x1022860cb0421c510230138720610204234218c0c114415b0c40cc4834440c62cd0891083071881200c12d3545,0xc40c23063630450c718c0c51c23603c918144324408438720a0872071890922861412015062410cb1025442c3,0x24408424f0c20451c21c518421b0432c40870c20462511050c30c10c61443cf2db2820c78c32971811440c2405,0x3021020ca24b24f04f14138114628920604858608131208a3020c31c534818120f1c33c60c504e04f147248282,0xc20450c60c33421038c11500c204314414c0c130534b34518138418e0d31410c52473c504524304e711184081,0xcb04930830318610308a0c518408a18344318144714a2420cf1c50c10c218310f1411830950c40c80460812ca,0x1880492c330328b04834c14628230310314108f1030c318518310f2181930c548a2011413813020c11440c2181,0x14d14115c0c324618924834b28630348e4021c51c51092031140421cb1c54870c62c330c0d30c3081302187087,0x1c308304c20139318210510228338d08124f0891c204b0cf0451051811850c709044448b04344f18438420d243,0xc21050ca1850481872040c51140ca0843020c904f2432031841442076cf2cf2496c30431431c205106a0cb288,0x1831891461870813120cf1412421c210620c3c40890cf04510b1c92071412451831c32c92431cc20a0cc203103,0x3c10872101412060450c70cf3c30c62420ca1410c210b0c324d3c324b0c10c30871431cb1060831c33020453c4,0xcc0861813c20c30457051c30c204b0492451c558504e0491430c15430832430c40c30870c20c448f08918144c,0xc51020c118f0c20d22820d20540491831500cf14a0840831032041411411460c12ca0d854e18c486187444147].flatMap (unp 60)++unp 59 0x10872c33040c224174a1683082470c314424b1891090c21810d404248c2821cf1820421093c258f1412c6106)
def Kv:Nat->List Nat->Bool
 |_,[]=>true
 |c,d::r=>match decide (0<d)&&(decide (c+d<1210000)&&Nat.beq (Nat.gcd (c+d) PR) 1)with
  |true=>Kv (c+d) r
  |false=>false
theorem Qs:Kv 1000000 steps=true:=by decide +kernel
theorem Gf:steps.length=6000:=by decide +kernel
inductive Many:Nat->Nat->Prop
 |none (c:Nat):Many 0 c
 |more {k c q:Nat}:cH q->c<q->q<1210000->Many k q->Many (k+1) c
theorem Gg:∀(l:List Nat) (c:Nat),2<=c->Kv c l=true->Many l.length c
 |[],c,_,_=> .none c
 |d::r,c,h2,h=>by
  rw[Kv]at h;split at h
  ·rename_i e
   obtain⟨e1,e2⟩:=Bool.and_eq_true_iff.mp e;obtain⟨e2,e3⟩:=Bool.and_eq_true_iff.mp e2;have h1:=of_decide_eq_true e1;have h3:=of_decide_eq_true e2;exact .more (Hf (by omega) h3 (Nat.eq_of_beq_eq_true e3)) (by omega) h3 (Gg r (c+d) (by omega) h)
  ·exact absurd h (by decide)
theorem many:Many 6000 1000000:=by
 have:=Gg steps 1000000 (by decide) Qs
 rwa [Gf]at this
theorem Many.down{k c c':Nat}(h:Many k c)(hc:c'<=c):Many k c':=by
 cases h with
 |none=>exact .none _
 |more h1 h2 h3 h4=>exact .more h1 (by omega) h3 h4
theorem Many.next{k c:Nat}(h:Many (k+1) c):∃q,cH q/\c<q/\q<1210000/\∀p,p<=q->Many k p:=by
 cases h with
 |more h1 h2 h3 h4=>exact⟨_,h1,h2,h3,fun p hp=>h4.down hp⟩
theorem cH.xU{p:Nat}{a:Int}(h:cH p)(h0:0<a)(ha:a<(p:Int)):a^(p-1)%(p:Int)=1:=by
 obtain⟨n,rfl⟩:∃n:Nat,a=(n:Int):=⟨a.toNat,by omega⟩;have:=h.SY (a:=n) (by omega) (by omega);have e:((n^(p-1)%p:Nat):Int)=((1:Nat):Int):=by rw[this]
 rw[Int.natCast_emod,Int.natCast_pow]at e;exact e
end Om
namespace Pm
open Rm
theorem Ho{P:Nat}(hP:Om.cH P){p:List Int}(hp:Py P p)(hn:p≠[]):xK P p (gW P p):=by
 have h2:=hP.1;have hpos:0<p.length:=List.length_pos_iff.mpr hn;have hP0:(P:Int)≠0:=by omega
 have tkP:∀n,tk (P:Int) n=n%(P:Int):=fun n=>fZ hP0 n;have l0:=uh hn hp.tr;have l1:=hp.co (p.length-1);rw[tkP]at l1;have r0:0<=co p (p.length-1):=by rw[<-l1];exact Int.emod_nonneg _ hP0
 have r1:co p (p.length-1)<(P:Int):=by rw[<-l1];exact Int.emod_lt_of_pos _ (by omega)
 generalize hl:co p (p.length-1)=a at l0 r0 r1;have hinv:(a^(P-2)*a)%(P:Int)=1:=by
  rw[<-Int.pow_succ,show(P-2).succ=P-1 by omega];exact hP.xU (by omega) r1
 have e:∀k,co (gW P p) k=co p k*a^(P-2)%(P:Int):=fun k=>by
  rw[gW,sU (by simp),hl]
 have len:(gW P p).length=p.length:=by rw[gW,List.length_map]
 have top:co (gW P p) ((gW P p).length-1)=1:=by
  rw[len,e,hl,Int.mul_comm];exact hinv
 have hm:gW P p≠[]:=fun z=>by rw[z]at len;simp at len;omega
 refine⟨⟨iu hm (by rw[top];decide),fun x hx=>?_⟩,len,fun _=>⟨by omega,top⟩,⟨a^(P-2),fun k=>?_⟩,⟨a,fun k=>?_⟩⟩
 ·obtain⟨y,_,rfl⟩:=List.mem_map.mp hx;rw[tkP];exact Int.emod_emod_of_dvd _ (Int.dvd_refl _)
 ·rw[e,tkP,tkP,Int.emod_emod_of_dvd _ (Int.dvd_refl _),Int.mul_comm]
 ·rw[e,tkP,tkP,Int.mul_emod a,Int.emod_emod_of_dvd _ (Int.dvd_refl _),<-Int.mul_emod,Int.mul_left_comm a,Int.mul_comm a,Int.mul_emod,hinv];rw[Int.mul_one,Int.emod_emod_of_dvd _ (Int.dvd_refl _)]
theorem PL{P:Nat}(hP:Om.cH P){one other:Int}(h0:0<other)(h:other<(P:Int)):(P:Int)∣other*(one*other^(P-2)%(P:Int))-one:=by
 have h2:=hP.1;have hinv:(other^(P-2)*other)%(P:Int)=1:=by
  rw[<-Int.pow_succ,show(P-2).succ=P-1 by omega];exact hP.xU h0 h
 have h1:(1:Int)%(P:Int)=1:=Int.emod_eq_of_lt (by decide) (by omega);refine Int.dvd_of_emod_eq_zero (Int.emod_eq_emod_iff_emod_sub_eq_zero.mp ?_);rw[Int.mul_emod,Int.emod_emod_of_dvd _ (Int.dvd_refl _),<-Int.mul_emod,Int.mul_left_comm,Int.mul_comm other,Int.mul_emod,hinv,Int.mul_one,Int.emod_emod_of_dvd _ (Int.dvd_refl _)]
theorem Uy{b f:Int}{s t:Nat}{l m:List Int}{u v:Nat}(hb:0<=b)(hb1:b<2097152)(hu:21<=u)(hf:Bd u f)(hl:∀k,Bd u (co l k))(hm:∀x∈m,Bd v x)(k:Nat):Bd (u+v+1) (lf b f s t l m k):=by
 unfold lf;split
 ·refine wU hb ((Bd.of (n:=21) (by omega) (by omega)).mono (by omega)) ?_;rw[Int.sub_eq_add_neg];refine Bd.add ((hl k).mono (by omega)) ?_;have:=hf.mul (jD hm (k-s));unfold Bd at this⊢;rw[Int.natAbs_neg];exact this
 ·exact(hl k).mono (by omega)
def jw(M t:Int)(p:Nat)(s:Int):Int:=(tk p (s-t))*(tk p M)^(p-2)%(p:Int)
def jn(M t:Int)(p:Nat)(s:Int):Int:=nr (M*p) (t+M*jw M t p s)
theorem aa4{M t s:Int}{p:Nat}(hp:Om.cH p)(hM:¬(p:Int)∣M):(p:Int)∣M*jw M t p s-(s-t):=by
 have h2:=hp.1;have hp0:(p:Int)≠0:=by omega
 have r0:=Int.emod_nonneg M hp0;have r1:=Int.emod_lt_of_pos M (show(0:Int)<p by omega);have rn:M%(p:Int)≠0:=fun z=>hM (Int.dvd_of_emod_eq_zero z);have h:=PL hp (one:=tk p (s-t)) (other:=M%(p:Int)) (by omega) r1;unfold jw;rw[fZ hp0 M];generalize tk (p:Int) (s-t)*(M%(p:Int))^(p-2)%(p:Int)=w at h;rw[fZ hp0]at h;have e1:(p:Int)∣M*w-M%(p:Int)*w:=by
  rw[<-Int.sub_mul];exact Int.dvd_trans (Int.dvd_self_sub_emod) (Int.dvd_mul_right ..)
 have e2:(p:Int)∣(s-t)%(p:Int)-(s-t):=by
  have:(p:Int)∣(s-t)-(s-t)%(p:Int):=Int.dvd_self_sub_emod;have:=Int.dvd_neg.mpr this
  rwa [Int.neg_sub]at this
 have:=Int.dvd_add (Int.dvd_add e1 h) e2
 rwa [show M*w-M%(p:Int)*w+(M%(p:Int)*w-(s-t)%(p:Int))+((s-t)%(p:Int)-(s-t))=M*w-(s-t)by omega]at this
theorem Kc{M t s:Int}{p:Nat}(hp:Om.cH p):0<=jw M t p s/\jw M t p s<p:=by
 have h2:=hp.1;exact⟨Int.emod_nonneg _ (by omega),Int.emod_lt_of_pos _ (by omega)⟩
theorem Div.dv{b:Int}{P M q r:List Int}(h:Div b P M q r)(hM:Mon M):r=[]↔Dv b M (co P):=by
 constructor
 ·rintro rfl;exact⟨co q,q.length,Fs.co q,fun k=>by rw[<-h.eq k,eO,Int.add_zero]⟩
 ·intro d;have e:Dv b M (co r):=(d.sub (Dv.self (b:=b) (m:=M) (Fs.co q))).congr fun k=>by
   have e1:tk b (co P k + -cv (co q) (co M) k)=tk b ((cv (co q) (co M) k+co r k) + -cv (co q) (co M) k):=aY (h.eq k).symm rfl;rw[show co P k-cv (co q) (co M) k=co P k + -cv (co q) (co M) k by omega,e1];exact congrArg (tk b) (by omega)
  have z:=e.short hM ((Fs.co r).mono (by have:=h.short;omega));rw[<-h.ry.tr];exact tU.mpr fun k=>by rw[<-h.ry.co k];exact z k
end Pm
namespace Pm
open Rm Dm
theorem vW{n:Nat}{x:Int}(h:Bd n x):Bd n (-x):=by unfold Bd at h ⊢;rw[Int.natAbs_neg];exact h
end Pm
namespace Pm
open Rm Dm
theorem Qw{f:Nat->Int}{n:Nat}(h:Fs f n):∃S:List Int,∀k,co S k=f k:=⟨ofF n f,fun k=>by
 rw[bK];by_cases c:k<n
 ·rw[if_pos c]
 ·rw[if_neg c,h k (by omega)]⟩
theorem Kp.abk{b:Int}{p t:List Int}{f:Nat->Int}(h:Kp b (mul b p t) f):Kp b p (ks t f):=fun n=>by rw[<-HN];exact h n
theorem Kp.Sx{b:Int}{p t:List Int}{f:Nat->Int}(h:Kp b p (ks t f)):Kp b (mul b p t) f:=fun n=>by rw[HN];exact h n
end Pm
namespace Pm
open Rm
def ev(p:List Int)(x:Int):Int:=sm p.length fun k=>co p k*x^k
theorem mL{p:List Int}{n:Nat}(h:p.length<=n)(x:Int):sm n (fun k=>co p k*x^k)=ev p x:=
 fG h fun k h1 _=>by rw[bJ h1,Int.zero_mul]
theorem CQ(x:Int):ev [] x=0:=rfl
theorem Hz(c x:Int):ev [c] x=c:=by
 show 0+co [c] 0*x^0=c;rw[dH,Int.pow_zero,Int.mul_one,Int.zero_add]
abbrev lin(r:Int):List Int:=[0-r,1]
theorem Oq(r:Int):Mon (lin r):=⟨by show 0<2;decide,rfl⟩
theorem Mr(f:Nat->Int)(r:Int):∀k,cv f (co (lin r)) k=(if k=0 then 0 else f (k-1))-r*f k:=fun k=>by
 rw[gZ];cases k with
 |zero=>
  show 0+f 0*co (lin r) 0=_;rw[if_pos rfl,dH,Int.zero_add,Int.mul_sub,Int.mul_zero,Int.mul_comm]
 |succ k=>
  rw[if_neg (Nat.succ_ne_zero _),Nat.add_sub_cancel];rw[sm,Nat.sub_self,sm,show k+1-k=1 by omega];rw[iH fun j hj=>by rw[bJ (p:=lin r) (show 2<=k+1-j by omega),Int.mul_zero]];rw[dH,jN,dH,Int.mul_one,Int.zero_add,Int.mul_sub,Int.mul_zero,Int.zero_sub,Int.mul_comm (f (k+1))];rfl
theorem DQ(f:Nat->Int)(x:Int):∀n,sm (n+1) (fun k=>(if k=0 then 0 else f (k-1))*x^k)=x*sm n fun k=>f k*x^k:=fun n=>by
 rw[dW,if_pos rfl,Int.zero_mul,Int.zero_add,<-bH];refine aB fun k _=>?_;rw[if_neg (Nat.succ_ne_zero _),Nat.add_sub_cancel,Int.pow_succ,Int.mul_comm (x^k) x,<-Int.mul_assoc,<-Int.mul_assoc,Int.mul_comm (f k) x]
theorem Div.ev{p q l:List Int}{r:Int}(h:Div 0 p (lin r) q l)(x:Int):Pm.ev p x=(x-r)*Pm.ev q x+Pm.ev l x:=by
 obtain⟨n,h1,h2,h3⟩:∃n,p.length<=n+1/\q.length<=n/\l.length<=n+1:=⟨p.length+q.length+l.length,by omega,by omega,by omega⟩;rw[<-mL h1 x,<-mL h2 x,<-mL h3 x];have e:∀k,co p k=(if k=0 then 0 else co q (k-1))-r*co q k+co l k:=fun k=>by
  have:=h.eq k;rw[aZ,aZ,Mr]at this;exact this.symm
 rw[aB (g:=fun k=>(if k=0 then 0 else co q (k-1))*x^k+(-r*(co q k*x^k)+co l k*x^k)) fun k _=>?_,cV,cV,DQ,bH]
 ·have e2:sm (n+1) (fun k=>co q k*x^k)=sm n fun k=>co q k*x^k:=by
   rw[sm,bJ h2,Int.zero_mul,Int.add_zero]
  rw[e2,Int.sub_mul,Int.neg_mul];omega
 ·rw[e k,Int.add_mul,Int.sub_mul,Int.neg_mul,Int.mul_assoc];omega
theorem Div.root{p q l:List Int}{r:Int}(h:Div 0 p (lin r) q l):l=[]↔Pm.ev p r=0:=by
 have e:=h.ev r;rw[Int.sub_self,Int.zero_mul,Int.zero_add]at e;have hs:l.length<2:=h.short
 match l,hs,h.ry with
 |[],_,_=>exact⟨fun _=>by rw[e,CQ],fun _=>rfl⟩
 |[c],_,hr=>
  rw[Hz]at e;constructor
  ·intro z;cases z
  ·intro z;rw[e]at z
   exfalso
   have:=hr.tr;rw[z]at this;simp[trim]at this
end Pm
namespace Pm
open Rm
theorem Qx(a:Int)(p:List Int)(x:Int):ev (a::p) x=a+x*ev p x:=by
 rw[<-mL (p:=a::p) (n:=p.length+1) (Nat.le_refl _) x,dW,dH,Int.pow_zero,Int.mul_one,<-mL (p:=p) (Nat.le_refl _) x,<-bH];congr 1;refine aB fun k _=>?_;rw[jN,Int.pow_succ,Int.mul_comm (x^k) x,<-Int.mul_assoc,<-Int.mul_assoc,Int.mul_comm (co p k) x]
theorem Uc(x:Int)(g:List Int):∀(L P:List Int),(∀k,co P k=cv (co L) (co g) k)->ev P x=ev L x*ev g x
 |[],P,h=>by
  rw[CQ,Int.zero_mul];unfold ev;exact iH fun k _=>by rw[h,fj (fun i _=> .inl (eO i)),Int.zero_mul]
 |a::L,P,h=>by
  obtain⟨Q,hQ⟩:∃Q:List Int,∀k,co Q k=cv (co L) (co g) k:=Qw ((Fs.co L).cv (Fs.co g));have ih:=Uc x g L Q hQ;obtain⟨n,h1,h2,h3⟩:∃n,P.length<=n+1/\Q.length<=n/\g.length<=n+1:=⟨P.length+Q.length+g.length,by omega,by omega,by omega⟩;have e:∀k,co P k=a*co g k+(if k=0 then 0 else co Q (k-1)):=fun k=>by
   rw[h,HC];split
   ·rfl
   ·rw[hQ]
  rw[Qx,<-mL h1 x,aB (g:=fun k=>a*(co g k*x^k)+(if k=0 then 0 else co Q (k-1))*x^k) fun k _=>by rw[e k,Int.add_mul,Int.mul_assoc],cV,bH,DQ,mL h3,mL h2,ih,Int.add_mul,Int.mul_assoc]
theorem HS(p:List Int)(r:Int):∃q l,Div 0 p (lin r) q l/\(∀k,co p k=(if k=0 then 0 else co q (k-1))-r*co q k+co l k)/\q.length<=p.length-1:=by
 obtain⟨q,l,h⟩:=C4 (b:=0) (Oq r) (p:=p) fun k=>aZ _;have e:∀k,co p k=(if k=0 then 0 else co q (k-1))-r*co q k+co l k:=fun k=>by
  have:=h.eq k;rw[aZ,aZ,Mr]at this;exact this.symm
 have hs:l.length<2:=h.short;refine⟨q,l,h,e,?_⟩;by_cases hq:q=[]
 ·rw[hq];exact Nat.zero_le _
 ·have h0:=uh hq h.qy.tr;have hp:0<q.length:=List.length_pos_iff.mpr hq;have h1:=e q.length;rw[if_neg (by omega),bJ (p:=q) (Nat.le_refl _),Int.mul_zero,bJ (p:=l) (by omega),Int.sub_zero,Int.add_zero]at h1;have:=u9 (p:=p) (k:=q.length) (by rw[h1];exact h0);omega
theorem Dw:∀(m:Nat) (L:List Int),Mon L->L.length=m+1->∀xs:List Int,xs.Nodup->(∀x∈xs,ev L x=0)->xs.length<=m
 |_,_,_,_,[],_,_=>Nat.zero_le _
 |0,L,hL,hl,r::ys,_,hr=>by
  exfalso
  have e:L=[1]:=nQ (q:=[1]) hl fun k=>by
   cases k with
   |zero=>have:=hL.one;rw[hl]at this;exact this
   |succ k=>rw[bJ (by omega),bJ (by show 1<=k+1;omega)]
  have:=hr r (List.mem_cons_self ..);rw[e,Hz]at this;exact absurd this (by decide)
 |m+1,L,hL,hl,r::ys,hn,hr=>by
  obtain⟨q,l,h,e,lq⟩:=HS L r;have h0:=hr r (List.mem_cons_self ..);have l0:=h.root.mpr h0;subst l0;have hm:co q m=1:=by
   have h1:=e (m+1);rw[if_neg (by omega),Nat.add_sub_cancel,bJ (p:=q) (show q.length<=m+1 by omega),Int.mul_zero,eO,Int.sub_zero,Int.add_zero]at h1;have h2:=hL.one;rw[hl,Nat.add_sub_cancel,h1]at h2;exact h2
  have hlq:q.length=m+1:=by
   have:=u9 (p:=q) (k:=m) (by rw[hm];decide);omega
  obtain⟨hn1,hn2⟩:=List.nodup_cons.mp hn;have:=Dw m q ⟨by omega,by rw[hlq,Nat.add_sub_cancel];exact hm⟩ hlq ys hn2 fun y hy=>by
   have h1:=h.ev y;rw[hr y (List.mem_cons_of_mem _ hy),CQ,Int.add_zero]at h1;rcases Int.mul_eq_zero.mp h1.symm with z|z
   ·exact absurd (show y=r by omega) (fun z=>hn1 (z▸hy))
   ·exact z
  rw[List.length_cons];omega
theorem Jl{M:Nat}{x y:Int}(hx:x≠0)(h:Bd M (x*y)):Bd M y:=by
 unfold Bd at h⊢;rw[Int.natAbs_mul]at h;have h1:1<=x.natAbs:=by omega
 have:1*y.natAbs<=x.natAbs*y.natAbs:=Nat.mul_le_mul_right _ h1;omega
theorem zf{e:Nat}:∀(d:Nat) (g:List Int) (M:Nat),g.length<=d->∀xs:List Int,xs.Nodup->d<=xs.length->(∀x∈xs,Bd e x)->(∀x∈xs,Bd M (ev g x))->∀k,Bd (M+d*(e+3)) (co g k)
 |0,g,_,hl,_,_,_,_,_,k=>by rw[bJ (by omega)];exact Bd.zero _
 |d+1,_,_,_,[],_,hd,_,_,_=>absurd hd (by show ¬d+1<=0;omega)
 |d+1,g,M,hl,r::ys,hn,hd,hx,hv,k=>by
  obtain⟨q,l,h,eq,lq⟩:=HS g r;obtain⟨hn1,hn2⟩:=List.nodup_cons.mp hn;have hl2:l.length<2:=h.short;have er:ev l r=ev g r:=by rw[h.ev r,Int.sub_self,Int.zero_mul,Int.zero_add]
  have el:∀x,ev l x=co l 0:=fun x=>by
   match l,hl2 with
   |[],_=>rw[CQ,eO]
   |[c],_=>rw[Hz,dH]
  have c0:co l 0=ev g r:=by rw[<-el r,er]
  have hr:=hv r (List.mem_cons_self ..);have ih:=zf (e:=e) d q (M+1) (by omega) ys hn2 (by rw[List.length_cons]at hd;omega) (fun x h=>hx x (List.mem_cons_of_mem _ h)) fun y hy=>by
   refine Jl (x:=y-r) (fun z=>hn1 ((show y=r by omega)▸hy)) ?_;have h1:=h.ev y;rw[el y,c0]at h1;rw[show(y-r)*ev q y=ev g y + -(ev g r)by omega];exact(hv y (List.mem_cons_of_mem _ hy)).add (vW hr)
  have b1:Bd (e+(M+1+d*(e+3))) (if k=0 then 0 else co q (k-1)):=by
   split
   ·exact Bd.zero _
   ·exact(ih _).mono (by omega)
  have b2:=vW ((hx r (List.mem_cons_self ..)).mul (ih k));have b3:Bd (e+(M+1+d*(e+3))+1) (co l k):=by
   cases k with
   |zero=>rw[c0];exact hr.mono (by omega)
   |succ k=>rw[bJ (by omega)];exact Bd.zero _
  have b4:=(b1.add b2).add b3;have e1:(d+1)*(e+3)=d*(e+3)+(e+3):=Nat.succ_mul ..;rw[eq k,Int.sub_eq_add_neg];exact b4.mono (by omega)
theorem VP{P:List Int}{x:Int}{u e:Nat}(hu:∀k,Bd u (co P k))(hx:Bd e x):Bd (u+P.length*(e+1)+P.length) (ev P x):=by
 have hp:∀k,Bd (k*e+1) (x^k):=fun k=>by
  induction k with
  |zero=>rw[Int.pow_zero];exact(Bd.of (n:=1) (by decide) (by decide)).mono (by omega)
  |succ k ih=>
   have e1:(k+1)*e=k*e+e:=Nat.succ_mul ..;rw[Int.pow_succ];exact(ih.mul hx).mono (by omega)
 unfold ev;refine(Br (c:=u+P.length*(e+1)) P.length fun k hk=>((hu k).mul (hp k)).mono ?_).mono (by omega);have h1:(k+1)*(e+1)<=P.length*(e+1):=Nat.mul_le_mul_right _ (by omega);have h2:(k+1)*(e+1)=k*(e+1)+(e+1):=Nat.succ_mul ..;have h3:k*(e+1)=k*e+k:=Nat.mul_succ ..;omega
theorem uW(p:Int->Bool):∀xs:List Int,xs.length=(xs.filter p).length+(xs.filter fun x=>!p x).length
 |[]=>rfl
 |x::xs=>by
  have:=uW p xs;cases h:p x
  ·rw[List.filter_cons_of_neg (by rw[h];decide),List.filter_cons_of_pos (by rw[h];rfl),List.length_cons,List.length_cons];omega
  ·rw[List.filter_cons_of_pos h,List.filter_cons_of_neg (by rw[h];decide),List.length_cons,List.length_cons];omega
theorem Dz{P L g:List Int}(hL:Mon L)(he:∀k,co P k=cv (co L) (co g) k)(hl:L.length+g.length=P.length+1){u e:Nat}(hu:∀k,Bd u (co P k))(h2:P.length<=2^e)(k:Nat):Bd (u+P.length*(e+1)+P.length+g.length*(e+3)) (co g k):=by
 obtain⟨xs,hxs⟩:∃xs:List Int,xs=(List.range P.length).map Int.ofNat:=⟨_,rfl⟩;have nd:xs.Nodup:=by
  rw[hxs];refine List.Pairwise.map _ (fun a b h=>?_) (List.nodup_range (n:=P.length));exact fun z=>h (Int.ofNat.inj z)
 have ln:xs.length=P.length:=by rw[hxs];simp
 have bx:∀x∈xs,Bd e x:=fun x hx=>by
  rw[hxs]at hx;obtain⟨i,hi,rfl⟩:=List.mem_map.mp hx;have:=List.mem_range.mp hi;show(Int.ofNat i).natAbs<2^e;show i<2^e;omega
 have h0:(xs.filter fun x=>decide (ev L x=0)).length<=L.length-1:=by
  have:=hL.pos;exact Dw (L.length-1) L hL (by omega) _ (nd.filter _) fun x hx=>of_decide_eq_true (List.mem_filter.mp hx).2
 have hc:xs.length=(xs.filter fun x=>decide (ev L x=0)).length+(xs.filter fun x=>!decide (ev L x=0)).length:=uW _ xs;have hp:=hL.pos;refine zf g.length g _ (Nat.le_refl _) (xs.filter fun x=>!decide (ev L x=0)) (nd.filter _) (by omega) (fun x hx=>bx x (List.mem_filter.mp hx).1) (fun x hx=>?_) k;have hne:ev L x≠0:=fun z=>by
  have:=(List.mem_filter.mp hx).2;rw[decide_eq_true z]at this;exact absurd this (by decide)
 refine Jl hne ?_;rw[<-Uc x g L P he];exact VP hu (bx x (List.mem_filter.mp hx).1)
theorem Pj{P:List Int}{a:Nat->Int}(hP:Mon P)(hK:Kp 0 P a){d u ua e U:Nat}(hS:∃Q0,Mon Q0/\Kp 0 Q0 a/\Q0.length<=d+1)(ha:∀n,n<=2*d->Bd ua (a n))(hu:∀k,Bd u (co P k))(h2:P.length<=2^e)(hU:u+P.length*(e+1)+P.length+P.length*(e+3)<=U):
  ∃g L N,Mon L/\Py 0 L/\Kp 0 L a/\(∀q,Kp 0 q a->Dv 0 L (co q))/\L.length+g.length=P.length+1/\(∀k,co P k=cv (co L) (co g) k)/\GcZ P (tp P a) g N/\Bd (d*(ua+d)+1) N/\∀k,Bd U (co g k):=by
 obtain⟨g,L,hL,hLy,hKL,hall,hlen,hE,G⟩:=Ji hP hK;obtain⟨Q0,hQ,hKQ,hQl⟩:=hS;have hLp:=hL.pos;have hl:L.length<=d+1:=Nat.le_trans ((hall Q0 hKQ).len rfl hL hQ) hQl;have hm:(L.length-1)*(ua+(L.length-1))+1<=d*(ua+d)+1:=by
  have:=Nat.mul_le_mul (show L.length-1<=d by omega) (show ua+(L.length-1)<=ua+d by omega);omega
 refine⟨g,L,_,hL,hLy,hKL,hall,hlen,hE,G,?_,fun k=>?_⟩
 ·exact(Dm.MH (u:=ua) fun i j hi hj=>ha _ (by omega)).mono hm
 ·refine(Dz hL hE hlen hu h2 k).mono (Nat.le_trans ?_ hU);have:=Nat.mul_le_mul_right (e+3) (show g.length<=P.length by omega);omega
end Pm
namespace Lm
def Dq(g:Nat):List Int->Nat
 |[]=>g
 |t::ts=>Dq (Nat.gcd g t.natAbs) ts
theorem Fg(g:Nat)(ts:List Int)(t:Int):Dq g (ts++[t])=Nat.gcd (Dq g ts) t.natAbs:=by
 induction ts generalizing g with
 |nil=>rfl
 |cons s ts ih=>exact ih _
theorem Ec(g:Nat)(ts:List Int):Dq g ts∣g:=by
 induction ts generalizing g with
 |nil=>exact Nat.dvd_refl _
 |cons s ts ih=>exact Nat.dvd_trans (ih _) (Nat.gcd_dvd_left ..)
theorem Cu(g:Nat)(ts:List Int):∀t∈ts,(Dq g ts:Int)∣t:=by
 induction ts generalizing g with
 |nil=>intro t h;cases h
 |cons s ts ih=>
  intro t h;rcases List.mem_cons.mp h with rfl|h
  ·exact Int.ofNat_dvd_left.mpr (Nat.dvd_trans (Ec _ ts) (Nat.gcd_dvd_right ..))
  ·exact ih _ t h
end Lm
namespace Lm
theorem JG{d:Nat}:∀{g:Nat} {ts:List Int},d∣g->(∀t∈ts,(d:Int)∣t)->d∣Dq g ts:=by
 intro g ts;induction ts generalizing g with
 |nil=>intro h _;exact h
 |cons t r ih=>
  intro h h2;refine ih (Nat.dvd_gcd h ?_) fun x hx=>h2 x (List.mem_cons_of_mem _ hx);exact Int.natCast_dvd_natCast.mp (Int.dvd_natAbs.mpr (h2 t (List.mem_cons_self ..)))
theorem TQ{d:Int}{rule:List Int}{f:Nat->Int}{n:Nat}:∀m:Nat,(∀k,k<m->d∣f (n-1-k))->d∣Rm.S rule f n m
 |0,_=>Int.dvd_zero _
 |m+1,h=>by
  show d∣Rm.S rule f n m+_;exact Int.dvd_add (TQ m fun k hk=>h k (by omega)) (Int.dvd_mul_of_dvd_right (h m (by omega)))
theorem MV{d:Int}{rule starts:List Int}(hl:rule.length=starts.length)(h:∀t∈starts,d∣t)(n:Nat):d∣Rm.at_ 0 rule starts n:=by
 induction n using Nat.strongRecOn with
 |ind n ih=>
  by_cases c:n<starts.length
  ·rw[Rm.oG c];rcases Rm.uz starts n with z|z
   ·rw[z];exact Int.dvd_zero _
   ·exact h _ z
  ·rw[Rm.uy hl (by omega),Rm.aZ];refine TQ _ fun k hk=>?_;by_cases c0:n=0
   ·omega
   ·exact ih _ (by omega)
end Lm
namespace Nw
open Lean.Grind
variable {R:Type} [CommRing R]
def sm:Nat->(Nat->R)->R
 |0,_=>0
 |n+1,f=>sm n f+f n
theorem aB{f g:Nat->R}:∀{n:Nat},(∀k,k<n->f k=g k)->sm n f=sm n g
 |0,_=>rfl
 |n+1,h=>by
  show sm n f+f n=sm n g+g n;rw[aB fun k hk=>h k (by omega),h n (by omega)]
theorem gF:∀n:Nat,sm n (fun _=>(0:R))=0
 |0=>rfl
 |n+1=>by show sm n _+0=0;rw[gF n];grind
theorem cV(f g:Nat->R):∀n:Nat,sm n (fun k=>f k+g k)=sm n f+sm n g
 |0=>by show(0:R)=0+0;grind
 |n+1=>by show sm n _+_=sm n f+f n+(sm n g+g n);rw[cV f g n];grind
theorem bH(c:R)(f:Nat->R):∀n:Nat,sm n (fun k=>c*f k)=c*sm n f
 |0=>by show(0:R)=c*0;grind
 |n+1=>by show sm n _+_=c*(sm n f+f n);rw[bH c f n];grind
theorem kE(F:Nat->Nat->R)(m:Nat):∀n:Nat,sm m (fun k=>sm n (fun j=>F k j))=sm n (fun j=>sm m (fun k=>F k j))
 |0=>gF m
 |n+1=>by
  show sm m (fun k=>sm n (fun j=>F k j)+F k n)=sm n (fun j=>sm m (fun k=>F k j))+sm m (fun k=>F k n);rw[cV,kE F m n]
theorem dW(f:Nat->R):∀n:Nat,sm (n+1) f=f 0+sm n (fun i=>f (i+1))
 |0=>by show 0+f 0=f 0+0;grind
 |n+1=>by
  show sm (n+1) f+f (n+1)=f 0+(sm n (fun i=>f (i+1))+f (n+1));rw[dW f n];grind
def el:List R->Nat->R
 |[],k=>if k=0 then 1 else 0
 |a::l,0=>el l 0
 |a::l,k+1=>el l (k+1)-a*el l k
theorem jJ:∀l:List R,el l 0=1
 |[]=>rfl
 |a::l=>jJ l
theorem Lb:∀(l:List R) (k:Nat),l.length<k->el l k=0
 |[],k,h=>by
  have:k≠0:=by simp at h;omega
  exact if_neg this
 |a::l,0,h=>absurd h (by omega)
 |a::l,k+1,h=>by
  simp at h;show el l (k+1)-a*el l k=0;rw[Lb l (k+1) (by omega),Lb l k (by omega)];grind
def pw(l:List R)(k:Nat):R:=match l with
 |[]=>0
 |a::l=>a^k+pw l k
theorem OD(a:R)(l:List R)(k:Nat):pw (a::l) k=a^k+pw l k:=rfl
theorem adM(a:R)(l:List R)(k:Nat):sm (k+1) (fun i=>a^(i+1)*el (a::l) (k-i))=a*el l k:=by
 have key:∀j,j<=k->sm j (fun i=>a^(i+1)*el (a::l) (k-i))=a*el l k-a^(j+1)*el l (k-j):=fun j=>by
  induction j with
  |zero=>intro _;show(0:R)=a*el l k-a^1*el l (k-0);rw[Nat.sub_zero];grind
  |succ j ih=>
   intro hj;show sm j _+a^(j+1)*el (a::l) (k-j)=_;rw[ih (by omega)];obtain⟨m,hm⟩:∃m,k-j=m+1:=⟨k-j-1,by omega⟩;rw[hm,show k-(j+1)=m by omega];show _-_+a^(j+1)*(el l (m+1)-a*el l m)=_
   grind
 show sm k _+a^(k+1)*el (a::l) (k-k)=_;rw[key k (Nat.le_refl k),Nat.sub_self,jJ,jJ];grind
def nt:Nat->R
 |0=>0
 |k+1=>nt k+1
theorem Dk:∀(l:List R) (k:Nat),nt (k+1)*el l (k+1)+sm (k+1) (fun i=>pw l (i+1)*el l (k-i))=0
 |[],k=>by
  have e:sm (k+1) (fun i=>pw ([]:List R) (i+1)*el ([]:List R) (k-i))=0:=by
   rw[aB (g:=fun _=>(0:R)) fun i _=>by show(0:R)*_=0;grind,gF]
  rw[e,show el ([]:List R) (k+1)=0 from rfl];grind
 |a::l,k=>by
  have h1:=Dk l k;have e1:sm (k+1) (fun i=>pw (a::l) (i+1)*el (a::l) (k-i))=a*el l k+sm (k+1) (fun i=>pw l (i+1)*el (a::l) (k-i)):=by
   rw[<-adM a l k,<-cV];exact aB fun i _=>by rw[OD];grind
  rw[e1];show nt (k+1)*(el l (k+1)-a*el l k)+_=0;cases k with
  |zero=>
   have e2:sm (0+1) (fun i=>pw l (i+1)*el (a::l) (0-i))=sm (0+1) (fun i=>pw l (i+1)*el l (0-i)):=aB fun i hi=>by
    have:i=0:=by omega
    subst this;rfl
   rw[e2];generalize sm (0+1) (fun i=>pw l (i+1)*el l (0-i))=s at h1⊢;generalize el l (0+1)=x at h1⊢;generalize el l 0=y at h1⊢;have c1:(nt (0+1):R)=1:=by show(0:R)+1=1;grind
   rw[c1]at h1⊢
   grind
  |succ k=>
   have h2:=Dk l k;have e2:sm (k+1+1) (fun i=>pw l (i+1)*el (a::l) (k+1-i))=sm (k+1+1) (fun i=>pw l (i+1)*el l (k+1-i))-a*sm (k+1) (fun i=>pw l (i+1)*el l (k-i)):=by
    show sm (k+1) _+pw l (k+1+1)*el (a::l) (k+1-(k+1))=sm (k+1) _+pw l (k+1+1)*el l (k+1-(k+1))-_;rw[Nat.sub_self,jJ,jJ];have:sm (k+1) (fun i=>pw l (i+1)*el (a::l) (k+1-i))=sm (k+1) (fun i=>pw l (i+1)*el l (k+1-i))+(-a)*sm (k+1) (fun i=>pw l (i+1)*el l (k-i)):=by
     rw[<-bH,<-cV];refine aB fun i hi=>?_;rw[show k+1-i=(k-i)+1 by omega];show pw l (i+1)*(el l (k-i+1)-a*el l (k-i))=_
     grind
    rw[this];grind
   rw[e2];generalize sm (k+1+1) (fun i=>pw l (i+1)*el l (k+1-i))=s at h1⊢;generalize sm (k+1) (fun i=>pw l (i+1)*el l (k-i))=t at h2⊢;generalize el l (k+1+1)=x at h1⊢;generalize el l (k+1)=y at h1 h2⊢;have c1:(nt (k+1+1):R)=nt (k+1)+1:=rfl;rw[c1]at h1⊢;generalize (nt (k+1):R)=n at h1 h2⊢
   grind
def dl:List R->(Nat->R)->Nat->R
 |[],a=>a
 |x::l,a=>dl l fun n=>a (n+1)-x*a n
theorem Sg:∀(l:List R) (a:Nat->R) (n:Nat),dl l a n=sm (l.length+1) (fun k=>el l k*a (n+l.length-k))
 |[],a,n=>by
  show a n=0+el ([]:List R) 0*a (n+0-0);rw[jJ,Nat.add_zero,Nat.sub_zero];grind
 |x::l,a,n=>by
  show dl l (fun n=>a (n+1)-x*a n) n=_;rw[Sg l,List.length_cons];have e1:sm (l.length+1+1) (fun k=>el (x::l) k*a (n+(l.length+1)-k))=sm (l.length+1+1) (fun k=>el l k*a (n+(l.length+1)-k))+(-x)*sm (l.length+1) (fun k=>el l k*a (n+l.length-k)):=by
   rw[dW (fun k=>el (x::l) k*a (n+(l.length+1)-k)),dW (fun k=>el l k*a (n+(l.length+1)-k)),<-bH];have:sm (l.length+1) (fun i=>el (x::l) (i+1)*a (n+(l.length+1)-(i+1)))=sm (l.length+1) (fun i=>el l (i+1)*a (n+(l.length+1)-(i+1)))+sm (l.length+1) (fun k=>-x*(el l k*a (n+l.length-k))):=by
    rw[<-cV];refine aB fun i _=>?_;show(el l (i+1)-x*el l i)*_=_;rw[show n+(l.length+1)-(i+1)=n+l.length-i by omega];grind
   rw[this];show el l 0*_+_=_
   grind
  rw[e1];show _=sm (l.length+1) _+el l (l.length+1)*_+_;rw[Lb l (l.length+1) (by omega),<-bH];have e2:sm (l.length+1) (fun k=>el l k*(a (n+l.length-k+1)-x*a (n+l.length-k)))=sm (l.length+1) (fun k=>el l k*a (n+(l.length+1)-k))+sm (l.length+1) (fun k=>-x*(el l k*a (n+l.length-k))):=by
   rw[<-cV];refine aB fun k hk=>?_;rw[show n+(l.length+1)-k=n+l.length-k+1 by omega];grind
  rw[e2];grind
theorem wg:∀(l:List R) (a b:Nat->R) (x y:R) (n:Nat),dl l (fun n=>x*a n+y*b n) n=x*dl l a n+y*dl l b n
 |[],_,_,_,_,_=>rfl
 |z::l,a,b,x,y,n=>by
  show dl l (fun n=>x*a (n+1)+y*b (n+1)-z*(x*a n+y*b n)) n=x*dl l _ n+y*dl l _ n;rw[<-wg l];exact congrArg (fun f=>dl l f n) (funext fun n=>by grind)
theorem qu:∀(l:List R) (a:Nat->R) (n:Nat),dl l (fun n=>a (n+1)) n=dl l a (n+1)
 |[],_,_=>rfl
 |z::l,a,n=>qu l (fun n=>a (n+1)-z*a n) n
theorem Hs(l:List R)(n:Nat):dl l (fun _=>0) n=0:=by
 have:=wg l (fun _=>(0:R)) (fun _=>0) 0 0 n;rw[show(fun _:Nat=>(0:R)*0+0*0)=fun _=>0 from funext fun _=>by grind]at this;rw[this];grind
theorem yN:∀(l l':List R) (a:Nat->R),dl (l++l') a=dl l' (dl l a)
 |[],_,_=>rfl
 |x::l,l',a=>yN l l' _
inductive Zc(A B:List R):(Nat->R)->Prop
 |one {u v:Nat->R}:(∀n,dl A u n=0)->(∀n,dl B v n=0)->Zc A B fun n=>u n*v n
 |lin {s t:Nat->R} (x y:R):Zc A B s->Zc A B t->Zc A B fun n=>x*s n+y*t n
theorem Zc.step{A B:List R}{s:Nat->R}(h:Zc A B s)(g:R):Zc A B fun n=>s (n+1)-g*s n:=by
 induction h with
 |@one u v hu hv=>
  have h1:Zc A B fun n=>u (n+1)*v (n+1):= .one (u:=fun n=>u (n+1)) (v:=fun n=>v (n+1)) (fun n=>by rw[qu];exact hu _) fun n=>by rw[qu];exact hv _
  have:=Zc.lin 1 (-g) h1 (.one hu hv);rw[show(fun n=>u (n+1)*v (n+1)-g*(u n*v n))=fun n=>1*(u (n+1)*v (n+1)) + -g*(u n*v n)from funext fun n=>by grind];exact this
 |@lin s t x y _ _ h1 h2=>
  have:=Zc.lin x y h1 h2;rw[show(fun n=>x*s (n+1)+y*t (n+1)-g*(x*s n+y*t n))=fun n=>x*(s (n+1)-g*s n)+y*(t (n+1)-g*t n)from funext fun n=>by grind];exact this
theorem Zc.dl{A B:List R}:∀(l:List R) {s:Nat->R},Zc A B s->Zc A B (Nw.dl l s)
 |[],_,h=>h
 |g::l,_,h=>Zc.dl l (h.step g)
theorem Zc.more{A B:List R}{b:R}{s:Nat->R}(h:Zc A B s):Zc A (b::B) s:=by
 induction h with
 |@one u v hu hv=>
  refine .one hu fun n=>?_;show Nw.dl B (fun n=>v (n+1)-b*v n) n=0;have:=wg B (fun n=>v (n+1)) v 1 (-b) n;rw[show(fun n=>v (n+1)-b*v n)=fun n=>1*v (n+1) + -b*v n from funext fun n=>by grind,this,qu,hv,hv];grind
 |lin x y _ _ h1 h2=>exact .lin x y h1 h2
theorem TY{a:R}{A:List R}:∀(B:List R) {u v:Nat->R},(∀n,dl (a::A) u n=0)->(∀n,dl B v n=0)->Zc A B (dl (B.map fun b=>a*b) fun n=>u n*v n)
 |[],u,v,hu,hv=>by
  have:(fun n=>u n*v n)=fun n=>(0:R)*(0*v n)+0*(0*v n):=funext fun n=>by rw[show v n=0 from hv n];grind
  show Zc A [] fun n=>u n*v n;rw[this];have z:Zc A [] fun n=>(0:R)*v n:= .one (u:=fun _=>0) (fun n=>Hs A n) hv;exact .lin 0 0 z z
 |b::B,u,v,hu,hv=>by
  show Zc A (b::B) (dl (B.map fun b=>a*b) fun n=>u (n+1)*v (n+1)-a*b*(u n*v n));have h1:Zc A (b::B) fun n=>(u (n+1)-a*u n)*v (n+1):= .one (u:=fun n=>u (n+1)-a*u n) (v:=fun n=>v (n+1)) hu fun n=>by rw[qu];exact hv _
  have h2:=(TY (a:=a) (A:=A) B (u:=u) (v:=fun n=>v (n+1)-b*v n) hu hv).more (b:=b);have:=Zc.lin 1 a (h1.dl (B.map fun b=>a*b)) h2;rw[show(fun n=>u (n+1)*v (n+1)-a*b*(u n*v n))=fun n=>1*((u (n+1)-a*u n)*v (n+1))+a*(u n*(v (n+1)-b*v n))from funext fun n=>by grind];rw[show Nw.dl (B.map fun b=>a*b) (fun n=>1*((u (n+1)-a*u n)*v (n+1))+a*(u n*(v (n+1)-b*v n)))=fun n=>1*Nw.dl (B.map fun b=>a*b) (fun n=>(u (n+1)-a*u n)*v (n+1)) n+a*Nw.dl (B.map fun b=>a*b) (fun n=>u n*(v (n+1)-b*v n)) n from funext fun n=>wg _ _ _ _ _ n];exact this
def prs:List R->List R->List R
 |[],_=>[]
 |a::A,B=>(B.map fun b=>a*b)++prs A B
theorem Cv:∀(A B:List R) {s:Nat->R},Zc A B s->∀n,dl (prs A B) s n=0
 |[],B,s,h,n=>by
  show s n=0;induction h with
  |@one u v hu hv=>show u n*v n=0;rw[show u n=0 from hu n];grind
  |@lin s t x y _ _ h1 h2=>show x*s n+y*t n=0;rw[h1,h2];grind
 |a::A,B,s,h,n=>by
  have key:Zc A B (dl (B.map fun b=>a*b) s):=by
   induction h with
   |one hu hv=>exact TY B hu hv
   |@lin s t x y _ _ h1 h2=>
    rw[show dl (B.map fun b=>a*b) (fun n=>x*s n+y*t n)=fun n=>x*dl (B.map fun b=>a*b) s n+y*dl (B.map fun b=>a*b) t n from funext fun n=>wg _ _ _ _ _ n];exact .lin x y h1 h2
  show dl ((B.map fun b=>a*b)++prs A B) s n=0;rw[yN];exact Cv A B key n
theorem Hg{A B:List R}{u v:Nat->R}(hu:∀n,dl A u n=0)(hv:∀n,dl B v n=0)(n:Nat):dl (prs A B) (fun n=>u n*v n) n=0:=Cv A B (.one hu hv) n
theorem zW:∀(l l':List R) (k:Nat),pw (l++l') k=pw l k+pw l' k
 |[],l',k=>by show pw l' k=0+pw l' k;grind
 |a::l,l',k=>by show a^k+pw (l++l') k=a^k+pw l k+pw l' k;rw[zW l l' k];grind
theorem MK(a:R):∀(B:List R) (k:Nat),pw (B.map fun b=>a*b) k=a^k*pw B k
 |[],k=>by show(0:R)=a^k*0;grind
 |b::B,k=>by
  show(a*b)^k+pw (B.map fun b=>a*b) k=a^k*(b^k+pw B k);have:(a*b)^k=a^k*b^k:=by
   induction k with
   |zero=>grind
   |succ k ih=>grind
  rw[this,MK a B k];grind
theorem M8:∀(A B:List R) (k:Nat),pw (prs A B) k=pw A k*pw B k
 |[],B,k=>by show(0:R)=0*pw B k;grind
 |a::A,B,k=>by
  show pw ((B.map fun b=>a*b)++prs A B) k=(a^k+pw A k)*pw B k;rw[zW,MK,M8 A B k];grind
theorem IY:∀A B:List R,(prs A B).length=A.length*B.length
 |[],B=>by simp[prs]
 |a::A,B=>by simp[prs,IY A B,Nat.succ_mul];omega
end Nw
namespace Nw
open Lean.Grind
structure Laws{α:Type}(z o:α)(ad mu:α->α->α)(ng:α->α):Prop where
 ad0:∀a,ad a z=a
 adC:∀a b,ad a b=ad b a
 adA:∀a b c,ad (ad a b) c=ad a (ad b c)
 muA:∀a b c,mu (mu a b) c=mu a (mu b c)
 mu1:∀a,mu a o=a
 muC:∀a b,mu a b=mu b a
 dis:∀a b c,mu a (ad b c)=ad (mu a b) (mu a c)
 ngA:∀a,ad (ng a) a=z
section
variable {α:Type} {z o:α} {ad mu:α->α->α} {ng:α->α}
def ntB(z o:α)(ad:α->α->α):Nat->α
 |0=>z
 |n+1=>ad (ntB z o ad n) o
def itB(z o:α)(ad:α->α->α)(ng:α->α):Int->α
 |.ofNat n=>ntB z o ad n
 |.negSucc n=>ng (ntB z o ad (n+1))
def pwB(z o:α)(ad mu:α->α->α)(a:α):Nat->α
 |0=>ntB z o ad 1
 |n+1=>mu (pwB z o ad mu a n) a
theorem Laws.z0(L:Laws z o ad mu ng)(a:α):ad z a=a:=by rw[L.adC,L.ad0]
theorem Laws.one(L:Laws z o ad mu ng):ntB z o ad 1=o:=L.z0 o
theorem Laws.can(L:Laws z o ad mu ng){a b:α}(h:ad b a=a):b=z:=by
 have:ad (ad b a) (ng a)=ad a (ng a):=by rw[h]
 rw[L.adA,L.adC a,L.ngA,L.ad0]at this;exact this
theorem Laws.mu0(L:Laws z o ad mu ng)(a:α):mu a z=z:=by
 refine L.can (a:=mu a z) ?_;rw[<-L.dis,L.ad0]
theorem Laws.GV(L:Laws z o ad mu ng){a b:α}(h:ad b a=z):b=ng a:=by
 have:ad (ad b a) (ng a)=ad z (ng a):=by rw[h]
 rw[L.adA,L.adC a,L.ngA,L.ad0,L.z0]at this;exact this
theorem Laws.W2(L:Laws z o ad mu ng)(a b:α):mu (ng a) b=ng (mu a b):=by
 refine L.GV ?_;rw[L.muC (ng a),L.muC a,<-L.dis,L.ngA,L.mu0]
theorem Laws.ng0(L:Laws z o ad mu ng):ng z=z:=by
 have:=L.ngA z;rw[L.ad0]at this;exact this
theorem Laws.ngg(L:Laws z o ad mu ng)(a:α):ng (ng a)=a:=(L.GV (by rw[L.adC,L.ngA])).symm
theorem Laws.itN(L:Laws z o ad mu ng):∀i:Int,itB z o ad ng (-i)=ng (itB z o ad ng i)
 |.ofNat 0=>L.ng0.symm
 |.ofNat (n+1)=>rfl
 |.negSucc n=>(L.ngg _).symm
@[reducible] def Laws.ring(L:Laws z o ad mu ng):CommRing α:=
 { add:=ad,mul:=mu,neg:=ng,sub:=fun a b=>ad a (ng b),natCast:=⟨ntB z o ad⟩,ofNat:=fun n=>⟨ntB z o ad n⟩,nsmul:=⟨fun n a=>mu (ntB z o ad n) a⟩,npow:=⟨fun a n=>pwB z o ad mu a n⟩,intCast:=⟨itB z o ad ng⟩,zsmul:=⟨fun i a=>mu (itB z o ad ng i) a⟩,add_zero:=L.ad0,add_comm:=L.adC,add_assoc:=L.adA,mul_assoc:=L.muA,mul_one:=fun a=>by show mu a (ntB z o ad 1)=a;rw[L.one,L.mu1],one_mul:=fun a=>by show mu (ntB z o ad 1) a=a;rw[L.one,L.muC,L.mu1],left_distrib:=L.dis,right_distrib:=fun a b c=>by show mu (ad a b) c=ad (mu a c) (mu b c);rw[L.muC,L.dis,L.muC c,L.muC c],zero_mul:=fun a=>by show mu z a=z;rw[L.muC,L.mu0],mul_zero:=L.mu0,pow_zero:=fun a=>rfl,pow_succ:=fun a n=>rfl,mul_comm:=L.muC,ofNat_succ:=fun n=>by show ad (ntB z o ad n) o=ad (ntB z o ad n) (ntB z o ad 1);rw[L.one],neg_add_cancel:=L.ngA,sub_eq_add_neg:=fun a b=>rfl,neg_zsmul:=fun i a=>by show mu (itB z o ad ng (-i)) a=ng (mu (itB z o ad ng i) a);rw[L.itN,L.W2],intCast_neg:=L.itN }
end
variable {R:Type} [CommRing R]
structure Xt(R:Type)[CommRing R](d:Nat)(c:Nat->R) where
 f:Nat->R
 z:∀i,d<=i->f i=0
theorem Xt.eq{d:Nat}{c:Nat->R}:∀{x y:Xt R d c},(∀i,i<d->x.f i=y.f i)->x=y
 |⟨f,hf⟩,⟨g,hg⟩,h=>by
  have:f=g:=funext fun i=>by
   by_cases q:i<d
   ·exact h i q
   ·rw[hf i (by omega),hg i (by omega)]
  subst this;rfl
section
variable {d:Nat} {c:Nat->R}
def xT(x:Xt R d c):Xt R d c:=⟨fun i=>if i<d then(if i=0 then 0 else x.f (i-1))+x.f (d-1)*c i else 0,fun i h=>if_neg (by omega)⟩
def xN:Nat->Xt R d c->Xt R d c
 |0,x=>x
 |k+1,x=>xT (xN k x)
def xAd(x y:Xt R d c):Xt R d c:=⟨fun i=>x.f i+y.f i,fun i h=>by rw[x.z i h,y.z i h];grind⟩
def xNg(x:Xt R d c):Xt R d c:=⟨fun i=>-x.f i,fun i h=>by rw[x.z i h];grind⟩
def xS(n:Nat)(g:Nat->R)(F:Nat->Xt R d c):Xt R d c:=⟨fun i=>sm n fun k=>g k*(F k).f i,fun i h=>by
 rw[aB (g:=fun _=>(0:R)) fun k _=>by rw[(F k).z i h];grind,gF]⟩
def xMu(x y:Xt R d c):Xt R d c:=xS d x.f fun k=>xN k y
def xE(hd:0<d):Xt R d c:=⟨fun i=>if i=0 then 1 else 0,fun i h=>if_neg (by omega)⟩
theorem acr(n:Nat)(g:Nat->R)(F:Nat->Xt R d c):xT (xS n g F)=xS n g fun k=>xT (F k):=Xt.eq fun i hi=>by
 show(if i<d then(if i=0 then 0 else sm n fun k=>g k*(F k).f (i-1))+(sm n fun k=>g k*(F k).f (d-1))*c i else 0)=sm n fun k=>g k*(if i<d then(if i=0 then 0 else(F k).f (i-1))+(F k).f (d-1)*c i else 0);rw[if_pos hi];have e1:(sm n fun k=>g k*(F k).f (d-1))*c i=sm n fun k=>c i*(g k*(F k).f (d-1)):=by rw[bH];grind
 rw[e1];by_cases z:i=0
 ·rw[if_pos z];rw[show((0:R)+sm n fun k=>c i*(g k*(F k).f (d-1)))=sm n fun k=>c i*(g k*(F k).f (d-1))by grind];exact aB fun k _=>by rw[if_pos hi,if_pos z];grind
 ·rw[if_neg z,<-cV];exact aB fun k _=>by rw[if_pos hi,if_neg z];grind
theorem aam(n:Nat)(g:Nat->R)(F:Nat->Xt R d c):∀j,xN j (xS n g F)=xS n g fun k=>xN j (F k)
 |0=>rfl
 |j+1=>by show xT (xN j (xS n g F))=_;rw[aam n g F j,acr];rfl
theorem zJ(x:Xt R d c):∀i j,xN (i+j) x=xN i (xN j x)
 |0,j=>by rw[Nat.zero_add];rfl
 |i+1,j=>by rw[Nat.succ_add];show xT (xN (i+j) x)=xT (xN i (xN j x));rw[zJ x i j]
theorem aaP(hd:0<d):∀k,k<d->∀i,(xN k (xE (c:=c) hd)).f i=if i=k then 1 else 0
 |0,_,i=>rfl
 |k+1,hk,i=>by
  show(if i<d then(if i=0 then 0 else(xN k (xE (c:=c) hd)).f (i-1))+(xN k (xE (c:=c) hd)).f (d-1)*c i else 0)=_;rw[aaP hd k (by omega),aaP hd k (by omega)];by_cases q:i<d
  ·rw[if_pos q,if_neg (show ¬d-1=k by omega)];by_cases z:i=0
   ·rw[if_pos z,if_neg (show ¬i=k+1 by omega)];grind
   ·rw[if_neg z];by_cases y:i=k+1
    ·rw[if_pos y,if_pos (by omega)];grind
    ·rw[if_neg y,if_neg (by omega)];grind
  ·rw[if_neg q,if_neg (by omega)]
theorem HD(g:Nat->R)(i:Nat):∀n,sm n (fun k=>g k*(if i=k then 1 else 0))=if i<n then g i else 0
 |0=>by rw[if_neg (by omega)];rfl
 |n+1=>by
  show sm n _+g n*(if i=n then 1 else 0)=_;rw[HD g i n];by_cases a:i<n
  ·rw[if_pos a,if_neg (by omega),if_pos (by omega)];grind
  ·rw[if_neg a];by_cases b:i=n
   ·rw[if_pos b,if_pos (by omega),b];grind
   ·rw[if_neg b,if_neg (by omega)];grind
theorem Vr(hd:0<d)(x:Xt R d c):xS d x.f (fun k=>xN k (xE hd))=x:=Xt.eq fun i hi=>by
 show sm d (fun k=>x.f k*(xN k (xE (c:=c) hd)).f i)=x.f i;rw[aB fun k hk=>by rw[aaP hd k hk],HD,if_pos hi]
theorem Ft(n m:Nat)(g h:Nat->R)(x:Xt R d c):xS n g (fun k=>xN k (xS m h fun j=>xN j x))=xS m h (fun j=>xN j (xS n g fun k=>xN k x)):=Xt.eq fun i hi=>by
 show sm n (fun k=>g k*(xN k (xS m h fun j=>xN j x)).f i)=sm m (fun j=>h j*(xN j (xS n g fun k=>xN k x)).f i);have e1:sm n (fun k=>g k*(xN k (xS m h fun j=>xN j x)).f i)=sm n (fun k=>sm m fun j=>g k*(h j*(xN (k+j) x).f i)):=aB fun k _=>by
  rw[aam,bH];exact congrArg (g k * ·) (aB fun j _=>by rw[zJ])
 have e2:sm m (fun j=>h j*(xN j (xS n g fun k=>xN k x)).f i)=sm m (fun j=>sm n fun k=>g k*(h j*(xN (k+j) x).f i)):=aB fun j _=>by
  rw[aam];show h j*sm n (fun k=>g k*(xN j (xN k x)).f i)=_;rw[<-bH];exact aB fun k _=>by rw[Nat.add_comm k j,zJ];grind
 rw[e1,e2,kE]
theorem PY(hd:0<d)(x y:Xt R d c):xMu x y=xMu y x:=by
 have h:=Ft d d x.f y.f (xE (c:=c) hd);rw[Vr,Vr]at h;exact h
theorem acS(hd:0<d)(x y w:Xt R d c):xMu (xMu x y) w=xMu x (xMu y w):=by
 rw[PY hd (xMu x y) w,PY hd y w];exact Ft d d w.f x.f y
theorem ada(x y w:Xt R d c)(hd:0<d):xMu x (xAd y w)=xAd (xMu x y) (xMu x w):=by
 rw[PY hd x,PY hd x y,PY hd x w];refine Xt.eq fun i hi=>?_;show sm d (fun k=>(y.f k+w.f k)*(xN k x).f i)=sm d (fun k=>y.f k*(xN k x).f i)+sm d (fun k=>w.f k*(xN k x).f i);rw[<-cV];exact aB fun k _=>by grind
def xZ:Xt R d c:=⟨fun _=>0,fun _ _=>rfl⟩
theorem Rx(hd:0<d):Laws (α:=Xt R d c) xZ (xE hd) xAd xMu xNg:=
 ⟨fun a=>Xt.eq fun i _=>by show a.f i+0=a.f i;grind,fun a b=>Xt.eq fun i _=>by show a.f i+b.f i=b.f i+a.f i;grind,fun a b e=>Xt.eq fun i _=>by show a.f i+b.f i+e.f i=a.f i+(b.f i+e.f i);grind,acS hd,fun a=>Vr hd a,PY hd,fun a b e=>ada a b e hd,fun a=>Xt.eq fun i _=>by show -a.f i+a.f i=0;grind⟩
def xX(hd:0<d):Xt R d c:=xT (xE hd)
theorem RG(hd:0<d)(x:Xt R d c):xMu (xX hd) x=xT x:=by
 rw[PY hd];show xS d x.f (fun k=>xN k (xN 1 (xE hd)))=xT x;have:(fun k=>xN k (xN 1 (xE (c:=c) hd)))=fun k=>xT (xN k (xE hd)):=funext fun k=>by
  rw[<-zJ,Nat.add_comm,zJ];rfl
 rw[this,<-acr,Vr]
end
instance adb{d:Nat}{c:Nat->R}:CommRing (Xt R (d+1) c):=(Rx (Nat.succ_pos d)).ring
section
variable {d:Nat} {c:Nat->R}
theorem Uu:(1:Xt R (d+1) c)=xE (Nat.succ_pos d):=(Rx (Nat.succ_pos d)).one
theorem O6(x y:Xt R (d+1) c)(i:Nat):(x+y).f i=x.f i+y.f i:=rfl
theorem x_zero(i:Nat):(0:Xt R (d+1) c).f i=0:=rfl
theorem acj(x:Xt R (d+1) c)(i:Nat):∀n,(nt n*x).f i=nt n*x.f i
 |0=>by
  rw[show(nt 0:Xt R (d+1) c)*x=0 by show(0:Xt R (d+1) c)*x=0;grind,x_zero];show(0:R)=0*x.f i;grind
 |n+1=>by
  rw[show(nt (n+1):Xt R (d+1) c)*x=nt n*x+x by show(nt n+1)*x=_;grind,O6,acj x i n];show _=(nt n+1)*x.f i;grind
def xI(r:R):Xt R (d+1) c:=⟨fun i=>if i=0 then r else 0,fun i h=>if_neg (by omega)⟩
theorem CY(r:R)(g:Nat->R):∀n,sm (n+1) (fun k=>(if k=0 then r else 0)*g k)=r*g 0
 |0=>by show 0+(if 0=0 then r else 0)*g 0=_;rw[if_pos rfl];grind
 |n+1=>by
  show sm (n+1) _+(if n+1=0 then r else 0)*g (n+1)=_;rw[CY r g n,if_neg (by omega)];grind
theorem Ro(r:R)(x:Xt R (d+1) c)(i:Nat):(xI r*x).f i=r*x.f i:=by
 show sm (d+1) (fun k=>(if k=0 then r else 0)*(xN k x).f i)=_;rw[CY];rfl
end
structure Hom{R S:Type}[CommRing R][CommRing S](ψ:R->S):Prop where
 one:ψ 1=1
 add:∀a b,ψ (a+b)=ψ a + ψ b
 mul:∀a b,ψ (a*b)=ψ a * ψ b
theorem Hom.zero{R S:Type}[CommRing R][CommRing S]{ψ:R->S}(h:Hom ψ):ψ 0=0:=by
 have:=h.add 0 0;rw[show(0:R)+0=0 by grind]at this
 grind
theorem Hom.neg{R S:Type}[CommRing R][CommRing S]{ψ:R->S}(h:Hom ψ)(a:R):ψ (-a)=-ψ a:=by
 have:=h.add (-a) a;rw[show -a+a=0 by grind,h.zero]at this
 grind
theorem Hom.sub{R S:Type}[CommRing R][CommRing S]{ψ:R->S}(h:Hom ψ)(a b:R):ψ (a-b)=ψ a - ψ b:=by
 rw[show a-b=a + -b by grind,h.add,h.neg];grind
theorem Hom.nt{R S:Type}[CommRing R][CommRing S]{ψ:R->S}(h:Hom ψ):∀n,ψ (nt n)=Nw.nt n
 |0=>h.zero
 |n+1=>by show ψ (Nw.nt n+1)=Nw.nt n+1;rw[h.add,h.nt n,h.one]
theorem Hom.comp{R S U:Type}[CommRing R][CommRing S][CommRing U]{ψ:R->S}{χ:S->U}(h:Hom ψ)(g:Hom χ):Hom fun r=>χ (ψ r):=
 ⟨by rw[h.one,g.one],fun a b=>by rw[h.add,g.add],fun a b=>by rw[h.mul,g.mul]⟩
structure Pur{R:Type}[CommRing R](φ:Int->R):Prop where
 hom:Hom φ
 inj:∀t,φ t=0->t=0
 pu:∀(k:Nat) (r:R) (t:Int),nt (k+1)*r=φ t->∃q,r=φ q
theorem ntI:∀n:Nat,(nt n:Int)=(n:Int)
 |0=>rfl
 |n+1=>by show(nt n:Int)+1=_;rw[ntI n];omega
theorem Pur.tf{R:Type}[CommRing R]{φ:Int->R}(h:Pur φ){k:Nat}{r:R}(e:nt (k+1)*r=0):r=0:=by
 obtain⟨q,rfl⟩:=h.pu k r 0 (by rw[e,h.hom.zero]);rw[<-h.hom.nt,<-h.hom.mul]at e;have:=h.inj _ e;rw[ntI]at this;have:q=0:=by
  rcases Int.mul_eq_zero.mp this with z|z
  ·omega
  ·exact z
 rw[this,h.hom.zero]
theorem PZ:Pur (fun t:Int=>t):=⟨⟨rfl,fun _ _=>rfl,fun _ _=>rfl⟩,fun _ h=>h,fun _ r _ _=>⟨r,rfl⟩⟩
theorem Dd{d:Nat}{c:Nat->R}:Hom (xI (d:=d) (c:=c)):=
 ⟨by rw[Uu];rfl,fun a b=>Xt.eq fun i _=>by
  show(if i=0 then a+b else 0)=(if i=0 then a else 0)+(if i=0 then b else 0);split
  ·rfl
  ·grind,fun a b=>Xt.eq fun i _=>by
  rw[Ro];show(if i=0 then a*b else 0)=a*(if i=0 then b else 0);split
  ·rfl
  ·grind⟩
theorem Va{d:Nat}{c:Nat->R}{φ:Int->R}(h:Pur φ):Pur fun t=>xI (d:=d) (c:=c) (φ t):=by
 refine⟨h.hom.comp Dd,fun t e=>h.inj t ?_,fun k r t e=>?_⟩
 ·have:=congrArg (fun x:Xt R (d+1) c=>x.f 0) e;exact this
 ·have co:∀i,nt (k+1)*r.f i=(if i=0 then φ t else 0):=fun i=>by
   have:=congrArg (fun x:Xt R (d+1) c=>x.f i) e;have t2:=acj r i (k+1);exact t2.symm.trans this
  obtain⟨q,hq⟩:=h.pu k (r.f 0) t (by rw[co 0,if_pos rfl]);refine⟨q,Xt.eq fun i _=>?_⟩;show r.f i=if i=0 then φ q else 0;by_cases z:i=0
  ·rw[if_pos z,z,hq]
  ·rw[if_neg z];have:=co i;rw[if_neg z]at this;exact h.tf this
def hn{S:Type}[CommRing S](p:Nat->S)(x:S):Nat->S
 |0=>1
 |k+1=>p (k+1)+x*hn p x k
theorem LN{d:Nat}{p:Nat->R}(p0:p 0=1):∀k,k<=d->∀i,(hn (fun k=>xI (p k)) (xX (Nat.succ_pos d)) k:Xt R (d+1) fun i=>-p (d+1-i)).f i=if i<=k then p (k-i)else 0
 |0,_,i=>by
  show(1:Xt R (d+1) _).f i=_;rw[Uu];show(if i=0 then(1:R)else 0)=_;by_cases z:i=0
  ·rw[if_pos z,if_pos (by omega),Nat.zero_sub,p0]
  ·rw[if_neg z,if_neg (by omega)]
 |k+1,hk,i=>by
  show(xI (p (k+1))+xX (Nat.succ_pos d)*hn (fun k=>xI (p k)) (xX (Nat.succ_pos d)) k:Xt R (d+1) fun i=>-p (d+1-i)).f i=_;rw[O6,show ∀x:Xt R (d+1) fun i=>-p (d+1-i),xX (Nat.succ_pos d)*x=xT x from RG (Nat.succ_pos d)];show(if i=0 then p (k+1)else 0)+(if i<d+1 then(if i=0 then 0 else(hn (fun k=>xI (p k)) (xX (Nat.succ_pos d)) k:Xt R (d+1) fun i=>-p (d+1-i)).f (i-1))+(hn (fun k=>xI (p k)) (xX (Nat.succ_pos d)) k:Xt R (d+1) fun i=>-p (d+1-i)).f (d+1-1) * -p (d+1-i)else 0)=_;rw[LN p0 k (by omega),LN p0 k (by omega),if_neg (show ¬d+1-1<=k by omega)];by_cases z:i=0
  ·rw[if_pos z,if_pos (by omega),if_pos z,if_pos (by omega),z];show p (k+1)+(0+0 * -p (d+1-0))=p (k+1)
   grind
  ·rw[if_neg z,if_neg z];by_cases q:i<d+1
   ·rw[if_pos q];by_cases y:i<=k+1
    ·rw[if_pos (by omega),if_pos y,show k-(i-1)=k+1-i by omega];grind
    ·rw[if_neg (by omega),if_neg y];grind
   ·rw[if_neg q,if_neg (by omega)];grind
theorem Tv{d:Nat}{p:Nat->R}(p0:p 0=1):(hn (fun k=>xI (p k)) (xX (Nat.succ_pos d)) (d+1):Xt R (d+1) fun i=>-p (d+1-i))=0:=Xt.eq fun i hi=>by
 show(xI (p (d+1))+xX (Nat.succ_pos d)*hn (fun k=>xI (p k)) (xX (Nat.succ_pos d)) d:Xt R (d+1) fun i=>-p (d+1-i)).f i=0;rw[O6,show ∀x:Xt R (d+1) fun i=>-p (d+1-i),xX (Nat.succ_pos d)*x=xT x from RG (Nat.succ_pos d)];show(if i=0 then p (d+1)else 0)+(if i<d+1 then(if i=0 then 0 else(hn (fun k=>xI (p k)) (xX (Nat.succ_pos d)) d:Xt R (d+1) fun i=>-p (d+1-i)).f (i-1))+(hn (fun k=>xI (p k)) (xX (Nat.succ_pos d)) d:Xt R (d+1) fun i=>-p (d+1-i)).f (d+1-1) * -p (d+1-i)else 0)=0;rw[LN p0 d (Nat.le_refl d),LN p0 d (Nat.le_refl d),if_pos hi,if_pos (show d+1-1<=d by omega),show d-(d+1-1)=0 by omega,p0];by_cases z:i=0
 ·rw[if_pos z,if_pos z,z];show p (d+1)+(0+1 * -p (d+1-0))=0;rw[Nat.sub_zero];grind
 ·rw[if_neg z,if_neg z,if_pos (by omega),show d-(i-1)=d+1-i by omega];grind
theorem splits:∀(d:Nat) (R:Type) [CommRing R] (φ:Int->R) (p:Nat->R),Pur φ->p 0=1->(∀k,d<k->p k=0)->
  ∃(S:Type) (_:CommRing S) (ψ:R->S),Hom ψ/\Pur (fun t=>ψ (φ t))/\∃l:List S,l.length=d/\∀k,el l k=ψ (p k)
 |0,R,_,φ,p,hφ,p0,pz=>⟨R,inferInstance,fun r=>r,⟨rfl,fun _ _=>rfl,fun _ _=>rfl⟩,hφ,[],rfl,fun k=>by
   show(if k=0 then(1:R)else 0)=p k;by_cases z:k=0
   ·rw[if_pos z,z,p0]
   ·rw[if_neg z,pz k (by omega)]⟩
 |d+1,R,_,φ,p,hφ,p0,pz=>by
  have hP:=Va (d:=d) (c:=fun i=>-p (d+1-i)) hφ;obtain⟨S,iS,ψ,hψ,hp,l,ll,he⟩:=splits d (Xt R (d+1) fun i=>-p (d+1-i)) (fun t=>xI (φ t)) (fun k=>if k<=d then hn (fun k=>xI (p k)) (xX (Nat.succ_pos d)) k else 0) hP (by rw[if_pos (Nat.zero_le d)];rfl) fun k hk=>if_neg (by omega);refine⟨S,iS,fun r=>ψ (xI r),Dd.comp hψ,hp,ψ (xX (Nat.succ_pos d))::l,by rw[List.length_cons,ll],fun k=>?_⟩;have he':∀k,k<=d+1->el l k=ψ (hn (fun k=>xI (p k)) (xX (Nat.succ_pos d)) k):=fun k hk=>by
   rw[he k];by_cases z:k<=d
   ·rw[if_pos z]
   ·have e:k=d+1:=by omega
    rw[if_neg z,e,Tv p0]
  cases k with
  |zero=>rw[jJ,p0];exact(Dd.comp hψ).one.symm
  |succ k=>
   by_cases z:k+1<=d+1
   ·show el l (k+1) - ψ (xX (Nat.succ_pos d))*el l k=_;rw[he' (k+1) z,he' k (by omega),<-hψ.mul,<-hψ.sub];refine congrArg ψ ?_;show(xI (p (k+1))+xX (Nat.succ_pos d)*hn (fun k=>xI (p k)) (xX (Nat.succ_pos d)) k)-_=_
    grind
   ·rw[Lb _ _ (by rw[List.length_cons,ll];omega),pz (k+1) (by omega)];exact(Dd.comp hψ).zero.symm
end Nw
namespace Nw
open Lean.Grind
section
variable {S:Type} [CommRing S] {φ:Int->S}
theorem Hom.sm(h:Hom φ)(f:Nat->Int):∀n,φ (Nw.sm n f)=Nw.sm n fun k=>φ (f k)
 |0=>h.zero
 |n+1=>by show φ (Nw.sm n f+f n)=_;rw[h.add,h.sm f n];rfl
theorem Hom.ntI(h:Hom φ)(n:Nat):φ (n:Int)=Nw.nt n:=by rw[<-h.nt,Nw.ntI]
theorem Bo{R:Type}[CommRing R](f:Nat->R):∀n:Nat,sm n f=sm n fun k=>f (n-1-k)
 |0=>rfl
 |n+1=>by
  rw[dW (fun k=>f (n+1-1-k)) n];show sm n f+f n=_;rw[Bo f n,Nat.add_sub_cancel,Nat.sub_zero,aB (g:=fun i=>f (n-(i+1))) fun k _=>by rw[show n-(k+1)=n-1-k by omega]]
  grind
theorem wD(h:Hom φ){A:List S}{c s:Nat->Int}(n:Nat)(he:∀k,el A (k+1)=φ (-c k))(hs:∀k,k<n->s k=((k+1:Nat):Int)*c k+sm k fun i=>c i*s (k-1-i)):∀k,k<n->φ (s k)=pw A (k+1):=fun k=>by
 induction k using Nat.strongRecOn with
 |ind k ih=>
  intro hk;have nw:=Dk A k;have e0:sm (k+1) (fun i=>pw A (i+1)*el A (k-i))=sm k (fun i=>pw A (i+1)*el A (k-i))+pw A (k+1):=by
   show sm k _+pw A (k+1)*el A (k-k)=_;rw[Nat.sub_self,jJ];grind
  have e1:sm k (fun i=>pw A (i+1)*el A (k-i))=-φ (sm k fun i=>c i*s (k-1-i)):=by
   have:sm k (fun i=>pw A (i+1)*el A (k-i))=sm k fun i=>-1 * φ (c (k-1-i)*s i):=aB fun i hi=>by
    rw[<-ih i hi (by omega),show k-i=k-1-i+1 by omega,he,h.mul,h.neg];grind
   rw[this,bH,h.sm,Bo (fun i=>φ (c i*s (k-1-i)))];rw[aB (f:=fun i=>φ (c (k-1-i)*s i)) (g:=fun i=>φ (c (k-1-i)*s (k-1-(k-1-i)))) fun i hi=>by rw[show k-1-(k-1-i)=i by omega]]
   grind
  rw[e0,e1,he k]at nw;rw[hs k hk,h.add,h.mul,h.ntI];rw[h.neg]at nw
  grind
theorem Df(h:Pur φ){G:List S}{s r:Nat->Int}(n:Nat)(hp:∀k,k<n->φ (s k)=pw G (k+1))(hr:∀k,k<n->r k=(s k-sm k fun i=>r i*s (k-1-i))/((k+1:Nat):Int)):∀k,k<n->φ (r k)=-el G (k+1):=fun k=>by
 induction k using Nat.strongRecOn with
 |ind k ih=>
  intro hk;have nw:=Dk G k;have e0:sm (k+1) (fun i=>pw G (i+1)*el G (k-i))=sm k (fun i=>pw G (i+1)*el G (k-i))+pw G (k+1):=by
   show sm k _+pw G (k+1)*el G (k-k)=_;rw[Nat.sub_self,jJ];grind
  have e1:sm k (fun i=>pw G (i+1)*el G (k-i))=-φ (sm k fun i=>r i*s (k-1-i)):=by
   have:sm k (fun i=>pw G (i+1)*el G (k-i))=sm k fun i=>-1 * φ (r (k-1-i)*s i):=aB fun i hi=>by
    have q:=ih (k-1-i) (by omega) (by omega);rw[<-hp i (by omega),show k-i=k-1-i+1 by omega,h.hom.mul,q];grind
   rw[this,bH,h.hom.sm,Bo (fun i=>φ (r i*s (k-1-i)))];rw[aB (f:=fun i=>φ (r (k-1-i)*s i)) (g:=fun i=>φ (r (k-1-i)*s (k-1-(k-1-i)))) fun i hi=>by rw[show k-1-(k-1-i)=i by omega]]
   grind
  rw[e0,e1,<-hp k hk]at nw;have key:nt (k+1) * -el G (k+1)=φ (s k-sm k fun i=>r i*s (k-1-i)):=by rw[h.hom.sub];grind
  obtain⟨q,hq⟩:=h.pu k _ _ key;rw[hq,<-h.hom.ntI,<-h.hom.mul]at key;have z:((k+1:Nat):Int)*q-(s k-sm k fun i=>r i*s (k-1-i))=0:=h.inj _ (by rw[h.hom.sub,key];grind);have z2:(s k-sm k fun i=>r i*s (k-1-i))=((k+1:Nat):Int)*q:=by omega
  rw[hr k hk,z2,Int.mul_ediv_cancel_left _ (by omega),hq]
theorem pN(h:Hom φ){A:List S}{c a:Nat->Int}(he:∀k,k<A.length->el A (k+1)=φ (-c k))(n:Nat):dl A (fun n=>φ (a n)) n=φ (a (n+A.length)-sm A.length fun k=>c k*a (n+A.length-1-k)):=by
 rw[Sg,dW,jJ,Nat.sub_zero,h.sub,h.sm];have:sm A.length (fun i=>el A (i+1) * φ (a (n+A.length-(i+1))))=sm A.length fun i=>-1 * φ (c i*a (n+A.length-1-i)):=aB fun i hi=>by
  rw[he i hi,h.neg,h.mul,show n+A.length-(i+1)=n+A.length-1-i by omega];grind
 rw[this,bH];grind
theorem CK{U:Type}[CommRing U]{ψ:S->U}(h:Hom ψ):∀(l:List S) (k:Nat),el (l.map ψ) k=ψ (el l k)
 |[],k=>by
  show(if k=0 then(1:U)else 0)=ψ (if k=0 then 1 else 0);split
  ·rw[h.one]
  ·rw[h.zero]
 |a::l,0=>CK h l 0
 |a::l,k+1=>by
  show el (l.map ψ) (k+1) - ψ a*el (l.map ψ) k=ψ (el l (k+1)-a*el l k);rw[CK h l,CK h l,h.sub,h.mul]
end
def cof(c:Nat->Int):Nat->Int
 |0=>1
 |k+1=>-c k
theorem Mj(m:Nat)(c:Nat->Int)(hc:∀k,m<=k->c k=0):∃(S:Type) (_:CommRing S) (φ:Int->S),Pur φ/\∃A:List S,A.length=m/\∀k,el A (k+1)=φ (-c k):=by
 obtain⟨S,iS,ψ,hψ,hp,l,ll,he⟩:=splits m Int (fun t=>t) (cof c) PZ rfl fun k hk=>by
  cases k with
  |zero=>omega
  |succ k=>show -c k=0;rw[hc k (by omega)];rfl
 exact⟨S,iS,ψ,hp,l,ll,fun k=>he (k+1)⟩
theorem Q5(m n:Nat)(c d:Nat->Int)(hc:∀k,m<=k->c k=0)(hd:∀k,n<=k->d k=0):∃(S:Type) (_:CommRing S) (φ:Int->S),Pur φ/\(∃A:List S,A.length=m/\∀k,el A (k+1)=φ (-c k))/\∃B:List S,B.length=n/\∀k,el B (k+1)=φ (-d k):=by
 obtain⟨S1,i1,φ1,h1,A,lA,eA⟩:=Mj m c hc;obtain⟨S,iS,ψ,hψ,hp,l,ll,he⟩:=splits n S1 φ1 (fun k=>φ1 (cof d k)) h1 (by show φ1 1=1;exact h1.hom.one) fun k hk=>by
  cases k with
  |zero=>omega
  |succ k=>show φ1 (-d k)=0;rw[hd k (by omega)];exact h1.hom.zero
 exact⟨S,iS,fun t=>ψ (φ1 t),hp,⟨A.map ψ,by rw[List.length_map,lA],fun k=>by rw[CK hψ,eA]⟩,l,ll,fun k=>he (k+1)⟩
theorem Gu{m n:Nat}{c d a b s t r:Nat->Int}(hc:∀k,m<=k->c k=0)(hd:∀k,n<=k->d k=0)(ha:∀i,a (i+m)=sm m fun k=>c k*a (i+m-1-k))(hb:∀i,b (i+n)=sm n fun k=>d k*b (i+n-1-k))
  (hs:∀k,k<m*n->s k=((k+1:Nat):Int)*c k+sm k fun i=>c i*s (k-1-i)) (ht:∀k,k<m*n->t k=((k+1:Nat):Int)*d k+sm k fun i=>d i*t (k-1-i))
  (hr:∀k,k<m*n->r k=(s k*t k-sm k fun i=>r i*(s (k-1-i)*t (k-1-i)))/((k+1:Nat):Int)) (i:Nat):
  a (i+m*n)*b (i+m*n)=sm (m*n) fun k=>r k*(a (i+m*n-1-k)*b (i+m*n-1-k)):=by
 obtain⟨S,iS,φ,h,⟨A,lA,eA⟩,B,lB,eB⟩:=Q5 m n c d hc hd;have kA:∀n,dl A (fun n=>φ (a n)) n=0:=fun n=>by
  rw[pN h.hom (c:=c) (fun k _=>eA k),lA,<-ha n,show a (n+m)-a (n+m)=0 by omega,h.hom.zero]
 have kB:∀n,dl B (fun n=>φ (b n)) n=0:=fun n'=>by
  rw[pN h.hom (c:=d) (fun k _=>eB k),lB,<-hb n',show b (n'+n)-b (n'+n)=0 by omega,h.hom.zero]
 have pA:=wD h.hom (A:=A) (c:=c) (s:=s) (m*n) eA hs;have pB:=wD h.hom (A:=B) (c:=d) (s:=t) (m*n) eB ht;have lG:(prs A B).length=m*n:=by rw[IY,lA,lB]
 have pG:∀k,k<m*n->φ (s k*t k)=pw (prs A B) (k+1):=fun k hk=>by rw[h.hom.mul,pA k hk,pB k hk,M8]
 have rG:=Df h (G:=prs A B) (s:=fun k=>s k*t k) (r:=r) (m*n) pG hr;have kG:=Hg kA kB i;have e:(fun n=>φ (a n) * φ (b n))=fun n=>φ (a n*b n):=funext fun n=>by rw[h.hom.mul]
 rw[e,pN h.hom (A:=prs A B) (c:=r) (a:=fun n=>a n*b n) (fun k hk=>by rw[h.hom.neg,rG k (by omega)];grind),lG]at kG;have:=h.inj _ kG;omega
section
variable {S:Type} [CommRing S]
theorem CD(x:S)(u:Nat->S):∀(e n:Nat),u (n+e)-x^e*u n=sm e fun i=>x^(e-1-i)*(u (n+i+1)-x*u (n+i))
 |0,n=>by show u n-x^0*u n=0;grind
 |e+1,n=>by
  show _=sm e (fun i=>x^(e+1-1-i)*(u (n+i+1)-x*u (n+i)))+x^(e+1-1-e)*(u (n+e+1)-x*u (n+e));have h:=CD x u e n;have e1:sm e (fun i=>x^(e+1-1-i)*(u (n+i+1)-x*u (n+i)))=x*sm e fun i=>x^(e-1-i)*(u (n+i+1)-x*u (n+i)):=by
   rw[<-bH];refine aB fun i hi=>?_;rw[show e+1-1-i=e-1-i+1 by omega];grind
  rw[e1,<-h,show e+1-1-e=0 by omega,show n+(e+1)=n+e+1 by omega];grind
theorem Ut:∀(l:List S) (m:Nat) (F:Nat->Nat->S) (g:Nat->S) (n:Nat),dl l (fun n=>sm m fun i=>g i*F i n) n=sm m fun i=>g i*dl l (F i) n
 |l,0,F,g,n=>Hs l n
 |l,m+1,F,g,n=>by
  show dl l (fun n=>sm m (fun i=>g i*F i n)+g m*F m n) n=sm m _+g m*dl l (F m) n;have:=wg l (fun n=>sm m fun i=>g i*F i n) (F m) 1 (g m) n;rw[show(fun n=>sm m (fun i=>g i*F i n)+g m*F m n)=fun n=>1*sm m (fun i=>g i*F i n)+g m*F m n from funext fun n=>by grind,this,Ut l m F g n];grind
theorem vN(e:Nat):∀(A:List S) (u:Nat->S),(∀n,dl A u n=0)->∀s n,dl (A.map fun x=>x^e) (fun n=>u (s+e*n)) n=0
 |[],u,h,s,n=>h _
 |x::A,u,h,s,n=>by
  show dl (A.map fun x=>x^e) (fun n=>u (s+e*(n+1))-x^e*u (s+e*n)) n=0;have e1:(fun n=>u (s+e*(n+1))-x^e*u (s+e*n))=fun n=>sm e fun i=>x^(e-1-i)*(fun n=>(fun n=>u (n+1)-x*u n) (s+i+e*n)) n:=funext fun n=>by
   rw[show s+e*(n+1)=s+e*n+e by rw[Nat.mul_succ];omega,CD];exact aB fun i _=>by show _=x^(e-1-i)*(u (s+i+e*n+1)-x*u (s+i+e*n));rw[show s+i+e*n=s+e*n+i by omega]
  rw[e1,Ut (A.map fun x=>x^e) e (fun i n=>(fun n=>u (n+1)-x*u n) (s+i+e*n))];rw[aB (g:=fun _=>(0:S)) fun i _=>by rw[vN e A (fun n=>u (n+1)-x*u n) h (s+i) n];grind,gF]
theorem Ij(x:S)(e:Nat):∀k,(x^e)^k=x^(e*k)
 |0=>by rw[Nat.mul_zero];grind
 |k+1=>by
  rw[Semiring.pow_succ,Ij x e k,Nat.mul_succ,Semiring.pow_add]
theorem C9(e:Nat):∀(A:List S) (k:Nat),pw (A.map fun x=>x^e) k=pw A (e*k)
 |[],_=>rfl
 |x::A,k=>by show(x^e)^k+_=x^(e*k)+_;rw[Ij,C9 e A k]
end
theorem D5{m e:Nat}(he:1<=e){c a s r:Nat->Int}(hc:∀k,m<=k->c k=0)(ha:∀i,a (i+m)=sm m fun k=>c k*a (i+m-1-k))
  (hs:∀k,k<e*m->s k=((k+1:Nat):Int)*c k+sm k fun i=>c i*s (k-1-i))
  (hr:∀k,k<m->r k=(s (e*(k+1)-1)-sm k fun i=>r i*s (e*(k-1-i+1)-1))/((k+1:Nat):Int)) (st i:Nat):
  a (st+e*(i+m))=sm m fun k=>r k*a (st+e*(i+m-1-k)):=by
 obtain⟨S,iS,φ,h,A,lA,eA⟩:=Mj m c hc;have kA:∀n,dl A (fun n=>φ (a n)) n=0:=fun n=>by
  rw[pN h.hom (c:=c) (fun k _=>eA k),lA,<-ha n,show a (n+m)-a (n+m)=0 by omega,h.hom.zero]
 have pA:=wD h.hom (A:=A) (c:=c) (s:=s) (e*m) eA hs;have lG:(A.map fun x=>x^e).length=m:=by rw[List.length_map,lA]
 have pG:∀k,k<m->φ (s (e*(k+1)-1))=pw (A.map fun x=>x^e) (k+1):=fun k hk=>by
  have l1:e*(k+1)<=e*m:=Nat.mul_le_mul_left _ hk;have l0:1*1<=e*(k+1):=Nat.mul_le_mul he (by omega);rw[pA _ (by omega),C9,show e*(k+1)-1+1=e*(k+1)by omega]
 have rG:=Df h (G:=A.map fun x=>x^e) (s:=fun k=>s (e*(k+1)-1)) (r:=r) m pG hr;have kG:=vN e A _ kA st i;rw[pN h.hom (A:=A.map fun x=>x^e) (c:=r) (a:=fun n=>a (st+e*n)) (fun k hk=>by rw[h.hom.neg,rG k (by omega)];grind),lG]at kG;have:=h.inj _ kG;omega
end Nw
namespace K58
open PySem L2
seal PA PE PS PSs PT PW PI PG PGs PO PIf
def top(i:Nat):Stmt:=PySem.Challenge.pw_nextbyrule_k58_whole_exact_and_by_primes.main.body.getD i (.Pass ⟨0,0,0,0⟩)
abbrev rm:Stmt:=top 7
abbrev Av:Stmt:=top 8
abbrev uK:Stmt:=top 9
abbrev Iv:Stmt:=top 10
abbrev oN:Stmt:=top 14
abbrev jB:Stmt:=top 15
abbrev mR:Stmt:=top 16
abbrev jO:Stmt:=top 17
abbrev mj:Stmt:=top 18
abbrev wL:Stmt:=top 19
abbrev uJ:Stmt:=top 21
abbrev Bg:Stmt:=top 22
abbrev uL:Stmt:=top 23
abbrev AF:Stmt:=top 24
abbrev qT:Stmt:=top 25
abbrev ud:Stmt:=top 26
abbrev u5:Stmt:=top 27
abbrev jM:Stmt:=top 29
abbrev mJ:Stmt:=top 30
abbrev jF:Stmt:=top 31
abbrev kY:Stmt:=top 34
abbrev tZ:Stmt:=top 35
abbrev lZ:Stmt:=top 36
abbrev tY:Stmt:=top 37
abbrev wM:Stmt:=top 38
abbrev iy:Stmt:=top 39
abbrev iK:Stmt:=top 40
abbrev wX:Stmt:=top 42
abbrev qP:Stmt:=top 43
abbrev qK:Stmt:=top 44
abbrev lF:Stmt:=top 48
abbrev fY:Stmt:=top 49
abbrev qN:Stmt:=top 50
abbrev nY:Stmt:=top 51
abbrev jj:Stmt:=top 52
abbrev jH:Stmt:=top 53
abbrev rQ:Stmt:=top 54
abbrev n8:Stmt:=top 55
abbrev BK:Stmt:=top 56
abbrev yj:Stmt:=top 57
abbrev nj:Stmt:=top 58
abbrev xQ:Stmt:=top 59
abbrev xg:Stmt:=top 60
abbrev Bx:Stmt:=top 61
abbrev nU:Stmt:=top 62
abbrev iC:Stmt:=top 64
abbrev qJ:Stmt:=top 66
abbrev mq:Stmt:=top 67
abbrev oX:Stmt:=top 68
abbrev rE:Stmt:=top 69
abbrev rN:Stmt:=top 71
abbrev wH:Stmt:=top 72
abbrev xO:Stmt:=top 74
abbrev uI:Stmt:=top 75
abbrev Aj:Stmt:=top 76
abbrev IB:Stmt:=top 77
abbrev Bv:Stmt:=top 79
abbrev sG:Stmt:=top 80
abbrev BD:Stmt:=top 81
theorem oh:aN ["number","divisor"] ["number"] (aj rm):=bW
theorem Ke:aN ["by","number"] ["by","number"] (aj Av):=bW
theorem gC:aN ["prime","number","power","square","left"] ["prime","number"] (aj uK):=bW
theorem Ol:aN ["by","one","other"] ["by","one","other"] (aj Iv):=bW
theorem yO:aN ["one","other"] ["one","other"] (aj oN):=bW
theorem um:aN ["row"] ["row"] (aj jB):=bW
theorem iT:aN ["by","rule","before","total","k"] ["by","rule","before"] (aj mR):=bW
theorem d8:aN ["row","count","by","rule","starts","found"] ["row","count"] (aj jO):=bW
theorem wQ:aN ["n"] ["n"] (aj mj):=bW
theorem GZ:aN ["row","count"] ["row","count"] (aj wL):=bW
theorem qW:aN ["numbers","end"] ["numbers"] (aj uJ):=bW
theorem tQ:aN ["by","one","other","total","i","k"] ["by","one","other"] (aj Bg):=bW
theorem gq:aN ["by","one","other","top","often","left","shift","factor","k"] ["by","one","other"] (aj uL):=bW
theorem CB:aN ["prime","poly","last"] ["prime","poly"] (aj AF):=bW
theorem gM:aN ["by","one","other","great","small","left"] ["by","one","other"] (aj qT):=bW
theorem qI:aN ["by","rule","length","numbers"] ["by","rule"] (aj ud):=bW
theorem vR:aN ["by","poly","length"] ["by","poly"] (aj u5):=bW
theorem mQ:aN ["rule","sums","k","reach"] ["rule","sums","k"] (aj jM):=bW
theorem iR:aN ["rule","count","sums","k","own"] ["rule","count"] (aj mJ):=bW
theorem jl:aN ["sums","rule","k"] ["sums"] (aj jF):=bW
theorem jG:aN ["number","found"] ["number"] (aj kY):=bW
theorem Eu:aN ["monic_one","poly"] ["monic_one","poly"] (aj tZ):=bW
theorem yh:aN ["prime","poly"] ["prime","poly"] (aj lZ):=bW
theorem vV:aN ["modulus","number","rest"] ["modulus","number"] (aj tY):=bW
theorem zj:aN ["modulus","number","prime","rest","more"] ["modulus","number","prime","rest"] (aj wM):=bW
theorem aV:aN ["one","other","told","modulus","prime","ripe","seen","before"] ["one","other"] (aj iy):=bW
theorem rK:aN ["by","one","other"] ["by","one","other"] (aj iK):=bW
theorem jP:aN ["row","poly","by","starts","top","k","parts"] ["row","poly"] (aj wX):=bW
theorem kW:aN ["row","by","poly","top"] ["row"] (aj qP):=bW
theorem oY:aN ["row","least","rule"] ["row"] (aj qK):=bW
theorem vA:aN ["length"] ["length"] (aj lF):=bW
theorem oO:aN ["start","step"] ["start","step"] (aj fY):=bW
theorem oV:aN ["by","rule","starts","rule_taken","starts_taken"] ["by","rule","starts"] (aj qN):=bW
theorem yG:aN ["ours","theirs","n"] ["ours","theirs","n"] (aj nY):=bW
theorem tH:aN ["ours","theirs","n"] ["ours","theirs","n"] (aj jj):=bW
theorem uZ:aN ["ours","theirs","n"] ["ours","theirs","n"] (aj jH):=bW
theorem kJ:aN ["one","other","rule","pair_place","length","ours","theirs"] ["one","other","rule","pair_place"] (aj rQ):=bW
theorem ig:aN ["one","other","pair_place","by","ours","theirs","poly"] ["one","other","pair_place"] (aj n8):=bW
theorem K9:aN ["one","other"] ["one","other"] (aj BK):=bW
theorem Hy:aN ["one","other"] ["one","other"] (aj yj):=bW
theorem dG:aN ["one","other","ours","theirs","length","our_sums","their_sums","rule"] ["one","other"] (aj nj):=bW
theorem Jd:aN ["row","number"] ["row","number"] (aj xQ):=bW
theorem jX:aN ["row","by","least","length","poly","found"] ["row"] (aj xg):=bW
theorem nF:aN ["row","start","step","least","length","sums","found","rule"] ["row","start","step"] (aj Bx):=bW
theorem mW:aN ["row","numbers","least","rule"] ["row","numbers"] (aj nU):=bW
theorem cP:aN ["one","other","great","small","left"] ["one","other"] (aj iC):=bW
theorem nT:aN ["row","divisor","rule","starts"] ["row","divisor"] (aj qJ):=bW
theorem iZ:aN ["row","divisor","start"] ["row"] (aj mq):=bW
theorem jz:aN ["row","divisor","start","step","length","rests","k"] ["row","divisor","start","step"] (aj oX):=bW
theorem Az:aN ["row","prime"] ["row","prime"] (aj rE):=bW
theorem Ck:aN ["_law_script","_law_k"] ["_law_script","_law_k"] (aj rN):=bW
theorem za:aN ["_law_cell","_law_k","_law_number_here"] ["_law_cell","_law_k"] (aj wH):=bW
theorem Je:aN ["_law_by_here","_law_number_here"] ["_law_by_here","_law_number_here"] (aj xO):=bW
theorem D7:aN ["_law_by_here","_law_cell","_law_sort"] ["_law_by_here","_law_cell","_law_sort"] (aj uI):=bW
theorem iY:aN ["_law_row_here","_law_count","_law_by_here","_law_rule","_law_starts","_law_found","_law_total","_law_k","_law_number_here"] ["_law_row_here","_law_count"] (aj Aj):=bW
theorem mZ:aN ["_law_script","_law_start","_law_by_here","_law_most","_law_cell","_law_size","_law_sort","_law_rule","_law_starts"] ["_law_script","_law_start","_law_by_here","_law_most"] (aj IB):=bW
theorem CW:aN ["_law_way","_law_one","_law_other","_law_cell","_law_number_here"] ["_law_way","_law_one","_law_other","_law_cell"] (aj Bv):=bW
theorem j8:aN ["_law_row_here","_law_caught","e"] ["_law_row_here"] (aj sG):=bW
theorem lQ:aN ["_law_script","_law_first","_law_prime","_law_one","_law_two","_law_way","_law_rest","_law_whole","_law_ones","_law_found","_law_due","_law_nought"] ["_law_script"] (aj BD):=bW
abbrev Gr:=csF [(".0",.local),("number",.local),("over",.globalImplicit),("last",.cell),("prime",.cell)]
abbrev BL:=csF [(".0",.local),("k",.local),("taken",.globalImplicit),("by",.cell),("length",.cell),("rule",.cell)]
abbrev Bu:=csF [(".0",.local),("k",.local),("taken",.globalImplicit),("by",.cell),("length",.cell),("poly",.cell)]
abbrev tu:=csF [(".0",.local),("i",.local),("k",.cell),("rule",.cell),("sums",.cell)]
abbrev vC:=csF [(".0",.local),("number",.local),("taken",.globalImplicit),("prime",.cell)]
abbrev pO:=csF [(".0",.local),("rest",.local),("nearest",.globalImplicit),("prime",.cell)]
abbrev qz:=csF [(".0",.local),("k",.local),("joined",.globalImplicit),("before",.cell),("modulus",.cell),("prime",.cell),("seen",.cell)]
abbrev D9:=csF [(".0",.local),("j",.local),("k",.cell),("poly",.cell),("starts",.cell)]
abbrev yZ:=csF [(".0",.local),("number",.local),("taken",.globalImplicit),("by",.cell)]
abbrev yX:=csF [(".0",.local),("number",.local),("taken",.globalImplicit),("by",.cell)]
abbrev sY:=csF [(".0",.local),("i",.local),("n",.cell),("ours",.cell),("theirs",.cell)]
abbrev zH:=csF [(".0",.local),("n",.local),("ours",.cell),("pair_place",.cell),("theirs",.cell)]
abbrev vI:=csF [(".0",.local),("k",.local),("our_sums",.cell),("their_sums",.cell)]
abbrev Em:=csF [(".0",.local),("start",.local),("number",.cell)]
abbrev EY:=csF [(".0",.local),("n",.local),("sum",.globalImplicit),("found",.cell)]
abbrev IL:=csF [(".0",.local),("k",.local),("step",.cell),("sums",.cell)]
abbrev Fw:=csF [(".0",.local),("k",.local),("found",.cell),("start",.cell),("step",.cell)]
abbrev zR:=csF [(".0",.local),("number",.local),("taken",.globalImplicit),("divisor",.cell)]
abbrev zV:=csF [(".0",.local),("number",.local),("taken",.globalImplicit),("divisor",.cell)]
abbrev JH:=csF [(".0",.local),("_law_k",.local),("_law_number",.globalImplicit),("_law_mixed",.globalImplicit),("_law_cell_at",.globalImplicit),("_law_by_here",.cell),("_law_script",.cell),("_law_sort",.cell),("_law_start",.cell)]
abbrev K6:=csF [(".0",.local),("_law_k",.local),("_law_number",.globalImplicit),("_law_mixed",.globalImplicit),("_law_cell_at",.globalImplicit),("_law_by_here",.cell),("_law_script",.cell),("_law_sort",.cell),("_law_start",.cell)]
abbrev Kg:=csF [(".0",.local),("_law_k",.local),("_law_number_here",.local),("_law_mixed",.globalImplicit),("_law_cell",.cell)]
abbrev Fy:=csF [(".0",.local),("_law_k",.local),("_law_taken",.globalImplicit),("_law_number_here",.cell),("_law_one",.cell)]
abbrev QW:=csF [(".0",.local),("_law_number_here",.local),("_law_prime",.cell)]
structure Bt(mg:Str->Option Value):Prop where
 SX:mg "abs" = none
 uX:mg "enumerate" = none
 yI:mg "isinstance" = none
 cR:mg "len" = none
 vL:mg "list" = none
 XR:mg "max" = none
 YV:mg "min" = none
 cQ:mg "range" = none
 Lh:mg "sum" = none
 gK:mg "tuple" = none
 ad1:mg "zip" = none
 cY:∃t,mg "BELOW_THE_PRIMES" = some (.int 1000000 t)
 j4:∃t,mg "FARTHEST" = some (.int 300 t)
 dI:∃t,mg "FARTHEST_START" = some (.int 100 t)
 mO:∃t,mg "LONGEST" = some (.int 12 t)
 fM:∃t,mg "WIDEST_STEP" = some (.int 10 t)
structure Ms(K:W.Frag)(mg:Str->Option Value)(base:Heap)(bG bI aH:Addr):Prop where
 Sw:mg "NoBy" = some (.ref bG)
 Ai:mg "RuleError" = some (.ref bI)
 Rq:mg "TooLong" = some (.ref aH)
 RW:ExC mg base "NoBy" bG
 sZ:ExS base bG bI
 RD:ExI K bG
 ji:W.kitOne K (.ref bG) (.ref bG)=some true
 eY:W.kitOne K (.ref bG) (.ref bI)=some true
 gQ:W.kitOne K (.ref bG) (.ref aH)=some false
 eE:W.kitOne K (.ref bG) (.type "ValueError")=some true
 Ir:ExC mg base "TooLong" aH
 Aq:ExS base aH bI
 Rk:ExI K aH
 gO:W.kitOne K (.ref aH) (.ref bG)=some false
 dF:W.kitOne K (.ref aH) (.ref bI)=some true
 d9:W.kitOne K (.ref aH) (.ref aH)=some true
 dh:W.kitOne K (.ref aH) (.type "ValueError")=some true
abbrev VL:Nat:=18
def cellAt(ns:List Int)(k:Int):Int:=if k<(ns.length:Int)then ns.getD k.toNat 0 else 0
theorem dg(a:Int){b:Int}(h:0<b):0<=a%b:=Int.emod_nonneg _ (by omega)
theorem cZ(a:Int){b:Int}(h:0<b):a%b<b:=Int.emod_lt_of_pos _ h
theorem cA{ns:List Int}{k:Int}(h0:0<=k)(h1:k<(ns.length:Int)):atI (ns.map V.int) k=some (.int (ns.getD k.toNat 0)):=by
 have e:k=((k.toNat:Nat):Int):=by omega
 have hk:k.toNat<ns.length:=by omega
 conv=>lhs;rw[e]
 exact Pq (by rw[List.getElem?_map,List.getElem?_eq_getElem hk,List.getD_eq_getElem?_getD,List.getElem?_eq_getElem hk]<;>rfl)
theorem dec_true{p:Prop}[Decidable p](c:decide p=true):p:=of_decide_eq_true c
theorem dec_false{p:Prop}[Decidable p](c:¬decide p=true):¬p:=of_decide_eq_false (Bool.eq_false_iff.mpr c)
def gk(b x:Int):Prop:=b=0∨(0<=x/\x<b)
structure Rw where
 b:Int
 rule:List Int
 starts:List Int
structure lE(r:Rw):Prop where
 len:r.rule.length=r.starts.length
 short:r.rule.length<=24
 by0:0<=r.b
 by1:r.b<1000
 lD:∀x∈r.rule,gk r.b x
 gU:∀x∈r.starts,gk r.b x
 lV:∀x∈r.rule,Rm.Bd 60000 x
 iQ:∀x∈r.starts,Rm.Bd 10000 x
def Rw.row(r:Rw)(n:Nat):List Int:=Rm.row r.b r.rule r.starts n
def Rw.at(r:Rw)(n:Nat):Int:=Rm.at_ r.b r.rule r.starts n
theorem lE.bd{r:Rw}(h:lE r)(n:Nat)(hn:n<=1000):Rm.Bd 61000000 (r.at n):=by
 have q:=Rm.W8 (b:=r.b) (rule:=r.rule) (starts:=r.starts) (a:=60000) (c:=10000) h.len h.by0 ((Rm.Bd.of (n:=10) (by have:=h.by0;omega) (by have:=h.by1;omega)).mono (by decide)) h.lV h.iQ n;refine q.mono ?_;have h1:=h.short;have h2:n*(60000+r.rule.length)<=1000*60024:=Nat.mul_le_mul hn (by omega);omega
theorem lE.U3{r:Rw}(h:lE r)(n:Nat)(hn:n<=1000):∀x∈r.row n,Rm.Bd 61000000 x:=by
 intro x hx;have e:r.row n=(List.range n).map r.at:=Rm.GR ..;rw[e]at hx;obtain⟨i,hi,rfl⟩:=List.mem_map.mp hx;exact h.bd i (by have:=List.mem_range.mp hi;omega)
theorem Rw.iD(r:Rw)(n:Nat):(r.row n).length=n:=Rm.iD ..
theorem vd{x y:Int}{m n:Nat}(h:Rm.Bd m x)(h':Rm.Bd n y)(hn:m+n<=134217728):IntMulOk x y:=
 IntMulOk.of_le (intBits_le_iff.mpr h) (intBits_le_iff.mpr h') hn
def cU(H:Hp)(v:V)(r:Rw):Prop:=
 ∃a p q,v = .ref a/\H a=some (.tup [.int r.b,.ref p,.ref q])/\H p=some (.tup (r.rule.map V.int))/\H q=some (.tup (r.starts.map V.int))
theorem cU.same{H H':Hp}{v:V}{r:Rw}(h:cU H v r)(g:Same H H'):cU H' v r:=by
 obtain⟨a,p,q,e,h1,h2,h3⟩:=h;exact⟨a,p,q,e,g _ _ h1,g _ _ h2,g _ _ h3⟩
theorem yg(xs:List Int)(x:Int):(xs++[x]).map V.int=xs.map V.int++[.int x]:=by rw[List.map_append];rfl
def Told(H:Hp)(Q:VK)(xs:List V):Prop:=∀r H',Same H H'->H r=none->H' r=some (.lst xs)->Q (.ref r) H'
inductive Tg(K:W.Frag)(vs:List V)(H:Hp)(Q:VK)(E:XK):Prop|mk (a:Addr) (ns:List Int) (z_0:vs=[.ref a]) (z_1:SqL K H a (ns.map V.int)) (z_2:ns.length<=63) (z_3:∀H',Q (.bl true) H')
def PK(K:W.Frag):Sp:=fun vs H Q E=>Tg K vs H Q E
theorem DF(xs:List V)(k:Nat):yE xs none (some (k:Int))=xs.take k:=by
 unfold yE;rw[HT.kI,HT.iW,List.drop_zero,Nat.sub_zero,List.take_eq_take_iff];omega
def yL(H:Hp)(Q:VK)(ns:List Int):Prop:=∀p H',Same H H'->H' p=some (.tup (ns.map V.int))->Q (.ref p) H'
theorem Aa{xs:List Int}{n:Nat}(h:0<n)(hn:n<=xs.length):xs.take n=xs.take (n-1)++[xs.getD (n-1) 0]:=by
 obtain⟨m,rfl⟩:∃m,n=m+1:=⟨n-1,by omega⟩;rw[Nat.add_sub_cancel,List.take_add_one,List.getElem?_eq_getElem (by omega),List.getD_eq_getElem?_getD,List.getElem?_eq_getElem (by omega)];rfl
theorem Gh{xs:List Int}{n:Nat}(h:0<n)(hn:n<=xs.length)(ht:Pm.trim (xs.take n)=Pm.trim xs)(h0:xs.getD (n-1) 0=0):Pm.trim (xs.take (n-1))=Pm.trim xs:=by
 rw[Aa h hn,h0,Pm.zc]at ht;exact ht
theorem zG{xs:List Int}{n:Nat}(hn:n<=xs.length)(ht:Pm.trim (xs.take n)=Pm.trim xs)(h0:n=0∨xs.getD (n-1) 0≠0):xs.take n=Pm.trim xs:=by
 rcases h0 with h0|h0
 ·subst h0;rw[<-ht];rfl
 ·by_cases hz:n=0
  ·subst hz;rw[<-ht];rfl
  ·rw[<-ht,Aa (by omega) hn,Pm.uq _ h0]
theorem Ie{n j:Nat}{i:Int}(e:i=(j:Int))(h:j<n):ixN n i=some j:=by
 subst e;unfold ixN;rw[if_pos (by omega),if_pos (by omega),Int.toNat_natCast]
theorem nW(L:List Int)(j:Nat)(x:Int):(L.map V.int).set j (.int x)=(L.set j x).map V.int:=by rw[List.map_set]
theorem iU(n:Nat):(List.replicate n [V.int 0]).flatten=(Pm.ofF n fun _=>0).map V.int:=by
 induction n with
 |zero=>rfl
 |succ n ih=>
  rw[Pm.C6,List.map_append,<-ih,List.replicate_succ',List.flatten_append];rfl
theorem pW{n:Nat}{ix:List (Option Nat)}{te:TE}{σ:St}{H1:Hp}{Q:VK}(hz:n<=1000){rest:St}(hst:cst ix σ=none::rest)(f:Nat->Int)
  (he:∀H' k,Same H1 H'->k<n->∀kk:VK,kk (.int (f k)) H'->te (some (.int (0+(k:Int)))::rest) H' kk)
  (hQ:∀D,H1 D=none->Q (.ref D) (upd H1 D (.lst ((Pm.ofF n f).map V.int)))):sX ix (oK 0) IX te σ Q (Itr 0 n) H1:=by
 refine mV vo (by rw[List.length_map,List.length_range];exact Nat.le_of_lt (bU hz)) hst (fun _=>true) (fun x=>match x with | .int k=> .int (f k.toNat)|_=> .non) ?_ ?_ ?_
 ·intro H2 x g2 hx k hk;exact hk
 ·intro H2 x g2 hx _ k hk;obtain⟨j,hj,rfl⟩:=List.mem_map.mp hx;have e1:(0+(j:Int)).toNat=j:=by omega
  refine he H2 j g2 (List.mem_range.mp hj) k ?_;have hk':k (V.int (f (0+(j:Int)).toNat)) H2:=hk
  rwa [e1]at hk'
 ·intro D hD;have el:((((List.range n).map fun i=>V.int (0+(i:Nat))).filter fun _=>true).map fun x=>match x with | .int k=>V.int (f k.toNat)|_=>V.non)=(Pm.ofF n f).map V.int:=by
   rw[List.filter_eq_self.mpr (by simp),List.map_map,Pm.ofF,List.map_map];refine List.map_congr_left fun k _=>?_;show V.int (f (0+(k:Int)).toNat)=V.int (f k);rw[show(0+(k:Int)).toNat=k by omega]
  rw[el];exact hQ D hD
theorem pC{K:W.Frag}{a:Addr}{xs:List Int}{ix:List (Option Nat)}{te:TE}{σ:St}{H1:Hp}{Q:VK}(hA:H1 a=some (.tup (xs.map V.int)))(hz:xs.length<=1000){rest:St}(hst:cst ix σ=none::rest)(f:Int->Int)
  (he:∀H' x,Same H1 H'->x∈xs->∀kk:VK,kk (.int (f x)) H'->te (some (.int x)::rest) H' kk)
  (hQ:∀D,H1 D=none->Q (.ref D) (upd H1 D (.lst ((xs.map f).map V.int)))):sX ix (oK 0) IX te σ Q (Itt K a) H1:=by
 refine mV (yc (SqT.of hA)) (by rw[List.length_map];exact Nat.le_of_lt (bU hz)) hst (fun _=>true) (fun x=>match x with | .int k=> .int (f k)|_=> .non) ?_ ?_ ?_
 ·intro H2 x g2 hx k hk;exact hk
 ·intro H2 x g2 hx _ k hk;obtain⟨y,hy,rfl⟩:=List.mem_map.mp hx;exact he H2 y g2 hy k hk
 ·intro D hD;have el:(((xs.map V.int).filter fun _=>true).map fun x=>match x with | .int k=>V.int (f k)|_=>V.non)=(xs.map f).map V.int:=by
   rw[List.filter_eq_self.mpr (by simp),List.map_map,List.map_map];rfl
  rw[el];exact hQ D hD
theorem KZ{K:W.Frag}{a:Addr}{xs:List Int}{ix:List (Option Nat)}{te:TE}{σ:St}{H1:Hp}{Q:VK}(hA:H1 a=some (.lst (xs.map V.int)))(hz:xs.length<=1000){rest:St}(hst:cst ix σ=none::rest)(f:Int->Int)
  (he:∀H' x,Same H1 H'->x∈xs->∀kk:VK,kk (.int (f x)) H'->te (some (.int x)::rest) H' kk)
  (hQ:∀D,H1 D=none->Q (.ref D) (upd H1 D (.lst ((xs.map f).map V.int)))):sX ix (oK 0) IX te σ Q (Itl K a) H1:=by
 refine mV (CN (SqL.of hA)) (by rw[List.length_map];exact Nat.le_of_lt (bU hz)) hst (fun _=>true) (fun x=>match x with | .int k=> .int (f k)|_=> .non) ?_ ?_ ?_
 ·intro H2 x g2 hx k hk;exact hk
 ·intro H2 x g2 hx _ k hk;obtain⟨y,hy,rfl⟩:=List.mem_map.mp hx;exact he H2 y g2 hy k hk
 ·intro D hD;have el:(((xs.map V.int).filter fun _=>true).map fun x=>match x with | .int k=>V.int (f k)|_=>V.non)=(xs.map f).map V.int:=by
   rw[List.filter_eq_self.mpr (by simp),List.map_map,List.map_map];rfl
  rw[el];exact hQ D hD
theorem oF{p:List Int}{i:Nat}{x:V}(h:(p.map V.int)[i]?=some x):x = .int (Pm.co p i)/\i<p.length:=by
 by_cases hi:i<p.length
 ·rw[List.getElem?_map,List.getElem?_eq_getElem hi]at h;cases h;refine⟨?_,hi⟩;show V.int _=V.int (p.getD i 0);rw[List.getD_eq_getElem?_getD,List.getElem?_eq_getElem hi];rfl
 ·rw[List.getElem?_eq_none (by rw[List.length_map];omega)]at h;cases h
theorem fR:∀P∈Om.jk,2<=P/\P<1000:=by decide +kernel
def ByP(b:Int):Prop:=b=0∨∃P:Nat,P∈Om.jk/\b=(P:Int)
theorem ByP.range{b:Int}(h:ByP b):0<=b/\b<1000/\b≠1:=by
 rcases h with rfl|⟨P,hP,rfl⟩
 ·decide
 ·have:=fR P hP;omega
theorem ByP.one{b:Int}(h:ByP b):Rm.tk b 1=1:=by
 rcases h with rfl|⟨P,hP,rfl⟩
 ·exact Rm.aZ 1
 ·have:=fR P hP;rw[Rm.fZ (by omega)];exact Int.emod_eq_of_lt (by decide) (by omega)
inductive K2(vs:List V)(H:Hp)(Q:VK)(E:XK):Prop|mk (b n:Int) (z_0:vs=[.int b,.int n]) (z_1:0<=b) (z_2:Q (.int (Rm.tk b n)) H)
def Jr:Sp:=fun vs H Q E=>K2  vs H Q E
abbrev gb(P w K mg base):=Cal P w K mg base "taken" 1 ["by","number"] Jr
inductive QV(K:W.Frag)(vs:List V)(H:Hp)(Q:VK)(E:XK):Prop|mk (b:Int) (r s:Addr) (rule before:List Int) (z_0:vs=[.int b,.ref r,.ref s]) (z_1:0<=b) (z_2:SqT K H r (rule.map V.int)) (z_3:SqL K H s (before.map V.int)) (z_4:rule.length<=before.length) (z_5:rule.length<=24) (z_6:before.length<=1000) (z_7:(∀x∈rule,Rm.Bd 60000 x)) (z_8:(∀x∈before,Rm.Bd 61000000 x)) (z_9:Q (.int (Rm.tk b (Rm.S rule (fun i=>before.getD i 0) before.length rule.length))) H)
def RT(K:W.Frag):Sp:=fun vs H Q E=>QV K vs H Q E
abbrev sS(P w K mg base):=Cal P w K mg base "next_place" 2 ["by","rule","before"] (RT K)
inductive KD(K:W.Frag)(vs:List V)(H:Hp)(Q:VK)(E:XK):Prop|mk (v:V) (r:Rw) (c:Int) (z_0:vs=[v,.int c]) (z_1:cU H v r) (z_2:lE r) (z_3:0<=c) (z_4:c<=900) (z_5:Told H Q ((r.row c.toNat).map V.int))
def Pr(K:W.Frag):Sp:=fun vs H Q E=>KD K vs H Q E
abbrev dN(P w K mg base):=Cal P w K mg base "first_places" 3 ["row","count"] (Pr K)
inductive Gs(vs:List V)(H:Hp)(Q:VK)(E:XK):Prop|mk (n:Nat) (z_0:vs=[.int n]) (z_1:n<2097152) (z_2:∀b:Bool,(b=true↔Om.cH n)->Q (.bl b) H)
def Lr:Sp:=fun vs H Q E=>Gs  vs H Q E
abbrev vX(P w K mg base):=Cal P w K mg base "is_prime" 1 ["number"] Lr
inductive Kr(vs:List V)(H:Hp)(Q:VK)(E:XK):Prop|mk (n q:Nat) (z_0:vs=[.int n]) (z_1:Om.cH q) (z_2:n<q) (z_3:q<2097152) (z_4:∀p:Nat,Om.cH p->n<p->p<=q->Q (.int p) H)
def QK:Sp:=fun vs H Q E=>Kr  vs H Q E
abbrev o9(P w K mg base):=Cal P w K mg base "prime_above" 2 ["number"] QK
inductive Cj(vs:List V)(H:Hp)(Q:VK)(E:XK):Prop|mk (P:Nat) (a:Int) (z_0:vs=[.int P,.int a]) (z_1:Om.cH P) (z_2:P<2097152) (z_3:0<a) (z_4:a<(P:Int)) (z_5:∀x:Int,0<=x->x<2097152->x%(P:Int)=a^(P-2)%(P:Int)->Q (.int x) H)
def EB:Sp:=fun vs H Q E=>Cj  vs H Q E
abbrev yR(P w K mg base):=Cal P w K mg base "inverse" 2 ["prime","number"] EB
inductive JF(vs:List V)(H:Hp)(Q:VK)(E:XK):Prop|mk (P:Nat) (one other:Int) (z_0:vs=[.int P,.int one,.int other]) (z_1:Om.cH P) (z_2:P<2097152) (z_3:0<other) (z_4:other<(P:Int)) (z_5:Q (.int (one*other^(P-2)%(P:Int))) H)
def OV:Sp:=fun vs H Q E=>JF  vs H Q E
abbrev Gv(P w K mg base):=Cal P w K mg base "over" 3 ["by","one","other"] OV
inductive Nq(K:W.Frag)(vs:List V)(H:Hp)(Q:VK)(E:XK):Prop|mk (l:Addr) (xs:List Int) (z_0:vs=[.ref l]) (z_1:SqL K H l (xs.map V.int)) (z_2:yL H Q (Pm.trim xs))
def UZ(K:W.Frag):Sp:=fun vs H Q E=>Nq K vs H Q E
abbrev mz(P w K mg base):=Cal P w K mg base "trimmed" 1 ["numbers"] (UZ K)
inductive J6(vs:List V)(H:Hp)(Q:VK)(E:XK):Prop|mk (b:Int) (a c:Addr) (p r:List Int) (z_0:vs=[.int b,.ref a,.ref c]) (z_1:0<=b) (z_2:H a=some (.tup (p.map V.int))) (z_3:H c=some (.tup (r.map V.int))) (z_4:p.length<=400) (z_5:r.length<=400) (z_6:(∀x∈p,Rm.Bd 1000000 x)) (z_7:(∀x∈r,Rm.Bd 1000000 x)) (z_8:yL H Q (Pm.mul b p r))
def Qc:Sp:=fun vs H Q E=>J6  vs H Q E
abbrev BQ(P w K mg base):=Cal P w K mg base "times" 2 ["by","one","other"] Qc
def Y4(H:Hp)(Q:VK)(b:Int)(P M:List Int):Prop:=∀t x y q r H',Same H H'->H' t=some (.tup [.ref x,.ref y])->H' x=some (.tup (List.map V.int q))->H' y=some (.tup (List.map V.int r))->Pm.Div b P M q r->
 (∀z∈q,Rm.Bd 5300000 z)->(∀z∈r,Rm.Bd 5300000 z)->q.length<=P.length->Q (.ref t) H'
inductive Bs(vs:List V)(H:Hp)(Q:VK)(E:XK):Prop|mk (b:Int) (a c:Addr) (P M:List Int) (z_0:vs=[.int b,.ref a,.ref c]) (z_1:0<=b) (z_2:b<2097152) (z_3:H a=some (.tup (P.map V.int))) (z_4:H c=some (.tup (M.map V.int))) (z_5:P.length<=40) (z_6:M.length<=40) (z_7:Pm.Mon M) (z_8:(∀k,Rm.tk b (Pm.co P k)=Pm.co P k)) (z_9:(∀x∈P,Rm.Bd 300000 x)) (Ux:(∀x∈M,Rm.Bd 124000 x)) (YD:Y4 H Q b P M)
def EJ:Sp:=fun vs H Q E=>Bs  vs H Q E
theorem Jy{L:List Int}{u:Nat}(h:∀k,Rm.Bd u (Pm.co L k)):∀x∈Pm.trim L,Rm.Bd u x:=fun x hx=>by
 obtain⟨k,hk,e⟩:=List.mem_iff_getElem.mp hx;rw[<-e,<-Pm.pJ hk,Pm.jm];exact h k
theorem max_zero(m n:Nat):(if(m:Int)-((n:Int)-1)>0 then(m:Int)-((n:Int)-1)else 0).toNat=m-(n-1)∨n=0:=by
 by_cases h:n=0
 ·exact .inr h
 ·left;split<;>omega
abbrev ql(P w K mg base):=Cal P w K mg base "divided" 2 ["by","one","other"] EJ
def Yy(H:Hp)(Q:VK)(b:Int)(p:List Int):Prop:=∀t m H',Same H H'->H' t=some (.tup (List.map V.int m))->Pm.xK b p m->Q (.ref t) H'
inductive Fe(vs:List V)(H:Hp)(Q:VK)(E:XK):Prop|mk (P:Nat) (a:Addr) (p:List Int) (z_0:vs=[.int P,.ref a]) (z_1:Om.cH P) (z_2:P<2097152) (z_3:H a=some (.tup (p.map V.int))) (z_4:p.length<=300) (z_5:Pm.Py P p) (z_6:Yy H Q P p)
def KQ:Sp:=fun vs H Q E=>Fe  vs H Q E
abbrev Hw(P w K mg base):=Cal P w K mg base "monic" 4 ["prime","poly"] KQ
def UJ(H:Hp)(Q:VK)(b:Int)(p r:List Int):Prop:=∀t g H',Same H H'->H' t=some (.tup (List.map V.int g))->Pm.Gcd b p r g->g.length<=max p.length r.length->Q (.ref t) H'
inductive zB(vs:List V)(H:Hp)(Q:VK)(E:XK):Prop|mk (P:Nat) (a c:Addr) (p r:List Int) (z_0:vs=[.int P,.ref a,.ref c]) (z_1:Om.cH P) (z_2:P<2097152) (z_3:H a=some (.tup (p.map V.int))) (z_4:H c=some (.tup (r.map V.int))) (z_5:p.length<=40) (z_6:r.length<=40) (z_7:Pm.Py P p) (z_8:Pm.Py P r) (z_9:(r=[]->p≠[])) (Ux:UJ H Q P p r)
def A8:Sp:=fun vs H Q E=>zB  vs H Q E
theorem QL{P:Nat}(h0:2<=P)(h:P<2097152){p:List Int}(hp:Pm.Py P p):∀x∈p,Rm.Bd 124000 x:=fun x hx=>by
 have:=hp.nu x hx;rw[Rm.fZ (by omega)]at this;rw[<-this];exact Rm.Bd.emod (by omega) ((Rm.Bd.of (n:=21) (by omega) (by omega)).mono (by decide))
abbrev sJ(P w K mg base):=Cal P w K mg base "greatest" 5 ["by","one","other"] A8
inductive Ej(vs:List V)(H:Hp)(Q:VK)(E:XK):Prop|mk (M x:Int) (z_0:vs=[.int M,.int x]) (z_1:0<M) (z_2:Q (.int (Pm.nr M x)) H)
def Gw:Sp:=fun vs H Q E=>Ej  vs H Q E
abbrev ug(P w K mg base):=Cal P w K mg base "nearest" 1 ["modulus","number"] Gw
inductive Ja(vs:List V)(H:Hp)(Q:VK)(E:XK):Prop|mk (M t:Int) (p:Nat) (s:Int) (z_0:vs=[.int M,.int t,.int p,.int s]) (z_1:Om.cH p) (z_2:p<2097152) (z_3:0<M) (z_4:¬(p:Int)∣M) (z_5:Q (.int (Pm.jn M t p s)) H)
def LD:Sp:=fun vs H Q E=>Ja  vs H Q E
abbrev Dj(P w K mg base):=Cal P w K mg base "joined" 4 ["modulus","number","prime","rest"] LD
inductive zU(vs:List V)(H:Hp)(Q:VK)(E:XK):Prop|mk (p:Nat) (a:Addr) (P:List Int) (z_0:vs=[.int p,.ref a]) (z_1:0<p) (z_2:H a=some (.tup (P.map V.int))) (z_3:P.length<=100) (z_4:yL H Q (Pm.trim (P.map (Rm.tk p))))
def BW:Sp:=fun vs H Q E=>zU  vs H Q E
abbrev sV(P w K mg base):=Cal P w K mg base "taken_poly" 2 ["prime","poly"] BW
inductive D4(vs:List V)(H:Hp)(Q:VK)(E:XK):Prop|mk (m a:Addr) (M P:List Int) (z_0:vs=[.ref m,.ref a]) (z_1:H m=some (.tup (M.map V.int))) (z_2:H a=some (.tup (P.map V.int))) (z_3:M.length<=40) (z_4:P.length<=40) (z_5:Pm.Mon M) (z_6:(∀x∈M,Rm.Bd 124000 x)) (z_7:(∀x∈P,Rm.Bd 300000 x)) (z_8:∀b H',Same H H'->(b=true↔Pm.Dv 0 M (Pm.co P))->Q (.bl b) H')
def E8:Sp:=fun vs H Q E=>D4  vs H Q E
abbrev zq(P w K mg base):=Cal P w K mg base "divides" 3 ["monic_one","poly"] E8
inductive aav(vs:List V)(H:Hp)(Q:VK)(E:XK):Prop|mk (a c:Addr) (P t g:List Int) (N:Int) (U V':Nat) (z_0:vs=[.ref a,.ref c]) (z_1:H a=some (.tup (P.map V.int))) (z_2:H c=some (.tup (t.map V.int))) (z_3:P.length<=40) (z_4:t.length<=40) (z_5:Pm.Mon P) (z_6:(∀x∈P,Rm.Bd 124000 x)) (z_7:(∀x∈t,Rm.Bd 300000 x)) (z_8:Pm.GcZ P (Pm.co t) g N) (z_9:Rm.Bd V' N) (Ux:(∀k,Rm.Bd U (Pm.co g k))) (YD:V'+U+57<=112100) (aer:yL H Q g)
def adW:Sp:=fun vs H Q E=>aav  vs H Q E
theorem Jx(p:Nat)(P:List Int)(k:Nat):Rm.tk (p:Int) (Pm.co (Pm.trim (P.map (Rm.tk p))) k)=Rm.tk p (Pm.co P k):=by
 rw[Pm.jm,Pm.sU (Pm.tk0 _),Rm.gj]
theorem Mw(p:Nat)(P:List Int):Pm.Py p (Pm.trim (P.map (Rm.tk p))):=Pm.Py.of fun x hx=>by
 obtain⟨y,_,rfl⟩:=List.mem_map.mp hx;exact Rm.gj ..
theorem Jt(p:Nat)(P:List Int):(Pm.trim (P.map (Rm.tk p))).length<=P.length:=by
 have:=Pm.fB (P.map (Rm.tk p))
 rwa [List.length_map]at this
theorem Vj{p:Nat}(hp:Om.cH p){P:List Int}(hP:Pm.Mon P):Pm.trim (P.map (Rm.tk p))≠[]:=fun z=>by
 have:=Jx p P (P.length-1);rw[z,Pm.eO,hP.one,Pm.Jq hp,Pm.tk0]at this;exact absurd this (by decide)
theorem Z1{P g told:List Int}{N M:Int}{prime bad good:Nat}{ripe:Bool}(I:Pm.WgI P g N told M prime ripe bad good)(bP:∀x∈P,Rm.Bd 124000 x)(h:bad+good<=5900):∀x∈told,Rm.Bd 124000 x:=fun x hx=>by
 by_cases c:M=1
 ·rw[I.first c]at hx;exact bP x hx
 ·obtain⟨k,hk,e⟩:=List.mem_iff_getElem.mp hx;have n:=I.near c k;rw[Pm.pJ hk,e]at n;unfold Pm.Nr at n;have h1:=I.hi;have h2:(2:Int)^(21*(bad+good))<=2^123900:=by exact_mod_cast Nat.pow_le_pow_right (n:=2) (by decide) (show 21*(bad+good)<=123900 by omega)
  have h3:M<=2^123900:=Int.le_trans h1 h2;have hpos:=I.pos;refine(show Rm.Bd 123900 x from ?_).mono (by decide);generalize hB:(2:Int)^123900=B at h3;have h4:-B<x/\x<B:=by omega
  unfold Rm.Bd;have h5:(x.natAbs:Int)<((2^123900:Nat):Int):=by
   rw[Int.natCast_pow];show(x.natAbs:Int)<(2:Int)^123900;rw[hB];omega
  exact_mod_cast h5
def Rt(H:Hp)(a c:Addr)(P' g:List Int)(N:Int)(m:Nat)(σ':St)(H':Hp):Prop:=∃(o6 o7:Option V) (tt:Addr) (told:List Int) (M:Int) (prime:Nat) (ripe:Bool) (bad good:Nat),m=6000-(bad+good)/\σ'=[some (.ref a),some (.ref c),some (.ref tt),some (.int M),some (.int (prime:Int)),some (.bl ripe),o6,o7]/\Same H H'/\H' tt=some (.tup (told.map V.int))/\Pm.WgI P' g N told M prime ripe bad good/\Om.Many (6000-(bad+good)) prime/\1000000<=prime/\bad+good<=5900
abbrev lK(P w K mg base):=Cal P w K mg base "whole_greatest" 6 ["one","other"] adW
inductive Fd(vs:List V)(H:Hp)(Q:VK)(E:XK):Prop|mk (b:Int) (a:Addr) (c:List Int) (z_0:vs=[.int b,.ref a]) (z_1:0<=b) (z_2:H a=some (.tup (c.map V.int))) (z_3:c.length<=100) (z_4:yL H Q (Pm.aP b c))
def JV:Sp:=fun vs H Q E=>Fd  vs H Q E
abbrev qj(P w K mg base):=Cal P w K mg base "of_rule" 2 ["by","rule"] JV
inductive G7(vs:List V)(H:Hp)(Q:VK)(E:XK):Prop|mk (b:Int) (a:Addr) (p:List Int) (z_0:vs=[.int b,.ref a]) (z_1:0<=b) (z_2:H a=some (.tup (p.map V.int))) (z_3:0<p.length) (z_4:p.length<=100) (z_5:yL H Q (Pm.cO b p))
def Lp:Sp:=fun vs H Q E=>G7  vs H Q E
abbrev pQ(P w K mg base):=Cal P w K mg base "rule_of" 2 ["by","poly"] Lp
theorem zp{lo:Int}{n:Nat}{ix:List (Option Nat)}{te:TE}{σ:St}{H1:Hp}{Q:VK}(hz:n<=1000){rest:St}(hst:cst ix σ=none::rest)(f:Nat->Int)
  (he:∀H' k,Same H1 H'->k<n->∀kk:VK,kk (.int (f k)) H'->te (some (.int (lo+(k:Int)))::rest) H' kk)
  (hQ:∀D,H1 D=none->Q (.ref D) (upd H1 D (.lst ((Pm.ofF n f).map V.int)))):sX ix (oK 0) IX te σ Q (Itr lo n) H1:=by
 refine mV vo (by rw[List.length_map,List.length_range];exact Nat.le_of_lt (bU hz)) hst (fun _=>true) (fun x=>match x with | .int k=> .int (f (k-lo).toNat)|_=> .non) ?_ ?_ ?_
 ·intro H2 x g2 hx k hk;exact hk
 ·intro H2 x g2 hx _ k hk;obtain⟨j,hj,rfl⟩:=List.mem_map.mp hx;have e1:(lo+(j:Int)-lo).toNat=j:=by omega
  refine he H2 j g2 (List.mem_range.mp hj) k ?_;have hk':k (V.int (f (lo+(j:Int)-lo).toNat)) H2:=hk
  rwa [e1]at hk'
 ·intro D hD;have el:((((List.range n).map fun i=>V.int (lo+(i:Nat))).filter fun _=>true).map fun x=>match x with | .int k=>V.int (f (k-lo).toNat)|_=>V.non)=(Pm.ofF n f).map V.int:=by
   rw[List.filter_eq_self.mpr (by simp),List.map_map,Pm.ofF,List.map_map];refine List.map_congr_left fun k _=>?_;show V.int (f (lo+(k:Int)-lo).toNat)=V.int (f k);rw[show(lo+(k:Int)-lo).toNat=k by omega]
  rw[el];exact hQ D hD
theorem BR:(Om.jk.all fun p=>(List.range 32).all fun d=>decide (d<2)||decide (p<d*d)||decide (p%d≠0))=true:=by decide +kernel
theorem EV{P:Nat}(h:P∈Om.jk):Om.cH P:=by
 have hr:=fR P h;refine Om.uP hr.1 fun d hd hdd hdv=>?_;have h32:d<32:=by
  by_cases c:d<32
  ·exact c
  ·have:32*32<=d*d:=Nat.mul_le_mul (by omega) (by omega);omega
 have:=List.all_eq_true.mp (List.all_eq_true.mp BR P h) d (List.mem_range.mpr h32);simp only[Bool.or_eq_true,decide_eq_true_eq]at this;have:=Nat.mod_eq_zero_of_dvd hdv;omega
def Jv(r:Rw):List Int:=Pm.trim (Pm.ofF r.rule.length fun k=>Rm.tk r.b (Pm.tp (Pm.aP r.b r.rule) r.at k))
theorem Ci(r:Rw)(k:Nat):Pm.co (Jv r) k=Rm.tk r.b (Pm.tp (Pm.aP r.b r.rule) r.at k):=by
 rw[Jv,Pm.jm,Pm.bK];by_cases c:k<r.rule.length
 ·rw[if_pos c]
 ·rw[if_neg c,Pm.Eh _ _ k (by rw[Pm.bF];omega),Pm.tk0]
theorem JT(r:Rw):(Jv r).length<=r.rule.length:=by
 have:=Pm.fB (Pm.ofF r.rule.length fun k=>Rm.tk r.b (Pm.tp (Pm.aP r.b r.rule) r.at k))
 rwa [Pm.aL]at this
theorem lE.ux{r:Rw}(ok:lE r):∀x∈Pm.aP r.b r.rule,Rm.Bd 60000 x:=Pm.pU ok.by0 ok.by1 (by decide) ok.lV
theorem N6{r:Rw}(ok:lE r):∀x∈Jv r,Rm.Bd 300000 x:=fun x hx=>by
 obtain⟨k,_,rfl⟩:=Pm.dj (Pm.xR hx);refine Rm.wU ok.by0 ((Rm.Bd.of (n:=10) (by have:=ok.by0;omega) (by have:=ok.by1;omega)).mono (by decide)) ?_;have hs:=ok.short;have hl:=ok.len;unfold Pm.tp;rw[Pm.bF,Nat.add_sub_cancel];refine(Pm.Br (c:=70000) _ fun i hi=>?_).mono (by omega);refine(Rm.Bd.mul (m:=60000) (n:=10000) (Pm.jD ok.ux _) ?_).mono (by omega);have e:r.at i=r.starts.getD i 0:=Rm.oG (by omega);rw[e];exact Rm.Bd.getD ok.iQ _
inductive Ul(vs:List V)(H:Hp)(Q:VK)(E:XK):Prop|mk (v:V) (r:Rw) (a:Addr) (z_0:vs=[v,.ref a]) (z_1:cU H v r) (z_2:lE r) (z_3:H a=some (.tup ((Pm.aP r.b r.rule).map V.int))) (z_4:yL H Q (Jv r))
def WX:Sp:=fun vs H Q E=>Ul  vs H Q E
abbrev DC(P w K mg base):=Cal P w K mg base "top_of" 2 ["row","poly"] WX
inductive HJ(vs:List V)(H:Hp)(Q:VK)(E:XK):Prop|mk (b:Int) (a c:Addr) (P t:List Int) (z_0:vs=[.int b,.ref a,.ref c]) (z_1:H a=some (.tup (P.map V.int))) (z_2:H c=some (.tup (t.map V.int))) (z_3:P.length<=40) (z_4:t.length<=40) (z_5:Pm.Mon P) (z_6:(∀x∈P,Rm.Bd 124000 x)) (z_7:(∀x∈t,Rm.Bd 300000 x)) (z_8:((b=0/\∃(g:List Int) (N:Int) (U V':Nat),Pm.GcZ P (Pm.co t) g N/\Rm.Bd V' N/\(∀k,Rm.Bd U (Pm.co g k))/\V'+U+57<=112100/\yL H Q g)∨
 (∃p:Nat,b=(p:Int)/\Om.cH p/\p<2097152/\Pm.Py p P/\Pm.Py p t/\UJ H Q p P t)))
def LX:Sp:=fun vs H Q E=>HJ  vs H Q E
abbrev lJ(P w K mg base):=Cal P w K mg base "shared_divisor" 7 ["by","one","other"] LX
structure bZ(b:Int)(f:Nat->Int)(L:List Int):Prop where
 mon:Pm.Mon L
 nu:∀k,Rm.tk b (Pm.co L k)=Pm.co L k
 kp:Pm.Kp b L f
 all:∀q,Pm.Kp b q f->Pm.Dv b L (Pm.co q)
def Tame(r:Rw):Prop:=r.b=0->∃d ua u:Nat,10<=u/\(∀x∈r.rule,Rm.Bd u x)/\(∃Q0,Pm.Mon Q0/\Pm.Kp 0 Q0 r.at/\Q0.length<=d+1)/\(∀n,n<=2*d->Rm.Bd ua (r.at n))/\d*(ua+d)+1+(u+400)+57<=112100
theorem lE.kp{r:Rw}(ok:lE r):Pm.Kp r.b (Pm.aP r.b r.rule) r.at:=Pm.Kp.aP (Pm.MJ ok.len)
theorem Ml{b:Int}{L:List Int}(h:Pm.Mon L)(hn:∀k,Rm.tk b (Pm.co L k)=Pm.co L k):Pm.Py b L:=⟨Pm.iu (fun z=>by have:=h.pos;rw[z]at this;exact absurd this (by decide)) (by rw[h.one];decide),fun x hx=>by
 obtain⟨k,hk,e⟩:=List.mem_iff_getElem.mp hx;have:=hn k
 rwa [Pm.pJ hk,e]at this⟩
theorem qF(b:Int)(c:List Int)(h1:Rm.tk b 1=1)(k:Nat):Rm.tk b (Pm.co (Pm.aP b c) k)=Pm.co (Pm.aP b c) k:=by
 have h:∀x∈Pm.aP b c,Rm.tk b x=x:=fun x hx=>by
  rcases List.mem_append.mp hx with hx|hx
  ·obtain⟨j,_,e⟩:=Pm.dj hx;rw[e,Rm.gj]
  ·rw[List.mem_singleton.mp hx,h1]
 by_cases hk:k<(Pm.aP b c).length
 ·exact h _ (Pm.zQ hk)
 ·rw[Pm.bJ (by omega),Pm.tk0]
theorem Ln{p:Nat}(hp:Om.cH p){r:Rw}(ok:lE r)(hb:r.b=(p:Int)){g L o:List Int}(hG:Pm.Gcd p (Pm.aP r.b r.rule) (Jv r) g)(D:Pm.Div p (Pm.aP r.b r.rule) g o L):bZ r.b r.at o/\o.length<=r.rule.length+1:=by
 have h1:=Pm.Jq hp;have hm:=Pm.eG r.b r.rule;have hd:Pm.Dv p g (Pm.co (Pm.aP r.b r.rule)):=hG.one.to fun _=>rfl;obtain⟨L',hL',hn',hl',e'⟩:=Pm.qG h1 hm hG.mon hd;have D':Pm.Div p (Pm.aP r.b r.rule) g L' []:=⟨Ml hL' hn',Pm.Py.nil _,hG.mon.pos,fun k=>by rw[Pm.eO,Int.add_zero];exact(e' k).symm⟩;obtain⟨eo,_⟩:=D.uniq hG.mon D';subst eo;have W:Pm.Yk p (Pm.aP p r.rule) (Pm.tp (Pm.aP p r.rule) r.at) g:=by
  rw[<-hb];refine⟨hG.mon,by rw[hb];rw[hb]at hd;exact hd,?_,?_⟩
  ·rw[hb];refine(hG.two.to (q:=Jv r) fun _=>rfl).congr fun k=>?_;rw[Ci,hb,Rm.gj]
  ·obtain⟨u,v,e⟩:=hG.sum;refine⟨1,Pm.co u,Pm.co v,u.length+v.length,by rw[hb,h1];decide,(Pm.Fs.co u).mono (by omega),(Pm.Fs.co v).mono (by omega),fun k=>?_⟩;rw[Int.one_mul,hb];rw[hb]at e;rw[e k];refine Rm.aY rfl (Pm.jy (fun _ _=>rfl) fun i _=>?_);rw[Ci,hb,Rm.gj]
 have ha:∀n,r.rule.length<=n->Rm.tk (p:Int) (r.at n)=Rm.tk p (Rm.S r.rule r.at n r.rule.length):=by
  rw[<-hb];exact Pm.MJ ok.len
 have K:=W.keeps (Dm.Dom.pr hp) ha hL' (by rw[<-hb];rw[<-hb]at e';exact e');refine⟨⟨hL',by rw[hb];exact hn',?_,fun q hq=>?_⟩,?_⟩
 ·rw[hb];refine(K o).mpr ⟨fun k=>if k=0 then 1 else 0,1,fun k hk=>if_neg (by omega),fun k=>?_⟩;rw[Pm.pI,if_pos (Nat.zero_le _),Int.one_mul,Nat.sub_zero]
 ·rw[hb]at hq ⊢;exact(K q).mp hq
 ·have:=hG.mon.pos;rw[Pm.bF]at hl';omega
inductive J1(vs:List V)(H:Hp)(Q:VK)(E:XK):Prop|mk (v:V) (r:Rw) (z_0:vs=[v]) (z_1:cU H v r) (z_2:lE r) (z_3:ByP r.b) (z_4:Tame r) (z_5:∀t L H',Same H H'->H' t=some (.tup (List.map V.int L))->bZ r.b r.at L->L.length<=r.rule.length+1->Q (.ref t) H')
def Qp:Sp:=fun vs H Q E=>J1  vs H Q E
abbrev wk(P w K mg base):=Cal P w K mg base "least_of" 8 ["row"] Qp
def aQ(r:Rw)(L:List Int):Rw:=⟨r.b,Pm.cO r.b L,r.starts.take (L.length-1)⟩
inductive KJ(vs:List V)(H:Hp)(Q:VK)(E:XK):Prop|mk (v:V) (r:Rw) (z_0:vs=[v]) (z_1:cU H v r) (z_2:lE r) (z_3:ByP r.b) (z_4:Tame r) (z_5:∀v' L H',Same H H'->cU H' v' (aQ r L)->bZ r.b r.at L->L.length<=r.rule.length+1->Q v' H')
def Qu:Sp:=fun vs H Q E=>KJ  vs H Q E
abbrev fL(P w K mg base):=Cal P w K mg base "shortest" 9 ["row"] Qu
theorem KN{ns:List Int}{k:Int}(j:Nat)(h0:k<0)(e:k+(ns.length:Int)=(j:Int)):atI (ns.map V.int) k=some (.int (ns.getD j 0)):=by
 have hj:j<ns.length:=by omega
 unfold atI ixN;rw[List.length_map,if_neg (by omega),if_pos (by omega),show(k+(ns.length:Int)).toNat=j by omega];show(ns.map V.int)[j]?=_;rw[List.getElem?_map,List.getElem?_eq_getElem hj,List.getD_eq_getElem?_getD,List.getElem?_eq_getElem hj];rfl
def byF:List Int:=[0,0,0,2,3,5,7,11,101,997]
structure ByF(b:Int):Prop where
 lo:0<=b
 hi:b<1000
 one:Rm.tk b 1=1
 p:ByP b
theorem Wd:∀k<10,byF.getD k 0=0∨((byF.getD k 0).toNat∈Om.jk/\byF.getD k 0=((byF.getD k 0).toNat:Int)):=by decide +kernel
theorem FW:∀k<10,0<=byF.getD k 0/\byF.getD k 0<1000/\Rm.tk (byF.getD k 0) 1=1:=by decide
theorem R3{k:Nat}(h:k<10):ByF (byF.getD k 0):=⟨(FW k h).1,(FW k h).2.1,(FW k h).2.2,(Wd k h).imp id fun z=>⟨_,z⟩⟩
theorem nO{b:Int}(hb:0<=b)(x:Int):gk b (Rm.tk b x):=by
 by_cases h:b=0
 ·exact .inl h
 ·rw[Rm.fZ h];exact .inr ⟨dg _ (by omega),cZ _ (by omega)⟩
theorem fQ{b x:Int}{n:Nat}(hb:ByF b)(hn:10<=n)(h:Rm.Bd n x):Rm.Bd n (Rm.tk b x):=
 Rm.wU hb.lo ((Rm.Bd.of (n:=10) (by have:=hb.lo;omega) (by have:=hb.hi;omega)).mono hn) h
theorem YK{rule:List Int}{f:Nat->Int}{n a c:Nat}(hr:∀k,Rm.Bd a (rule.getD k 0)):∀m:Nat,m<=16->(∀k,k<m->Rm.Bd c (f (n-1-k)))->Rm.Bd (a+c+4) (Rm.S rule f n m):=fun m hm h=>by
 have key:∀m,(∀k,k<m->Rm.Bd c (f (n-1-k)))->(Rm.S rule f n m).natAbs<=m*2^(a+c):=fun m=>by
  induction m with
  |zero=>intro _;exact Nat.zero_le _
  |succ m ih=>
   intro h;unfold Rm.S;have h1:=ih fun k hk=>h k (by omega);have h2:(rule.getD m 0*f (n-1-m)).natAbs<2^(a+c):=(hr m).mul (h m (by omega));have h3:=Int.natAbs_add_le (Rm.S rule f n m) (rule.getD m 0*f (n-1-m));rw[Nat.succ_mul];omega
 have k1:=key m h;have k2:m*2^(a+c)<=16*2^(a+c):=Nat.mul_le_mul_right _ hm;show(Rm.S rule f n m).natAbs<2^(a+c+4);by_cases h0:m=0
 ·rw[h0];exact Nat.pow_pos (by decide)
 ·have k3:(Rm.S rule f n m).natAbs<16*2^(a+c):=by
   obtain⟨m',rfl⟩:∃m',m=m'+1:=⟨m-1,by omega⟩;have q1:=key m' fun k hk=>h k (by omega);unfold Rm.S;have h2:(rule.getD m' 0*f (n-1-m')).natAbs<2^(a+c):=(hr m').mul (h m' (by omega));have h3:=Int.natAbs_add_le (Rm.S rule f n m') (rule.getD m' 0*f (n-1-m'));have q2:m'*2^(a+c)<=15*2^(a+c):=Nat.mul_le_mul_right _ (by omega);omega
  rw[Nat.pow_add];have:(2:Nat)^4=16:=by decide
  omega
theorem Vb{b:Int}{rule starts:List Int}{a c:Nat}(hl:rule.length=starts.length)(h16:rule.length<=16)(hb:0<=b)(hb':Rm.Bd c b)(hr:∀x∈rule,Rm.Bd a x)(hs:∀x∈starts,Rm.Bd c x):
  ∀n,Rm.Bd (c+n*(a+4)) (Rm.at_ b rule starts n):=by
 intro n;induction n using Nat.strongRecOn with
 |ind n ih=>
  by_cases h:n<starts.length
  ·rw[Rm.oG h];exact(Rm.Bd.getD hs n).mono (by omega)
  ·rw[Rm.uy hl (by omega)];by_cases h0:rule.length=0
   ·rw[h0];exact Rm.wU hb (hb'.mono (by omega)) (.zero _)
   ·have hn:0<n:=by omega
    have q:=YK (rule:=rule) (f:=Rm.at_ b rule starts) (n:=n) (a:=a) (c:=c+(n-1)*(a+4)) (fun k=>Rm.Bd.getD hr k) rule.length h16 fun k hk=>by
     refine(ih (n-1-k) (by omega)).mono ?_;have:(n-1-k)*(a+4)<=(n-1)*(a+4):=Nat.mul_le_mul_right _ (by omega);omega
    have e:n*(a+4)=(n-1)*(a+4)+(a+4):=by
     obtain⟨m,rfl⟩:∃m,n=m+1:=⟨n-1,by omega⟩;rw[Nat.add_sub_cancel,Nat.succ_mul]
    exact Rm.wU hb (hb'.mono (by omega)) (q.mono (by omega))
theorem Di{b x:Int}(h:gk b x):Rm.tk b x=x:=by
 rcases h with rfl|⟨h1,h2⟩
 ·exact Rm.aZ x
 ·rw[Rm.fZ (by omega)];exact Int.emod_eq_of_lt h1 h2
theorem M9{b x:Int}{n:Nat}(hb:ByF b)(hn:10<=n)(h0:b≠0)(h:gk b x):Rm.Bd n x:=by
 have:=hb.hi;rcases h with z|z
 ·exact absurd z h0
 ·exact(Rm.Bd.of (n:=10) (by omega) (by omega)).mono hn
theorem Li{J:It}{xs:List V}{ix:List (Option Nat)}{te:TE}{σ:St}{H1:Hp}{Q:VK}(I:ItS J xs H1)(hz:xs.length<=sizeLine){rest:St}(hst:cst ix σ=none::rest)(F:V->V)
  (he:∀(H':Hp) (x:V),Same H1 H'->x∈xs->∀k:VK,(∀H2,Same H' H2->k (F x) H2)->te (some x::rest) H' k)
  (hQ:∀D H',H1 D=none->Same H1 H'->H' D=some (.lst (xs.map F))->Q (.ref D) H'):
  sX ix (oK 0) IX te σ Q J H1:=by
 constructor;intro D hD;refine⟨fun i m σ' H'=>m=xs.length-i/\i<=xs.length/\(∃o,σ'=o::rest)/\Same H1 H'/\H' D=some (.lst ((xs.take i).map F)),⟨xs.length,by simp,Nat.zero_le _,⟨none,hst⟩,Same.new hD _,by rw[aD];rfl⟩,?_⟩;rintro i m σ' H' ⟨rfl,hi,⟨o,rfl⟩,g,hl⟩;by_cases hlt:i<xs.length
 ·refine .inr ⟨I.go i _ g hlt,fun x H2 y=>?_⟩;obtain⟨rfl,hx⟩:=I.yld i _ x H2 g y;have hx:=hx hlt;have hm:x∈xs:=List.mem_of_getElem? hx;have et:xs.take (i+1)=xs.take i++[x]:=by rw[List.take_add_one,hx];rfl
  change te (some x::rest) H2 _;refine he H2 x g hm _ fun H3 g3=>⟨_,g3 _ _ hl,by rw[List.length_map,List.length_take];omega,xs.length-(i+1),by omega,rfl,hlt,⟨_,rfl⟩,Same.upd (g.trans g3) hD _,?_⟩;rw[aD,et,List.map_append];rfl
 ·have e:i=xs.length:=by omega
  subst e;rw[List.take_length]at hl;exact .inl ⟨I.stop _ _ g (Nat.le_refl _),hQ D H' hD g hl⟩
inductive PX(K:W.Frag)(vs:List V)(H:Hp)(Q:VK)(E:XK):Prop|mk (a ns k) (z_0:vs=[.ref a,.int k]) (z_1:SqL K H a (ns.map V.int)) (z_2:0<=k) (z_3:Q (.int (cellAt ns k)) H)
def Vh(K:W.Frag):Sp:=fun vs H Q E=>PX K vs H Q E
abbrev rM(P w K mg base):=Cal P w K mg base "_law_cell_at" 1 ["_law_script","_law_k"] (Vh K)
def vP(c k:Int):Int:=(c%2147483647+1)*(k*k+48271)%2147483629
def iM(c k:Int):Int:=vP c k*(vP c k+3*k)%2147483587
inductive JY(vs:List V)(H:Hp)(Q:VK)(E:XK):Prop|mk (c k:Int) (z_0:vs=[.int c,.int k]) (z_1:0<=k) (z_2:k<=1000) (z_3:Q (.int (iM c k)) H)
def PN:Sp:=fun vs H Q E=>JY  vs H Q E
abbrev Dn(P w K mg base):=Cal P w K mg base "_law_mixed" 1 ["_law_cell","_law_k"] PN
abbrev xP(P w K mg base):=Cal P w K mg base "_law_taken" 1 ["_law_by_here","_law_number_here"] Jr
def nJ(b c s:Int):Int:=if b>0 then c%b else if s=0 then c%7-3 else if s=1 then c%201-100 else c*7919%(2*10^12-1)-10^12+1
theorem C5{b:Int}(hb:b<1000)(c s:Int):Rm.Bd 45 (nJ b c s):=by
 have a:=dg c (show(0:Int)<7 by decide);have a':=cZ c (show(0:Int)<7 by decide);have d:=dg c (show(0:Int)<201 by decide);have d':=cZ c (show(0:Int)<201 by decide);have e:=dg (c*7919) (show(0:Int)<2*10^12-1 by decide);have e':=cZ (c*7919) (show(0:Int)<2*10^12-1 by decide);refine Rm.Bd.of ?_ ?_<;>unfold nJ
 ·split
  ·rename_i h;have:=dg c h;omega
  ·split
   ·omega
   ·split
    ·omega
    ·generalize c*7919%(2*10^12-1)=m at e e'⊢;omega
 ·split
  ·rename_i h;have:=cZ c h;omega
  ·split
   ·omega
   ·split
    ·omega
    ·generalize c*7919%(2*10^12-1)=m at e e'⊢;omega
inductive JN(vs:List V)(H:Hp)(Q:VK)(E:XK):Prop|mk (b c s:Int) (z_0:vs=[.int b,.int c,.int s]) (z_1:Q (.int (nJ b c s)) H)
def Oz:Sp:=fun vs H Q E=>JN  vs H Q E
abbrev zZ(P w K mg base):=Cal P w K mg base "_law_number" 1 ["_law_by_here","_law_cell","_law_sort"] Oz
structure RwL(b:Int)(most:Nat)(r:Rw):Prop where
 by_:r.b=b
 len:r.rule.length=r.starts.length
 short:r.rule.length<=most
 lD:∀x∈r.rule,gk b x
 gU:∀x∈r.starts,gk b x
 lV:∀x∈r.rule,Rm.Bd 45 x
 iQ:∀x∈r.starts,Rm.Bd 45 x
theorem RwL.ok{b:Int}{most:Nat}{r:Rw}(hB:ByP b)(h:RwL b most r)(hm:most<=12):lE r:=by
 obtain⟨hb0,hb1,_⟩:=hB.range;have e:=h.by_;have:=h.short;exact⟨h.len,by omega,by rw[e];exact hb0,by rw[e];exact hb1,by rw[e];exact h.lD,by rw[e];exact h.gU,fun x hx=>(h.lV x hx).mono (by decide),fun x hx=>(h.iQ x hx).mono (by decide)⟩
theorem zY{b:Int}(hB:ByP b)(c s:Int):gk b (nJ b c s):=by
 obtain⟨hb0,_,_⟩:=hB.range;by_cases h:b=0
 ·exact .inl h
 ·have hb:0<b:=by omega
  have e:nJ b c s=c%b:=if_pos hb;rw[e];exact .inr ⟨dg c hb,cZ c hb⟩
theorem gk.zero{b:Int}(hB:ByP b):gk b 0:=by
 obtain⟨hb0,_,_⟩:=hB.range;by_cases h:b=0
 ·exact .inl h
 ·exact .inr ⟨Int.le_refl _,by omega⟩
theorem DV(p:List Int)(F:Nat->Int->Int):(p.map V.int).mapIdx (fun j x=>match x with | .int n=>V.int (F j n)|_=>V.non)=(Pm.ofF p.length fun j=>F j (Pm.co p j)).map V.int:=by
 refine List.ext_getElem? fun j=>?_;rw[List.getElem?_mapIdx,List.getElem?_map,List.getElem?_map];by_cases hj:j<p.length
 ·rw[List.getElem?_eq_getElem hj,Pm.ofF,List.getElem?_map,List.getElem?_range hj];show some (V.int (F j p[j]))=some (V.int (F j (p.getD j 0)));rw[List.getD_eq_getElem?_getD,List.getElem?_eq_getElem hj];rfl
 ·rw[List.getElem?_eq_none (by omega),List.getElem?_eq_none (by rw[Pm.aL];omega)];rfl
inductive Oo(vs:List V)(H:Hp)(Q:VK)(E:XK):Prop|mk (v:V) (r:Rw) (c:Int) (z_0:vs=[v,.int c]) (z_1:cU H v r) (z_2:lE r) (z_3:0<=c) (z_4:c<=900) (z_5:Told H Q ((r.row c.toNat).map V.int))
def Tt:Sp:=fun vs H Q E=>Oo  vs H Q E
abbrev IK(P w K mg base):=Cal P w K mg base "_law_gone" 2 ["_law_row_here","_law_count"] Tt
def IV:List Int:=[0,0,0,1,0,0]
inductive LR(K:W.Frag)(vs:List V)(H:Hp)(Q:VK)(E:XK):Prop|mk (a:Addr) (ns:List Int) (st b:Int) (most:Nat) (z_0:vs=[.ref a,.int st,.int b,.int most]) (z_1:SqL K H a (ns.map V.int)) (z_2:0<=st) (z_3:ByP b) (z_4:most<=12) (z_5:∀v r H',Same H H'->cU H' v r->RwL b most r->Q v H')
def Qg(K:W.Frag):Sp:=fun vs H Q E=>LR K vs H Q E
abbrev Mt(P w K mg base):=Cal P w K mg base "_law_row" 2 ["_law_script","_law_start","_law_by_here","_law_most"] (Qg K)
theorem jh{n:Nat}{ix:List (Option Nat)}{te:TE}{σ:St}{H1:Hp}{Q:VK}(hz:n<=1000){rest:St}(hst:cst ix σ=none::rest)(f:Nat->Int)
  (he:∀H' k,Same H1 H'->k<n->∀kk:VK,(∀H2,Same H' H2->kk (.int (f k)) H2)->te (some (.int (0+(k:Int)))::rest) H' kk)
  (hQ:∀D H',H1 D=none->Same H1 H'->H' D=some (.lst ((Pm.ofF n f).map V.int))->Q (.ref D) H'):sX ix (oK 0) IX te σ Q (Itr 0 n) H1:=by
 refine Li vo (by rw[List.length_map,List.length_range];exact Nat.le_of_lt (bU hz)) hst (fun x=>match x with | .int k=> .int (f k.toNat)|_=> .non) ?_ ?_
 ·intro H2 x g2 hx k hk;obtain⟨j,hj,rfl⟩:=List.mem_map.mp hx;have e1:(0+(j:Int)).toNat=j:=by omega
  refine he H2 j g2 (List.mem_range.mp hj) k fun H3 g3=>?_;have hk':k (V.int (f (0+(j:Int)).toNat)) H3:=hk H3 g3
  rwa [e1]at hk'
 ·intro D H' hD g hl;refine hQ D H' hD g ?_;rw[hl,Pm.ofF,List.map_map,List.map_map];refine congrArg (fun z=>some (HO.lst z)) (List.map_congr_left fun k _=>?_);show V.int (f (0+(k:Int)).toNat)=V.int (f k);rw[show(0+(k:Int)).toNat=k by omega]
theorem Iz{P0:Nat}(hP:P0∈Om.jk)(h2:2<=P0){a:Nat->Int}:∀(n:Nat) (P:List Int),P.length=n->Pm.Mon P->(∀k,Rm.tk P0 (Pm.co P k)=Pm.co P k)->Pm.Kp P0 P a->∃L,bZ P0 a L/\L.length<=n:=fun n=>by
 induction n using Nat.strongRecOn with
 |ind n ih=>
  intro P hl hm hn hK;by_cases c:∀q,Pm.Kp P0 q a->Pm.Dv P0 P (Pm.co q)
  ·exact⟨P,⟨hm,hn,hK,c⟩,by omega⟩
  ·obtain⟨q,hq⟩:=Classical.not_forall.mp c;have hq1:Pm.Kp P0 q a:=Classical.byContradiction fun z=>hq fun y=>absurd y z;have hq2:¬Pm.Dv P0 P (Pm.co q):=fun z=>hq fun _=>z;have eq:∀k,Pm.co (q.map (Rm.tk (P0:Int))) k=Rm.tk P0 (Pm.co q k):=fun k=>Pm.sU (Pm.tk0 _) ..;obtain⟨s,r,D⟩:=Pm.C4 hm (p:=q.map (Rm.tk (P0:Int))) (fun k=>by rw[eq,Rm.gj]);have hr:Pm.Kp P0 r a:=(D.kp hK).mp (hq1.congr fun k=>by rw[eq,Rm.gj]);by_cases z:r=[]
   ·refine absurd ⟨Pm.co s,s.length,Pm.Fs.co s,fun k=>?_⟩ hq2;have:=D.eq k;rw[z,Pm.eO,Int.add_zero,eq,Rm.gj]at this;exact this.symm
   ·have M:=Pm.IG hP h2 D.ry z;have hs:=D.short;obtain⟨L,h1,h3⟩:=ih r.length (by omega) _ M.len (M.mon z) (fun k=>M.py.co k) ((Pm.In2.scale M.to r).kp hr hr);exact⟨L,h1,by omega⟩
theorem LV{b:Int}(hB:ByP b){P:List Int}{a:Nat->Int}(hm:Pm.Mon P)(hn:∀k,Rm.tk b (Pm.co P k)=Pm.co P k)(hK:Pm.Kp b P a):∃L,bZ b a L/\L.length<=P.length:=by
 rcases hB with rfl|⟨P0,hP,rfl⟩
 ·obtain⟨g,L,hL,hy,hk,hall,hl,_,G⟩:=Pm.Ji hm hK;have:=G.mon.pos;exact⟨L,⟨hL,fun k=>Rm.aZ _,hk,hall⟩,by omega⟩
 ·exact Iz hP (fR P0 hP).1 _ P rfl hm hn hK
theorem bZ.uniq{b:Int}(h1:Rm.tk b 1=1){f:Nat->Int}{L L':List Int}(h:bZ b f L)(h':bZ b f L'):L=L':=by
 have d:=h.all L' h'.kp;have d':=h'.all L h.kp;have l1:=d.len h1 h.mon h'.mon;have l2:=d'.len h1 h'.mon h.mon;refine Pm.nQ (by omega) fun k=>?_;rw[<-h.nu k,<-h'.nu k];exact(d.same h1 h.mon h'.mon (by omega) k).symm
theorem bZ.le{b:Int}(h1:Rm.tk b 1=1){f:Nat->Int}{L P:List Int}(h:bZ b f L)(hm:Pm.Mon P)(hK:Pm.Kp b P f):L.length<=P.length:=(h.all P hK).len h1 h.mon hm
theorem yH{r:Rw}(hn:∀n,Rm.tk r.b (r.at n)=r.at n){L:List Int}(h:bZ r.b r.at L)(hl:L.length<=r.starts.length+1)(n:Nat):(aQ r L).at n=r.at n:=by
 have hp:=h.mon.pos;refine Pm.uY h.nu h.mon h.kp hn (starts:=r.starts.take (L.length-1)) ?_ ?_ n
 ·rw[List.length_take];omega
 ·intro i hi;rw[List.length_take]at hi;have e:r.at i=r.starts.getD i 0:=Rm.oG (by omega);rw[e,List.getD_eq_getElem?_getD,List.getElem?_take,if_pos (by omega),<-List.getD_eq_getElem?_getD]
theorem lE.Sv{r:Rw}(ok:lE r)(n:Nat):gk r.b (r.at n):=by
 by_cases h:r.b=0
 ·exact .inl h
 ·have h0:=ok.by0;refine .inr (Rm.JK ok.len (by omega) (fun x hx=>?_) n);rcases ok.gU x hx with z|z
  ·exact absurd z h
  ·exact z
theorem lE.LY{r:Rw}(ok:lE r)(n:Nat):Rm.tk r.b (r.at n)=r.at n:=Di (ok.Sv n)
theorem sE{r:Rw}{L:List Int}(hl:L.length<=r.rule.length+1)(ok:lE r):(aQ r L).rule.length=L.length-1/\(aQ r L).starts.length=L.length-1:=by
 have:=ok.len;refine⟨Pm.dR ..,?_⟩;show(r.starts.take (L.length-1)).length=_;rw[List.length_take];omega
theorem qO(r:Rw)(n:Nat):r.row n=Pm.ofF n r.at:=Rm.GR ..
theorem OG(b b':Int)(p s p' s':List Int):PyData.eqv (.tuple [.int b,.tuple (p.map .int),.tuple (s.map .int)]) (.tuple [.int b',.tuple (p'.map .int),.tuple (s'.map .int)])=decide (b=b'/\p=p'/\s=s'):=by
 have e1:=AZ p p';have e2:=AZ s s';rw[PyData.eqv]at e1 e2;simp only[PyData.eqvAll,PyData.eqv,e1,e2,Bool.and_true,Bool.decide_and];rfl
theorem vU(b:Int)(p r:List Int):SeqAt.shaped (.tuple [.int b,.tuple (p.map .int),.tuple (r.map .int)])=true:=by
 have h1:=jt p;have h2:=jt r;have h3:=jQ p;have h4:=jQ r;simp only[SeqAt.shaped,PyData.canLay0,PyData.canLayAll0,PyData.depth,PyData.depthAll,h1,h2,Bool.true_and,Bool.and_true];exact decide_eq_true (by omega)
theorem ab7{K:W.Frag}{g:Bool->Bool}{H:Hp}{v v':V}{r r':Rw}{Q:VK}(h:cU H v r)(h':cU H v' r')(q:Q (.bl (g (decide (r.b=r'.b/\r.rule=r'.rule/\r.starts=r'.starts)))) H):K3 K g v v' H Q:=by
 obtain⟨a,x,y,rfl,ha,hx,hy⟩:=h;obtain⟨c,x',y',rfl,hc,hx',hy'⟩:=h';exact .inl ⟨_,_,.tup (SqT.of ha) (.cons (.int _) (.cons (.tup (SqT.of hx) (Ad.ints _)) (.cons (.tup (SqT.of hy) (Ad.ints _)) .nil))),.tup (SqT.of hc) (.cons (.int _) (.cons (.tup (SqT.of hx') (Ad.ints _)) (.cons (.tup (SqT.of hy') (Ad.ints _)) .nil))),
  vU ..,vU ..,by rw[OG];exact q⟩
theorem Bh{b:Int}(hb:ByF b){P L:List Int}{f:Nat->Int}(hm:Pm.Mon P)(hK:Pm.Kp b P f)(lst:bZ b f L){u n:Nat}(hl:P.length<=n+1)(n12:n<=12)(u10:10<=u)(hu:b=0->∀k,Rm.Bd u (Pm.co P k))(k:Nat):Rm.Bd (u+13*(n+1)) (Pm.co L k):=by
 by_cases z:b=0
 ·subst z;obtain⟨g,L',hL,hy,hk,hall,hl',hE,G⟩:=Pm.Ji hm hK;have e:L=L':=lst.uniq hb.one ⟨hL,fun k=>Rm.aZ _,hk,hall⟩;subst e;have:=Pm.Dz (P:=P) (L:=g) (g:=L) G.mon (fun k=>by rw[hE,Pm.dY]) (by omega) (u:=u) (e:=4) (hu rfl) (by show P.length<=16;omega) k;refine this.mono ?_;have g1:=G.mon.pos;have:L.length<=n+1:=by omega
  omega
 ·rw[<-lst.nu k];exact M9 hb (by omega) z (nO hb.lo _)
theorem DB{r:Rw}{L:List Int}(hb:ByF r.b)(ok:lE r)(ll:L.length<=r.rule.length+1){U:Nat}(U10:10<=U)(hU:U<=60000)(h:∀k,Rm.Bd U (Pm.co L k)):lE (aQ r L)/\∀x∈(aQ r L).rule,Rm.Bd U x:=by
 obtain⟨l1,l2⟩:=sE ll ok;have bd:∀x∈(aQ r L).rule,Rm.Bd U x:=fun x hx=>by
  obtain⟨k,_,rfl⟩:=Pm.dj (show x∈Pm.ofF _ _ from hx);refine fQ hb U10 ?_;rw[Int.zero_sub];exact Pm.vW (h _)
 have hl:=ok.len;have hs:=ok.short;refine⟨⟨by omega,by omega,ok.by0,ok.by1,fun x hx=>?_,fun x hx=>ok.gU x (List.mem_of_mem_take hx),fun x hx=>(bd x hx).mono hU,fun x hx=>ok.iQ x (List.mem_of_mem_take hx)⟩,bd⟩;obtain⟨k,_,rfl⟩:=Pm.dj (show x∈Pm.ofF _ _ from hx);exact nO ok.by0 _
structure TR(b:Int)(r:Rw)(a:Nat->Int)(L:List Int):Prop where
 by_:r.b=b
 ok:lE r
 same:∀n,r.at n=a n
 lst:bZ b a L
 len:r.rule.length=L.length-1
 tG:r.rule.length<=12
theorem jo{b:Int}{xs:List Int}(h:∀x∈xs,gk b x):xs.map (Rm.tk b)=xs:=by
 exact(List.map_congr_left (f:=Rm.tk b) (g:=id) fun x hx=>Di (h x hx)).trans (List.map_id xs)
theorem Ub(rule:List Int)(n m:Nat):Rm.S rule (fun _=>0) n m=0:=by
 induction m with
 |zero=>rfl
 |succ m ih=>unfold Rm.S;rw[ih,Int.mul_zero];rfl
theorem Ga{b x:Int}{r:Rw}(hb:r.b=b)(hl:r.rule.length=r.starts.length)(n:Nat):(⟨b,r.rule,r.starts.map fun s=>Rm.tk b (x*s)⟩:Rw).at n=Rm.tk b (x*r.at n):=by
 refine Rm.rB (by rw[List.length_map];exact hl) (g:=fun n=>Rm.tk b (x*r.at n)) (fun i hi=>?_) (fun i hi=>?_) n
 ·rw[List.length_map]at hi;have e1:r.at i=r.starts.getD i 0:=Rm.oG hi;have e2:(r.starts.map fun s=>Rm.tk b (x*s)).getD i 0=Rm.tk b (x*r.starts.getD i 0):=Rm.getD_map (f:=fun s=>Rm.tk b (x*s)) (by rw[Int.mul_zero];exact Pm.tk0 b) _ _;rw[e1,e2]
 ·rw[List.length_map]at hi;have e1:r.at i=Rm.tk b (Rm.S r.rule r.at i r.rule.length):=by rw[<-hb];exact Rm.uy hl hi
  have q:=Rm.Tj b (rule:=r.rule) (f:=fun _=>0) (g:=r.at) (c:=x) (n:=i) r.rule.length;rw[Ub,Int.zero_add]at q;have e3:(fun j=>Rm.tk b (0+x*r.at j))=fun j=>Rm.tk b (x*r.at j):=funext fun j=>by rw[Int.zero_add]
  rw[e3]at q;rw[q];show Rm.tk b (x*r.at i)=_;rw[e1,Rm.bD]
theorem GJ{b x:Int}{P:List Int}{a:Nat->Int}(h:Pm.Kp b P a):Pm.Kp b P fun n=>Rm.tk b (x*a n):=fun n=>by
 have e:Rm.tk b (Pm.ks P (fun n=>Rm.tk b (x*a n)) n)=Rm.tk b (x*Pm.ks P a n):=by
  unfold Pm.ks;rw[<-Pm.bH];refine Pm.jr fun k _=>?_;rw[Rm.bD,Int.mul_left_comm]
 rw[e,<-Rm.bD,h n,Int.mul_zero,Pm.tk0]
theorem MD{b:Int}{P:List Int}{f:Nat->Int}(h:Pm.Kp b P f):Pm.Kp b P fun n=>f (n+1):=fun n=>by
 have:Pm.ks P (fun n=>f (n+1)) n=Pm.ks P f (n+1):=Pm.aB fun k _=>by rw[show n+1+k=n+k+1 by omega]
 rw[this];exact h _
theorem wJ{b:Int}{P:List Int}{f g:Nat->Int}(e:∀n,Rm.tk b (f n)=Rm.tk b (g n))(h:Pm.Kp b P f):Pm.Kp b P g:=fun n=>by
 rw[<-h n];exact Pm.jr fun k _=>by rw[<-Rm.bD,<-e,Rm.bD]
def smA(b:Int)(a:Nat->Int):Nat->Int:=fun n=>Rm.tk b (Pm.sm (n+1) a)
def Ew(b:Int)(L:List Int):List Int:=Pm.mul b L [Rm.tk b (-1),1]
theorem O1(b:Int):Pm.Mon [Rm.tk b (-1),1]:=⟨by simp,rfl⟩
theorem CF{b:Int}(h1:Rm.tk b 1=1){L:List Int}(hL:Pm.Mon L):Pm.Mon (Ew b L)/\(Ew b L).length=L.length+1:=by
 have:=Pm.FY h1 hL (O1 b);exact⟨this.1,by rw[Ew,this.2];rfl⟩
theorem QM{b:Int}{L:List Int}{a:Nat->Int}(h:Pm.Kp b L a):Pm.Kp b (Ew b L) (smA b a):=by
 refine Pm.Kp.Sx (wJ (fun n=>?_) (MD h));have e:Pm.ks [Rm.tk b (-1),1] (smA b a) n=Rm.tk b (-1)*smA b a n+smA b a (n+1):=by
  show 0+Pm.co [Rm.tk b (-1),1] 0*smA b a (n+0)+Pm.co [Rm.tk b (-1),1] 1*smA b a (n+1)=_;rw[Int.zero_add,show Pm.co [Rm.tk b (-1),1] 0=Rm.tk b (-1)from rfl,show Pm.co [Rm.tk b (-1),1] 1=1 from rfl,Int.one_mul,Nat.add_zero]
 rw[e];unfold smA;rw[Rm.fU,<-Rm.cj,Rm.cX,Rm.bD,Rm.cj,show Pm.sm (n+1+1) a=Pm.sm (n+1) a+a (n+1)from rfl];congr 1;omega
theorem NS{b:Int}(hb:ByF b){L:List Int}{u:Nat}(hu:10<=u)(hl:L.length<=13)(h:∀k,Rm.Bd u (Pm.co L k)):∀x∈Ew b L,Rm.Bd (u+23) x:=fun x hx=>by
 refine(Pm.M5 hb.lo hb.hi hu (p:=L) (q:=[Rm.tk b (-1),1]) (v:=10) (fun x hx=>?_) (fun x hx=>?_) x hx).mono (by omega)
 ·obtain⟨k,hk,e⟩:=List.mem_iff_getElem.mp hx;have:=h k;rw[Pm.pJ hk,e]at this;exact this
 ·rcases List.mem_cons.mp hx with rfl|hx
  ·exact fQ hb (by decide) (Rm.Bd.of (by decide) (by decide))
  ·rw[List.mem_singleton.mp hx];exact Rm.Bd.of (by decide) (by decide)
theorem Gb{b:Int}(hb:ByF b){L:List Int}{a:Nat->Int}(lst:bZ b a L)(n:Nat):(⟨b,Pm.cO b (Ew b L),Pm.ofF L.length (smA b a)⟩:Rw).at n=smA b a n:=by
 obtain⟨hm,hl⟩:=CF hb.one lst.mon;refine Pm.uY (w:=Ew b L) (fun k=>by rw[Ew,Pm.mC,Rm.gj]) hm (QM lst.kp) (fun n=>Rm.gj _ _) (by rw[Pm.aL,hl];rfl) (fun i hi=>?_) n;rw[Pm.aL]at hi;exact(Pm.bK _ _ _).trans (if_pos hi)
def ahd(ns:List Int)(a:Nat->Int):Nat->Int:=fun n=>if n<ns.length then Pm.co ns n else a (n-ns.length)
abbrev zer(k:Nat):List Int:=Pm.ofF k fun _=>0
theorem LC{b:Int}{lr ls ns:List Int}(hl:lr.length=ls.length)(n:Nat):(⟨b,lr++zer ns.length,ns++ls⟩:Rw).at n=ahd ns (⟨b,lr,ls⟩:Rw).at n:=by
 refine Rm.rB (by rw[List.length_append,List.length_append,Pm.aL];omega) (g:=ahd ns (⟨b,lr,ls⟩:Rw).at) (fun i hi=>?_) (fun i hi=>?_) n
 ·rw[List.length_append]at hi;have e:(ns++ls).getD i 0=Pm.co (ns++ls) i:=rfl;rw[e,Pm.bY];unfold ahd;by_cases c:i<ns.length
  ·rw[if_pos c,if_pos c]
  ·rw[if_neg c,if_neg c];exact Rm.oG (show i-ns.length<ls.length by omega)
 ·rw[List.length_append]at hi;have e0:ahd ns (⟨b,lr,ls⟩:Rw).at i=(⟨b,lr,ls⟩:Rw).at (i-ns.length):=if_neg (by omega);have e1:(⟨b,lr,ls⟩:Rw).at (i-ns.length)=Rm.tk b (Rm.S lr (⟨b,lr,ls⟩:Rw).at (i-ns.length) lr.length):=Rm.uy hl (show ls.length<=i-ns.length by omega);rw[e0,e1,Pm.Gp,Pm.Gp,List.length_append,Pm.aL];refine congrArg (Rm.tk b) ?_;rw[Pm.fG (m:=lr.length) (n:=lr.length+ns.length) (by omega) fun k h1 h2=>by
   rw[Pm.bY,if_neg (by omega),Pm.bK];split<;>rw[Int.zero_mul]]
  refine Pm.aB fun k hk=>?_;rw[Pm.bY,if_pos hk];congr 1;unfold ahd;rw[if_neg (by omega),show i-1-k-ns.length=i-ns.length-1-k by omega]
abbrev PF:=(Nat->Int)->(Nat->Int)->Nat->Int
def acA(b:Int)(f:PF)(L1 L2:List Int)(a c:Nat->Int):Rw:=⟨b,Pm.cO b (Pm.mul b L1 L2),Pm.ofF (L1.length-1+(L2.length-1)) fun n=>Rm.tk b (f a c n)⟩
theorem Ip{b:Int}(hb:ByF b){L1 L2:List Int}(m1:Pm.Mon L1)(m2:Pm.Mon L2):Pm.Mon (Pm.mul b L1 L2)/\(Pm.mul b L1 L2).length=L1.length-1+(L2.length-1)+1:=by
 have:=Pm.FY hb.one m1 m2;have h1:=m1.pos;have h2:=m2.pos;exact⟨this.1,by rw[this.2];omega⟩
theorem Tq{b:Int}(hb:ByF b){f:PF}{L1 L2:List Int}{a c:Nat->Int}(m1:Pm.Mon L1)(m2:Pm.Mon L2)(hk:Pm.Kp b (Pm.mul b L1 L2) fun n=>Rm.tk b (f a c n))(n:Nat):(acA b f L1 L2 a c).at n=Rm.tk b (f a c n):=by
 obtain⟨hm,hl⟩:=Ip hb m1 m2;refine Pm.uY (w:=Pm.mul b L1 L2) (a:=fun n=>Rm.tk b (f a c n)) (fun k=>by rw[Pm.mC,Rm.gj]) hm hk (fun n=>Rm.gj _ _) (by show(Pm.ofF _ _).length=_;rw[Pm.aL,hl];rfl) (fun i hi=>?_) n;have hi':i<L1.length-1+(L2.length-1):=by rw[<-Pm.aL (L1.length-1+(L2.length-1)) fun n=>Rm.tk b (f a c n)];exact hi
 exact(Pm.bK _ _ _).trans (if_pos hi')
theorem Nu{b:Int}(hb:ByF b){L1 L2:List Int}{u v:Nat}(hu:10<=u)(hl:L1.length<=13)(h1:∀k,Rm.Bd u (Pm.co L1 k))(h2:∀k,Rm.Bd v (Pm.co L2 k)):∀x∈Pm.mul b L1 L2,Rm.Bd (u+v+13) x:=fun x hx=>by
 refine(Pm.M5 hb.lo hb.hi hu (p:=L1) (q:=L2) (v:=v) (fun x hx=>?_) (fun x hx=>?_) x hx).mono (by omega)
 ·obtain⟨k,hk,e⟩:=List.mem_iff_getElem.mp hx;have:=h1 k;rw[Pm.pJ hk,e]at this;exact this
 ·obtain⟨k,hk,e⟩:=List.mem_iff_getElem.mp hx;have:=h2 k;rw[Pm.pJ hk,e]at this;exact this
theorem UO{b:Int}{P:List Int}{a c:Nat->Int}(h1:Pm.Kp b P a)(h2:Pm.Kp b P c):Pm.Kp b P fun n=>a n+c n:=fun n=>by
 have e:Pm.ks P (fun n=>a n+c n) n=Pm.ks P a n+Pm.ks P c n:=by
  unfold Pm.ks;rw[<-Pm.cV];exact Pm.aB fun k _=>Int.mul_add ..
 rw[e,<-Rm.cj,<-Rm.fU,h1 n,h2 n];exact Pm.tk0 b
theorem Oh{b:Int}{P:List Int}{f:Nat->Int}(h:Pm.Kp b P f):Pm.Kp b P fun n=>Rm.tk b (f n):=wJ (fun n=>(Rm.gj b (f n)).symm) h
theorem TR.uniq{b:Int}(hb:ByF b){r r':Rw}{a:Nat->Int}{L L':List Int}(h:TR b r a L)(h':TR b r' a L'):r=r':=by
 have eL:L=L':=h.lst.uniq hb.one h'.lst;subst eL;have hp:=h.lst.mon.pos;have key:∀{q:Rw},TR b q a L->Pm.aP b q.rule=L:=fun {q} t=>by
  have hk:=t.ok.kp;rw[t.by_]at hk;have ea:q.at=a:=funext t.same;rw[ea]at hk;have hl:=t.len;have hm:=Pm.eG b q.rule;have l1:=Pm.bF b q.rule;refine Pm.nQ (by omega) fun k=>?_;rw[<-h.lst.nu k,<-qF b q.rule hb.one k];exact(h.lst.all _ hk).same hb.one h.lst.mon hm (by omega) k
 have e1:=key h;have e2:=key h';have rr:∀{q:Rw},TR b q a L->q.rule=Pm.cO b L:=fun {q} t=>by
  rw[<-key t];exact(Pm.qe fun x hx=>Di (by have:=t.ok.lD x hx;rw[t.by_]at this;exact this)).symm
 have es:∀{q:Rw},TR b q a L->q.starts=Pm.ofF (L.length-1) a:=fun {q} t=>by
  have hl:=t.ok.len;have hn:=t.len;refine Pm.nQ (by rw[Pm.aL];omega) fun k=>?_;rw[Pm.bK];by_cases d:k<L.length-1
  ·rw[if_pos d,<-t.same k];exact(Rm.oG (show k<q.starts.length by omega)).symm
  ·rw[if_neg d,Pm.bJ (by omega)]
 obtain⟨qb,qr,qs⟩:=r;obtain⟨qb',qr',qs'⟩:=r';have b1:qb=b:=h.by_;have b2:qb'=b:=h'.by_;have r1:qr=_:=rr h;have r2:qr'=_:=rr h';have s1:qs=_:=es h;have s2:qs'=_:=es h';rw[b1,b2,r1,r2,s1,s2]
def qC:PF:=fun a c n=>Pm.sm (n+1) fun i=>a i*c (n-i)
theorem MS(f:Nat->Int)(j:Nat):∀d,Pm.sm (j+d) f=Pm.sm j f+Pm.sm d fun i=>f (j+i)
 |0=>by rw[Nat.add_zero];exact(Int.add_zero _).symm
 |d+1=>by
  show Pm.sm (j+d) f+f (j+d)=Pm.sm j f+(Pm.sm d (fun i=>f (j+i))+f (j+d));rw[MS f j d,Int.add_assoc]
def cvW(L:List Int)(c:Nat->Int)(j:Nat):Int:=Pm.sm L.length fun k=>if j<k then Pm.co L k*c (k-1-j)else 0
theorem Q6(L:List Int)(a c:Nat->Int)(n:Nat):Pm.ks L (qC a c) n=Pm.sm (n+1) (fun i=>a i*Pm.ks L c (n-i))+Pm.ks (Pm.ofF L.length (cvW L c)) (fun n=>a (n+1)) n:=by
 have e1:∀k,qC a c (n+k)=Pm.sm (n+1) (fun i=>a i*c (n+k-i))+Pm.sm k (fun j=>a (n+1+j)*c (n+k-(n+1+j))):=fun k=>by
  unfold qC;rw[show n+k+1=n+1+k by omega,MS]
 have e2:Pm.ks L (qC a c) n=Pm.sm L.length (fun k=>Pm.co L k*Pm.sm (n+1) (fun i=>a i*c (n+k-i)))+Pm.sm L.length (fun k=>Pm.co L k*Pm.sm k (fun j=>a (n+1+j)*c (n+k-(n+1+j)))):=by
  unfold Pm.ks;rw[<-Pm.cV];exact Pm.aB fun k _=>by rw[e1,Int.mul_add]
 have e3:Pm.sm L.length (fun k=>Pm.co L k*Pm.sm (n+1) (fun i=>a i*c (n+k-i)))=Pm.sm (n+1) fun i=>a i*Pm.ks L c (n-i):=by
  have q1:Pm.sm L.length (fun k=>Pm.co L k*Pm.sm (n+1) (fun i=>a i*c (n+k-i)))=Pm.sm L.length fun k=>Pm.sm (n+1) fun i=>Pm.co L k*(a i*c (n+k-i)):=Pm.aB fun k _=>by rw[Pm.bH]
  rw[q1,Pm.kE];refine Pm.aB fun i hi=>?_;unfold Pm.ks;rw[<-Pm.bH];exact Pm.aB fun k _=>by rw[show n+k-i=n-i+k by omega,Int.mul_left_comm]
 have e4:Pm.sm L.length (fun k=>Pm.co L k*Pm.sm k (fun j=>a (n+1+j)*c (n+k-(n+1+j))))=Pm.ks (Pm.ofF L.length (cvW L c)) (fun n=>a (n+1)) n:=by
  have q1:Pm.sm L.length (fun k=>Pm.co L k*Pm.sm k (fun j=>a (n+1+j)*c (n+k-(n+1+j))))=Pm.sm L.length fun k=>Pm.sm L.length fun j=>a (n+j+1)*(if j<k then Pm.co L k*c (k-1-j)else 0):=Pm.aB fun k hk=>by
   rw[Pm.fG (m:=k) (n:=L.length) (by omega) fun j h1 _=>by rw[if_neg (by omega),Int.mul_zero],<-Pm.bH];exact Pm.aB fun j hj=>by rw[if_pos hj,show n+1+j=n+j+1 by omega,show n+k-(n+j+1)=k-1-j by omega,Int.mul_left_comm]
  rw[q1,Pm.kE];unfold Pm.ks;rw[Pm.aL];refine Pm.aB fun j hj=>?_;rw[Pm.bK,if_pos hj,Pm.bH,Int.mul_comm];rfl
 rw[e2,e3,e4]
theorem Pu{b:Int}{L1 L2:List Int}{a c:Nat->Int}(h1:Pm.Kp b L1 a)(h2:Pm.Kp b L2 c):Pm.Kp b (Pm.mul b L1 L2) fun n=>Rm.tk b (qC a c n):=by
 refine Oh (Pm.Kp.Sx (wJ (f:=Pm.ks (Pm.ofF L2.length (cvW L2 c)) fun n=>a (n+1)) (fun n=>?_) (((MD h1).aco _).abk)));have z:Rm.tk b (Pm.sm (n+1) fun i=>a i*Pm.ks L2 c (n-i))=0:=Dm.Uj fun k _=>by rw[<-Rm.bD,h2,Int.mul_zero,Pm.tk0]
 rw[Q6,<-Rm.cj,z,Int.zero_add]
def bhd(rule sums:List Int)(k:Nat):Int:=Pm.sm (min (k-1) rule.length) fun i=>Pm.co rule i*Pm.co sums (k-2-i)
abbrev Le(x:Int)(n:Nat):Prop:=x.natAbs<=n
theorem Le.sm{f:Nat->Int}{c:Nat}:∀n:Nat,(∀k,k<n->Le (f k) c)->Le (Pm.sm n f) (n*c)
 |0,_=>Nat.zero_le _
 |n+1,h=>by
  have h1:=Le.sm n fun k hk=>h k (by omega);have h2:=h n (by omega);have h3:=Int.natAbs_add_le (Pm.sm n f) (f n);show(Pm.sm n f+f n).natAbs<=(n+1)*c;rw[Nat.succ_mul];unfold Le at h1 h2;omega
theorem Le.mul{x y:Int}{m n:Nat}(h1:Le x m)(h2:Le y n):Le (x*y) (m*n):=by
 show(x*y).natAbs<=m*n;rw[Int.natAbs_mul];exact Nat.mul_le_mul h1 h2
theorem Le.bd{x:Int}{n:Nat}(h:Le x (2^n)):Rm.Bd (n+1) x:=by
 show x.natAbs<2^(n+1);have:0<2^n:=Nat.pow_pos (by decide);rw[Nat.pow_succ];unfold Le at h;omega
theorem J2{Z:Nat}{rule sums:List Int}{k:Nat}(hk:1<=k)(hl:rule.length=k-1)(hr:∀i,i<k-1->Le (Pm.co rule i) (Z^(i+1)))(hs:∀i,i<k->Le (Pm.co sums i) (Z^(i+1))):Le ((Pm.co sums (k-1)-bhd rule sums k)/(k:Int)) (Z^k):=by
 have e1:Le (bhd rule sums k) ((k-1)*Z^k):=by
  unfold bhd;rw[hl,Nat.min_self];refine Le.sm (k-1) fun i hi=>?_;have:=(hr i hi).mul (hs (k-2-i) (by omega));rw[<-Nat.pow_add,show i+1+(k-2-i+1)=k by omega]at this;exact this
 have e2:=hs (k-1) (by omega);rw[show k-1+1=k by omega]at e2;obtain⟨m,rfl⟩:∃m,k=m+1:=⟨k-1,by omega⟩;rw[Nat.add_sub_cancel]at e1 e2⊢;generalize Pm.co sums m=s at e2;generalize bhd rule sums (m+1)=t at e1;generalize Z^(m+1)=z at e1 e2;have h3:Le (s-t) ((m+1)*z):=by
  unfold Le at *;rw[Nat.succ_mul];omega
 generalize s-t=d at h3;unfold Le at *;have h4:-(((m+1)*z:Nat):Int)<=d/\d<=(((m+1)*z:Nat):Int):=by omega
 rw[Int.natCast_mul]at h4;have p:(0:Int)<((m+1:Nat):Int):=by omega
 have h5:d/((m+1:Nat):Int)<=(z:Int):=by
  have:=Int.ediv_le_ediv p h4.2;rw[Int.mul_ediv_cancel_left _ (by omega)]at this;exact this
 have h6:-(z:Int)<=d/((m+1:Nat):Int):=by
  have:=Int.ediv_le_ediv p h4.1;rw[<-Int.mul_neg,Int.mul_ediv_cancel_left _ (by omega)]at this;exact this
 omega
theorem Ni{X:Nat}(hX:2<=X)(c:Nat):∀(n:Nat) (f:Nat->Int),(∀i,i<n->Le (f i) (c*X^(n-i)))->Le (Pm.sm n f) (c*(2*X^n))
 |0,_,_=>Nat.zero_le _
 |n+1,f,h=>by
  have h0:=h 0 (by omega);have h1:=Ni hX c n (fun i=>f (i+1)) fun i hi=>by have:=h (i+1) (by omega);rw[show n+1-(i+1)=n-i by omega]at this;exact this
  rw[Pm.dW];have h3:=Int.natAbs_add_le (f 0) (Pm.sm n fun i=>f (i+1));have e:X^(n+1-0)=X^n*X:=Nat.pow_succ ..;rw[e]at h0;have e2:c*(2*X^(n+1))=c*(X^n*X)+c*(X^n*X):=by rw[Nat.pow_succ,<-Nat.mul_add,<-Nat.two_mul]
  have e3:c*(2*X^n)<=c*(X^n*X):=Nat.mul_le_mul_left _ (by rw[Nat.mul_comm];exact Nat.mul_le_mul_left _ hX);unfold Le at *;omega
theorem QS{w:Nat}{rule sums:List Int}{k:Nat}(hk:1<=k)(k24:k<=130)(hr:∀i,Le (Pm.co rule i) (2^w))(hs:∀i,i<k-1->Le (Pm.co sums i) ((2^(w+3))^(i+1))):Le ((if k<=rule.length then(k:Int)*Pm.co rule (k-1)else 0)+bhd rule sums k) ((2^(w+3))^k):=by
 obtain⟨m,rfl⟩:∃m,k=m+1:=⟨k-1,by omega⟩;rw[Nat.add_sub_cancel]at hs⊢;have X2:2<=2^(w+3):=by
  have:0<2^w:=Nat.pow_pos (by decide);rw[Nat.pow_add];omega
 have e1:Le (bhd rule sums (m+1)) (2^w*(2*(2^(w+3))^m)):=by
  have e:bhd rule sums (m+1)=Pm.sm m fun i=>if i<rule.length then Pm.co rule i*Pm.co sums (m+1-2-i)else 0:=by
   unfold bhd;rw[Nat.add_sub_cancel,Pm.fG (m:=min m rule.length) (n:=m) (by omega) fun i h1 h2=>if_neg (by omega)];exact Pm.aB fun i hi=>(if_pos (by omega)).symm
  rw[e];refine Ni X2 _ m _ fun i hi=>?_;split
  ·have:=(hr i).mul (hs (m+1-2-i) (by omega));rw[show m+1-2-i+1=m-i by omega]at this;exact this
  ·exact Nat.zero_le _
 have e2:Le (if m+1<=rule.length then((m+1:Nat):Int)*Pm.co rule m else 0) ((m+1)*2^w):=by
  split
  ·have h1:Le ((m+1:Nat):Int) (m+1):=by unfold Le;omega
   exact h1.mul (hr m)
  ·exact Nat.zero_le _
 have h3:=Int.natAbs_add_le (if m+1<=rule.length then((m+1:Nat):Int)*Pm.co rule m else 0) (bhd rule sums (m+1));have kX:∀m,m+1<=6*8^m:=fun m=>by
  induction m with
  |zero=>decide
  |succ m ih=>rw[Nat.pow_succ];omega
 have p8:8^m<=(2^(w+3))^m:=Nat.pow_le_pow_left (by
  have:0<2^w:=Nat.pow_pos (by decide);rw[Nat.pow_add];omega) m
 have e5:(2^(w+3))^(m+1)=2^w*(2*(2^(w+3))^m)+2^w*(6*(2^(w+3))^m):=by
  rw[Nat.pow_succ,Nat.mul_comm,Nat.pow_add,<-Nat.mul_add,<-Nat.add_mul,Nat.mul_assoc]
 have e6:(m+1)*2^w<=2^w*(6*(2^(w+3))^m):=by
  rw[Nat.mul_comm];refine Nat.mul_le_mul_left _ (Nat.le_trans (kX m) (Nat.mul_le_mul_left _ p8))
 unfold Le at *;omega
theorem Iu(f:Nat->Int):∀n,Nw.sm n f=Pm.sm n f
 |0=>rfl
 |n+1=>by show Nw.sm n f+f n=Pm.sm n f+f n;rw[Iu f n]
theorem yK(rule sums:List Int)(k:Nat):bhd rule sums (k+1)=Nw.sm k fun i=>Pm.co rule i*Pm.co sums (k-1-i):=by
 unfold bhd;rw[Iu,Nat.add_sub_cancel,show(fun i=>Pm.co rule i*Pm.co sums (k+1-2-i))=fun i=>Pm.co rule i*Pm.co sums (k-1-i)from funext fun i=>by rw[show k+1-2-i=k-1-i by omega]];by_cases h:k<=rule.length
 ·rw[Nat.min_eq_left h]
 ·rw[Nat.min_eq_right (by omega),Pm.fG (m:=rule.length) (n:=k) (by omega) fun i h1 _=>by rw[Pm.bJ h1,Int.zero_mul]]
def yD:PF:=fun a c n=>a n*c n
theorem tX{rule starts:List Int}(hl:rule.length=starts.length)(i:Nat):Rm.at_ 0 rule starts (i+rule.length)=Nw.sm rule.length fun k=>Pm.co rule k*Rm.at_ 0 rule starts (i+rule.length-1-k):=by
 rw[Rm.uy hl (by omega),Rm.aZ,Pm.Gp,Iu]
theorem xJ{b:Int}{rule starts:List Int}(hl:rule.length=starts.length)(hr:∀x∈rule,gk b x)(hs:∀x∈starts,gk b x)(n:Nat):Rm.at_ b rule starts n=Rm.tk b (Rm.at_ 0 rule starts n):=by
 by_cases z:b=0
 ·rw[z,Rm.aZ]
 ·have:=Rm.M6 (p:=b) z hl n;rw[jo hr,jo hs]at this;exact this
theorem QZ{b:Int}{c d s1 s2 u1 u2 R:List Int}{N:Nat}(hc:c.length=s1.length)(hd:d.length=s2.length)(hcn:∀x∈c,gk b x)(hdn:∀x∈d,gk b x)(hs1:∀x∈s1,gk b x)(hs2:∀x∈s2,gk b x)(hN:N=c.length*d.length)(hR:R.length=N)
  (e1:∀k,k<N->Pm.co u1 k=(if k+1<=c.length then((k+1:Nat):Int)*Pm.co c k else 0)+bhd c u1 (k+1)) (e2:∀k,k<N->Pm.co u2 k=(if k+1<=d.length then((k+1:Nat):Int)*Pm.co d k else 0)+bhd d u2 (k+1))
  (e3:∀k,k<N->Pm.co R k=(Pm.co (Pm.ofF N fun k=>Pm.co u1 k*Pm.co u2 k) k-bhd R (Pm.ofF N fun k=>Pm.co u1 k*Pm.co u2 k) (k+1))/((k+1:Nat):Int)) (n:Nat):
  (⟨b,R.map (Rm.tk b),Pm.ofF N fun n=>Rm.tk b (yD (Rm.at_ b c s1) (Rm.at_ b d s2) n)⟩:Rw).at n=Rm.tk b (yD (Rm.at_ b c s1) (Rm.at_ b d s2) n):=by
 have own:∀{c:List Int} {k:Nat},(if k+1<=c.length then((k+1:Nat):Int)*Pm.co c k else 0)=((k+1:Nat):Int)*Pm.co c k:=fun {c k}=>by
  by_cases z:k+1<=c.length
  ·rw[if_pos z]
  ·rw[if_neg z,Pm.bJ (by omega),Int.mul_zero]
 have main:=Nw.Gu (m:=c.length) (n:=d.length) (c:=Pm.co c) (d:=Pm.co d) (a:=Rm.at_ 0 c s1) (b:=Rm.at_ 0 d s2) (s:=Pm.co u1) (t:=Pm.co u2) (r:=Pm.co R) (fun k hk=>Pm.bJ hk) (fun k hk=>Pm.bJ hk) (tX hc) (tX hd)
  (fun k hk=>by rw[e1 k (by omega),own,yK]) (fun k hk=>by rw[e2 k (by omega),own,yK]) (fun k hk=>by
   rw[e3 k (by omega),yK,Pm.bK,if_pos (by omega)];refine congrArg (fun x=>(Pm.co u1 k*Pm.co u2 k-x)/_) (Nw.aB fun i hi=>?_);rw[Pm.bK,if_pos (by omega)])
 have ta:∀n,Rm.tk b (yD (Rm.at_ b c s1) (Rm.at_ b d s2) n)=Rm.tk b (Rm.at_ 0 c s1 n*Rm.at_ 0 d s2 n):=fun n=>by
  unfold yD;rw[xJ hc hcn hs1,xJ hd hdn hs2,Rm.cX,Rm.bD]
 refine Rm.rB (b:=b) (rule:=R.map (Rm.tk b)) (starts:=Pm.ofF N fun n=>Rm.tk b (yD (Rm.at_ b c s1) (Rm.at_ b d s2) n)) (by rw[List.length_map,Pm.aL,hR]) (g:=fun n=>Rm.tk b (yD (Rm.at_ b c s1) (Rm.at_ b d s2) n)) (fun i hi=>?_) (fun i hi=>?_) n
 ·rw[Pm.aL]at hi;show _=Pm.co (Pm.ofF N fun n=>Rm.tk b (yD (Rm.at_ b c s1) (Rm.at_ b d s2) n)) i;rw[Pm.bK,if_pos hi]
 ·rw[Pm.aL]at hi;obtain⟨j,rfl⟩:∃j,i=j+N:=⟨i-N,by omega⟩;rw[ta,List.length_map,hR,Pm.Gp,hN,main j,Iu,<-hN];refine Pm.jr fun k hk=>?_;rw[Pm.sU (Pm.tk0 b),Rm.cX];show _=Rm.tk b (Pm.co R k*Rm.tk b (yD _ _ (j+N-1-k)));rw[ta,Rm.bD]
theorem zN{xs:List Int}{n:Nat}(h:n<xs.length):atI (xs.map V.int) (n:Int)=some (.int (Pm.co xs n)):=by
 rw[cA (by omega) (by omega),Int.toNat_natCast];rfl
theorem Jj(n:Nat)(f:Nat->Int):(Pm.ofF n f).sum=Pm.sm n f:=by rw[Pm.ofF,Pm.tO]
theorem K7{b:Int}{c s1 u R:List Int}{e st N:Nat}(he:1<=e)(hc:c.length=s1.length)(hcn:∀x∈c,gk b x)(hs1:∀x∈s1,gk b x)(hN:N=c.length)(hR:R.length=N)
  (e1:∀k,k<e*N->Pm.co u k=(if k+1<=c.length then((k+1:Nat):Int)*Pm.co c k else 0)+bhd c u (k+1))
  (e3:∀k,k<N->Pm.co R k=(Pm.co (Pm.ofF N fun k=>Pm.co u (e*(k+1)-1)) k-bhd R (Pm.ofF N fun k=>Pm.co u (e*(k+1)-1)) (k+1))/((k+1:Nat):Int)) (n:Nat):
  (⟨b,R.map (Rm.tk b),Pm.ofF N fun n=>Rm.tk b (Rm.at_ b c s1 (st+e*n))⟩:Rw).at n=Rm.tk b (Rm.at_ b c s1 (st+e*n)):=by
 have own:∀{c:List Int} {k:Nat},(if k+1<=c.length then((k+1:Nat):Int)*Pm.co c k else 0)=((k+1:Nat):Int)*Pm.co c k:=fun {c k}=>by
  by_cases z:k+1<=c.length
  ·rw[if_pos z]
  ·rw[if_neg z,Pm.bJ (by omega),Int.mul_zero]
 have main:=Nw.D5 (m:=c.length) (e:=e) he (c:=Pm.co c) (a:=Rm.at_ 0 c s1) (s:=Pm.co u) (r:=Pm.co R) (fun k hk=>Pm.bJ hk) (tX hc)
  (fun k hk=>by rw[e1 k (by rw[hN];exact hk),own,yK]) (fun k hk=>by
   rw[e3 k (by omega),yK,Pm.bK,if_pos (by omega)];refine congrArg (fun x=>(Pm.co u (e*(k+1)-1)-x)/_) (Nw.aB fun i hi=>?_);rw[Pm.bK,if_pos (by omega)]) st
 have ta:∀n,Rm.tk b (Rm.at_ b c s1 n)=Rm.tk b (Rm.at_ 0 c s1 n):=fun n=>by rw[xJ hc hcn hs1,Rm.gj]
 refine Rm.rB (b:=b) (rule:=R.map (Rm.tk b)) (starts:=Pm.ofF N fun n=>Rm.tk b (Rm.at_ b c s1 (st+e*n))) (by rw[List.length_map,Pm.aL,hR]) (g:=fun n=>Rm.tk b (Rm.at_ b c s1 (st+e*n))) (fun i hi=>?_) (fun i hi=>?_) n
 ·rw[Pm.aL]at hi;show _=Pm.co (Pm.ofF N fun n=>Rm.tk b (Rm.at_ b c s1 (st+e*n))) i;rw[Pm.bK,if_pos hi]
 ·rw[Pm.aL]at hi;obtain⟨j,rfl⟩:∃j,i=j+N:=⟨i-N,by omega⟩;rw[ta,List.length_map,hR,Pm.Gp,hN,main j,Iu,<-hN];refine Pm.jr fun k hk=>?_;rw[Pm.sU (Pm.tk0 b),Rm.cX];show _=Rm.tk b (Pm.co R k*Rm.tk b (Rm.at_ b c s1 (st+e*(j+N-1-k))));rw[ta,Rm.bD]
structure Fb(b:Int)(f:Nat->Int)(n u c d:Nat):Prop where
 at_:∀k,Rm.Bd (c+d*k) (f k)
 tk:∀k,Rm.tk b (f k)=f k
 n12:n<=12
 u10:10<=u
 u59:u<=59000
 c10:10<=c
 kp:∃P,Pm.Mon P/\Pm.Kp b P f/\P.length<=n+1/\(b=0->∀k,Rm.Bd u (Pm.co P k))
structure Ri(b:Int)(r:Rw)(n u c d:Nat):Prop where
 hB:ByF b
 by_:r.b=b
 ok:lE r
 tG:r.rule.length<=12
 tame:Tame r
 fb:Fb b r.at n u c d
theorem Fb.least{b:Int}{f:Nat->Int}{n u c d:Nat}(h:Fb b f n u c d)(hb:ByF b){L:List Int}(lst:bZ b f L)(k:Nat):Rm.Bd (u+13*(n+1)) (Pm.co L k):=by
 obtain⟨P,hm,hK,hl,hu⟩:=h.kp;exact Bh hb hm hK lst hl h.n12 h.u10 hu k
theorem Fb.len{b:Int}{f:Nat->Int}{n u c d:Nat}(h:Fb b f n u c d)(hb:ByF b){L:List Int}(lst:bZ b f L):L.length<=n+1:=by
 obtain⟨P,hm,hK,hl,_⟩:=h.kp;exact Nat.le_trans (lst.le hb.one hm hK) hl
theorem Ri.byp{b:Int}{r:Rw}{n u c d:Nat}(h:Ri b r n u c d):ByP r.b:=by rw[h.by_];exact h.hB.p
theorem Ri.ex{b:Int}{r:Rw}{n u c d:Nat}(h:Ri b r n u c d):∃L,bZ b r.at L/\L.length<=r.rule.length+1:=by
 have hk:=h.ok.kp;rw[h.by_]at hk;obtain⟨L,h1,h2⟩:=LV h.hB.p (Pm.eG b r.rule) (qF b r.rule h.hB.one) hk;exact⟨L,h1,by rw[Pm.bF]at h2;exact h2⟩
theorem Ri.ll{b:Int}{r:Rw}{n u c d:Nat}(h:Ri b r n u c d){L:List Int}(lst:bZ b r.at L):L.length<=r.rule.length+1:=by
 obtain⟨L',l1,l2⟩:=h.ex;rw[lst.uniq h.hB.one l1];exact l2
theorem Ri.sh{b:Int}{r:Rw}{n u c d:Nat}(h:Ri b r n u c d){L:List Int}(lst:bZ b r.at L):lE (aQ r L)/\(∀x∈(aQ r L).rule,Rm.Bd (u+13*(n+1)) x)/\(aQ r L).at=r.at/\(aQ r L).rule.length=L.length-1/\(aQ r L).starts.length=L.length-1/\Pm.aP b (aQ r L).rule=L:=by
 have ll:=h.ll lst;have:=h.fb.n12;have:=h.fb.u10;have:=h.fb.u59;obtain⟨o1,o2⟩:=DB (r:=r) (L:=L) (by rw[h.by_];exact h.hB) h.ok ll (U:=u+13*(n+1)) (by omega) (by omega) (h.fb.least h.hB lst);obtain⟨l1,l2⟩:=sE ll h.ok;have hl:=h.ok.len;refine⟨o1,o2,funext fun n=>yH h.ok.LY (by rw[h.by_];exact lst) (by omega) n,l1,l2,?_⟩;show Pm.aP b (Pm.cO r.b L)=L;rw[h.by_];exact Pm.kZ lst.nu lst.mon
theorem TR.rule{b:Int}(hb:ByF b){r:Rw}{a:Nat->Int}{L:List Int}(t:TR b r a L):r.rule=Pm.cO b L:=by
 have hk:=t.ok.kp;rw[t.by_]at hk;have ea:r.at=a:=funext t.same;rw[ea]at hk;have hp:=t.lst.mon.pos;have hl:=t.len;have hm:=Pm.eG b r.rule;have l1:=Pm.bF b r.rule;have e:Pm.aP b r.rule=L:=Pm.nQ (by omega) fun k=>by
  rw[<-t.lst.nu k,<-qF b r.rule hb.one k];exact(t.lst.all _ hk).same hb.one t.lst.mon hm (by omega) k
 rw[<-e];exact(Pm.qe fun x hx=>Di (by have:=t.ok.lD x hx;rw[t.by_]at this;exact this)).symm
theorem TR.ri{b:Int}(hb:ByF b){r:Rw}{f:Nat->Int}{L:List Int}(t:TR b r f L){n u c d:Nat}(h:Fb b f n u c d)(hs:n*(c+d*(2*n)+n)+(u+13*(n+1))+458<=112100):Ri b r n u c d:=by
 have ea:r.at=f:=funext t.same;have:=h.u10;refine⟨hb,t.by_,t.ok,t.tG,fun z=>?_,by rw[ea];exact h⟩;obtain⟨P,hm,hK,hl,hu⟩:=h.kp;have z':b=0:=by rw[<-t.by_];exact z
 rw[z']at hK;refine⟨n,c+d*(2*n),u+13*(n+1),by omega,fun x hx=>?_,⟨P,hm,by rw[ea];exact hK,hl⟩,fun k hk=>by rw[ea];exact(h.at_ k).mono (Nat.add_le_add_left (Nat.mul_le_mul_left _ hk) _),by omega⟩;rw[t.rule hb]at hx;obtain⟨k,_,rfl⟩:=Pm.dj (show x∈Pm.ofF _ _ from hx);refine fQ hb (by omega) ?_;rw[Int.zero_sub];exact Pm.vW (h.least hb t.lst _)
structure Td(b:Int)(ns ms:List Int)(F:Nat->Int)(n z c d:Nat):Prop where
 hB:ByF b
 ln:ns.length<=n
 n12:n<=12
 lm:ms.length=ns.length
 bd:∀x∈ns,Rm.Bd z x
 z10:10<=z
 z59:z<=59000
 at_:∀k,Rm.Bd (c+d*k) (F k)
 c10:10<=c
 st:c+d*12<=10000
 sz:n*(c+d*(2*n)+n)+z+458<=112100
 eq:∀k,(⟨b,ns.map (Rm.tk b),ms.map (Rm.tk b)⟩:Rw).at k=F k
abbrev tdR(b:Int)(ns ms:List Int):Rw:=⟨b,ns.map (Rm.tk b),ms.map (Rm.tk b)⟩
theorem Td.ok{b:Int}{ns ms:List Int}{F:Nat->Int}{n z c d:Nat}(h:Td b ns ms F n z c d):lE (tdR b ns ms):=by
 have hb:=h.hB;have l1:=h.ln;have l2:=h.lm;have l3:=h.n12;have l4:=h.z59;refine⟨by show(ns.map _).length=(ms.map _).length;rw[List.length_map,List.length_map];omega,by show(ns.map _).length<=24;rw[List.length_map];omega,hb.lo,hb.hi,fun x hx=>?_,fun x hx=>?_,fun x hx=>?_,fun x hx=>?_⟩
 ·obtain⟨y,_,rfl⟩:=List.mem_map.mp hx;exact nO hb.lo _
 ·obtain⟨y,_,rfl⟩:=List.mem_map.mp hx;exact nO hb.lo _
 ·obtain⟨y,hy,rfl⟩:=List.mem_map.mp hx;exact fQ hb (by decide) ((h.bd y hy).mono (by omega))
 ·obtain⟨k,hk,e⟩:=List.mem_iff_getElem.mp (show x∈ms.map (Rm.tk b)from hx);have e1:(tdR b ns ms).at k=(ms.map (Rm.tk b)).getD k 0:=Rm.oG hk;have e2:x=F k:=by rw[<-h.eq k];show x=(tdR b ns ms).at k;rw[e1,List.getD_eq_getElem?_getD,List.getElem?_eq_getElem hk,<-e];rfl
  rw[List.length_map]at hk;rw[e2];refine(h.at_ k).mono (Nat.le_trans (Nat.add_le_add_left (Nat.mul_le_mul_left d (show k<=12 by omega)) _) h.st)
theorem Td.fb{b:Int}{ns ms:List Int}{F:Nat->Int}{n z c d:Nat}(h:Td b ns ms F n z c d):Fb b F n z c d:=by
 have ok:=h.ok;have ea:(tdR b ns ms).at=F:=funext h.eq;have hk:=ok.kp;rw[ea]at hk;have l1:=h.ln;refine⟨h.at_,fun k=>by rw[<-ea];exact ok.LY k,h.n12,h.z10,h.z59,h.c10,_,Pm.eG _ _,hk,?_,fun _=>Pm.jD (Pm.pU h.hB.lo h.hB.hi h.z10 fun x hx=>?_)⟩
 ·rw[Pm.bF];show(ns.map _).length+1<=n+1;rw[List.length_map];omega
 ·obtain⟨y,hy,rfl⟩:=List.mem_map.mp hx;exact fQ h.hB h.z10 (h.bd y hy)
theorem Td.tame{b:Int}{ns ms:List Int}{F:Nat->Int}{n z c d:Nat}(h:Td b ns ms F n z c d):Tame (tdR b ns ms):=fun hz=>by
 have ea:(tdR b ns ms).at=F:=funext h.eq;obtain⟨P,hm,hK,hl,_⟩:=h.fb.kp;have hz':b=0:=hz;rw[hz']at hK;refine⟨n,c+d*(2*n),z,h.z10,fun x hx=>?_,⟨P,hm,by rw[ea];exact hK,hl⟩,fun k hk=>by rw[ea];exact(h.at_ k).mono (Nat.add_le_add_left (Nat.mul_le_mul_left _ hk) _),by have:=h.sz;omega⟩;obtain⟨y,hy,rfl⟩:=List.mem_map.mp hx;exact fQ h.hB h.z10 (h.bd y hy)
theorem Td.tr{b:Int}{ns ms:List Int}{F:Nat->Int}{n z c d:Nat}(h:Td b ns ms F n z c d){L:List Int}(lst:bZ b (tdR b ns ms).at L)(ll:L.length<=ns.length+1):TR b (aQ (tdR b ns ms) L) F L:=by
 have ea:(tdR b ns ms).at=F:=funext h.eq;have ok:=h.ok;have ll':L.length<=(tdR b ns ms).rule.length+1:=by show L.length<=(ns.map _).length+1;rw[List.length_map];exact ll
 have ab1:bZ b F L:=by rw[<-ea];exact lst
 have l1:=h.n12;have l2:=h.z59;have l3:=h.z10;have l4:=h.ln;obtain⟨o1,_⟩:=DB (r:=tdR b ns ms) (L:=L) h.hB ok ll' (U:=z+13*(n+1)) (by omega) (by omega) (h.fb.least h.hB ab1);obtain⟨m1,m2⟩:=sE ll' ok;refine⟨rfl,o1,fun k=>?_,ab1,m1,by rw[m1];omega⟩;rw[yH ok.LY lst (by have:=ok.len;omega),ea]
inductive NP(vs:List V)(H:Hp)(Q:VK)(E:XK):Prop|mk (v1 v2:V) (r1 r2:Rw) (z_0:vs=[v1,v2]) (z_1:cU H v1 r1) (z_2:cU H v2 r2) (z_3:r1.b=r2.b) (z_4:Q (.int r1.b) H)
def Rn:Sp:=fun vs H Q E=>NP  vs H Q E
abbrev nR(P w K mg base):=Cal P w K mg base "shared_by" 1 ["one","other"] Rn
theorem xY{J:It}{xs:List Int}{ix:List (Option Nat)}{te:TE}{σ:St}{H1:Hp}{Q:VK}(I:ItS J (xs.map V.int) H1)(hz:xs.length<=1000){rest:St}(hst:cst ix σ=none::rest)(f:Int->Int)
  (he:∀H' x,Same H1 H'->x∈xs->∀kk:VK,kk (.int (f x)) H'->te (some (.int x)::rest) H' kk)
  (hQ:∀D,H1 D=none->Q (.ref D) (upd H1 D (.lst ((xs.map f).map V.int)))):sX ix (oK 0) IX te σ Q J H1:=by
 refine mV I (by rw[List.length_map];exact Nat.le_of_lt (bU hz)) hst (fun _=>true) (fun x=>match x with | .int k=> .int (f k)|_=> .non) ?_ ?_ ?_
 ·intro H2 x g2 hx k hk;exact hk
 ·intro H2 x g2 hx _ k hk;obtain⟨y,hy,rfl⟩:=List.mem_map.mp hx;exact he H2 y g2 hy k hk
 ·intro D hD;have el:(((xs.map V.int).filter fun _=>true).map fun x=>match x with | .int k=>V.int (f k)|_=>V.non)=(xs.map f).map V.int:=by
   rw[List.filter_eq_self.mpr (by simp),List.map_map,List.map_map];rfl
  rw[el];exact hQ D hD
def Ints(H:Hp)(a:Addr)(xs:List Int):Prop:=H a=some (.lst (xs.map V.int))∨H a=some (.tup (xs.map V.int))
theorem Ints.same{H H':Hp}{a:Addr}{xs:List Int}(h:Ints H a xs)(g:Same H H'):Ints H' a xs:=h.imp (g _ _) (g _ _)
theorem zx{K:W.Frag}{a:Addr}{xs:List Int}{ix:List (Option Nat)}{te:TE}{σ:St}{H1:Hp}{Q:VK}(hA:Ints H1 a xs)(hz:xs.length<=1000){rest:St}(hst:cst ix σ=none::rest)(f:Int->Int)
  (he:∀H' x,Same H1 H'->x∈xs->∀kk:VK,kk (.int (f x)) H'->te (some (.int x)::rest) H' kk)
  (hQ:∀D,H1 D=none->Q (.ref D) (upd H1 D (.lst ((xs.map f).map V.int)))):∃a',V.ref a = .ref a'/\(((∃ys,SqL K H1 a' ys)/\sX ix (oK 0) IX te σ Q (Itl K a') H1)∨((∃ys,SqT K H1 a' ys)/\sX ix (oK 0) IX te σ Q (Itt K a') H1)):=by
 rcases hA with h|h
 ·exact⟨a,rfl,.inl ⟨⟨_,SqL.of h⟩,xY (CN (SqL.of h)) hz hst f he hQ⟩⟩
 ·exact⟨a,rfl,.inr ⟨⟨_,SqT.of h⟩,xY (yc (SqT.of h)) hz hst f he hQ⟩⟩
inductive QF(C:Addr)(vs:List V)(H:Hp)(Q:VK)(E:XK):Prop|mk (n:Int) (z_0:vs=[.int n]) (z_1:(n<=12->Q .non H)) (z_2:(12<n->E (.ref C) none H))
def U7(C:Addr):Sp:=fun vs H Q E=>QF C vs H Q E
abbrev fV(P w K mg base aH):=Cal P w K mg base "refuse_long" 1 ["length"] (U7 aH)
inductive QX(vs:List V)(H:Hp)(Q:VK)(E:XK):Prop|mk (b:Int) (a e:Addr) (ns ms:List Int) (F:Nat->Int) (n z c d:Nat) (z_0:vs=[.int b,.ref a,.ref e]) (z_1:Ints H a ns) (z_2:Ints H e ms) (z_3:Td b ns ms F n z c d) (z_4:∀v' r' L H',Same H H'->cU H' v' r'->TR b r' F L->Fb b F n z c d->L.length<=ns.length+1->Q v' H')
def UQ:Sp:=fun vs H Q E=>QX  vs H Q E
abbrev jg(P w K mg base):=Cal P w K mg base "told_row" 10 ["by","rule","starts"] UQ
theorem vO{m n:Nat}{a:Nat->Int}(h:n<m):atI ((Pm.ofF m a).map V.int) (n:Int)=some (.int (a n)):=by
 rw[cA (by omega) (by rw[Pm.aL];omega),Int.toNat_natCast];show some (V.int (Pm.co (Pm.ofF m a) n))=_;rw[Pm.bK,if_pos h]
inductive aaY(f:PF)(vs:List V)(H:Hp)(Q:VK)(E:XK):Prop|mk (l1 l2:Addr) (m:Nat) (a c:Nat->Int) (n:Nat) (z_0:vs=[.ref l1,.ref l2,.int (n:Int)]) (z_1:H l1=some (.lst ((Pm.ofF m a).map V.int))) (z_2:H l2=some (.lst ((Pm.ofF m c).map V.int))) (z_3:n<m) (z_4:m<=12) (z_5:(∀i,i<=12->Rm.Bd 20000 (a i))) (z_6:(∀i,i<=12->Rm.Bd 20000 (c i))) (z_7:∀H',Same H H'->Q (.int (f a c n)) H')
def XH(f:PF):Sp:=fun vs H Q E=>aaY f vs H Q E
def Ob:PF:=fun a c n=>a n+c n
abbrev n6(P w K mg base):=Cal P w K mg base "sum_place" 1 ["ours","theirs","n"] (XH Ob)
abbrev jq(P w K mg base):=Cal P w K mg base "product_place" 1 ["ours","theirs","n"] (XH yD)
abbrev jC(P w K mg base):=Cal P w K mg base "rolled_place" 1 ["ours","theirs","n"] (XH qC)
def abU(mg:Str->Option Value)(g:Addr)(f:PF):Prop:=(mg "sum_place" = some (.ref g)/\f=Ob)∨(mg "rolled_place" = some (.ref g)/\f=qC)∨(mg "product_place" = some (.ref g)/\f=yD)
inductive JW(mg:Str->Option Value)(vs:List V)(H:Hp)(Q:VK)(E:XK):Prop|mk (f:PF) (v1 v2:V) (t g:Addr) (b:Int) (r1 r2:Rw) (ns:List Int) (n z c d:Nat) (z_0:vs=[v1,v2,.ref t,.ref g]) (z_1:abU mg g f) (z_2:cU H v1 r1) (z_3:cU H v2 r2) (z_4:lE r1) (z_5:lE r2) (z_6:r1.b=b) (z_7:(∀i,i<=12->Rm.Bd 20000 (r1.at i))) (z_8:(∀i,i<=12->Rm.Bd 20000 (r2.at i))) (z_9:Ints H t ns) (Ux:Td b ns (Pm.ofF ns.length (f r1.at r2.at)) (fun k=>Rm.tk b (f r1.at r2.at k)) n z c d) (YD:∀v' r' L H',Same H H'->cU H' v' r'->TR b r' (fun k=>Rm.tk b (f r1.at r2.at k)) L->Fb b (fun k=>Rm.tk b (f r1.at r2.at k)) n z c d->L.length<=ns.length+1->Q v' H')
def O4(mg:Str->Option Value):Sp:=fun vs H Q E=>JW mg vs H Q E
abbrev rZ(P w K mg base):=Cal P w K mg base "pair_row" 11 ["one","other","rule","pair_place"] (O4 mg)
def abA(C:Addr)(f:PF)(v1 v2:V)(H:Hp)(Q:VK)(E:XK):Prop:=∃(b:Int) (r1 r2:Rw) (n1 u1 c1 d1 n2 u2 c2 d2:Nat) (L1 L2:List Int),cU H v1 r1/\cU H v2 r2/\Ri b r1 n1 u1 c1 d1/\Ri b r2 n2 u2 c2 d2/\bZ b r1.at L1/\bZ b r2.at L2/\c1+d1*12<=20000/\c2+d2*12<=20000/\u1+u2<=50000/\
 (L1.length-1+(L2.length-1)<=12->∃n c d,L1.length-1+(L2.length-1)<=n/\n<=12/\Pm.Kp b (Pm.mul b L1 L2) (fun k=>Rm.tk b (f r1.at r2.at k))/\(∀k,Rm.Bd (c+d*k) (Rm.tk b (f r1.at r2.at k)))/\10<=c/\c+d*12<=10000/\n*(c+d*(2*n)+n)+(u1+u2+13*(n1+n2+3))+458<=112100/\
  ∀v' r' L' H',Same H H'->cU H' v' r'->TR b r' (fun k=>Rm.tk b (f r1.at r2.at k)) L'->Fb b (fun k=>Rm.tk b (f r1.at r2.at k)) n (u1+u2+13*(n1+n2+3)) c d->r'.rule.length<=L1.length-1+(L2.length-1)->Q v' H')/\
 (12<L1.length-1+(L2.length-1)->∀H',Same H H'->E (.ref C) none H')
inductive Lq(C:Addr)(mg:Str->Option Value)(vs:List V)(H:Hp)(Q:VK)(E:XK):Prop|mk (f:PF) (v1 v2:V) (g:Addr) (z_0:vs=[v1,v2,.ref g]) (z_1:abU mg g f) (z_2:abA C f v1 v2 H Q E)
def NW(C:Addr)(mg:Str->Option Value):Sp:=fun vs H Q E=>Lq C mg vs H Q E
theorem Hu{L:List Int}{u v:Nat}(h:∀k,Rm.Bd u (Pm.co L k))(hv:u<=v):∀x∈L,Rm.Bd v x:=fun x hx=>by
 obtain⟨k,hk,e⟩:=List.mem_iff_getElem.mp hx;have:=h k;rw[Pm.pJ hk,e]at this;exact this.mono hv
theorem Fb.few{b:Int}{f:Nat->Int}{n u c d:Nat}(h:Fb b f n u c d){z:Nat}(hz:c+d*12<=z)(i:Nat)(hi:i<=12):Rm.Bd z (f i):=(h.at_ i).mono (Nat.le_trans (Nat.add_le_add_left (Nat.mul_le_mul_left _ hi) _) hz)
abbrev ou(P w K mg base aH):=Cal P w K mg base "joint_row" 12 ["one","other","pair_place"] (NW aH mg)
inductive Qm(C:Addr)(f:PF)(vs:List V)(H:Hp)(Q:VK)(E:XK):Prop|mk (v1 v2:V) (z_0:vs=[v1,v2]) (z_1:abA C f v1 v2 H Q E)
def Ng(C:Addr)(f:PF):Sp:=fun vs H Q E=>Qm C f vs H Q E
abbrev Ge(P w K mg base aH):=Cal P w K mg base "added" 13 ["one","other"] (Ng aH Ob)
abbrev CV(P w K mg base aH):=Cal P w K mg base "rolled" 13 ["one","other"] (Ng aH qC)
theorem Ug{b:Int}{L1 L2:List Int}{a c:Nat->Int}(h1:Pm.Kp b L1 a)(h2:Pm.Kp b L2 c):Pm.Kp b (Pm.mul b L1 L2) fun n=>Rm.tk b (Ob a c n):=Oh (UO (h1.aco L2) (h2.RQ L1))
theorem NV{rule sums:List Int}{x:Int}{k:Nat}(h:k-1<=sums.length):bhd rule (sums++[x]) k=bhd rule sums k:=by
 unfold bhd;exact Pm.aB fun i hi=>by rw[Pm.bY,if_pos (by omega)]
theorem J9{rule sums:List Int}{x:Int}{k:Nat}(h:k-1<=rule.length):bhd (rule++[x]) sums k=bhd rule sums k:=by
 unfold bhd;rw[List.length_append,Nat.min_eq_left (by omega),Nat.min_eq_left h];exact Pm.aB fun i hi=>by rw[Pm.bY,if_pos (by omega)]
inductive Tr(vs:List V)(H:Hp)(Q:VK)(E:XK):Prop|mk (a c:Addr) (rule sums:List Int) (k:Nat) (z_0:vs=[.ref a,.ref c,.int (k:Int)]) (z_1:Ints H a rule) (z_2:Ints H c sums) (z_3:1<=k) (z_4:k<=130) (z_5:k-1<=sums.length) (z_6:(∀x∈rule,Rm.Bd 60000 x)) (z_7:(∀x∈sums,Rm.Bd 60000 x)) (z_8:∀H',Same H H'->Q (.int (bhd rule sums k)) H')
def aag:Sp:=fun vs H Q E=>Tr  vs H Q E
abbrev jL(P w K mg base):=Cal P w K mg base "behind_first" 1 ["rule","sums","k"] aag
theorem Le.list{xs:List Int}{w z:Nat}(hz:(xs.length)*w+1<=z)(h:∀i,i<xs.length->Le (Pm.co xs i) ((2^w)^(i+1))):∀x∈xs,Rm.Bd z x:=fun x hx=>by
 obtain⟨k,hk,e⟩:=List.mem_iff_getElem.mp hx;have:=h k hk;rw[Pm.pJ hk,e,<-Nat.pow_mul]at this;refine this.bd.mono ?_;have:w*(k+1)<=xs.length*w:=by rw[Nat.mul_comm];exact Nat.mul_le_mul_right _ hk
 omega
theorem Le.grow{xs:List Int}{x:Int}{n Z:Nat}(hl:xs.length=n)(h:∀i,i<n->Le (Pm.co xs i) (Z^(i+1)))(hx:Le x (Z^(n+1))):∀i,i<n+1->Le (Pm.co (xs++[x]) i) (Z^(i+1)):=fun i hi=>by
 rw[Pm.bY];by_cases d:i<n
 ·rw[if_pos (by omega)];exact h i d
 ·have e:i=n:=by omega
  subst e;rw[if_neg (by omega),hl,Nat.sub_self];exact hx
inductive Us(vs:List V)(H:Hp)(Q:VK)(E:XK):Prop|mk (a:Addr) (rule:List Int) (n w:Nat) (z_0:vs=[.ref a,.int (n:Int)]) (z_1:H a=some (.tup (rule.map V.int))) (z_2:n<=120) (z_3:n*(w+3)+1<=60000) (z_4:w<=59500) (z_5:(∀i,Le (Pm.co rule i) (2^w))) (z_6:∀l sums H',Same H H'->H' l=some (.lst (sums.map V.int))->sums.length=n->(∀i,i<n->Le (Pm.co sums i) ((2^(w+3))^(i+1)))->(∀k,k<n->Pm.co sums k=(if k+1<=rule.length then((k+1:Nat):Int)*Pm.co rule k else 0)+bhd rule sums (k+1))->Q (.ref l) H')
def W6:Sp:=fun vs H Q E=>Us  vs H Q E
abbrev mH(P w K mg base):=Cal P w K mg base "power_sums" 2 ["rule","count"] W6
inductive Uz(vs:List V)(H:Hp)(Q:VK)(E:XK):Prop|mk (c:Addr) (sums:List Int) (n z:Nat) (z_0:vs=[.ref c]) (z_1:H c=some (.lst (sums.map V.int))) (z_2:sums.length=n) (z_3:n<=12) (z_4:n*z+1<=60000) (z_5:(∀i,i<n->Le (Pm.co sums i) ((2^z)^(i+1)))) (z_6:∀l rule H',Same H H'->H' l=some (.lst (rule.map V.int))->rule.length=n->(∀i,i<n->Le (Pm.co rule i) ((2^z)^(i+1)))->(∀k,k<n->Pm.co rule k=(Pm.co sums k-bhd rule sums (k+1))/((k+1:Nat):Int))->Q (.ref l) H')
def aao:Sp:=fun vs H Q E=>Uz  vs H Q E
abbrev jE(P w K mg base):=Cal P w K mg base "rule_of_sums" 2 ["sums"] aao
def acX(C:Addr)(v1 v2:V)(H:Hp)(Q:VK)(E:XK):Prop:=∃(b:Int) (r1 r2:Rw) (n1 u1 c1 d1 n2 u2 c2 d2:Nat) (L1 L2:List Int),cU H v1 r1/\cU H v2 r2/\Ri b r1 n1 u1 c1 d1/\Ri b r2 n2 u2 c2 d2/\bZ b r1.at L1/\bZ b r2.at L2/\c1+d1*12<=20000/\c2+d2*12<=20000/\
 ((L1.length-1)*(L2.length-1)<=12->∃n c d,(L1.length-1)*(L2.length-1)<=n/\n<=12/\(∀k,Rm.Bd (c+d*k) (Rm.tk b (yD r1.at r2.at k)))/\10<=c/\c+d*12<=10000/\(u1+u2+13*(n1+n2+2)+6)*n+10<=59000/\n*(c+d*(2*n)+n)+((u1+u2+13*(n1+n2+2)+6)*n+10)+458<=112100/\
  ∀v' r' L' H',Same H H'->cU H' v' r'->TR b r' (fun k=>Rm.tk b (yD r1.at r2.at k)) L'->Fb b (fun k=>Rm.tk b (yD r1.at r2.at k)) n ((u1+u2+13*(n1+n2+2)+6)*n+10) c d->r'.rule.length<=(L1.length-1)*(L2.length-1)->Q v' H')/\
 (12<(L1.length-1)*(L2.length-1)->∀H',Same H H'->E (.ref C) none H')
inductive Rp(C:Addr)(vs:List V)(H:Hp)(Q:VK)(E:XK):Prop|mk (v1 v2:V) (z_0:vs=[v1,v2]) (z_1:acX C v1 v2 H Q E)
def Xg(C:Addr):Sp:=fun vs H Q E=>Rp C vs H Q E
abbrev sO(P w K mg base aH):=Cal P w K mg base "multiplied" 13 ["one","other"] (Xg aH)
inductive Pn(vs:List V)(H:Hp)(Q:VK)(E:XK):Prop|mk (st e:Nat) (z_0:vs=[.int (st:Int),.int (e:Int)]) (z_1:st<=100) (z_2:1<=e) (z_3:e<=10) (z_4:Q .non H)
def U6:Sp:=fun vs H Q E=>Pn  vs H Q E
abbrev f9(P w K mg base):=Cal P w K mg base "refuse_far_steps" 1 ["start","step"] U6
def EvG(v:V)(st e:Nat)(H:Hp)(Q:VK):Prop:=∃(b:Int) (r:Rw) (n u c d:Nat) (L:List Int),cU H v r/\Ri b r n u c d/\bZ b r.at L/\st<=100/\1<=e/\e<=10/\(u+13*(n+1)+3)*(e*n)+10<=59000/\c+d*st+d*e*12<=10000/\n*(c+d*st+d*e*(2*n)+n)+((u+13*(n+1)+3)*(e*n)+10)+458<=112100/\
 ∀v' r' L' H',Same H H'->cU H' v' r'->TR b r' (fun k=>r.at (st+e*k)) L'->Fb b (fun k=>r.at (st+e*k)) n ((u+13*(n+1)+3)*(e*n)+10) (c+d*st) (d*e)->r'.rule.length<=L.length-1->Q v' H'
inductive Km(vs:List V)(H:Hp)(Q:VK)(E:XK):Prop|mk (v:V) (st e:Nat) (z_0:vs=[v,.int (st:Int),.int (e:Int)]) (z_1:EvG v st e H Q)
def Oc:Sp:=fun vs H Q E=>Km  vs H Q E
abbrev FJ(P w K mg base):=Cal P w K mg base "every" 11 ["row","start","step"] Oc
inductive Fj(vs:List V)(H:Hp)(Q:VK)(E:XK):Prop|mk (v:V) (b:Int) (r:Rw) (x:Int) (n u c d z:Nat) (z_0:vs=[v,.int x]) (z_1:cU H v r) (z_2:Ri b r n u c d) (z_3:Rm.Bd 10 x) (z_4:(∀y∈r.rule,Rm.Bd z y)) (z_5:10<=z) (z_6:z<=2000) (z_7:c+10+d*12<=2000) (z_8:12*(c+10+d*24+12)<=100000) (z_9:∀v' r' L H',Same H H'->cU H' v' r'->TR b r' (fun k=>Rm.tk b (x*r.at k)) L->Fb b (fun k=>Rm.tk b (x*r.at k)) n u (c+10) d->Q v' H')
def KW:Sp:=fun vs H Q E=>Fj  vs H Q E
abbrev Dt(P w K mg base):=Cal P w K mg base "scaled" 11 ["row","number"] KW
theorem LQ{n m:Nat}(a:Nat->Int)(h:n<=m):(Pm.ofF m a).take n=Pm.ofF n a:=by
 rw[Pm.ofF,Pm.ofF,<-List.map_take,List.take_range,Nat.min_eq_left h]
inductive Ia(C:Addr)(vs:List V)(H:Hp)(Q:VK)(E:XK):Prop|mk (v:V) (b:Int) (r:Rw) (n u c d:Nat) (L:List Int) (z_0:vs=[v]) (z_1:cU H v r) (z_2:Ri b r n u c d) (z_3:bZ b r.at L) (z_4:n+1<=12) (z_5:u+13*(n+1)+23<=59000) (z_6:c+1+(d+1)*12<=10000) (z_7:(n+1)*(c+1+(d+1)*(2*(n+1))+(n+1))+(u+13*(n+1)+23)+458<=112100) (z_8:∀v' r' L' H',Same H H'->cU H' v' r'->TR b r' (smA b r.at) L'->Fb b (smA b r.at) (n+1) (u+13*(n+1)+23) (c+1) (d+1)->Q v' H')
def KR(C:Addr):Sp:=fun vs H Q E=>Ia C vs H Q E
abbrev CM(P w K mg base aH):=Cal P w K mg base "summed" 11 ["row"] (KR aH)
inductive J8(C:Addr)(vs:List V)(H:Hp)(Q:VK)(E:XK):Prop|mk (v:V) (b:Int) (r:Rw) (n u c d:Nat) (L:List Int) (ln:Addr) (ns:List Int) (z_0:vs=[v,.ref ln]) (z_1:cU H v r) (z_2:Ri b r n u c d) (z_3:bZ b r.at L) (z_4:H ln=some (.lst (ns.map V.int))) (z_5:n+ns.length<=12) (z_6:(∀x∈ns,gk b x)) (z_7:(∀x∈ns,Rm.Bd c x)) (z_8:u+13*(n+1)<=59000) (z_9:c+d*12<=10000) (Ux:(n+ns.length)*(c+d*(2*(n+ns.length))+(n+ns.length))+(u+13*(n+1))+458<=112100) (YD:∀v' r' L' H',Same H H'->cU H' v' r'->TR b r' (ahd ns r.at) L'->Fb b (ahd ns r.at) (n+ns.length) (u+13*(n+1)) c d->r'.rule.length<=L.length-1+ns.length->Q v' H')
def PV(C:Addr):Sp:=fun vs H Q E=>J8 C vs H Q E
abbrev uM(P w K mg base aH):=Cal P w K mg base "put_ahead" 11 ["row","numbers"] (PV aH)
theorem C0(x:Int):(if x<0 then -x else x)=(x.natAbs:Int):=by omega
theorem Ph{xs:List Int}{i:Nat}(hi:i<xs.length):xs.take (i+1)=xs.take i++[Pm.co xs i]:=by
 rw[List.take_succ,List.getElem?_eq_getElem hi];show _++[_]=_++[xs.getD i 0];rw[List.getD_eq_getElem?_getD,List.getElem?_eq_getElem hi];rfl
inductive Ef(vs:List V)(H:Hp)(Q:VK)(E:XK):Prop|mk (n:Int) (z_0:vs=[.int n]) (z_1:0<=n) (z_2:n<=300) (z_3:Q .non H)
def HY:Sp:=fun vs H Q E=>Ef  vs H Q E
abbrev sW(P w K mg base):=Cal P w K mg base "refuse_far" 1 ["n"] HY
inductive EA(K:W.Frag)(vs:List V)(H:Hp)(Q:VK)(E:XK):Prop|mk (v:V) (r:Rw) (c:Int) (z_0:vs=[v,.int c]) (z_1:cU H v r) (z_2:lE r) (z_3:0<=c) (z_4:c<=300) (z_5:Told H Q ((r.row c.toNat).map V.int))
def Im(K:W.Frag):Sp:=fun vs H Q E=>EA K vs H Q E
abbrev DR(P w K mg base):=Cal P w K mg base "places" 4 ["row","count"] (Im K)
inductive Ua(vs:List V)(H:Hp)(Q:VK)(E:XK):Prop|mk (x y:Int) (z_0:vs=[.int x,.int y]) (z_1:Q (.int ((Nat.gcd x.natAbs y.natAbs:Nat):Int)) H)
def Z9:Sp:=fun vs H Q E=>Ua  vs H Q E
abbrev lU(P w K mg base):=Cal P w K mg base "common_divisor" 1 ["one","other"] Z9
inductive DX(C:Addr)(vs:List V)(H:Hp)(Q:VK)(E:XK):Prop|mk (v:V) (r:Rw) (z_0:vs=[v]) (z_1:cU H v r) (z_2:(r.b=0->Q .non H)) (z_3:(r.b≠0->E (.ref C) none H))
def Fq(C:Addr):Sp:=fun vs H Q E=>DX C vs H Q E
abbrev gR(P w K mg base bG):=Cal P w K mg base "refuse_prime" 1 ["row"] (Fq bG)
def Rw.rests(r:Rw)(d:Int):Rw:=⟨d,r.rule.map (Rm.tk d),r.starts.map (Rm.tk d)⟩
theorem lE.rests{r:Rw}(h:lE r){d:Int}(hd:ByF d):lE (r.rests d):=by
 have h0:=hd.lo;have h1:=hd.hi;refine⟨?_,?_,h0,h1,fun x hx=>?_,fun x hx=>?_,fun x hx=>?_,fun x hx=>?_⟩
 ·show(r.rule.map (Rm.tk d)).length=(r.starts.map (Rm.tk d)).length;rw[List.length_map,List.length_map,h.len]
 ·show(r.rule.map (Rm.tk d)).length<=24;rw[List.length_map];exact h.short
 ·obtain⟨y,_,rfl⟩:=List.mem_map.mp hx;exact nO h0 _
 ·obtain⟨y,_,rfl⟩:=List.mem_map.mp hx;exact nO h0 _
 ·obtain⟨y,hy,rfl⟩:=List.mem_map.mp hx;exact fQ hd (by decide) (h.lV y hy)
 ·obtain⟨y,hy,rfl⟩:=List.mem_map.mp hx;exact fQ hd (by decide) (h.iQ y hy)
theorem Rw.C7{r:Rw}(h:lE r)(hb:r.b=0){d:Int}(h1:0<d)(n:Nat):(r.rests d).at n=Rm.tk d (r.at n):=by
 have:=Rm.M6 (p:=d) (rule:=r.rule) (starts:=r.starts) (by omega) h.len n;unfold Rw.at;rw[hb];exact this
inductive Ls(vs:List V)(H:Hp)(Q:VK)(E:XK):Prop|mk (v:V) (r:Rw) (d:Int) (z_0:vs=[v,.int d]) (z_1:cU H v r) (z_2:lE r) (z_3:0<d) (z_4:∀v' H',Same H H'->cU H' v' (r.rests d)->Q v' H')
def Nj:Sp:=fun vs H Q E=>Ls  vs H Q E
abbrev rR(P w K mg base):=Cal P w K mg base "rest_row" 2 ["row","divisor"] Nj
inductive Et(C:Addr)(vs:List V)(H:Hp)(Q:VK)(E:XK):Prop|mk (v:V) (r:Rw) (d:Int) (z_0:vs=[v,.int d]) (z_1:cU H v r) (z_2:lE r) (z_3:0<d) (z_4:r.b=0) (z_5:∀v' H',Same H H'->cU H' v' (r.rests d)->Q v' H')
def Gy(C:Addr):Sp:=fun vs H Q E=>Et C vs H Q E
abbrev wA(P w K mg base bG):=Cal P w K mg base "by_prime" 3 ["row","prime"] (Gy bG)
inductive JZ(vs:List V)(H:Hp)(Q:VK)(E:XK):Prop|mk (v:V) (r:Rw) (d:Int) (z_0:vs=[v,.int d,.int 0,.int 1]) (z_1:cU H v r) (z_2:lE r) (z_3:r.b=0) (z_4:0<d) (z_5:ByF d) (z_6:r.rule.length<=12) (z_7:((∀j,j<r.rule.length->Rm.tk d (r.at j)=0)->∀H',Same H H'->Q .non H')) (z_8:((¬∀j,j<r.rule.length->Rm.tk d (r.at j)=0)->∀(k:Nat) H',Same H H'->Q (.int (k:Int)) H'))
def QN:Sp:=fun vs H Q E=>JZ  vs H Q E
abbrev uN(P w K mg base):=Cal P w K mg base "undivided" 4 ["row","divisor","start","step"] QN
inductive KC(C:Addr)(vs:List V)(H:Hp)(Q:VK)(E:XK):Prop|mk (v:V) (r:Rw) (z_0:vs=[v]) (z_1:cU H v r) (z_2:(r.b=0->Q (.int ((Lm.Dq 0 r.starts:Nat):Int)) H)) (z_3:(r.b≠0->E (.ref C) none H))
def OX(C:Addr):Sp:=fun vs H Q E=>KC C vs H Q E
abbrev mY(P w K mg base bG):=Cal P w K mg base "divisor_of" 2 ["row"] (OX bG)
theorem Nt{p:Int}{P:List Int}{f:Nat->Int}(h:Pm.Kp 0 P f):Pm.Kp p P fun k=>Rm.tk p (f k):=Oh fun n=>by
 have:=h n;rw[Rm.aZ]at this;rw[this];exact Pm.tk0 p
theorem Fb.rests{f:Nat->Int}{n u c d:Nat}(h:Fb 0 f n u c d){p:Int}(hp:ByF p)(h0:0<p):Fb p (fun k=>Rm.tk p (f k)) n u c d:=by
 obtain⟨P,hm,hK,hl,hu⟩:=h.kp;have:=h.c10;exact⟨fun k=>M9 hp (by omega) (by omega) (nO hp.lo _),fun k=>Rm.gj _ _,h.n12,h.u10,h.u59,h.c10,P,hm,Nt hK,hl,fun z=>by omega⟩
theorem Ri.rests{r:Rw}{n u c d:Nat}(h:Ri 0 r n u c d){p:Int}(hp:ByF p)(h0:0<p):Ri p (r.rests p) n u c d/\∀k,(r.rests p).at k=Rm.tk p (r.at k):=by
 have ea:=Rw.C7 h.ok h.by_ h0;have e:(r.rests p).at=fun k=>Rm.tk p (r.at k):=funext ea;refine⟨⟨hp,rfl,h.ok.rests hp,by show(r.rule.map _).length<=12;rw[List.length_map];exact h.tG,fun z=>by have z':p=0:=z;omega,by rw[e];exact h.fb.rests hp h0⟩,ea⟩
theorem Ri.tr{b:Int}{r:Rw}{n u c d:Nat}(h:Ri b r n u c d){L:List Int}(lst:bZ b r.at L):TR b (aQ r L) r.at L:=by
 obtain⟨o1,_,ea,l1,_,_⟩:=h.sh lst;have:=h.fb.len h.hB lst;have:=h.fb.n12;exact⟨h.by_,o1,fun k=>by rw[ea],lst,l1,by rw[l1];omega⟩
theorem RwL.ri{m:Nat}{r:Rw}(h:RwL 0 m r)(hm:m<=3):Ri 0 r 3 45 45 49:=by
 have hB:ByF 0:=R3 (k:=0) (by decide);have ok:=h.ok hB.p (by omega);have hl:=h.len;have hs:=h.short;have eb:=h.by_;have hk:=ok.kp;rw[eb]at hk;have bd:∀k,Rm.Bd (45+49*k) (r.at k):=fun k=>by
  have:=Vb (b:=r.b) (rule:=r.rule) (starts:=r.starts) (a:=45) (c:=45) h.len (by omega) ok.by0 ((Rm.Bd.of (n:=10) (by have:=ok.by0;omega) (by have:=ok.by1;omega)).mono (by decide)) h.lV h.iQ k;rw[Nat.mul_comm]at this;exact this
 refine⟨hB,eb,ok,by omega,fun _=>⟨3,45+49*6,45,by decide,h.lV,⟨_,Pm.eG 0 r.rule,hk,by rw[Pm.bF];omega⟩,fun n hn=>(bd n).mono (by omega),by decide⟩,⟨bd,fun k=>Rm.aZ _,by decide,by decide,by decide,by decide,_,Pm.eG 0 r.rule,hk,by rw[Pm.bF];omega,fun _=>Pm.jD (Pm.pU hB.lo hB.hi (by decide) h.lV)⟩⟩
def doF(b w cell:Int)(a c:Nat->Int):Nat->Int:=
 if w=0 then fun k=>Rm.tk b (Ob a c k)
 else if w=1 then fun k=>Rm.tk b (yD a c k)
 else if w=2 then fun k=>Rm.tk b (qC a c k)
 else if w=3 then fun k=>Rm.tk b (Rm.tk b (cell%9-4)*a k)
 else if w=4 then smA b a
 else if w=5 then fun k=>a ((cell%5).toNat+(1+cell/5%3).toNat*k)
 else ahd (Pm.ofF (cell/9%3).toNat fun k=>Rm.tk b (cell%9-4+(k:Int))) a
theorem RX(p w cell:Int)(a c:Nat->Int)(k:Nat):Rm.tk p (doF 0 w cell a c k)=doF p w cell (fun k=>Rm.tk p (a k)) (fun k=>Rm.tk p (c k)) k:=by
 unfold doF;by_cases w0:w=0
 ·rw[if_pos w0,if_pos w0];show Rm.tk p (Rm.tk 0 (a k+c k))=Rm.tk p (Rm.tk p (a k)+Rm.tk p (c k));rw[Rm.aZ,Rm.cj,Rm.fU]
 rw[if_neg w0,if_neg w0];by_cases w1:w=1
 ·rw[if_pos w1,if_pos w1];show Rm.tk p (Rm.tk 0 (a k*c k))=Rm.tk p (Rm.tk p (a k)*Rm.tk p (c k));rw[Rm.aZ,Rm.cX,Rm.bD]
 rw[if_neg w1,if_neg w1];by_cases w2:w=2
 ·rw[if_pos w2,if_pos w2];show Rm.tk p (Rm.tk 0 (qC a c k))=Rm.tk p (qC (fun k=>Rm.tk p (a k)) (fun k=>Rm.tk p (c k)) k);rw[Rm.aZ];unfold qC;exact Pm.jr fun i _=>by rw[Rm.cX,Rm.bD]
 rw[if_neg w2,if_neg w2];by_cases w3:w=3
 ·rw[if_pos w3,if_pos w3];show Rm.tk p (Rm.tk 0 (Rm.tk 0 (cell%9-4)*a k))=Rm.tk p (Rm.tk p (cell%9-4)*Rm.tk p (a k));rw[Rm.aZ,Rm.aZ,Rm.cX,Rm.bD]
 rw[if_neg w3,if_neg w3];by_cases w4:w=4
 ·rw[if_pos w4,if_pos w4];unfold smA;rw[Rm.aZ];exact Pm.jr fun i _=>by rw[Rm.gj]
 rw[if_neg w4,if_neg w4];by_cases w5:w=5
 ·rw[if_pos w5,if_pos w5]
 rw[if_neg w5,if_neg w5];unfold ahd;rw[Pm.aL,Pm.aL];by_cases z:k<(cell/9%3).toNat
 ·rw[if_pos z,if_pos z,Pm.bK,Pm.bK,if_pos z,if_pos z,Rm.aZ]
 ·rw[if_neg z,if_neg z]
def Again(b:Int)(r:Rw)(f:Nat->Int):Prop:=∃L n u c d,TR b r f L/\Ri b r n u c d
theorem Again.mk{b:Int}{r:Rw}{f:Nat->Int}{L:List Int}{n u c d:Nat}(hb:ByF b)(t:TR b r f L)(h:Fb b f n u c d)(hs:n*(c+d*(2*n)+n)+(u+13*(n+1))+458<=112100):Again b r f:=⟨L,n,u,c,d,t,t.ri hb h hs⟩
theorem UU{b:Int}(hb:ByF b){a e:Nat->Int}{n1 u1 n2 u2 c d:Nat}(h1:Fb b a n1 u1 c d)(h2:Fb b e n2 u2 c d)(k:Nat):Rm.Bd (c+1+d*k) (Rm.tk b (Ob a e k)):=by
 have:=h1.c10;exact fQ hb (by omega) ((Rm.Bd.add (h1.at_ k) (h2.at_ k)).mono (by omega))
theorem Te{b:Int}(hb:ByF b){a e:Nat->Int}{n1 u1 n2 u2 c d c' d':Nat}(h1:Fb b a n1 u1 c d)(h2:Fb b e n2 u2 c' d')(k:Nat):Rm.Bd (c+c'+(d+d')*k) (Rm.tk b (yD a e k)):=by
 have:=h1.c10;refine fQ hb (by omega) (((h1.at_ k).mul (h2.at_ k)).mono ?_);rw[Nat.add_mul];omega
theorem Oi{b:Int}(hb:ByF b){a e:Nat->Int}{n1 u1 n2 u2 c d c':Nat}(h1:Fb b a n1 u1 c d)(h2:Fb b e n2 u2 c' d)(k:Nat):Rm.Bd (c+c'+1+(d+1)*k) (Rm.tk b (qC a e k)):=by
 have:=h1.c10;refine fQ hb (by omega) ((Pm.Br (c:=c+c'+d*k) (k+1) fun i hi=>?_).mono (by rw[Nat.succ_mul];omega));refine((h1.at_ i).mul (h2.at_ (k-i))).mono ?_;have:d*k=d*i+d*(k-i):=by rw[<-Nat.mul_add];congr 1;omega
 omega
inductive Qo(vs:List V)(H:Hp)(Q:VK)(E:XK):Prop|mk (w cell b:Int) (v1 v2:V) (r1 r2:Rw) (z_0:vs=[.int w,v1,v2,.int cell]) (z_1:cU H v1 r1) (z_2:cU H v2 r2) (z_3:Ri b r1 3 45 45 49) (z_4:Ri b r2 3 45 45 49) (z_5:(∀y∈r1.rule,Rm.Bd 45 y)) (z_6:0<=w) (z_7:w<=6) (z_8:0<=cell) (z_9:cell<1000000) (Ux:∀v' r' H',Same H H'->cU H' v' r'->Again b r' (doF b w cell r1.at r2.at)->Q v' H')
def RK:Sp:=fun vs H Q E=>Qo  vs H Q E
abbrev Jw(P w K mg base):=Cal P w K mg base "_law_done" 14 ["_law_way","_law_one","_law_other","_law_cell"] RK
inductive La(vs:List V)(H:Hp)(Q:VK)(E:XK):Prop|mk (v:V) (r:Rw) (z_0:vs=[v]) (z_1:cU H v r) (z_2:r.b≠0) (z_3:∀H',Same H H'->Q (.bl true) H')
def Nm:Sp:=fun vs H Q E=>La  vs H Q E
abbrev vY(P w K mg base):=Cal P w K mg base "_law_refused" 4 ["_law_row_here"] Nm
def prL:List Int:=[2,3,5,7,97,997]
theorem SN:∀k<6,ByF (prL.getD k 0)/\0<prL.getD k 0:=fun k hk=>by
 have h:∀k<6,0<prL.getD k 0/\prL.getD k 0<1000/\Rm.tk (prL.getD k 0) 1=1/\(prL.getD k 0).toNat∈Om.jk:=by decide +kernel
 obtain⟨h1,h2,h3,h4⟩:=h k hk;exact⟨⟨by omega,h2,h3,.inr ⟨_,h4,(Int.toNat_of_nonneg (by omega)).symm⟩⟩,h1⟩
theorem vQ{p x:Int}(h:0<p):Rm.tk p x=0↔p∣x:=by
 rw[Rm.fZ (by omega)];exact⟨Int.dvd_of_emod_eq_zero,Int.emod_eq_zero_of_dvd⟩
theorem HL{r:Rw}(ok:lE r)(hb:r.b=0){d:Int}:(∀j,j<r.rule.length->d∣r.at j)↔d∣((Lm.Dq 0 r.starts:Nat):Int):=by
 have hl:=ok.len;constructor
 ·intro h;have:d.natAbs∣Lm.Dq 0 r.starts:=Lm.JG (Nat.dvd_zero _) fun t ht=>by
   obtain⟨k,hk,e⟩:=List.mem_iff_getElem.mp ht;have h1:=h k (by omega);have e1:r.at k=r.starts.getD k 0:=Rm.oG hk;rw[e1,List.getD_eq_getElem?_getD,List.getElem?_eq_getElem hk]at h1;rw[<-e];exact Int.natAbs_dvd.mpr h1
  exact Int.natAbs_dvd.mp (Int.natCast_dvd_natCast.mpr this)
 ·intro h j _;unfold Rw.at;rw[hb];exact Lm.MV hl (fun t ht=>Int.dvd_trans h (Lm.Cu 0 r.starts t ht)) j
theorem MX{r:Rw}(ok:lE r)(hb:r.b=0){d:Int}(h:d∣((Lm.Dq 0 r.starts:Nat):Int))(n:Nat):d∣r.at n:=by
 unfold Rw.at;rw[hb];exact Lm.MV ok.len (fun t ht=>Int.dvd_trans h (Lm.Cu 0 r.starts t ht)) n
theorem TR.none{b:Int}(hb:ByF b){r:Rw}{f:Nat->Int}{L:List Int}(t:TR b r f L):(r.rule=[]/\r.starts=[])↔∀k,f k=0:=by
 have hl:=t.ok.len;constructor
 ·rintro⟨h1,h2⟩ k;rw[<-t.same k];have:r.at k=Rm.tk r.b (Rm.S r.rule r.at k r.rule.length):=Rm.uy hl (by rw[h2];exact Nat.zero_le _);rw[this,h1];exact Pm.tk0 _
 ·intro h;have:L.length<=([1]:List Int).length:=t.lst.le hb.one ⟨by decide,rfl⟩ fun n=>by
   have e:Pm.ks [1] f n=0:=Pm.iH fun k _=>by rw[h,Int.mul_zero]
   rw[e];exact Pm.tk0 b
  have l1:=t.len;have e1:r.rule=[]:=List.length_eq_zero_iff.mp (by have:([1]:List Int).length=1:=rfl;omega);exact⟨e1,List.length_eq_zero_iff.mp (by rw[<-hl,e1];rfl)⟩
section
variable {P:Program} {w:World} {K:W.Frag} {mg:Str->Option Value} {base:Heap}
variable {bG bI aH:Addr} (B:Bt mg) (M:Ms K mg base bG bI aH)
include B M
theorem Ka(F:Fn K mg "taken" Av ["by","number"]):gb P w K mg base:=by
 refine F.cal Ke (fun vs H Q E h=>?_) (fun f cdv A outer s H vs Q E hr h=>?_)
 ·obtain⟨b,n,rfl,_⟩:=h;rfl
 ·obtain⟨b,n,rfl,h0,q⟩:=h;refine⟨_,(ak (eV (aU (xeq K hr) (pv 0) au (bw _))
   (aF (aR (pv 1)))
   bQ)
   (aF (aR (aK dz (pv 1) (pv 0))))),?_⟩
  refine⟨_,rfl,_,rfl,?_⟩;refine ni (fun c=>?_) (fun c=>?_)
  ·refine⟨_,rfl,?_⟩;have c':b=0:=dec_true c;have e:Rm.tk b n=n:=by rw[c',Rm.aZ]
   rw[e]at q;exact q
  ·have c':¬b=0:=dec_false c;refine⟨_,rfl,_,rfl,_,_,rfl,rfl,(by omega:(0:Int)<b),?_⟩;rw[Rm.fZ c']at q;exact q
theorem yd(F:Fn K mg "next_place" mR ["by","rule","before"])(bf:gb P w K mg base):sS P w K mg base:=by
 refine F.cal iT (fun vs H Q E h=>?_) (fun f cdv A outer s H vs Q E hr h=>?_)
 ·obtain⟨b,r,s,rule,before,rfl,_⟩:=h;rfl
 ·obtain⟨b,r,s',rule,before,rfl,hb,hR,hS,hl,hl2,hl3,bR,bS,q⟩:=h;refine⟨_,(ak (aJ (i:=3) iT.nd rfl (Or.inl rfl) au)
   (ak (mU PassesOwn.never rfl (cC rfl B.cQ (aG (aM (jx K) rfl B.cR boot_len (aO (pv 1) ao)) ao)) (bB (i:=4) iT.nd rfl (Or.inl rfl))
   (aF (aJ (i:=3) iT.nd rfl (Or.inl rfl) (aK (jK K) (pv 3) (aK v_mul (bh (xix K) (pv 1) (pv 4) (fun _ _=>rfl)) (bh (xix K) (pv 2) (aK cB (aK cB (aM (jx K) rfl B.cR boot_len (aO (pv 2) ao)) au) (pv 4)) (fun _ _=>rfl)))))))
   (aF (aR (aq bf hr rfl (aO (pv 0) (aO (pv 3) ao))))))),?_⟩
  have lR:(rule.map V.int).length=rule.length:=List.length_map _;have lS:(before.map V.int).length=before.length:=List.length_map _;refine⟨_,rfl,.ref r,rule.length,rfl,.inr ⟨_,hR,lR.symm⟩,?_⟩;refine⟨(rule.length:Int),rfl,(by omega:-(2^62)<=(rule.length:Int)),(by omega:(rule.length:Int)<2^62),?_⟩;refine gY (lo:=0) (n:=(rule.length:Int).toNat) (fun i σ' H'=>∃o,σ'=[some (.int b),some (.ref r),some (.ref s'),some (.int (Rm.S rule (fun i=>before.getD i 0) before.length i)),o]/\H'=H) ⟨none,rfl,rfl⟩ ?_ ?_
  ·rintro i σ' H' hi ⟨o,rfl,rfl⟩;have hi':i<rule.length:=by omega
   have e0:(0:Int)+(i:Int)=(i:Int):=by omega
   have e1:(before.length:Int)-1-(0+(i:Int))=((before.length-1-i:Nat):Int):=by omega
   refine⟨_,rfl,?_⟩;refine⟨_,rfl,_,rfl,_,_,.inr hR,cA (ns:=rule) (by omega:(0:Int)<=0+(i:Int)) (by omega),?_⟩;refine⟨_,rfl,_,rfl,.ref s',before.length,rfl,.inl ⟨_,hS,lS.symm⟩,_,_,rfl,rfl,_,rfl,_,_,rfl,rfl,?_⟩;refine⟨_,_,.inl hS,cA (ns:=before) (by omega:(0:Int)<=(before.length:Int)-1-(0+(i:Int))) (by omega),?_⟩;refine⟨vd (Rm.Bd.getD bR _) (Rm.Bd.getD bS _) (by decide),?_⟩;refine⟨some (.int (0+(i:Int))),?_,rfl⟩;rw[e1,e0,Int.toNat_natCast,Int.toNat_natCast];rfl
  ·rintro σ' H' ⟨o,rfl,rfl⟩;refine⟨_,rfl,_,rfl,b,_,rfl,hb,?_⟩;rw[show(rule.length:Int).toNat=rule.length from Int.toNat_natCast _];exact q
theorem uQ(F:Fn K mg "first_places" jO ["row","count"])(mX:sS P w K mg base):dN P w K mg base:=by
 refine F.cal d8 (fun vs H Q E h=>?_) (fun f cdv A outer s H vs Q E hr h=>?_)
 ·obtain⟨v,r,c,rfl,_⟩:=h;rfl
 ·obtain⟨v,r,c,rfl,⟨a,p,p2,rfl,hA,hR,hS⟩,ok,hc0,hc1,q⟩:=h;refine⟨_,(ak (aJ (i:=2) d8.nd rfl (Or.inl rfl) (bh (xix K) (pv 0) au (fun _ _=>rfl)))
   (ak (aJ (i:=3) d8.nd rfl (Or.inl rfl) (bh (xix K) (pv 0) au (fun _ _=>rfl)))
   (ak (aJ (i:=4) d8.nd rfl (Or.inl rfl) (bh (xix K) (pv 0) au (fun _ _=>rfl)))
   (ak (aJ (i:=5) d8.nd rfl (Or.inl rfl) (Jc (cg (xlist K) rfl B.vL boot_list (aG (qD (xsl K) (pv 4) u6 (vp (pv 1))) ao))))
   (ak (iV PassesOwn.never (aU xG (aM (jx K) rfl B.cR boot_len (aO (pv 5) ao)) (pv 1) (bw _))
   (aF (eU (uD K (pv 5) (aq mX hr rfl (aO (pv 2) (aO (pv 3) (aO (pv 5) ao))))))))
   (aF (aR (pv 5)))))))),?_⟩
  have hl:=ok.len;have hl2:=ok.short;have lS:(r.starts.map V.int).length=r.starts.length:=List.length_map _;refine⟨_,rfl,_,_,.inr (SqT.of hA),rfl,?_⟩;refine⟨_,rfl,_,_,.inr (SqT.of hA),rfl,?_⟩;refine⟨_,rfl,_,_,.inr (SqT.of hA),rfl,?_⟩;have abh:yE (r.starts.map V.int) none (some c)=(r.row (min c.toNat r.starts.length)).map V.int:=by
   have e:r.row (min c.toNat r.starts.length)=r.starts.take (min c.toNat r.starts.length):=Rm.jZ (Nat.min_le_right _ _);rw[e];have e2:c=((c.toNat:Nat):Int):=by omega
   unfold yE;rw[e2,HT.kI,HT.iW,List.drop_zero,Nat.sub_zero,lS,List.map_take,Int.toNat_natCast]
  refine Bar.by (fun v H1=>∃l,v = .ref l/\Same H H1/\H l=none/\H1 l=some (.lst ((r.row (min c.toNat r.starts.length)).map V.int))) (fun kk hkk=>?_) ?_
  ·refine⟨_,rfl,_,rfl,_,rfl,?_⟩;by_cases hw:r.starts.length<=c.toNat
   ·-- the whole of it
    refine .inr (.inr ⟨_,SqT.of hS,?_,?_⟩)
    ·have e2:c=((c.toNat:Nat):Int):=by omega
     rw[e2,HT.kI,HT.iW,lS];omega
    ·refine⟨p2,_,rfl,.inr (SqT.of hS),fun l hl1=>hkk _ _ ⟨l,rfl,Same.new hl1 _,hl1,?_⟩⟩;rw[aD,Nat.min_eq_right hw];have e:r.row r.starts.length=r.starts:=(Rm.jZ (Nat.le_refl _)).trans (List.take_length ..);rw[e]
   ·refine .inr (.inl ⟨_,SqT.of hS,?_,fun p3 hp3=>?_⟩)
    ·have e2:c=((c.toNat:Nat):Int):=by omega
     rw[e2,HT.kI,HT.iW,lS];omega
    ·refine⟨p3,_,rfl,.inr (SqT.of aD),fun l hl1=>?_⟩;have g3:=Same.new hp3 (.tup (yE (r.starts.map V.int) none (some c)));refine hkk _ _ ⟨l,rfl,g3.trans (Same.new hl1 _),g3.free hl1,?_⟩;rw[aD,abh]
  rintro v H1 ⟨l,rfl,g1,hl1,hr1⟩;refine⟨fun m σ' H'=>∃n:Nat,m=c.toNat-n/\min c.toNat r.starts.length<=n/\n<=c.toNat/\σ'=[some (.ref a),some (.int c),some (.int r.b),some (.ref p),some (.ref p2),some (.ref l)]/\Same H H'/\H' l=some (.lst ((r.row n).map V.int)),
   ⟨_,min c.toNat r.starts.length,rfl,Nat.le_refl _,Nat.min_le_left _ _,rfl,g1,hr1⟩,?_⟩
  rintro m σ' H' ⟨n,rfl,h1,h2,rfl,g,hL⟩;have lL:((r.row n).map V.int).length=n:=by rw[List.length_map,Rw.iD]
  refine⟨_,rfl,.ref l,n,rfl,.inl ⟨_,SqL.of hL,lL.symm⟩,_,rfl,_,_,rfl,rfl,_,rfl,?_⟩;refine ni (fun cc=>?_) (fun cc=>?_)
  ·have hn:n<c.toNat:=by have:=dec_true cc;omega
   refine⟨_,fun _ _ z=>z,?_⟩;refine⟨_,rfl,.inl ⟨rfl,_,SqL.of hL⟩,_,rfl,_,rfl,_,rfl,r.b,p,l,r.rule,r.row n,rfl,ok.by0,SqT.of (g _ _ hR),SqL.of hL,?_,hl2,?_,ok.lV,ok.U3 n (by omega),?_⟩
   ·rw[Rw.iD];omega
   ·rw[Rw.iD];omega
   ·refine⟨l,_,_,rfl,rfl,hL,?_,?_⟩
    ·rw[lL];exact bU (by omega)
    ·refine⟨c.toNat-(n+1),by omega,n+1,rfl,by omega,by omega,rfl,g.upd hl1 _,?_⟩;rw[aD,Rw.iD];have e:r.row (n+1)=r.row n++[Rm.tk r.b (Rm.S r.rule (fun i=>(r.row n).getD i 0) n r.rule.length)]:=by
      show _++[if n<r.starts.length then r.starts.getD n 0 else _]=_;rw[if_neg (by omega)];rfl
     rw[e,List.map_append];rfl
  ·have hn:n=c.toNat:=by have:=dec_false cc;omega
   subst hn;refine⟨_,rfl,?_⟩;exact q l H' g hl1 hL
theorem Cg(F:Fn K mg "is_prime" rm ["number"]):vX P w K mg base:=by
 refine F.cal oh (fun vs H Q E h=>?_) (fun f cdv A outer s H vs Q E hr h=>?_)
 ·obtain⟨n,rfl,_⟩:=h;rfl
 ·obtain⟨n,rfl,hn,q⟩:=h;refine⟨_,(ak (eV (aU xG (pv 0) au (bw _))
   (aF (aR Ac))
   bQ)
   (ak (aJ (i:=1) oh.nd rfl (Or.inl rfl) au)
   (ak (iV PassesOwn.never (aU RH (aK v_mul (pv 1) (pv 1)) (pv 0) (bw _))
   (ak (eV (aU (xeq K hr) (aK dz (pv 0) (pv 1)) au (bw _))
   (aF (aR Ac))
   bQ)
   (aF (aJ (i:=1) oh.nd rfl (Or.inl rfl) (aK (jK K) (pv 1) au)))))
   (aF (aR Ac))))),?_⟩
  refine⟨_,rfl,_,_,rfl,rfl,_,rfl,?_⟩;refine ni (fun c=>?_) (fun c=>?_)
  ·have c':(n:Int)<2:=dec_true c;exact q false ⟨fun z=>absurd z (by decide),fun z=>by have:=z.1;omega⟩
  ·have c':¬(n:Int)<2:=dec_false c;refine⟨fun m σ' H'=>∃d:Nat,σ'=[some (.int n),some (.int (d:Int))]/\H'=H/\2<=d/\d<=n+1/\m=n+2-d/\∀e:Nat,2<=e->e<d->¬e∣n,⟨_,2,rfl,rfl,by omega,by omega,rfl,fun e h1 h2=>by omega⟩,?_⟩;rintro m σ' H' ⟨d,rfl,rfl,h2,hdn,rfl,hd⟩;refine⟨_,rfl,_,rfl,mulL (by omega) (by omega),_,rfl,_,_,rfl,rfl,_,rfl,?_⟩;refine ni (fun c2=>?_) (fun c2=>?_)
   ·have c2':(d:Int)*d<=n:=dec_true c2;have c2n:d*d<=n:=by exact_mod_cast c2'
    have hdl:d*1<=d*d:=Nat.mul_le_mul_left d (by omega);refine⟨_,fun _ _ z=>z,?_⟩;refine⟨_,rfl,_,rfl,_,_,rfl,rfl,(by omega:(0:Int)<(d:Int)),?_⟩;refine⟨_,rfl,?_⟩;refine ni (fun c3=>?_) (fun c3=>?_)
    ·have c3':(n:Int)%(d:Int)=0:=dec_true c3;have hdv:d∣n:=Int.ofNat_dvd.mp (Int.dvd_of_emod_eq_zero c3');exact q false ⟨fun z=>absurd z (by decide),fun z=>absurd z (Om.HX h2 c2n hdv)⟩
    ·have c3':¬(n:Int)%(d:Int)=0:=dec_false c3;refine⟨_,rfl,?_⟩;exact⟨n+2-(d+1),by omega,d+1,by simp,rfl,by omega,by omega,rfl,fun e h1 h3=>by
      rcases Nat.lt_or_ge e d with z|z
      ·exact hd e h1 z
      ·have:e=d:=by omega
       subst this;exact fun z=>c3' (Int.emod_eq_zero_of_dvd (Int.ofNat_dvd.mpr z))⟩
   ·have c2':¬(d:Int)*d<=n:=dec_false c2;have c2n:¬d*d<=n:=fun z=>c2' (by exact_mod_cast z);exact q true ⟨fun _=>Om.uP (by omega) fun e h1 h3 hdv=>by
     by_cases c4:e<d
     ·exact hd e h1 c4 hdv
     ·have:d*d<=e*e:=Nat.mul_le_mul (by omega) (by omega);omega,fun _=>rfl⟩
theorem vD(F:Fn K mg "prime_above" kY ["number"])(qX:vX P w K mg base):o9 P w K mg base:=by
 refine F.cal jG (fun vs H Q E h=>?_) (fun f cdv A outer s H vs Q E hr h=>?_)
 ·obtain⟨n,q,rfl,_⟩:=h;rfl
 ·obtain⟨n,q',rfl,hq,hnq,hqb,q⟩:=h;refine⟨_,(ak (aJ (i:=1) jG.nd rfl (Or.inl rfl) (aK (jK K) (pv 0) au))
   (ak (iV PassesOwn.never (DL (CJ (aq qX hr rfl (aO (pv 1) ao))))
   (aF (aJ (i:=1) jG.nd rfl (Or.inl rfl) (aK (jK K) (pv 1) au))))
   (aF (aR (pv 1))))),?_⟩
  refine⟨_,rfl,?_⟩;refine⟨fun m σ' H'=>∃f:Nat,σ'=[some (.int n),some (.int (f:Int))]/\H'=H/\n<f/\f<=q'/\m=q'-f,⟨_,n+1,rfl,rfl,by omega,by omega,rfl⟩,?_⟩;rintro m σ' H' ⟨f,rfl,rfl,h1,h2,rfl⟩;refine⟨_,rfl,f,rfl,by omega,fun b hb=>?_⟩;refine⟨b,rfl,?_⟩;cases b with
  |false=>
   refine⟨_,fun _ _ z=>z,?_⟩;refine⟨_,rfl,?_⟩;have hne:f≠q':=fun e=>absurd (hb.mpr (e▸hq)) (by decide);exact⟨q'-(f+1),by omega,f+1,rfl,rfl,by omega,by omega,rfl⟩
  |true=>
   refine⟨_,rfl,?_⟩;exact q f (hb.mp rfl) h1 h2
theorem Er(F:Fn K mg "inverse" uK ["prime","number"])(bf:gb P w K mg base):yR P w K mg base:=by
 refine F.cal gC (fun vs H Q E h=>?_) (fun f cdv A outer s H vs Q E hr h=>?_)
 ·obtain⟨P,a,rfl,_⟩:=h;rfl
 ·obtain⟨P',a,rfl,hP,hPb,h0,h1,q⟩:=h;have hr2:2<=P'/\P'<2097152:=⟨hP.1,hPb⟩;refine⟨_,(ak (aJ (i:=2) gC.nd rfl (Or.inl rfl) au)
   (ak (aJ (i:=3) gC.nd rfl (Or.inl rfl) (pv 1))
   (ak (aJ (i:=4) gC.nd rfl (Or.inl rfl) (aK cB (pv 0) au))
   (ak (iV PassesOwn.never (aU qH (pv 4) au (bw _))
   (ak (DM (eV (aU (xeq K hr) (aK dz (pv 4) au) au (bw _))
   (aF (aJ (i:=2) gC.nd rfl (Or.inl rfl) (aq bf hr rfl (aO (pv 0) (nM (aK v_mul (pv 2) (pv 3)) ao)))))
   bQ))
   (ak (aJ (i:=3) gC.nd rfl (Or.inl rfl) (aq bf hr rfl (aO (pv 0) (nM (aK v_mul (pv 3) (pv 3)) ao))))
   (aF (aJ (i:=4) gC.nd rfl (Or.inl rfl) (aK j6 (pv 4) au))))))
   (aF (aR (pv 2))))))),?_⟩
  refine⟨_,rfl,?_⟩;refine⟨_,rfl,_,_,rfl,rfl,?_⟩;have e0:((P':Int)-2).toNat=P'-2:=by omega
  refine⟨fun m σ' H'=>∃power square left:Int,σ'=[some (.int P'),some (.int a),some (.int power),some (.int square),some (.int left)]/\H'=H/\m=left.toNat/\0<=power/\power<2097152/\0<=square/\square<2097152/\0<=left/\Om.Keeps P' a (P'-2) power square left.toNat,
   ⟨_,1,a,(P':Int)-2,rfl,rfl,rfl,by decide,by decide,by omega,by omega,by omega,by rw[e0];exact Om.Ay _ _ _⟩,?_⟩
  rintro m σ' H' ⟨power,square,left,rfl,rfl,rfl,p0,p1,s0,s1,l0,hk⟩;refine⟨_,rfl,_,_,rfl,rfl,_,rfl,?_⟩;refine ni (fun c=>?_) (fun c=>?_)
  ·have c':0<left:=dec_true c;refine⟨_,fun _ _ z=>z,?_⟩;have hpos:(0:Int)<(P':Int):=by omega
   have tkP:∀n,Rm.tk (P':Int) n=n%(P':Int):=fun n=>Rm.fZ (by omega) n;refine NQ.by (fun σ' H2=>∃power':Int,σ'=[some (.int P'),some (.int a),some (.int power'),some (.int square),some (.int left)]/\H2=H'/\((left%2=1/\power'=power*square%(P':Int))∨(¬left%2=1/\power'=power))) (fun N hN=>?_) ?_
   ·refine⟨_,rfl,_,_,rfl,rfl,(by decide:(0:Int)<2),_,rfl,?_⟩;refine ni (fun c2=>?_) (fun c2=>?_)
    ·refine⟨_,rfl,_,rfl,_,rfl,mulL (by omega) (by omega),P',_,rfl,by omega,?_⟩;exact hN _ _ ⟨_,rfl,rfl,.inl ⟨dec_true c2,tkP _⟩⟩
    ·exact hN _ _ ⟨_,rfl,rfl,.inr ⟨dec_false c2,rfl⟩⟩
   rintro σ' H2 ⟨power',rfl,rfl,hp⟩;refine⟨_,rfl,_,rfl,_,rfl,mulL (by omega) (by omega),P',_,rfl,by omega,?_⟩;refine⟨_,rfl,_,_,rfl,rfl,⟨by decide,by decide⟩,?_⟩;have b1:=dg (square*square) hpos;have b2:=cZ (square*square) hpos;have b3:=dg (power*square) hpos;have b4:=cZ (power*square) hpos;have el:(left/2).toNat=left.toNat/2:=by omega
   refine⟨_,?_,power',square*square%(P':Int),left/2,by rw[tkP];rfl,rfl,rfl,?_,?_,b1,by omega,by omega,?_⟩
   ·omega
   ·rcases hp with⟨_,rfl⟩|⟨_,rfl⟩
    ·exact b3
    ·exact p0
   ·rcases hp with⟨_,rfl⟩|⟨_,rfl⟩
    ·omega
    ·exact p1
   ·rw[el];rcases hp with⟨hodd,rfl⟩|⟨hodd,rfl⟩
    ·exact Om.HM hk (by omega)
    ·exact Om.DY hk (by omega)
  ·have c':left=0:=by have:=dec_false c;omega
   subst c';refine⟨_,rfl,?_⟩;exact q power p0 p1 (Om.GY hk)
theorem OL(F:Fn K mg "over" Iv ["by","one","other"])(bf:gb P w K mg base)(uE:yR P w K mg base):Gv P w K mg base:=by
 refine F.cal Ol (fun vs H Q E h=>?_) (fun f cdv A outer s H vs Q E hr h=>?_)
 ·obtain⟨P,one,other,rfl,_⟩:=h;rfl
 ·obtain⟨P',one,other,rfl,hP,hPb,o0,o1,q⟩:=h;refine⟨_,(ak (eV (aU (xeq K hr) (pv 0) au (bw _))
   (aF nH)
   bQ)
   (ak (eV (aU (xeq K hr) (aq bf hr rfl (aO (pv 0) (aO (pv 2) ao))) au (bw _))
   (aF nH)
   bQ)
   (aF (aR (aq bf hr rfl (aO (pv 0) (nM (aK v_mul (pv 1) (aq uE hr rfl (aO (pv 0) (aO (pv 2) ao)))) ao))))))),?_⟩
  have hr2:2<=P'/\P'<2097152:=⟨hP.1,hPb⟩;refine⟨_,rfl,_,rfl,?_⟩;refine ni (fun c=>absurd (dec_true c) (by omega)) (fun _=>?_);have tkP:∀n,Rm.tk (P':Int) n=n%(P':Int):=fun n=>Rm.fZ (by omega) n;refine⟨_,rfl,_,rfl,P',other,rfl,by omega,_,rfl,?_⟩;have et:Rm.tk (P':Int) other=other:=by rw[tkP];exact Int.emod_eq_of_lt (by omega) o1
  rw[et];refine ni (fun c2=>absurd (dec_true c2) (by omega)) (fun _=>?_);refine⟨_,rfl,_,rfl,_,rfl,_,rfl,P',other,rfl,hP,hPb,o0,o1,fun x x0 x1 hx=>?_⟩;refine⟨mulR (by omega) (by omega),P',_,rfl,by omega,?_⟩;rw[tkP,Om.mod_mul (rfl:one%(P':Int)=one%(P':Int)) hx];exact q
theorem E1(F:Fn K mg "trimmed" uJ ["numbers"]):mz P w K mg base:=by
 refine F.cal qW (fun vs H Q E h=>?_) (fun f cdv A outer s H vs Q E hr h=>?_)
 ·obtain⟨l,xs,rfl,_⟩:=h;rfl
 ·obtain⟨l,xs,rfl,hL,q⟩:=h;refine⟨_,(ak (aJ (i:=1) qW.nd rfl (Or.inl rfl) (aM (jx K) rfl B.cR boot_len (aO (pv 0) ao)))
   (ak (iV PassesOwn.never (PW.pt (Mi (aU qH (pv 1) au (bw _)) (Ju (aU (xeq K hr) (bh (xix K) (pv 0) (aK cB (pv 1) au) (fun _ _=>rfl)) au (bw _)))))
   (aF (aJ (i:=1) qW.nd rfl (Or.inl rfl) (aK cB (pv 1) au))))
   (aF (aR (cg (jU K) rfl B.gK boot_tuple (aG (qD (xsl K) (pv 0) u6 (vp (pv 1))) ao)))))),?_⟩
  have lL:(xs.map V.int).length=xs.length:=List.length_map _;refine⟨_,rfl,.ref l,xs.length,rfl,.inl ⟨_,hL,lL.symm⟩,?_⟩;refine⟨fun m σ' H'=>∃n:Nat,m=n/\n<=xs.length/\σ'=[some (.ref l),some (.int (n:Int))]/\H'=H/\Pm.trim (xs.take n)=Pm.trim xs,⟨_,xs.length,rfl,Nat.le_refl _,rfl,rfl,by rw[List.take_length]⟩,?_⟩;rintro m σ' H' ⟨n,e0,hn,rfl,rfl,ht⟩;refine⟨_,rfl,_,_,rfl,rfl,_,rfl,?_⟩;refine ni (fun c=>?_) (fun c=>tW ?_)
  ·have h0:0<n:=by have:=dec_true c;omega
   have e1:((n:Int)-1).toNat=n-1:=by omega
   refine⟨_,rfl,_,rfl,_,_,rfl,rfl,_,_,.inl hL,cA (ns:=xs) (by omega:(0:Int)<=(n:Int)-1) (by omega),_,rfl,?_⟩;refine ni (fun c2=>?_) (fun c2=>?_)
   ·have hz:=dec_true c2;rw[e1]at hz;refine⟨_,fun _ _ z=>z,?_⟩;refine⟨_,rfl,_,_,rfl,rfl,?_⟩;refine⟨n-1,by omega,n-1,rfl,by omega,?_,rfl,Gh h0 hn ht hz⟩;rw[show((n-1:Nat):Int)=(n:Int)-1 by omega];rfl
   ·have hz:=dec_false c2;rw[e1]at hz;refine⟨_,rfl,_,rfl,_,rfl,.inl ⟨_,hL,fun p hp=>?_⟩⟩;refine⟨p,_,rfl,.inl ⟨SqL.of aD,fun p2 hp2=>?_⟩⟩;refine q p2 _ ((Same.new hp _).trans (Same.new hp2 _)) ?_;rw[aD,DF,<-List.map_take,zG hn ht (.inr hz)]
  ·have h0:n=0:=by have:=dec_false c;omega
   refine⟨_,rfl,_,rfl,_,rfl,.inl ⟨_,hL,fun p hp=>?_⟩⟩;refine⟨p,_,rfl,.inl ⟨SqL.of aD,fun p2 hp2=>?_⟩⟩;refine q p2 _ ((Same.new hp _).trans (Same.new hp2 _)) ?_;rw[aD,DF,<-List.map_take,zG hn ht (.inl h0)]
theorem Kl(F:Fn K mg "times" Bg ["by","one","other"])(bf:gb P w K mg base)(dw:mz P w K mg base):BQ P w K mg base:=by
 refine F.cal tQ (fun vs H Q E h=>?_) (fun f cdv A outer s H vs Q E hr h=>?_)
 ·obtain⟨b,a,c,p,r,rfl,_⟩:=h;rfl
 ·obtain⟨b,a,c,p,r,rfl,hb,hA,hC,zA,zC,bA,bC,q⟩:=h;refine⟨_,(ak (aJ (i:=3) tQ.nd rfl (Or.inl rfl) (aK v_mul (nq (lY au ao)) (aK (jK K) (aM (jx K) rfl B.cR boot_len (aO (pv 1) ao)) (aM (jx K) rfl B.cR boot_len (aO (pv 2) ao)))))
   (ak (mU PassesOwn.never rfl (cC rfl B.cQ (aG (aM (jx K) rfl B.cR boot_len (aO (pv 1) ao)) ao)) (bB (i:=4) tQ.nd rfl (Or.inl rfl))
   (aF (mU PassesOwn.never rfl (cC rfl B.cQ (aG (aM (jx K) rfl B.cR boot_len (aO (pv 2) ao)) ao)) (bB (i:=5) tQ.nd rfl (Or.inl rfl))
   (aF (C8 (aq bf hr rfl (aO (pv 0) (nM (aK (jK K) (bh (xix K) (pv 3) (aK (jK K) (pv 4) (pv 5)) (fun _ _=>rfl)) (aK v_mul (bh (xix K) (pv 1) (pv 4) (fun _ _=>rfl)) (bh (xix K) (pv 2) (pv 5) (fun _ _=>rfl)))) ao))) (Jf (pv 3) (aK (jK K) (pv 4) (pv 5)) set_list))))))
   (aF (aR (aq dw hr rfl (aO (pv 3) ao)))))),?_⟩
  have lP:(p.map V.int).length=p.length:=List.length_map _;have lR:(r.map V.int).length=r.length:=List.length_map _;refine⟨(by show 1<=sizeLine;decide),fun l0 h0=>?_⟩;have g0:=Same.new h0 (.lst [.int 0]);refine⟨_,rfl,.ref a,p.length,rfl,.inr ⟨_,SqT.of (g0 _ _ hA),lP.symm⟩,_,rfl,.ref c,r.length,rfl,.inr ⟨_,SqT.of (g0 _ _ hC),lR.symm⟩,?_⟩;have en:((p.length:Int)+(r.length:Int)).toNat=p.length+r.length:=by omega
  refine⟨_,aD,(by omega:-(2^63)<=(p.length:Int)+(r.length:Int)),(by omega:(p.length:Int)+(r.length:Int)<2^63),?_,fun l hl=>?_⟩
  ·rw[en];show 1*(p.length+r.length)<=sizeLine;rw[Nat.one_mul];exact Nat.le_of_lt (bU (by omega))
  have g1:=g0.trans (Same.new hl (.lst (List.replicate ((p.length:Int)+(r.length:Int)).toNat [V.int 0]).flatten));have hl0:H l=none:=g0.free hl;refine⟨_,rfl,.ref a,p.length,rfl,.inr ⟨_,SqT.of (g1 _ _ hA),lP.symm⟩,?_⟩;refine⟨(p.length:Int),rfl,(by omega:-(2^62)<=(p.length:Int)),(by omega:(p.length:Int)<2^62),?_⟩;refine gY (lo:=0) (n:=(p.length:Int).toNat) (fun i σ' H'=>∃o4 o5 L,σ'=[some (.int b),some (.ref a),some (.ref c),some (.ref l),o4,o5]/\Same H H'/\H' l=some (.lst (L.map V.int))/\L.length=p.length+r.length/\∀k,Pm.co L k=Rm.tk b (Pm.W (Pm.co p) (Pm.co r) i 0 k))
   ⟨_,_,Pm.ofF (p.length+r.length) (fun _=>0),rfl,g1,(by rw[aD,en,iU]),Pm.aL _ _,fun k=>by rw[Pm.bK,Pm.SW,Pm.tk0];split<;>rfl⟩ ?_ ?_
  ·rintro i σ' H' hi ⟨o4,o5,L,rfl,g,hL,zL,hW⟩;have hi':i<p.length:=by omega
   refine⟨_,rfl,.ref c,r.length,rfl,.inr ⟨_,SqT.of (g _ _ hC),lR.symm⟩,?_⟩;refine⟨(r.length:Int),rfl,(by omega:-(2^62)<=(r.length:Int)),(by omega:(r.length:Int)<2^62),?_⟩;refine gY (lo:=0) (n:=(r.length:Int).toNat) (fun k σ' H'=>∃o5 L,σ'=[some (.int b),some (.ref a),some (.ref c),some (.ref l),some (.int (0+(i:Int))),o5]/\Same H H'/\H' l=some (.lst (L.map V.int))/\L.length=p.length+r.length/\∀j,Pm.co L j=Rm.tk b (Pm.W (Pm.co p) (Pm.co r) i k j))
    ⟨_,L,rfl,g,hL,zL,hW⟩ ?_ ?_
   ·rintro k σ' H2 hk ⟨o5,L,rfl,g,hL,zL,hW⟩;have hk':k<r.length:=by omega
    have lL:(L.map V.int).length=L.length:=List.length_map _;have e1:(0+(i:Int)+(0+(k:Int))).toNat=i+k:=by omega
    have e2:(0+(i:Int)).toNat=i:=by omega
    have e3:(0+(k:Int)).toNat=k:=by omega
    refine⟨_,rfl,_,rfl,_,rfl,_,rfl,_,_,.inl (SqL.of hL),cA (ns:=L) (by omega:(0:Int)<=0+(i:Int)+(0+(k:Int))) (by omega),?_⟩;refine⟨_,rfl,_,rfl,_,_,.inr (SqT.of (g _ _ hA)),cA (ns:=p) (by omega:(0:Int)<=0+(i:Int)) (by omega),?_⟩;refine⟨_,rfl,_,rfl,_,_,.inr (SqT.of (g _ _ hC)),cA (ns:=r) (by omega:(0:Int)<=0+(k:Int)) (by omega),?_⟩;refine⟨vd (Rm.Bd.getD bA _) (Rm.Bd.getD bC _) (by decide),?_⟩;refine⟨b,_,rfl,hb,?_⟩;refine⟨_,rfl,_,rfl,_,rfl,l,_,_,i+k,rfl,rfl,hL,Ie (by omega) (by rw[lL];omega),?_⟩;refine⟨_,L.set (i+k) _,rfl,g.upd hl0 _,(by rw[aD,nW]),(by rw[List.length_set];exact zL),fun j=>?_⟩;rw[Pm.zu _ _ _ _ (by omega),Pm.UH,e1,e2,e3];by_cases ej:j=i+k
    ·have hw:=hW j;rw[if_pos ej,if_pos ej];rw[ej]at hw⊢;rw[<-Rm.cj b (Pm.W (Pm.co p) (Pm.co r) i k (i+k)),<-hw];rfl
    ·rw[if_neg ej,if_neg ej,Int.add_zero];exact hW j
   ·rintro σ' H2 ⟨o5,L,rfl,g,hL,zL,hW⟩;refine⟨_,_,L,rfl,g,hL,zL,fun k=>?_⟩;rw[hW k,Int.toNat_natCast,Pm.abx fun k hk=>Pm.bJ hk]
  ·rintro σ' H' ⟨o4,o5,L,rfl,g,hL,zL,hW⟩;refine⟨_,rfl,l,L,rfl,SqL.of hL,fun t H2 g2 ht=>q t H2 (g.trans g2) ?_⟩;have e:Pm.trim L=Pm.mul b p r:=by
    refine Pm.qm fun k=>?_;rw[hW k,Int.toNat_natCast,Pm.PD fun k hk=>Pm.bJ hk,Pm.bK];split
    ·rfl
    ·rw[<-Pm.mC,Pm.mul,Pm.jm,Pm.bK,if_neg (by assumption)]
   rw[<-e];exact ht
theorem Ey(F:Fn K mg "divided" uL ["by","one","other"])(bf:gb P w K mg base)(dw:mz P w K mg base):ql P w K mg base:=by
 refine F.cal gq (fun vs H Q E h=>?_) (fun f cdv A outer s H vs Q E hr h=>?_)
 ·obtain⟨b,a,c,P,M,rfl,_⟩:=h;rfl
 ·obtain⟨b,a,c,P,M,rfl,hb,hb1,hA,hC,zA,zC,hM,nP,bA,bC,q⟩:=h;refine⟨_,(ak (aJ (i:=3) gq.nd rfl (Or.inl rfl) (aK cB (aM (jx K) rfl B.cR boot_len (aO (pv 2) ao)) au))
   (ak (aJ (i:=4) gq.nd rfl (Or.inl rfl) (aK v_mul (nq (lY au ao)) (aM (HB rfl) rfl B.XR boot_max (lY au (nM (aK cB (aM (jx K) rfl B.cR boot_len (aO (pv 1) ao)) (pv 3)) ao)))))
   (ak (aJ (i:=5) gq.nd rfl (Or.inl rfl) (cg (xlist K) rfl B.vL boot_list (aO (pv 1) ao)))
   (ak (mU PassesOwn.never rfl (Ih rfl B.cQ (nM (aK cB (aM (jx K) rfl B.cR boot_len (aO (pv 4) ao)) au) (YJ (Lz Dp au) (YJ (Lz Dp au) ao)))) (bB (i:=6) gq.nd rfl (Or.inl rfl))
   (ak (aJ (i:=7) gq.nd rfl (Or.inl rfl) (bh (xix K) (pv 5) (aK (jK K) (pv 6) (pv 3)) (fun _ _=>rfl)))
   (ak (C8 (pv 7) (Jf (pv 4) (pv 6) set_list))
   (aF (mU PassesOwn.never rfl (cC rfl B.cQ (aG (aM (jx K) rfl B.cR boot_len (aO (pv 2) ao)) ao)) (bB (i:=8) gq.nd rfl (Or.inl rfl))
   (aF (C8 (aq bf hr rfl (aO (pv 0) (nM (aK cB (bh (xix K) (pv 5) (aK (jK K) (pv 6) (pv 8)) (fun _ _=>rfl)) (aK v_mul (pv 7) (bh (xix K) (pv 2) (pv 8) (fun _ _=>rfl)))) ao))) (Jf (pv 5) (aK (jK K) (pv 6) (pv 8)) set_list))))))))
   (aF (aR (mK (aG (aq dw hr rfl (aO (pv 4) ao)) (aG (aq dw hr rfl (aO (pv 5) ao)) ao))))))))),?_⟩
  have lP:(P.map V.int).length=P.length:=List.length_map _;have lM:(M.map V.int).length=M.length:=List.length_map _;have hMp:=hM.pos;refine⟨_,rfl,.ref c,M.length,rfl,.inr ⟨_,SqT.of hC,lM.symm⟩,_,_,rfl,rfl,?_⟩;refine⟨(by show 1<=sizeLine;decide),fun l0 h0=>?_⟩;have g0:=Same.new h0 (.lst [.int 0]);refine⟨_,rfl,.ref a,P.length,rfl,.inr ⟨_,SqT.of (g0 _ _ hA),lP.symm⟩,_,rfl,_,_,rfl,rfl,_,_,rfl,?_⟩;have en:(if(P.length:Int)-((M.length:Int)-1)>0 then(P.length:Int)-((M.length:Int)-1)else 0).toNat=P.length-(M.length-1):=(max_zero P.length M.length).resolve_right (by omega);refine⟨_,aD,?_,?_,?_,fun lo hlo=>?_⟩
  ·split<;>omega
  ·split<;>omega
  ·rw[en];show 1*(P.length-(M.length-1))<=sizeLine;rw[Nat.one_mul];exact Nat.le_of_lt (bU (by omega))
  rw[en,iU];have adq:H lo=none:=g0.free hlo;have g1:=g0.trans (Same.new hlo (.lst ((Pm.ofF (P.length-(M.length-1)) fun _=>0).map V.int)));have hO0:(upd (upd H l0 (.lst [.int 0])) lo (.lst ((Pm.ofF (P.length-(M.length-1)) fun _=>0).map V.int))) lo=some (.lst ((Pm.ofF (P.length-(M.length-1)) fun _=>0).map V.int)):=aD;generalize upd (upd H l0 (.lst [.int 0])) lo (.lst ((Pm.ofF (P.length-(M.length-1)) fun _=>0).map V.int))=H1 at g1 hO0;refine⟨_,rfl,a,_,rfl,.inr (SqT.of (g1 _ _ hA)),fun ll hll=>?_⟩;have acD:H ll=none:=g1.free hll;have hne:lo≠ll:=cJ hO0 hll;have gll:=Same.new hll (.lst (P.map V.int));have g2:=g1.trans gll;have hO2:=gll _ _ hO0;have hL2:(upd H1 ll (.lst (P.map V.int))) ll=some (.lst (P.map V.int)):=aD;generalize upd H1 ll (.lst (P.map V.int))=H2 at gll g2 hO2 hL2;generalize hn:P.length-(M.length-1)=n at hO2;refine⟨_,rfl,.ref lo,n,rfl,.inl ⟨_,SqL.of hO2,by rw[List.length_map,Pm.aL]⟩,_,_,rfl,rfl,_,rfl,_,rfl,(n:Int)-1,-1,rfl,⟨by omega,by omega,by omega,by omega⟩,?_⟩;refine KY (lo:=(n:Int)-1) (n:=((n:Int)-1-(-1)).toNat) (fun i σ' H'=>∃o6 o7 o8 O L,σ'=[some (.int b),some (.ref a),some (.ref c),some (.int ((M.length:Int)-1)),some (.ref lo),some (.ref ll),o6,o7,o8]/\Same H H'/\H' lo=some (.lst (List.map V.int O))/\H' ll=some (.lst (List.map V.int L))/\Pm.Ib b P M (n-i) O L/\(∀k,Rm.Bd (300000+i*124001) (Pm.co O k))/\∀k,Rm.Bd (300000+i*124001) (Pm.co L k))
   ⟨_,_,_,_,P,rfl,g2,hO2,hL2,(by rw[Nat.sub_zero,<-hn];exact Pm.Ib.start nP),fun k=>by rw[Pm.bK];split<;>exact Rm.Bd.zero _,fun k=>(Pm.jD bA k).mono (by omega)⟩ ?_ ?_
  ·rintro i σ' H' hi ⟨o6,o7,o8,O,L,rfl,g,hO,hL,I,bO,bL⟩;have hi':i<n:=by omega
   have hs:n-i=n-(i+1)+1:=by omega
   rw[hs]at I;generalize es:n-(i+1)=s at I;have esI:(n:Int)-1-(i:Int)=(s:Int):=by omega
   rw[esI];have hlL:=I.ll;have hlO:=I.ol;have lO:(O.map V.int).length=O.length:=List.length_map _;have e1:((s:Int)+((M.length:Int)-1)).toNat=s+(M.length-1):=by omega
   refine⟨_,rfl,_,rfl,_,rfl,_,_,.inl (SqL.of hL),cA (ns:=L) (by omega:(0:Int)<=(s:Int)+((M.length:Int)-1)) (by omega),?_⟩;rw[e1];have hF:Rm.Bd (300000+i*124001) (L.getD (s+(M.length-1)) 0):=bL _;have eF:L.getD (s+(M.length-1)) 0=Pm.co L (s+(M.length-1)):=rfl;rw[eF]at hF⊢;generalize hf:Pm.co L (s+(M.length-1))=f at hF;refine⟨_,rfl,_,rfl,_,rfl,lo,_,_,s,rfl,rfl,hO,Ie rfl (by rw[lO];omega),?_⟩;have hO3:(upd H' lo (.lst ((O.map V.int).set s (.int f)))) lo=some (.lst ((O.set s f).map V.int)):=by rw[aD,nW]
   have hL3:(upd H' lo (.lst ((O.map V.int).set s (.int f)))) ll=some (.lst (L.map V.int)):=by rw[cD hne.symm];exact hL
   have g3:=g.upd adq (.lst ((O.map V.int).set s (.int f)));generalize upd H' lo (.lst ((O.map V.int).set s (.int f)))=H3 at hO3 hL3 g3;refine⟨_,rfl,.ref c,M.length,rfl,.inr ⟨_,SqT.of (g3 _ _ hC),lM.symm⟩,?_⟩;refine⟨(M.length:Int),rfl,(by omega:-(2^62)<=(M.length:Int)),(by omega:(M.length:Int)<2^62),?_⟩;refine gY (lo:=0) (n:=(M.length:Int).toNat) (fun t σ' H'=>∃o8 L',σ'=[some (.int b),some (.ref a),some (.ref c),some (.int ((M.length:Int)-1)),some (.ref lo),some (.ref ll),some (.int (s:Int)),some (.int f),o8]/\Same H H'/\H' lo=some (.lst ((O.set s f).map V.int))/\H' ll=some (.lst (List.map V.int L'))/\L'.length=L.length/\∀k,Pm.co L' k=Pm.lf b f s t L M k)
    ⟨_,L,rfl,g3,hO3,hL3,rfl,fun k=>(Pm.QD ..).symm⟩ ?_ ?_
   ·rintro t σ' H4 ht ⟨o8,L',rfl,g4,hO4,hL4,zL',eL'⟩;have ht':t<M.length:=by omega
    have lL':(L'.map V.int).length=L'.length:=List.length_map _;have e2:((s:Int)+(0+(t:Int))).toNat=s+t:=by omega
    have e3:(0+(t:Int)).toNat=t:=by omega
    refine⟨_,rfl,_,rfl,_,rfl,_,rfl,_,_,.inl (SqL.of hL4),cA (ns:=L') (by omega:(0:Int)<=(s:Int)+(0+(t:Int))) (by omega),?_⟩;refine⟨_,rfl,_,rfl,_,rfl,_,_,.inr (SqT.of (g4 _ _ hC)),cA (ns:=M) (by omega:(0:Int)<=0+(t:Int)) (by omega),?_⟩;refine⟨vd hF (Rm.Bd.getD bC _) (by have:i*124001<=40*124001:=Nat.mul_le_mul_right _ (by omega);omega),_,_,rfl,rfl,?_⟩;refine⟨b,_,rfl,hb,?_⟩;refine⟨_,rfl,_,rfl,_,rfl,ll,_,_,s+t,rfl,rfl,hL4,Ie (by omega) (by rw[lL'];omega),?_⟩;refine⟨_,L'.set (s+t) _,rfl,g4.upd acD _,(by rw[cD hne];exact hO4),(by rw[aD,nW]),(by rw[List.length_set];exact zL'),fun k=>?_⟩;rw[Pm.zu _ _ _ _ (by omega),Pm.QY,e2,e3,<-eL' k];by_cases ek:k=s+t
    ·rw[if_pos ek,if_pos ek,ek];rfl
    ·rw[if_neg ek,if_neg ek]
   ·rintro σ' H4 ⟨o8,L',rfl,g4,hO4,hL4,zL',eL'⟩;rw[Int.toNat_natCast]at eL';refine⟨_,_,_,O.set s f,L',rfl,g4,hO4,hL4,?_,fun k=>?_,fun k=>?_⟩
    ·rw[<-hf];rw[<-hf]at eL';exact I.step hM (by omega) zL' eL'
    ·rw[Pm.zu _ _ _ _ (by omega)];split
     ·exact hF.mono (by omega)
     ·exact(bO k).mono (by omega)
    ·rw[eL' k];exact(Pm.Uy hb hb1 (by omega) hF bL bC k).mono (by omega)
  ·rintro σ' H' ⟨o6,o7,o8,O,L,rfl,g,hO,hL,I,bO,bL⟩;have e9:((n:Int)-1-(-1)).toNat=n:=by omega
   rw[e9]at I bO bL;rw[Nat.sub_self]at I;refine⟨_,rfl,lo,O,rfl,SqL.of hO,fun t1 H3 g3 h3=>?_⟩;refine⟨_,rfl,ll,L,rfl,SqL.of (g3 _ _ hL),fun t2 H4 g4 h4=>?_⟩;refine⟨(by show 2<=sizeLine;decide),fun t ht=>?_⟩;have gt:=Same.new ht (.tup [.ref t1,.ref t2]);have hz:300000+n*124001<=5300000:=by have:n*124001<=40*124001:=Nat.mul_le_mul_right _ (by omega);omega
   refine q t t1 t2 (Pm.trim O) (Pm.trim L) _ (g.trans (g3.trans (g4.trans gt))) aD (gt _ _ (g4 _ _ h3)) (gt _ _ h4) (I.stop hM) (fun z hz'=>(Jy bO z hz').mono hz) (fun z hz'=>(Jy bL z hz').mono hz) ?_;have:=Pm.fB O;have:=I.ol;omega
theorem Mf(F:Fn K mg "monic" AF ["prime","poly"])(v5:Gv P w K mg base):Hw P w K mg base:=by
 refine F.cal CB (fun vs H Q E h=>?_) (fun f cdv A outer s H vs Q E hr h=>?_)
 ·obtain⟨P,a,p,rfl,_⟩:=h;rfl
 ·obtain⟨P',a,p,rfl,hP,hPb,hA,zA,pP,q⟩:=h;refine⟨_,(ak (eV (aU (xeq K hr) (aM (jx K) rfl B.cR boot_len (aO (pv 1) ao)) au (bw _))
   (aF (aR (mK ao)))
   bQ)
   (ak (aJ (i:=2) CB.nd rfl (Or.inr rfl) (bh (xix K) (pv 1) (aK cB (aM (jx K) rfl B.cR boot_len (aO (pv 1) ao)) au) (fun _ _=>rfl)))
   (aF (aR (cg (jU K) rfl B.gK boot_tuple (aG (dU (sc:=Gr) (N:=["number","last","prime"]) (ix:=[none,some 2,some 0]) cM rfl (JB K (pv 1)) (fun cl C s₀ H₀ ex=>⟨(bB (i:=0) iz rfl (Or.inl rfl)),cN,(aq v5 hr rfl (aO (pv 2) (aO (pv 0) (aO (pv 1) ao))))⟩)) ao)))))),?_⟩
  have hr2:2<=P'/\P'<2097152:=⟨hP.1,hPb⟩;have lP:(p.map V.int).length=p.length:=List.length_map _;refine⟨_,rfl,.ref a,p.length,rfl,.inr ⟨_,SqT.of hA,lP.symm⟩,_,rfl,?_⟩;refine ni (fun c=>?_) (fun c=>?_)
  ·have c':(p.length:Int)=0:=dec_true c;have e:p=[]:=List.eq_nil_of_length_eq_zero (by omega);subst e;exact⟨Nat.zero_le _,fun t ht=>q t [] _ (Same.new ht _) aD (Pm.xK.nil _)⟩
  ·have c':¬(p.length:Int)=0:=dec_false c;have hn:p≠[]:=fun e=>c' (by rw[e];rfl);have hpos:0<p.length:=by omega
   have e1:((p.length:Int)-1).toNat=p.length-1:=by omega
   refine⟨_,rfl,_,rfl,.ref a,p.length,rfl,.inr ⟨_,SqT.of hA,lP.symm⟩,_,_,rfl,rfl,_,_,.inr (SqT.of hA),cA (ns:=p) (by omega:(0:Int)<=(p.length:Int)-1) (by omega),?_⟩;rw[e1];have l0:=Pm.uh hn pP.tr;have l1:=pP.co (p.length-1);rw[Rm.fZ (by omega)]at l1;have r0:0<=Pm.co p (p.length-1):=by rw[<-l1];exact Int.emod_nonneg _ (by omega)
   have r1:Pm.co p (p.length-1)<(P':Int):=by rw[<-l1];exact Int.emod_lt_of_pos _ (by omega)
   refine⟨_,rfl,a,rfl,.inr ⟨⟨_,SqT.of hA⟩,pC hA (by omega) rfl (fun x=>x*(Pm.co p (p.length-1))^(P'-2)%(P':Int)) ?_ ?_⟩⟩
   ·intro H2 x g2 hx k hk;exact⟨_,rfl,_,rfl,_,rfl,P',x,_,rfl,hP,hPb,by show 0<Pm.co p (p.length-1);omega,r1,hk⟩
   ·intro D hD;refine⟨D,_,rfl,.inl ⟨SqL.of aD,fun t ht=>?_⟩⟩;exact q t (Pm.gW P' p) _ ((Same.new hD _).trans (Same.new ht _)) aD (Pm.Ho hP pP hn)
theorem Bc(F:Fn K mg "greatest" qT ["by","one","other"])(uO:Hw P w K mg base)(fX:ql P w K mg base):sJ P w K mg base:=by
 refine F.cal gM (fun vs H Q E h=>?_) (fun f cdv A outer s H vs Q E hr h=>?_)
 ·obtain⟨P,a,c,p,r,rfl,_⟩:=h;rfl
 ·obtain⟨P',a,c,p,r,rfl,hP,hPb,hA,hC,zA,zC,pP,pR,hne,q⟩:=h;refine⟨_,(ak (aJ (i:=3) gM.nd rfl (Or.inl rfl) (aq uO hr rfl (aO (pv 0) (aO (pv 1) ao))))
   (ak (aJ (i:=4) gM.nd rfl (Or.inl rfl) (aq uO hr rfl (aO (pv 0) (aO (pv 2) ao))))
   (ak (iV PassesOwn.never (aU qH (aM (jx K) rfl B.cR boot_len (aO (pv 4) ao)) au (bw _))
   (ak (aJ (i:=5) gM.nd rfl (Or.inl rfl) (bh (xix K) (aq fX hr rfl (aO (pv 0) (aO (pv 3) (aO (pv 4) ao)))) au (fun _ _=>rfl)))
   (ak (aJ (i:=3) gM.nd rfl (Or.inl rfl) (pv 4))
   (aF (aJ (i:=4) gM.nd rfl (Or.inl rfl) (aq uO hr rfl (aO (pv 0) (aO (pv 5) ao))))))))
   (aF (aR (pv 3)))))),?_⟩
  have hr2:2<=P'/\P'<2097152:=⟨hP.1,hPb⟩;refine⟨_,rfl,_,rfl,P',a,p,rfl,hP,hPb,hA,by omega,pP,fun tg g0 H1 g1 hG mG=>?_⟩;refine⟨_,rfl,_,rfl,P',c,r,rfl,hP,hPb,g1 _ _ hC,by omega,pR,fun ts s0 H2 g2 hS' mS=>?_⟩;have lg0:=mG.len;have ls0:=mS.len;refine⟨fun m σ' H'=>∃(o5:Option V) (tg ts:Addr) (g s:List Int),m=s.length/\σ'=[some (.int P'),some (.ref a),some (.ref c),some (.ref tg),some (.ref ts),o5]/\Same H H'/\H' tg=some (.tup (g.map V.int))/\H' ts=some (.tup (s.map V.int))/\Pm.KH P' p r g s/\g.length<=max p.length r.length/\s.length<=max p.length r.length,
   ⟨_,_,tg,ts,g0,s0,rfl,rfl,g1.trans g2,g2 _ _ hG,hS',Pm.KH.start mG mS hne,by omega,by omega⟩,?_⟩
  rintro m σ' H' ⟨o5,tg,ts,gg,ss,rfl,rfl,g,hG,hS',I,zg,zs⟩;have lS:(ss.map V.int).length=ss.length:=List.length_map _;refine⟨_,rfl,.ref ts,ss.length,rfl,.inr ⟨_,SqT.of hS',lS.symm⟩,_,_,rfl,rfl,_,rfl,?_⟩;refine ni (fun cc=>?_) (fun cc=>?_)
  ·have hs:ss≠[]:=fun e=>by have:=dec_true cc;rw[e]at this;simp at this
   have hMs:=I.sm_ hs;refine⟨_,fun _ _ z=>z,?_⟩;refine⟨_,rfl,_,rfl,_,rfl,P',tg,ts,gg,ss,rfl,by omega,by omega,hG,hS',by omega,by omega,hMs,I.gy.co,(fun x hx=>(QL hr2.1 hr2.2 I.gy x hx).mono (by decide)),QL hr2.1 hr2.2 I.sy,fun t x y o l H3 g3 hT hX hY D _ _ _=>?_⟩;refine⟨_,_,.inr (SqT.of hT),rfl,?_⟩;refine⟨_,rfl,?_⟩;have hsh:=D.short;refine⟨_,rfl,_,rfl,P',y,l,rfl,hP,hPb,hY,by omega,D.ry,fun tm m H4 g4 hM mM=>?_⟩;have lm:=mM.len;exact⟨m.length,by omega,_,ts,tm,ss,m,rfl,rfl,g.trans (g3.trans g4),(g3.trans g4) _ _ hS',hM,I.step hs D mM,zs,by omega⟩
  ·have hs:ss=[]:=List.eq_nil_of_length_eq_zero (by have:=dec_false cc;omega);refine⟨_,rfl,?_⟩;exact q tg gg H' g hG (I.stop hs) zg
theorem Ez(F:Fn K mg "nearest" tY ["modulus","number"]):ug P w K mg base:=by
 refine F.cal vV (fun vs H Q E h=>?_) (fun f cdv A outer s H vs Q E hr h=>?_)
 ·obtain⟨M,x,rfl,_⟩:=h;rfl
 ·obtain⟨M,x,rfl,hM,q⟩:=h;refine⟨_,(ak (aJ (i:=2) vV.nd rfl (Or.inl rfl) (aK dz (pv 1) (pv 0)))
   (aF (aR (wY (aU qH (aK v_mul au (pv 2)) (pv 0) (bw _)) (aK cB (pv 2) (pv 0)) (pv 2))))),?_⟩
  refine⟨_,rfl,_,rfl,_,_,rfl,rfl,hM,?_⟩;refine⟨_,rfl,mulL (by decide) (by decide),_,rfl,_,_,rfl,rfl,_,rfl,?_⟩;refine ni (fun c=>?_) (fun c=>?_)
  ·have c':2*(x%M)>M:=dec_true c;refine⟨_,rfl,_,rfl,_,_,rfl,rfl,?_⟩;have e:Pm.nr M x=x%M-M:=if_pos c';rw[e]at q;exact q
  ·have c':¬2*(x%M)>M:=dec_false c;refine⟨_,rfl,?_⟩;have e:Pm.nr M x=x%M:=if_neg c';rw[e]at q;exact q
theorem Ig(F:Fn K mg "joined" wM ["modulus","number","prime","rest"])(v5:Gv P w K mg base)(bf:gb P w K mg base)(jY:ug P w K mg base):Dj P w K mg base:=by
 refine F.cal zj (fun vs H Q E h=>?_) (fun f cdv A outer s H vs Q E hr h=>?_)
 ·obtain⟨M,t,p,s,rfl,_⟩:=h;rfl
 ·obtain⟨M,t,p,s',rfl,hp,hpb,hM,hpM,q⟩:=h;refine⟨_,(ak (aJ (i:=4) zj.nd rfl (Or.inl rfl) (aq v5 hr rfl (aO (pv 2) (aG (aq bf hr rfl (aO (pv 2) (nM (aK cB (pv 3) (pv 1)) ao))) (aG (aq bf hr rfl (aO (pv 2) (aO (pv 0) ao))) ao)))))
   (aF (aR (aq jY hr rfl (nM (aK v_mul (pv 0) (pv 2)) (nM (aK (jK K) (pv 1) (aK v_mul (pv 0) (pv 4))) ao)))))),?_⟩
  have h2:=hp.1;have hp0:(p:Int)≠0:=by omega
  have r0:=Int.emod_nonneg M hp0;have r1:=Int.emod_lt_of_pos M (show(0:Int)<p by omega);have rn:M%(p:Int)≠0:=fun z=>hpM (Int.dvd_of_emod_eq_zero z);have et:Rm.tk (p:Int) M=M%(p:Int):=Rm.fZ hp0 M;refine⟨_,rfl,_,rfl,_,rfl,_,rfl,_,_,rfl,rfl,p,_,rfl,by omega,?_⟩;refine⟨_,rfl,_,rfl,p,M,rfl,by omega,?_⟩;refine⟨p,_,_,rfl,hp,hpb,by rw[et];omega,by rw[et];exact r1,?_⟩;have hw:=Pm.Kc (M:=M) (t:=t) (s:=s') hp;refine⟨_,rfl,_,rfl,mulR (by omega) (by omega),?_⟩;refine⟨_,rfl,_,rfl,_,rfl,mulR (by show -(2^64)<Pm.jw M t p s';omega) (by show Pm.jw M t p s'<2^64;omega),?_⟩;exact⟨_,_,rfl,Int.mul_pos hM (by omega),q⟩
theorem xr(F:Fn K mg "taken_poly" lZ ["prime","poly"])(dw:mz P w K mg base)(bf:gb P w K mg base):sV P w K mg base:=by
 refine F.cal yh (fun vs H Q E h=>?_) (fun f cdv A outer s H vs Q E hr h=>?_)
 ·obtain⟨p,a,P,rfl,_⟩:=h;rfl
 ·obtain⟨p,a,P',rfl,hp,hA,zA,q⟩:=h;refine⟨_,(aF (aR (aq dw hr rfl (aG (dU (sc:=vC) (N:=["number","prime"]) (ix:=[none,some 0]) cM rfl (JB K (pv 1)) (fun cl C s₀ H₀ ex=>⟨(bB (i:=0) iz rfl (Or.inl rfl)),cN,(aq bf hr rfl (aO (pv 1) (aO (pv 0) ao)))⟩)) ao)))),?_⟩;refine⟨_,rfl,a,rfl,.inr ⟨⟨_,SqT.of hA⟩,pC hA (by omega) rfl (fun x=>Rm.tk p x) ?_ ?_⟩⟩
  ·intro H2 x g2 hx k hk;exact⟨_,rfl,_,rfl,p,x,rfl,by omega,hk⟩
  ·intro D hD;refine⟨D,_,rfl,SqL.of aD,fun t1 H3 g3 h3=>?_⟩;exact q t1 H3 ((Same.new hD _).trans g3) h3
theorem D6(F:Fn K mg "divides" tZ ["monic_one","poly"])(fX:ql P w K mg base):zq P w K mg base:=by
 refine F.cal Eu (fun vs H Q E h=>?_) (fun f cdv A outer s H vs Q E hr h=>?_)
 ·obtain⟨m,a,M,P,rfl,_⟩:=h;rfl
 ·obtain⟨m,a,M,P',rfl,hMm,hA,zM,zP,hM,bM,bP,q⟩:=h;refine⟨_,(aF (aR (yx (xeq K hr) (bh (xix K) (aq fX hr rfl (lY au (aO (pv 1) (aO (pv 0) ao)))) au (fun _ _=>rfl)) (mK ao) (bw _)))),?_⟩;refine⟨_,rfl,_,rfl,0,a,m,P',M,rfl,by decide,by decide,hA,hMm,zP,zM,hM,fun k=>Rm.aZ _,bP,bM,fun t x y o l H3 g3 hT hX hY D _ _ _=>?_⟩;refine⟨_,_,.inr (SqT.of hT),rfl,?_⟩;refine⟨Nat.zero_le _,fun t0 ht0=>?_⟩;have g4:=Same.new ht0 (.tup []);refine abK (ns:=l) (ms:=[]) (SqT.of (g4 _ _ hY)) (SqT.of aD) ?_;exact q _ _ (g3.trans g4) (by show decide (l=[])=true↔_;rw[decide_eq_true_iff];exact D.dv hM)
theorem rT(F:Fn K mg "whole_greatest" iy ["one","other"])(pH:zq P w K mg base)(lu:o9 P w K mg base)(jf:sJ P w K mg base)(jA:sV P w K mg base)(jY:ug P w K mg base)(wG:Dj P w K mg base):lK P w K mg base:=by
 refine F.cal aV (fun vs H Q E h=>?_) (fun f cdv A outer s H vs Q E hr h=>?_)
 ·obtain⟨a,c,P,t,g,N,U,V',rfl,_⟩:=h;rfl
 ·obtain⟨a,c,P',t,g,N,U,V',rfl,hA,hC,zP,zt,hP,bP,bt,G,hV,hU,hUV,q⟩:=h;refine⟨_,(ak (aJ (i:=2) aV.nd rfl (Or.inl rfl) (pv 0))
   (ak (aJ (i:=3) aV.nd rfl (Or.inr rfl) au)
   (ak (aJ (i:=4) aV.nd rfl (Or.inr rfl) (pF rfl B.cY))
   (ak (aJ (i:=5) aV.nd rfl (Or.inl rfl) Ac)
   (ak (iV PassesOwn.never (PW.pt (vG (DL (CJ (pv 5))) (vG (DL (CJ (aq pH hr rfl (aO (pv 2) (aO (pv 0) ao))))) (vM (DL (CJ (aq pH hr rfl (aO (pv 2) (aO (pv 1) ao)))))))))
   (ak (aJ (i:=4) aV.nd rfl (Or.inr rfl) (aq lu hr rfl (aO (pv 4) ao)))
   (ak (aJ (i:=6) aV.nd rfl (Or.inr rfl) (aq jf hr rfl (aO (pv 4) (aG (aq jA hr rfl (aO (pv 4) (aO (pv 0) ao))) (aG (aq jA hr rfl (aO (pv 4) (aO (pv 1) ao))) ao)))))
   (aF (eV (aU xG (aM (jx K) rfl B.cR boot_len (aO (pv 6) ao)) (aM (jx K) rfl B.cR boot_len (aO (pv 2) ao)) (bw _))
   (ak (aJ (i:=2) aV.nd rfl (Or.inl rfl) (cg (jU K) rfl B.gK boot_tuple (aG (dU (sc:=pO) (N:=["rest","prime"]) (ix:=[none,some 4]) cM rfl (JB K (pv 6)) (fun cl C s₀ H₀ ex=>⟨(bB (i:=0) iz rfl (Or.inl rfl)),cN,(aq jY hr rfl (aO (pv 1) (aO (pv 0) ao)))⟩)) ao)))
   (ak (aJ (i:=3) aV.nd rfl (Or.inr rfl) (pv 4))
   (aF (aJ (i:=5) aV.nd rfl (Or.inl rfl) Ac))))
   (aF (DM (eV (aU (xeq K hr) (aM (jx K) rfl B.cR boot_len (aO (pv 6) ao)) (aM (jx K) rfl B.cR boot_len (aO (pv 2) ao)) (bw _))
   (ak (aJ (i:=7) aV.nd rfl (Or.inr rfl) (pv 2))
   (ak (aJ (i:=2) aV.nd rfl (Or.inl rfl) (cg (jU K) rfl B.gK boot_tuple (aG (dU (sc:=qz) (N:=["k","before","modulus","prime","seen"]) (ix:=[none,some 7,some 3,some 4,some 6]) cM rfl (cC rfl B.cQ (aG (aM (jx K) rfl B.cR boot_len (aO (pv 6) ao)) ao)) (fun cl C s₀ H₀ ex=>⟨(bB (i:=0) iz rfl (Or.inl rfl)),cN,(aq wG hr rfl (aO (pv 2) (aG (bh (xix K) (pv 1) (pv 0) (fun _ _=>rfl)) (aO (pv 3) (aG (bh (xix K) (pv 4) (pv 0) (fun _ _=>rfl)) ao)))))⟩)) ao)))
   (ak (aJ (i:=3) aV.nd rfl (Or.inr rfl) (aK v_mul (pv 3) (pv 4)))
   (aF (aJ (i:=5) aV.nd rfl (Or.inl rfl) (yx (xeq K hr) (pv 2) (pv 7) (bw _)))))))
   bQ))))))))
   (aF (aR (pv 2)))))))),?_⟩
  have hgP:g.length<=P'.length:=G.one.len rfl G.mon hP;refine⟨_,rfl,?_⟩;refine⟨Rt H a c P' g N,⟨_,_,_,a,P',1,1000000,true,0,0,rfl,rfl,Same.refl _,hA,Pm.WgI.start hP hgP _,Om.many,by omega,by omega⟩,?_⟩;rintro m σ' H' ⟨o6,o7,tt,told,M,prime,ripe,bad,good,rfl,rfl,gg,hT,I,TN,hbig,ad2⟩;have bT:=Z1 I bP ad2;have zT:=I.le;refine⟨_,rfl,ripe,rfl,?_⟩;refine ni (fun cr=>?b1) (fun cr=>?n1)
  case' b1=>
   have hne:¬(ripe=true/\told=g):=fun z=>by rw[z.1]at cr;exact absurd cr (by decide)
   have gx:=gg;have hTx:=hT;generalize H'=Hx at gx hTx⊢
  case' n1=>
   refine⟨_,rfl,_,rfl,tt,a,told,P',rfl,hT,gg _ _ hA,by omega,zP,I.mon,bT,(fun x hx=>(bP x hx).mono (by decide)),fun b1 H1 g1 e1=>?_⟩;refine⟨b1,rfl,?_⟩;refine ni (fun c1=>?b2) (fun c1=>?n2)
  case' b2=>
   have hne:¬(ripe=true/\told=g):=fun z=>by
    have:b1=true:=e1.mpr (by rw[z.2];exact G.one);rw[this]at c1;exact absurd c1 (by decide)
   have gx:=gg.trans g1;have hTx:=g1 _ _ hT;generalize H1=Hx at gx hTx⊢
  case' n2=>
   refine⟨_,rfl,_,rfl,tt,c,told,t,rfl,g1 _ _ hT,(gg.trans g1) _ _ hC,by omega,zt,I.mon,bT,bt,fun b2 H2 g2 e2=>?_⟩;refine⟨b2,rfl,?_⟩;refine ni (fun c2=>?b3) (fun c2=>?n3)
  case n3=>
   have hb1:b1=true:=by cases b1<;>first|rfl|exact absurd rfl c1
   have hb2:b2=true:=by cases b2<;>first|rfl|exact absurd rfl c2
   have e:=G.told I.mon (e1.mp hb1) (e2.mp hb2) I.ge;subst e;refine⟨_,rfl,?_⟩;exact q tt H2 (gg.trans (g1.trans g2)) ((g1.trans g2) _ _ hT)
  case' b3=>
   have hne:¬(ripe=true/\told=g):=fun z=>by
    have:b2=true:=e2.mpr (by rw[z.2];exact G.two);rw[this]at c2;exact absurd c2 (by decide)
   have gx:=gg.trans (g1.trans g2);have hTx:=(g1.trans g2) _ _ hT;generalize H2=Hx at gx hTx⊢
  all_goals
   have hfew:=I.few G.ne hV hU hne;obtain⟨k,hk'⟩:∃k,6000-(bad+good)=k+1:=⟨6000-(bad+good)-1,by omega⟩;rw[hk']at TN;obtain⟨q0,hq0,acM,aef,hnext⟩:=TN.next;refine⟨_,fun _ _ z=>z,?_⟩;refine⟨_,rfl,prime,q0,rfl,hq0,acM,by omega,fun p hp hlt hle=>?_⟩;have hN:=hnext p hle;refine⟨_,rfl,_,rfl,_,rfl,p,a,P',rfl,by omega,gx _ _ hA,by omega,fun t1 H3 g3 h3=>?_⟩;refine⟨_,rfl,_,rfl,p,c,t,rfl,by omega,(gx.trans g3) _ _ hC,by omega,fun t2 H4 g4 h4=>?_⟩;have l1:=Jt p P';have l2:=Jt p t;refine⟨p,t1,t2,_,_,rfl,hp,by omega,g4 _ _ h3,h4,by omega,by omega,Mw p P',Mw p t,fun _=>Vj hp hP,fun ts s' H5 g5 hS hG hsl=>?_⟩;have sn:=G.seen hp (Jx p P') (Jx p t) hG;have lS:(s'.map V.int).length=s'.length:=List.length_map _;have lT:(told.map V.int).length=told.length:=List.length_map _;have gy:=gx.trans (g3.trans (g4.trans g5));have hTy:=(g3.trans (g4.trans g5)) _ _ hTx;refine⟨_,rfl,.ref ts,s'.length,rfl,.inr ⟨_,SqT.of hS,lS.symm⟩,_,rfl,.ref tt,told.length,rfl,.inr ⟨_,SqT.of hTy,lT.symm⟩,_,_,rfl,rfl,_,rfl,?_⟩;refine ni (fun d1=>?_) (fun d1=>?_)
   ·have d1':(s'.length:Int)<told.length:=dec_true d1;refine⟨_,rfl,ts,rfl,.inr ⟨⟨_,SqT.of hS⟩,pC hS (by omega) rfl (fun x=>Pm.nr p x) ?_ ?_⟩⟩
    ·intro H6 x g6 hx kk hk;exact⟨_,rfl,_,rfl,p,x,rfl,by omega,hk⟩
    ·intro D hD;refine⟨D,_,rfl,.inl ⟨SqL.of aD,fun tn ht=>?_⟩⟩;obtain⟨GX,uH,hbg,I'⟩:=I.anew hp hlt (by omega) (by omega) sn (by omega);refine⟨_,rfl,?_⟩;exact⟨6000-(GX+uH),by omega,_,_,tn,s'.map (Pm.nr p),p,p,true,GX,uH,rfl,rfl,gy.trans ((Same.new hD _).trans (Same.new ht _)),aD,I',(by rw[hbg,show 6000-(bad+good+1)=k by omega];exact hN),by omega,by omega⟩
   ·have d1':¬(s'.length:Int)<told.length:=dec_false d1;refine NQ.by (fun σ' H2=>∃m',m'<6000-(bad+good)/\Rt H a c P' g N m' σ' H2) (fun N0 hN0=>?_) (fun σ' H2 z=>z);refine⟨_,rfl,.ref ts,s'.length,rfl,.inr ⟨_,SqT.of hS,lS.symm⟩,_,rfl,.ref tt,told.length,rfl,.inr ⟨_,SqT.of hTy,lT.symm⟩,_,rfl,?_⟩;refine ni (fun d2=>?_) (fun d2=>?_)
    ·have d2':(s'.length:Int)=told.length:=dec_true d2;have hl:s'.length=told.length:=by omega
     have hpM:¬(p:Int)∣M:=fun z=>by have:=I.div p hp z;omega
     refine⟨_,rfl,?_⟩;refine⟨_,rfl,.ref ts,s'.length,rfl,.inr ⟨_,SqT.of hS,lS.symm⟩,?_⟩;refine⟨(s'.length:Int),rfl,(by omega:-(2^62)<=(s'.length:Int)),(by omega:(s'.length:Int)<2^62),?_⟩;rw[Int.toNat_natCast];refine pW (n:=s'.length) (by omega) rfl (fun k=>Pm.jn M (told.getD k 0) p (s'.getD k 0)) ?_ ?_
     ·intro H6 k6 g6 hk6 kk hk;have e1:(0+(k6:Int)).toNat=k6:=by omega
      refine⟨_,rfl,_,rfl,_,rfl,_,_,.inr (SqT.of (g6 _ _ hTy)),cA (ns:=told) (by omega:(0:Int)<=0+(k6:Int)) (by omega),?_⟩;refine⟨_,rfl,_,rfl,_,rfl,_,_,.inr (SqT.of (g6 _ _ hS)),cA (ns:=s') (by omega:(0:Int)<=0+(k6:Int)) (by omega),?_⟩;rw[e1];exact⟨M,_,p,_,rfl,hp,by omega,I.pos,hpM,hk⟩
     ·intro D hD;refine⟨D,_,rfl,.inl ⟨SqL.of aD,fun tn ht=>?_⟩⟩;have gn:=(Same.new hD (.lst ((Pm.ofF s'.length fun k=>Pm.jn M (told.getD k 0) p (s'.getD k 0)).map V.int))).trans (Same.new ht (.tup ((Pm.ofF s'.length fun k=>Pm.jn M (told.getD k 0) p (s'.getD k 0)).map V.int)));refine⟨_,rfl,_,rfl,mulR (by omega) (by omega),?_⟩;refine⟨_,rfl,_,rfl,?_⟩;refine abK (ns:=Pm.ofF s'.length fun k=>Pm.jn M (told.getD k 0) p (s'.getD k 0)) (ms:=told) (SqT.of aD) (SqT.of (gn _ _ hTy)) ?_;obtain⟨GX,uH,hbg,I'⟩:=I.join (lW:=Pm.ofF s'.length fun k=>Pm.jn M (told.getD k 0) p (s'.getD k 0)) (Qi:=decide ((Pm.ofF s'.length fun k=>Pm.jn M (told.getD k 0) p (s'.getD k 0))=told)) hp hlt (by omega) (by omega) sn hl (by rw[Pm.aL];exact hl) (fun k6 hk6=>⟨Pm.jw M (told.getD k6 0) p (s'.getD k6 0),Pm.aa4 hp hpM,by rw[Pm.bK,if_pos (by omega)];rfl⟩) (decide_eq_true_iff);exact hN0 _ _ ⟨6000-(GX+uH),by omega,_,_,tn,_,M*p,p,_,GX,uH,rfl,rfl,gy.trans gn,aD,I',(by rw[hbg,show 6000-(bad+good+1)=k by omega];exact hN),by omega,by omega⟩
    ·have d2':¬(s'.length:Int)=told.length:=dec_false d2;have I':=I.stay hp hlt (by omega) sn (by omega);exact hN0 _ _ ⟨6000-(bad+1+good),by omega,_,_,tt,told,M,p,ripe,bad+1,good,rfl,rfl,gy,hTy,I',(by rw[show 6000-(bad+1+good)=k by omega];exact hN),by omega,by omega⟩
theorem E5(F:Fn K mg "of_rule" ud ["by","rule"])(bf:gb P w K mg base):qj P w K mg base:=by
 refine F.cal qI (fun vs H Q E h=>?_) (fun f cdv A outer s H vs Q E hr h=>?_)
 ·obtain⟨b,a,c,rfl,_⟩:=h;rfl
 ·obtain⟨b,a,c,rfl,hb,hA,zA,q⟩:=h;refine⟨_,(ak (aJ (i:=2) qI.nd rfl (Or.inr rfl) (aM (jx K) rfl B.cR boot_len (aO (pv 1) ao)))
   (ak (rF (i:=3) (hN:=qI.nd) (hi':=rfl) (hx:=(Or.inl rfl)) (sc:=BL) (N:=["k","by","length","rule"]) (ix:=[none,some 0,some 2,some 1]) cM rfl (cC rfl B.cQ (aO (pv 2) ao)) (fun cl C s₀ H₀ ex=>⟨(bB (i:=0) iz rfl (Or.inl rfl)),cN,(aq bf hr rfl (aO (pv 1) (nM (aK cB au (bh (xix K) (pv 3) (aK cB (aK cB (pv 2) au) (pv 0)) (fun _ _=>rfl))) ao)))⟩))
   (aF (aR (cg (jU K) rfl B.gK boot_tuple (nM (aK (jK K) (pv 3) (nq (lY au ao))) ao)))))),?_⟩
  have lC:(c.map V.int).length=c.length:=List.length_map _;refine⟨_,rfl,.ref a,c.length,rfl,.inr ⟨_,SqT.of hA,lC.symm⟩,?_⟩;refine⟨_,rfl,(c.length:Int),rfl,(by omega:-(2^62)<=(c.length:Int)),(by omega:(c.length:Int)<2^62),?_⟩;rw[Int.toNat_natCast];refine pW (n:=c.length) (by omega) rfl (fun k=>Rm.tk b (0-Pm.co c (c.length-1-k))) ?_ ?_
  ·intro H2 k g2 hk kk hkk;have e1:((c.length:Int)-1-(0+(k:Int))).toNat=c.length-1-k:=by omega
   refine⟨_,rfl,_,rfl,_,rfl,_,_,rfl,rfl,_,rfl,_,_,rfl,rfl,_,_,.inr (SqT.of (g2 _ _ hA)),cA (ns:=c) (by omega:(0:Int)<=(c.length:Int)-1-(0+(k:Int))) (by omega),_,_,rfl,rfl,?_⟩;refine⟨b,_,rfl,hb,?_⟩;rw[e1];exact hkk
  ·intro D hD;have g1:=Same.new hD (.lst ((Pm.ofF c.length fun k=>Rm.tk b (0-Pm.co c (c.length-1-k))).map V.int));refine⟨_,rfl,(by show 1<=sizeLine;decide),fun l2 hl2=>?_⟩;have g2:=Same.new hl2 (.lst [.int 1]);refine .inl ⟨_,_,g2 _ _ aD,aD,?_,fun l3 hl3=>?_⟩
   ·rw[List.length_map,Pm.aL];exact Nat.le_of_lt (bU (by show _+1<=1000;omega))
   refine⟨l3,_,rfl,.inl ⟨SqL.of aD,fun t ht=>?_⟩⟩;refine q t _ (g1.trans (g2.trans ((Same.new hl3 _).trans (Same.new ht _)))) ?_;rw[aD,Pm.aP,yg]
theorem EW(F:Fn K mg "rule_of" u5 ["by","poly"])(bf:gb P w K mg base):pQ P w K mg base:=by
 refine F.cal vR (fun vs H Q E h=>?_) (fun f cdv A outer s H vs Q E hr h=>?_)
 ·obtain⟨b,a,p,rfl,_⟩:=h;rfl
 ·obtain⟨b,a,p,rfl,hb,hA,z0,zA,q⟩:=h;refine⟨_,(ak (aJ (i:=2) vR.nd rfl (Or.inr rfl) (aK cB (aM (jx K) rfl B.cR boot_len (aO (pv 1) ao)) au))
   (aF (aR (cg (jU K) rfl B.gK boot_tuple (aG (dU (sc:=Bu) (N:=["k","by","length","poly"]) (ix:=[none,some 0,some 2,some 1]) cM rfl (cC rfl B.cQ (aO (pv 2) ao)) (fun cl C s₀ H₀ ex=>⟨(bB (i:=0) iz rfl (Or.inl rfl)),cN,(aq bf hr rfl (aO (pv 1) (nM (aK cB au (bh (xix K) (pv 3) (aK cB (aK cB (pv 2) au) (pv 0)) (fun _ _=>rfl))) ao)))⟩)) ao))))),?_⟩
  have lC:(p.map V.int).length=p.length:=List.length_map _;refine⟨_,rfl,.ref a,p.length,rfl,.inr ⟨_,SqT.of hA,lC.symm⟩,_,_,rfl,rfl,?_⟩;refine⟨_,rfl,(p.length:Int)-1,rfl,(by omega:-(2^62)<=(p.length:Int)-1),(by omega:(p.length:Int)-1<2^62),?_⟩;rw[show((p.length:Int)-1).toNat=p.length-1 by omega];refine pW (n:=p.length-1) (by omega) rfl (fun k=>Rm.tk b (0-Pm.co p (p.length-1-1-k))) ?_ ?_
  ·intro H2 k g2 hk kk hkk;have e1:((p.length:Int)-1-1-(0+(k:Int))).toNat=p.length-1-1-k:=by omega
   refine⟨_,rfl,_,rfl,_,rfl,_,_,rfl,rfl,_,rfl,_,_,rfl,rfl,_,_,.inr (SqT.of (g2 _ _ hA)),cA (ns:=p) (by omega:(0:Int)<=(p.length:Int)-1-1-(0+(k:Int))) (by omega),_,_,rfl,rfl,?_⟩;refine⟨b,_,rfl,hb,?_⟩;rw[e1];exact hkk
  ·intro D hD;refine⟨D,_,rfl,.inl ⟨SqL.of aD,fun t ht=>?_⟩⟩;exact q t _ ((Same.new hD _).trans (Same.new ht _)) aD
theorem Jo(F:Fn K mg "top_of" wX ["row","poly"])(bf:gb P w K mg base)(dw:mz P w K mg base):DC P w K mg base:=by
 refine F.cal jP (fun vs H Q E h=>?_) (fun f cdv A outer s H vs Q E hr h=>?_)
 ·obtain⟨v,r,a,rfl,_⟩:=h;rfl
 ·obtain⟨v,r,a,rfl,⟨a0,p,p2,rfl,hA,hR,hS⟩,ok,hP,q⟩:=h;refine⟨_,(ak (aJ (i:=2) jP.nd rfl (Or.inl rfl) (bh (xix K) (pv 0) au (fun _ _=>rfl)))
   (ak (aJ (i:=3) jP.nd rfl (Or.inr rfl) (bh (xix K) (pv 0) au (fun _ _=>rfl)))
   (ak (aJ (i:=4) jP.nd rfl (Or.inl rfl) (nq ao))
   (ak (mU PassesOwn.never rfl (cC rfl B.cQ (aG (aM (jx K) rfl B.cR boot_len (aO (pv 3) ao)) ao)) (bB (i:=5) jP.nd rfl (Or.inr rfl))
   (ak (rF (i:=6) (hN:=jP.nd) (hi':=rfl) (hx:=(Or.inl rfl)) (sc:=D9) (N:=["j","k","poly","starts"]) (ix:=[none,some 5,some 1,some 3]) cM rfl (pq rfl B.cQ (nM (aK (jK K) (pv 5) au) (aG (aM (jx K) rfl B.cR boot_len (aO (pv 1) ao)) ao))) (fun cl C s₀ H₀ ex=>⟨(bB (i:=0) iz rfl (Or.inl rfl)),cN,(aK v_mul (bh (xix K) (pv 2) (pv 0) (fun _ _=>rfl)) (bh (xix K) (pv 3) (aK cB (aK cB (pv 0) au) (pv 1)) (fun _ _=>rfl)))⟩))
   (aF (eU (uD K (pv 4) (aq bf hr rfl (aO (pv 2) (aG (aM (Vt K rfl) rfl B.Lh boot_sum (aO (pv 6) ao)) ao))))))))
   (aF (aR (aq dw hr rfl (aO (pv 4) ao)))))))),?_⟩
  have hl:=ok.len;have hs:=ok.short;have lS:(r.starts.map V.int).length=r.starts.length:=List.length_map _;have lP:((Pm.aP r.b r.rule).map V.int).length=r.rule.length+1:=by rw[List.length_map,Pm.bF]
  refine⟨_,rfl,_,_,.inr (SqT.of hA),rfl,?_⟩;refine⟨_,rfl,_,_,.inr (SqT.of hA),rfl,?_⟩;refine⟨Nat.zero_le _,fun l0 h0=>?_⟩;have g0:=Same.new h0 (.lst []);refine⟨_,rfl,.ref p2,r.starts.length,rfl,.inr ⟨_,SqT.of (g0 _ _ hS),lS.symm⟩,?_⟩;refine⟨(r.starts.length:Int),rfl,(by omega:-(2^62)<=(r.starts.length:Int)),(by omega:(r.starts.length:Int)<2^62),?_⟩;refine gY (lo:=0) (n:=(r.starts.length:Int).toNat) (fun i σ' H'=>∃o5 o6,σ'=[some (.ref a0),some (.ref a),some (.int r.b),some (.ref p2),some (.ref l0),o5,o6]/\Same H H'/\H' l0=some (.lst ((Pm.ofF i fun k=>Rm.tk r.b (Pm.tp (Pm.aP r.b r.rule) r.at k)).map V.int)))
   ⟨_,_,rfl,g0,aD⟩ ?_ ?_
  ·rintro i σ' H' hi ⟨o5,o6,rfl,g,hL⟩;have hi':i<r.starts.length:=by omega
   refine⟨_,rfl,_,rfl,.ref a,r.rule.length+1,rfl,.inr ⟨_,SqT.of (g _ _ hP),lP.symm⟩,?_⟩;refine⟨_,_,rfl,⟨by omega,by omega,by omega,by omega⟩,?_⟩;rw[show(((r.rule.length+1:Nat):Int)-(0+(i:Int)+1)).toNat=r.rule.length-i by omega];refine zp (lo:=0+(i:Int)+1) (n:=r.rule.length-i) (by omega) rfl (fun k=>Pm.co (Pm.aP r.b r.rule) (i+1+k)*r.at k) ?_ ?_
   ·intro H2 k g2 hk kk hkk;have e1:(0+(i:Int)+1+(k:Int)).toNat=i+1+k:=by omega
    have e2:(0+(i:Int)+1+(k:Int)-1-(0+(i:Int))).toNat=k:=by omega
    have lq:(Pm.aP r.b r.rule).length=r.rule.length+1:=Pm.bF ..;refine⟨_,rfl,_,rfl,_,_,.inr (SqT.of (g2 _ _ (g _ _ hP))),cA (ns:=Pm.aP r.b r.rule) (by omega:(0:Int)<=0+(i:Int)+1+(k:Int)) (by omega),?_⟩;refine⟨_,rfl,_,rfl,_,_,rfl,rfl,_,rfl,_,_,rfl,rfl,_,_,.inr (SqT.of (g2 _ _ (g _ _ hS))),cA (ns:=r.starts) (by omega:(0:Int)<=0+(i:Int)+1+(k:Int)-1-(0+(i:Int))) (by omega),?_⟩;refine⟨vd (Rm.Bd.getD ok.ux _) (Rm.Bd.getD ok.iQ _) (by decide),?_⟩;rw[e1,e2];have e3:r.at k=r.starts.getD k 0:=Rm.oG (by omega);rw[e3]at hkk;exact hkk
   ·intro D hD;have g3:=Same.new hD (.lst ((Pm.ofF (r.rule.length-i) fun k=>Pm.co (Pm.aP r.b r.rule) (i+1+k)*r.at k).map V.int));have hL3:=g3 _ _ hL;have lL:((Pm.ofF i fun k=>Rm.tk r.b (Pm.tp (Pm.aP r.b r.rule) r.at k)).map V.int).length=i:=by rw[List.length_map,Pm.aL]
    refine⟨_,rfl,.inl ⟨rfl,_,SqL.of hL3⟩,_,rfl,_,rfl,D,_,rfl,SqL.of aD,r.b,_,rfl,ok.by0,?_⟩;refine⟨l0,_,_,rfl,rfl,hL3,?_,?_⟩
    ·rw[lL];exact bU (by omega)
    ·refine⟨_,_,rfl,(g.trans g3).upd h0 _,?_⟩;rw[aD,Pm.C6,yg];have e4:Pm.tp (Pm.aP r.b r.rule) r.at i=(Pm.ofF (r.rule.length-i) fun k=>Pm.co (Pm.aP r.b r.rule) (i+1+k)*r.at k).sum:=by
      unfold Pm.tp;rw[Pm.ofF,Pm.tO,Pm.bF,Nat.add_sub_cancel]
     rw[e4]
  ·rintro σ' H' ⟨o5,o6,rfl,g,hL⟩;refine⟨_,rfl,l0,_,rfl,SqL.of hL,fun t1 H3 g3 h3=>?_⟩;refine q t1 H3 (g.trans g3) ?_;rw[h3,Jv,hl,Int.toNat_natCast]
theorem rP(F:Fn K mg "shared_divisor" iK ["by","one","other"])(iw:lK P w K mg base)(jf:sJ P w K mg base):lJ P w K mg base:=by
 refine F.cal rK (fun vs H Q E h=>?_) (fun f cdv A outer s H vs Q E hr h=>?_)
 ·obtain⟨b,a,c,P,t,rfl,_⟩:=h;rfl
 ·obtain⟨b,a,c,P',t,rfl,hA,hC,zP,zt,hP,bP,bt,h⟩:=h;refine⟨_,(aF (aR (wY (aU (xeq K hr) (pv 0) au (bw _)) (aq iw hr rfl (aO (pv 1) (aO (pv 2) ao))) (aq jf hr rfl (aO (pv 0) (aO (pv 1) (aO (pv 2) ao))))))),?_⟩;refine⟨_,rfl,_,rfl,?_⟩;refine ni (fun c0=>?_) (fun c0=>?_)
  ·have c0':b=0:=dec_true c0;rcases h with⟨_,g,N,U,V',G,hV,hU,hUV,q⟩|⟨p,rfl,hp,_⟩
   ·exact⟨_,rfl,_,rfl,a,c,P',t,g,N,U,V',rfl,hA,hC,zP,zt,hP,bP,bt,G,hV,hU,hUV,q⟩
   ·have:=hp.1;omega
  ·have c0':¬b=0:=dec_false c0;rcases h with⟨z,_⟩|⟨p,rfl,hp,hpb,yP,yt,q⟩
   ·exact absurd z c0'
   ·exact⟨_,rfl,_,rfl,_,rfl,p,a,c,P',t,rfl,hp,hpb,hA,hC,zP,zt,yP,yt,fun _ z=>by have:=hP.pos;rw[z]at this;exact absurd this (by decide),q⟩
theorem AX(F:Fn K mg "least_of" qP ["row"])(eX:qj P w K mg base)(wF:DC P w K mg base)(fX:ql P w K mg base)(iG:lJ P w K mg base):wk P w K mg base:=by
 refine F.cal kW (fun vs H Q E h=>?_) (fun f cdv A outer s H vs Q E hr h=>?_)
 ·obtain⟨v,r,rfl,_⟩:=h;rfl
 ·obtain⟨v,r,rfl,⟨a0,p,p2,rfl,hA,hR,hS⟩,ok,hB,hT,q⟩:=h;refine⟨_,(ak (aJ (i:=1) kW.nd rfl (Or.inl rfl) (bh (xix K) (pv 0) au (fun _ _=>rfl)))
   (ak (aJ (i:=2) kW.nd rfl (Or.inl rfl) (aq eX hr rfl (aO (pv 1) (aG (bh (xix K) (pv 0) au (fun _ _=>rfl)) ao))))
   (ak (aJ (i:=3) kW.nd rfl (Or.inl rfl) (aq wF hr rfl (aO (pv 0) (aO (pv 2) ao))))
   (aF (aR (bh (xix K) (aq fX hr rfl (aO (pv 1) (aO (pv 2) (aG (aq iG hr rfl (aO (pv 1) (aO (pv 2) (aO (pv 3) ao)))) ao)))) au (fun _ _=>rfl))))))),?_⟩
  have hs:=ok.short;have hb1:=ok.by1;have hm:=Pm.eG r.b r.rule;have lq:(Pm.aP r.b r.rule).length=r.rule.length+1:=Pm.bF ..;refine⟨_,rfl,_,_,.inr (SqT.of hA),rfl,?_⟩;refine⟨_,rfl,_,rfl,_,_,.inr (SqT.of hA),rfl,r.b,p,r.rule,rfl,ok.by0,hR,by omega,fun tP H1 g1 hP=>?_⟩;refine⟨_,rfl,_,rfl,.ref a0,r,tP,rfl,⟨a0,p,p2,rfl,g1 _ _ hA,g1 _ _ hR,g1 _ _ hS⟩,ok,hP,fun tT H2 g2 hTp=>?_⟩;have hP2:=g2 _ _ hP;have lt:=JT r;refine⟨_,rfl,_,rfl,_,rfl,_,rfl,_,rfl,r.b,tP,tT,Pm.aP r.b r.rule,Jv r,rfl,hP2,hTp,by omega,by omega,hm,(fun x hx=>(ok.ux x hx).mono (by decide)),N6 ok,?_⟩;have nP:=qF r.b r.rule hB.one;by_cases h0:r.b=0
  ·obtain⟨d,ua,u,ac0,hur,hQ0,hua,hsz⟩:=hT h0;have hK:=ok.kp;rw[h0]at hK;rw[h0]at hm lq;obtain⟨g,L,N,hL,hLy,hKL,hall,hlen,hE,G,hV,hU⟩:=Pm.Pj hm hK hQ0 hua (u:=u) (e:=5) (U:=u+400) (fun k=>by have:=Pm.pU ok.by0 ok.by1 ac0 hur;rw[h0]at this;exact Pm.jD this k) (by rw[lq];omega) (by rw[lq];omega);have eT:Pm.co (Jv r)=Pm.tp (Pm.aP 0 r.rule) r.at:=funext fun k=>by rw[Ci,h0,Rm.aZ]
   refine .inl ⟨h0,g,N,_,_,by rw[h0,eT];exact G,hV,hU,by omega,fun tg H3 g3 hg=>?_⟩;have hgl:g.length<=r.rule.length+1:=by have:=hL.pos;omega
   have bg:∀x∈g,Rm.Bd 124000 x:=fun x hx=>by
    obtain⟨k,hk,e⟩:=List.mem_iff_getElem.mp hx;have:=hU k;rw[Pm.pJ hk,e]at this;exact this.mono (by omega)
   refine⟨r.b,tP,tg,Pm.aP r.b r.rule,g,rfl,ok.by0,by omega,g3 _ _ hP2,hg,by rw[h0];omega,by omega,G.mon,nP,(fun x hx=>(ok.ux x hx).mono (by decide)),bg,fun t x y o l H4 g4 ht hx hy D _ _ _=>?_⟩;refine⟨_,_,.inr (SqT.of ht),rfl,?_⟩;have D':Pm.Div r.b (Pm.aP r.b r.rule) g L []:=⟨by rw[h0];exact hLy,Pm.Py.nil _,G.mon.pos,fun k=>by rw[Pm.eO,Int.add_zero,h0,hE k]⟩;obtain⟨eo,_⟩:=D.uniq G.mon D';subst eo;exact q x o H4 (g1.trans (g2.trans (g3.trans g4))) hx ⟨hL,fun k=>by rw[h0];exact Rm.aZ _,by rw[h0];exact hKL,by rw[h0];exact hall⟩ (by have:=G.mon.pos;omega)
  ·obtain⟨P0,hP0,hb⟩:=hB.resolve_left h0;have hp:=EV hP0;have hr:=fR P0 hP0;have yP:Pm.Py (P0:Int) (Pm.aP r.b r.rule):=by rw[<-hb];exact Ml hm nP
   have yt:Pm.Py (P0:Int) (Jv r):=by rw[<-hb];exact Pm.Py.ofF ..
   refine .inr ⟨P0,hb,hp,by omega,yP,yt,fun tg g H3 g3 hg hG hgl=>?_⟩;have bg:∀x∈g,Rm.Bd 124000 x:=QL hr.1 (by omega) hG.py;refine⟨r.b,tP,tg,Pm.aP r.b r.rule,g,rfl,ok.by0,by omega,g3 _ _ hP2,hg,by omega,by omega,hG.mon,nP,(fun x hx=>(ok.ux x hx).mono (by decide)),bg,fun t x y o l H4 g4 ht hx hy D _ _ _=>?_⟩;refine⟨_,_,.inr (SqT.of ht),rfl,?_⟩;rw[hb]at D;rw[<-hb]at D;obtain⟨hl1,hl2⟩:=Ln hp ok hb hG (by rw[hb]at D ⊢;exact D);exact q x o H4 (g1.trans (g2.trans (g3.trans g4))) hx hl1 hl2
theorem Bl(F:Fn K mg "shortest" qK ["row"])(rH:wk P w K mg base)(fW:pQ P w K mg base):fL P w K mg base:=by
 refine F.cal oY (fun vs H Q E h=>?_) (fun f cdv A outer s H vs Q E hr h=>?_)
 ·obtain⟨v,r,rfl,_⟩:=h;rfl
 ·obtain⟨v,r,rfl,⟨a0,p,p2,rfl,hA,hR,hS⟩,ok,hB,hT,q⟩:=h;refine⟨_,(ak (aJ (i:=1) oY.nd rfl (Or.inl rfl) (aq rH hr rfl (aO (pv 0) ao)))
   (ak (aJ (i:=2) oY.nd rfl (Or.inl rfl) (aq fW hr rfl (aG (bh (xix K) (pv 0) au (fun _ _=>rfl)) (aO (pv 1) ao))))
   (aF (aR (mK (aG (bh (xix K) (pv 0) au (fun _ _=>rfl)) (aO (pv 2) (aG (cg (jU K) rfl B.gK boot_tuple (aG (qD (xsl K) (bh (xix K) (pv 0) au (fun _ _=>rfl)) u6 (vp (aM (jx K) rfl B.cR boot_len (aO (pv 2) ao)))) ao)) ao)))))))),?_⟩
  have hs:=ok.short;have hl:=ok.len;have lS:(r.starts.map V.int).length=r.starts.length:=List.length_map _;refine⟨_,rfl,.ref a0,r,rfl,⟨a0,p,p2,rfl,hA,hR,hS⟩,ok,hB,hT,fun tL L H1 g1 hL lst ll=>?_⟩;have hLp:=lst.mon.pos;refine⟨_,rfl,_,_,.inr (SqT.of (g1 _ _ hA)),rfl,_,rfl,r.b,tL,L,rfl,ok.by0,hL,hLp,by omega,fun tR H2 g2 hR2=>?_⟩;have lR:((Pm.cO r.b L).map V.int).length=L.length-1:=by rw[List.length_map,Pm.dR]
  have hA2:=(g1.trans g2) _ _ hA;have hS2:=(g1.trans g2) _ _ hS;refine⟨_,rfl,_,_,.inr (SqT.of hA2),rfl,_,rfl,_,rfl,_,_,.inr (SqT.of hA2),rfl,?_⟩;refine⟨_,rfl,.ref tR,L.length-1,rfl,.inr ⟨_,SqT.of hR2,lR.symm⟩,?_⟩;refine⟨_,rfl,?_⟩;by_cases hw:r.starts.length<=L.length-1
  ·refine .inr (.inr ⟨_,SqT.of hS2,?_,?_⟩)
   ·rw[HT.kI,HT.iW,lS];omega
   ·refine⟨p2,_,rfl,.inr ⟨SqT.of hS2,?_⟩⟩;refine⟨(by show 3<=sizeLine;decide),fun t ht=>?_⟩;have g3:=Same.new ht (.tup [.int r.b,.ref tR,.ref p2]);refine q (.ref t) L _ (g1.trans (g2.trans g3)) ⟨t,tR,p2,rfl,aD,g3 _ _ hR2,?_⟩ lst ll;show _=some (HO.tup ((r.starts.take (L.length-1)).map V.int));rw[List.take_of_length_le hw];exact g3 _ _ hS2
  ·refine .inr (.inl ⟨_,SqT.of hS2,?_,fun p3 hp3=>?_⟩)
   ·rw[HT.kI,HT.iW,lS];omega
   ·refine⟨p3,_,rfl,.inr ⟨SqT.of aD,?_⟩⟩;have g3:=Same.new hp3 (.tup (yE (r.starts.map V.int) none (some ((L.length-1:Nat):Int))));refine⟨(by show 3<=sizeLine;decide),fun t ht=>?_⟩;have g4:=Same.new ht (.tup [.int r.b,.ref tR,.ref p3]);refine q (.ref t) L _ (g1.trans (g2.trans (g3.trans g4))) ⟨t,tR,p3,rfl,aD,(g3.trans g4) _ _ hR2,?_⟩ lst ll;show _=some (HO.tup ((r.starts.take (L.length-1)).map V.int));rw[List.map_take,<-DF];exact g4 _ _ aD
theorem Ce(F:Fn K mg "_law_cell_at" rN ["_law_script","_law_k"]):rM P w K mg base:=by
 refine F.cal Ck (fun vs H Q E h=>?_) (fun f cdv A outer s H vs Q E hr h=>?_)
 ·obtain⟨a,ns,k,rfl,_⟩:=h;rfl
 ·obtain⟨a,ns,k,rfl,hS,h0,q⟩:=h;refine⟨_,(ak (eV (aU xG (pv 1) (aM (jx K) rfl B.cR boot_len (aO (pv 0) ao)) (bw _))
   (aF (aR (bh (xix K) (pv 0) (pv 1) (fun _ _=>rfl))))
   bQ)
   (aF (aR au))),?_⟩
  have hl:(ns.map V.int).length=ns.length:=List.length_map _;refine⟨_,rfl,_,rfl,.ref a,ns.length,rfl,.inl ⟨_,hS,hl.symm⟩,_,_,rfl,rfl,_,rfl,?_⟩;refine ni (fun c=>?_) (fun c=>?_)
  ·have c':k<(ns.length:Int):=dec_true c;refine⟨_,rfl,_,rfl,ns.map V.int,.int (ns.getD k.toNat 0),.inl hS,cA h0 c',?_⟩;have e:cellAt ns k=ns.getD k.toNat 0:=if_pos c';rw[e]at q;exact q
  ·have c':¬k<(ns.length:Int):=dec_false c;have e:cellAt ns k=0:=if_neg c';rw[e]at q;exact q
theorem Fp(F:Fn K mg "_law_mixed" wH ["_law_cell","_law_k"]):Dn P w K mg base:=by
 refine F.cal za (fun vs H Q E h=>?_) (fun f cdv A outer s H vs Q E hr h=>?_)
 ·obtain⟨c,k,rfl,_⟩:=h;rfl
 ·obtain⟨c,k,rfl,h0,h1,q⟩:=h;refine⟨_,(ak (aJ (i:=2) za.nd rfl (Or.inl rfl) (aK dz (aK v_mul (aK (jK K) (aK dz (pv 0) au) au) (aK (jK K) (aK v_mul (pv 1) (pv 1)) au)) au))
   (aF (aR (aK dz (aK v_mul (pv 2) (aK (jK K) (pv 2) (aK v_mul au (pv 1)))) au)))),?_⟩
  have b1:0<=c%2147483647:=dg _ (by decide);have b2:c%2147483647<2147483647:=cZ _ (by decide);refine⟨_,rfl,_,_,rfl,rfl,(by decide:(0:Int)<2147483647),?_⟩;refine⟨_,rfl,_,rfl,mulL (by omega) (by omega),?_⟩;refine⟨mulL (by show -(2^64)<c%2147483647+1;omega) (by show c%2147483647+1<2^64;omega),_,_,rfl,rfl,(by decide:(0:Int)<2147483629),?_⟩;have m0:0<=vP c k:=dg _ (by decide);have m1:vP c k<2147483629:=cZ _ (by decide);refine⟨_,rfl,_,rfl,_,rfl,mulL (by decide) (by decide),?_⟩;refine⟨mulL (by show -(2^64)<vP c k;omega) (by show vP c k<2^64;omega),_,_,rfl,rfl,(by decide:(0:Int)<2147483587),?_⟩;exact q
theorem G9(F:Fn K mg "_law_taken" xO ["_law_by_here","_law_number_here"]):xP P w K mg base:=by
 refine F.cal Je (fun vs H Q E h=>?_) (fun f cdv A outer s H vs Q E hr h=>?_)
 ·obtain⟨b,n,rfl,_⟩:=h;rfl
 ·obtain⟨b,n,rfl,h0,q⟩:=h;refine⟨_,(ak (eV (aU (xeq K hr) (pv 0) au (bw _))
   (aF (aR (pv 1)))
   bQ)
   (aF (aR (aK dz (pv 1) (pv 0))))),?_⟩
  refine⟨_,rfl,_,rfl,?_⟩;refine ni (fun c=>?_) (fun c=>?_)
  ·refine⟨_,rfl,?_⟩;have c':b=0:=dec_true c;have e:Rm.tk b n=n:=by rw[c',Rm.aZ]
   rw[e]at q;exact q
  ·have c':¬b=0:=dec_false c;refine⟨_,rfl,_,rfl,_,_,rfl,rfl,(by omega:(0:Int)<b),?_⟩;rw[Rm.fZ c']at q;exact q
theorem Es(F:Fn K mg "_law_number" uI ["_law_by_here","_law_cell","_law_sort"]):zZ P w K mg base:=by
 refine F.cal D7 (fun vs H Q E h=>?_) (fun f cdv A outer s H vs Q E hr h=>?_)
 ·obtain⟨b,c,s,rfl,_⟩:=h;rfl
 ·obtain⟨b,c,so,rfl,q⟩:=h;refine⟨_,(ak (eV (aU qH (pv 0) au (bw _))
   (aF (aR (aK dz (pv 1) (pv 0))))
   bQ)
   (ak (eV (aU (xeq K hr) (pv 2) au (bw _))
   (aF (aR (aK cB (aK dz (pv 1) au) au)))
   bQ)
   (ak (eV (aU (xeq K hr) (pv 2) au (bw _))
   (aF (aR (aK cB (aK dz (pv 1) au) au)))
   bQ)
   (aF (aR (aK (jK K) (aK cB (aK dz (aK v_mul (pv 1) au) (aK cB (aK v_mul au (aK Jz au au)) au)) (aK Jz au au)) au)))))),?_⟩
  refine⟨_,rfl,_,_,rfl,rfl,_,rfl,?_⟩;refine ni (fun cc=>?_) (fun cc=>?_)
  ·have c':0<b:=dec_true cc;refine⟨_,rfl,_,rfl,_,_,rfl,rfl,c',?_⟩;have e:nJ b c so=c%b:=if_pos c';rw[e]at q;exact q
  ·have c':¬b>0:=dec_false cc;refine⟨_,rfl,_,rfl,?_⟩;refine ni (fun c1=>?_) (fun c1=>?_)
   ·refine⟨_,rfl,_,_,rfl,rfl,(by decide:(0:Int)<7),_,_,rfl,rfl,?_⟩;have e:nJ b c so=c%7-3:=by rw[nJ,if_neg c',if_pos (dec_true c1)]
    rw[e]at q;exact q
   ·have n0:=dec_false c1;refine⟨_,rfl,_,rfl,?_⟩;refine ni (fun c2=>?_) (fun c2=>?_)
    ·refine⟨_,rfl,_,_,rfl,rfl,(by decide:(0:Int)<201),_,_,rfl,rfl,?_⟩;have e:nJ b c so=c%201-100:=by rw[nJ,if_neg c',if_neg n0,if_pos (dec_true c2)]
     rw[e]at q;exact q
    ·have e:nJ b c so=c*7919%(2*10^12-1)-10^12+1:=by rw[nJ,if_neg c',if_neg n0,if_neg (dec_false c2)]
     rw[e]at q;refine⟨_,rfl,mulR (by decide) (by decide),?_⟩;refine⟨_,_,rfl,rfl,⟨by decide,by decide,by decide⟩,mulL (by decide) (by decide),_,_,rfl,rfl,_,_,rfl,rfl,(by decide:(0:Int)<2*10^12-1),?_⟩;exact⟨_,_,rfl,rfl,⟨by decide,by decide,by decide⟩,_,_,rfl,rfl,q⟩
theorem Ly(F:Fn K mg "_law_gone" Aj ["_law_row_here","_law_count"])(kO:xP P w K mg base):IK P w K mg base:=by
 refine F.cal iY (fun vs H Q E h=>?_) (fun f cdv A outer s H vs Q E hr h=>?_)
 ·obtain⟨v,r,c,rfl,_⟩:=h;rfl
 ·obtain⟨v,r,c,rfl,⟨a,p,p2,rfl,hA,hR,hS⟩,ok,hc0,hc1,q⟩:=h;refine⟨_,(ak (C8 (pv 0) (Pg K (n:=3) rfl (j9 (bB (i:=2) iY.nd rfl (Or.inl rfl)) (j9 (bB (i:=3) iY.nd rfl (Or.inl rfl)) (j9 (bB (i:=4) iY.nd rfl (Or.inl rfl)) Cr)))))
   (ak (aJ (i:=5) iY.nd rfl (Or.inl rfl) (Jc (cg (xlist K) rfl B.vL boot_list (aG (qD (xsl K) (pv 4) u6 (vp (pv 1))) ao))))
   (ak (iV PassesOwn.never (aU xG (aM (jx K) rfl B.cR boot_len (aO (pv 5) ao)) (pv 1) (bw _))
   (ak (aJ (i:=6) iY.nd rfl (Or.inl rfl) au)
   (ak (mU PassesOwn.never rfl (IZ K rfl B.uX (aO (pv 3) ao)) (Pg K (n:=2) rfl (j9 (bB (i:=7) iY.nd rfl (Or.inl rfl)) (j9 (bB (i:=8) iY.nd rfl (Or.inl rfl)) Cr)))
   (aF (aJ (i:=6) iY.nd rfl (Or.inl rfl) (aK (jK K) (pv 6) (aK v_mul (pv 8) (bh (xix K) (pv 5) (aK cB (aK cB (aM (jx K) rfl B.cR boot_len (aO (pv 5) ao)) au) (pv 7)) (fun _ _=>rfl)))))))
   (aF (eU (uD K (pv 5) (aq kO hr rfl (aO (pv 2) (aO (pv 6) ao)))))))))
   (aF (aR (pv 5)))))),?_⟩
  have hl:=ok.len;have hl2:=ok.short;have lS:(r.starts.map V.int).length=r.starts.length:=List.length_map _;have lR:(r.rule.map V.int).length=r.rule.length:=List.length_map _;refine⟨_,rfl,a,_,rfl,SqT.of hA,rfl,_,_,rfl,_,_,rfl,_,_,rfl,rfl,?_⟩;have abh:yE (r.starts.map V.int) none (some c)=(r.row (min c.toNat r.starts.length)).map V.int:=by
   have e:r.row (min c.toNat r.starts.length)=r.starts.take (min c.toNat r.starts.length):=Rm.jZ (Nat.min_le_right _ _);rw[e];have e2:c=((c.toNat:Nat):Int):=by omega
   unfold yE;rw[e2,HT.kI,HT.iW,List.drop_zero,Nat.sub_zero,lS,List.map_take,Int.toNat_natCast]
  refine Bar.by (fun v H1=>∃l,v = .ref l/\Same H H1/\H l=none/\H1 l=some (.lst ((r.row (min c.toNat r.starts.length)).map V.int))) (fun kk hkk=>?_) ?_
  ·refine⟨_,rfl,_,rfl,_,rfl,?_⟩;by_cases hw:r.starts.length<=c.toNat
   ·refine .inr (.inr ⟨_,SqT.of hS,?_,?_⟩)
    ·have e2:c=((c.toNat:Nat):Int):=by omega
     rw[e2,HT.kI,HT.iW,lS];omega
    ·refine⟨p2,_,rfl,.inr (SqT.of hS),fun l hl1=>hkk _ _ ⟨l,rfl,Same.new hl1 _,hl1,?_⟩⟩;rw[aD,Nat.min_eq_right hw];have e:r.row r.starts.length=r.starts:=(Rm.jZ (Nat.le_refl _)).trans (List.take_length ..);rw[e]
   ·refine .inr (.inl ⟨_,SqT.of hS,?_,fun p3 hp3=>?_⟩)
    ·have e2:c=((c.toNat:Nat):Int):=by omega
     rw[e2,HT.kI,HT.iW,lS];omega
    ·refine⟨p3,_,rfl,.inr (SqT.of aD),fun l hl1=>?_⟩;have g3:=Same.new hp3 (.tup (yE (r.starts.map V.int) none (some c)));refine hkk _ _ ⟨l,rfl,g3.trans (Same.new hl1 _),g3.free hl1,?_⟩;rw[aD,abh]
  rintro v H1 ⟨l,rfl,g1,hl1,hr1⟩;refine⟨fun m σ' H'=>∃(n:Nat) (o6 o7 o8:Option V),m=c.toNat-n/\min c.toNat r.starts.length<=n/\n<=c.toNat/\σ'=[some (.ref a),some (.int c),some (.int r.b),some (.ref p),some (.ref p2),some (.ref l),o6,o7,o8]/\Same H H'/\H' l=some (.lst ((r.row n).map V.int)),
   ⟨_,min c.toNat r.starts.length,_,_,_,rfl,Nat.le_refl _,Nat.min_le_left _ _,rfl,g1,hr1⟩,?_⟩
  rintro m σ' H' ⟨n,o6,o7,o8,rfl,h1,h2,rfl,g,hL⟩;have lL:((r.row n).map V.int).length=n:=by rw[List.length_map,Rw.iD]
  have lN:(r.row n).length=n:=Rw.iD ..;refine⟨_,rfl,.ref l,n,rfl,.inl ⟨_,SqL.of hL,lL.symm⟩,_,rfl,_,_,rfl,rfl,_,rfl,?_⟩;refine ni (fun cc=>?_) (fun cc=>?_)
  ·have hn:n<c.toNat:=by have:=dec_true cc;omega
   refine⟨_,fun _ _ z=>z,?_⟩;refine⟨_,rfl,true,p,_,rfl,SqT.of (g _ _ hR),?_⟩;refine Ky (t:=true) (a:=p) (xs:=r.rule.map V.int) (fun i σ' H2=>∃(o7 o8:Option V),σ'=[some (.ref a),some (.int c),some (.int r.b),some (.ref p),some (.ref p2),some (.ref l),some (.int (Rm.S r.rule (fun i=>(r.row n).getD i 0) n i)),o7,o8]/\Same H' H2) ⟨_,_,rfl,Same.refl _⟩ (fun i σ' H2 ⟨_,_,_,z⟩=>SqT.of (z _ _ (g _ _ hR))) ?_ ?_
   ·rintro i x σ' H2 pt hx ⟨o7,o8,rfl,g2⟩ hpt;obtain⟨rfl,hi⟩:=oF hx;have g3:=Same.new hpt (.tup [.int (i:Int),.int (Pm.co r.rule i)]);have hL3:=g3 _ _ (g2 _ _ hL);refine⟨pt,_,rfl,SqT.of aD,rfl,_,_,rfl,_,_,rfl,rfl,?_⟩;refine⟨_,rfl,_,rfl,_,rfl,_,rfl,.ref l,n,rfl,.inl ⟨_,SqL.of hL3,lL.symm⟩,_,_,rfl,rfl,_,rfl,_,_,rfl,rfl,_,_,.inl (SqL.of hL3),cA (ns:=r.row n) (by omega:(0:Int)<=(n:Int)-1-(i:Int)) (by omega),?_⟩;refine⟨vd (Pm.jD ok.lV i) (Rm.Bd.getD (ok.U3 n (by omega)) _) (by decide),?_⟩;refine⟨some (.int (i:Int)),some (.int (Pm.co r.rule i)),?_,g2.trans g3⟩;rw[show((n:Int)-1-(i:Int)).toNat=n-1-i by omega];rfl
   rintro σ' H2 ⟨o7,o8,rfl,g2⟩;rw[lR];have hL2:=g2 _ _ hL;refine⟨_,rfl,.inl ⟨rfl,_,SqL.of hL2⟩,_,rfl,_,rfl,r.b,_,rfl,ok.by0,?_⟩;refine⟨l,_,_,rfl,rfl,hL2,?_,?_⟩
   ·rw[lL];exact bU (by omega)
   ·refine⟨c.toNat-(n+1),by omega,n+1,_,_,_,rfl,by omega,by omega,rfl,(g.trans g2).upd hl1 _,?_⟩;rw[aD];have e:r.row (n+1)=r.row n++[Rm.tk r.b (Rm.S r.rule (fun i=>(r.row n).getD i 0) n r.rule.length)]:=by
     show _++[if n<r.starts.length then r.starts.getD n 0 else _]=_;rw[if_neg (by omega)];rfl
    rw[e,List.map_append];rfl
  ·have hn:n=c.toNat:=by have:=dec_false cc;omega
   subst hn;exact⟨_,rfl,q l H' g hl1 hL⟩
theorem Qf(F:Fn K mg "_law_row" IB ["_law_script","_law_start","_law_by_here","_law_most"])(fK:rM P w K mg base)(qw:zZ P w K mg base)(qp:Dn P w K mg base):Mt P w K mg base:=by
 refine F.cal mZ (fun vs H Q E h=>?_) (fun f cdv A outer s H vs Q E hr h=>?_)
 ·obtain⟨a,ns,st,b,most,rfl,_⟩:=h;rfl
 ·obtain⟨a,ns,st,b,most,rfl,hS,s0,hB,hm,q⟩:=h;refine⟨_,(ak (aJ (i:=4) mZ.nd rfl (Or.inr rfl) (aq fK hr rfl (aO (pv 0) (aO (pv 1) ao))))
   (ak (aJ (i:=5) mZ.nd rfl (Or.inl rfl) (aK dz (pv 4) (aK (jK K) (pv 3) au)))
   (ak (aJ (i:=6) mZ.nd rfl (Or.inr rfl) (bh (xix K) (nq (lY au (lY au (lY au (lY au (lY au (lY au ao))))))) (aK dz (aK j6 (pv 4) au) au) (fun _ _=>rfl)))
   (ak (rF (i:=7) (hN:=mZ.nd) (hi':=rfl) (hx:=(Or.inl rfl)) (sc:=JH) (N:=["_law_k","_law_by_here","_law_script","_law_sort","_law_start"]) (ix:=[none,some 2,some 0,some 6,some 1]) cM rfl (cC rfl B.cQ (aO (pv 5) ao)) (fun cl C s₀ H₀ ex=>⟨(bB (i:=0) iz rfl (Or.inl rfl)),cN,(aq qw hr rfl (aO (pv 1) (aG (aq qp hr rfl (aG (aq fK hr rfl (aO (pv 2) (nM (aK (jK K) (pv 4) au) ao))) (aO (pv 0) ao))) (aO (pv 3) ao))))⟩))
   (ak (rF (i:=8) (hN:=mZ.nd) (hi':=rfl) (hx:=(Or.inl rfl)) (sc:=K6) (N:=["_law_k","_law_by_here","_law_script","_law_sort","_law_start"]) (ix:=[none,some 2,some 0,some 6,some 1]) cM rfl (cC rfl B.cQ (aO (pv 5) ao)) (fun cl C s₀ H₀ ex=>⟨(bB (i:=0) iz rfl (Or.inl rfl)),cN,(aq qw hr rfl (aO (pv 1) (aG (aq qp hr rfl (aG (aq fK hr rfl (aO (pv 2) (nM (aK (jK K) (pv 4) au) ao))) (nM (aK (jK K) au (pv 0)) ao))) (aO (pv 3) ao))))⟩))
   (ak (DM (eV (aU (xeq K hr) (aK dz (aK j6 (pv 4) au) au) au (bw _))
   (aF (rF (i:=7) (hN:=mZ.nd) (hi':=rfl) (hx:=(Or.inl rfl)) (sc:=Kg) (N:=["_law_k","_law_number_here","_law_cell"]) (ix:=[none,none,some 4]) cM rfl (IZ K rfl B.uX (aO (pv 7) ao)) (fun cl C s₀ H₀ ex=>⟨(Pg K (n:=2) rfl (j9 (bB (i:=0) iz rfl (Or.inl rfl)) (j9 (bB (i:=1) iz rfl (Or.inl rfl)) Cr))),cN,(aK v_mul (pv 1) (aK dz (aq qp hr rfl (aO (pv 2) (nM (aK (jK K) au (pv 0)) ao))) au))⟩)))
   bQ))
   (ak (DM (eV (PW.pt (Mi (aU (xeq K hr) (aK dz (aK j6 (pv 4) au) au) au (bw _)) (Ju (aU qH (pv 5) au (bw _)))))
   (aF (aJ (i:=8) mZ.nd rfl (Or.inl rfl) (aK (jK K) (aK v_mul (nq (lY au ao)) (aK cB (pv 5) au)) (nq (aG (bh (xix K) (pv 8) (Lz Dp au) (fun _ _=>rfl)) ao)))))
   bQ))
   (aF (aR (mK (aO (pv 2) (aG (cg (jU K) rfl B.gK boot_tuple (aO (pv 7) ao)) (aG (cg (jU K) rfl B.gK boot_tuple (aO (pv 8) ao)) ao))))))))))))),?_⟩
  obtain⟨hb0,hb1,_⟩:=hB.range;refine⟨_,rfl,_,rfl,a,ns,st,rfl,hS,s0,?_⟩;generalize cellAt ns st=c;refine⟨_,rfl,_,rfl,_,_,rfl,rfl,(by show 0<(most:Int)+1;omega),?_⟩;obtain⟨N,eN,hN⟩:∃N:Nat,c%((most:Int)+1)=(N:Int)/\N<=most:=by
   have h0:=dg c (show 0<(most:Int)+1 by omega);have h1:=cZ c (show 0<(most:Int)+1 by omega);exact⟨_,(Int.toNat_of_nonneg h0).symm,by omega⟩
  dsimp only;rw[eN];refine⟨(by show 6<=sizeLine;decide),fun p6 hp6=>?_⟩;have g1:=Same.new hp6 (.lst (IV.map V.int));have e0:=dg (c/13) (show(0:Int)<6 by decide);have e1:=cZ (c/13) (show(0:Int)<6 by decide);refine⟨_,rfl,_,_,rfl,rfl,⟨by decide,by decide⟩,_,_,rfl,rfl,(by decide:(0:Int)<6),_,_,.inl (SqL.of aD),cA (ns:=IV) e0 e1,?_⟩;generalize IV.getD (c/13%6).toNat 0=so;have eH:(upd H p6 (.lst [.int 0,.int 0,.int 0,.int 1,.int 0,.int 0]))=upd H p6 (.lst (IV.map V.int)):=rfl;rw[eH];generalize upd H p6 (.lst (IV.map V.int))=H1 at g1;have hS1:=g1.seq hS;refine⟨_,rfl,(N:Int),rfl,(by omega:-(2^62)<=(N:Int)),(by omega:(N:Int)<2^62),?_⟩;rw[Int.toNat_natCast];refine pW (n:=N) (by omega) rfl (fun k=>nJ b (iM (cellAt ns (st+1)) (0+(k:Int))) so) ?_ ?_
  ·intro H2 k g2 hk kk hkk;exact⟨_,rfl,_,rfl,_,rfl,a,ns,st+1,rfl,g2.seq hS1,by omega,_,rfl,cellAt ns (st+1),0+(k:Int),rfl,by omega,by omega,_,rfl,b,_,so,rfl,hkk⟩
  intro D1 hD1;generalize hr0:(Pm.ofF N fun k=>nJ b (iM (cellAt ns (st+1)) (0+(k:Int))) so)=rule;have lr:rule.length=N:=by rw[<-hr0];exact Pm.aL ..
  have nr:∀x∈rule,gk b x/\Rm.Bd 45 x:=fun x hx=>by
   rw[<-hr0]at hx;obtain⟨j,_,rfl⟩:=Pm.dj hx;exact⟨zY hB _ _,C5 hb1 _ _⟩
  clear hr0;have g2:=Same.new hD1 (.lst (rule.map V.int));have h1:(upd H1 D1 (.lst (rule.map V.int))) D1=some (.lst (rule.map V.int)):=aD;generalize upd H1 D1 (.lst (rule.map V.int))=H2 at g2 h1;have hS2:=g2.seq hS1;refine⟨_,rfl,(N:Int),rfl,(by omega:-(2^62)<=(N:Int)),(by omega:(N:Int)<2^62),?_⟩;rw[Int.toNat_natCast];refine pW (n:=N) (by omega) rfl (fun k=>nJ b (iM (cellAt ns (st+2)) (20+(0+(k:Int)))) so) ?_ ?_
  ·intro H3 k g3 hk kk hkk;exact⟨_,rfl,_,rfl,_,rfl,a,ns,st+2,rfl,g3.seq hS2,by omega,_,rfl,cellAt ns (st+2),20+(0+(k:Int)),rfl,by omega,by omega,_,rfl,b,_,so,rfl,hkk⟩
  intro D2 hD2;generalize hs0:(Pm.ofF N fun k=>nJ b (iM (cellAt ns (st+2)) (20+(0+(k:Int)))) so)=starts;have ls:starts.length=N:=by rw[<-hs0];exact Pm.aL ..
  have nst:∀x∈starts,gk b x/\Rm.Bd 45 x:=fun x hx=>by
   rw[<-hs0]at hx;obtain⟨j,_,rfl⟩:=Pm.dj hx;exact⟨zY hB _ _,C5 hb1 _ _⟩
  clear hs0;have g3:=Same.new hD2 (.lst (starts.map V.int));have h2:(upd H2 D2 (.lst (starts.map V.int))) D2=some (.lst (starts.map V.int)):=aD;have h1':=g3 _ _ h1;generalize upd H2 D2 (.lst (starts.map V.int))=H3 at g3 h2 h1';have gA:=g1.trans (g2.trans g3);refine NQ.by (fun σ' H'=>∃(l1:Addr) (rule:List Int),σ'=[some (.ref a),some (.int st),some (.int b),some (.int most),some (.int c),some (.int N),some (.int so),some (.ref l1),some (.ref D2)]/\Same H3 H'/\H' l1=some (.lst (rule.map V.int))/\rule.length=N/\∀x∈rule,gk b x/\Rm.Bd 45 x) (fun NN hNN=>?_) ?_
  ·refine⟨_,rfl,_,_,rfl,rfl,⟨by decide,by decide⟩,_,_,rfl,rfl,(by decide:(0:Int)<3),_,rfl,?_⟩;refine ni (fun _=>?_) (fun _=>hNN _ _ ⟨D1,rule,rfl,Same.refl _,h1',lr,nr⟩);refine⟨_,rfl,false,D1,_,rfl,SqL.of h1',?_⟩;refine G5 (t:=false) (SqL.of h1') (by rw[List.length_map,lr];exact Nat.le_of_lt (bU (by omega))) rfl (fun k x=>match x with | .int n=> .int (n*(iM c (40+(k:Int))%2))|_=> .non) ?_ ?_
   ·intro H4 k x g4 hxk kk hkk;obtain⟨rfl,hk⟩:=oF hxk;have m0:=dg (iM c (40+(k:Int))) (show(0:Int)<2 by decide);have m1:=cZ (iM c (40+(k:Int))) (show(0:Int)<2 by decide);exact⟨_,rfl,_,rfl,_,rfl,c,40+(k:Int),rfl,by omega,by omega,_,_,rfl,rfl,(by decide:(0:Int)<2),mulR (by show -(2^64)<iM c (40+(k:Int))%2;omega) (by show iM c (40+(k:Int))%2<2^64;omega),hkk _ (Same.refl _)⟩
   ·intro D3 H4 hD3 g4 hD4;have ed:H4 D3=some (.lst ((Pm.ofF rule.length fun k=>Pm.co rule k*(iM c (40+(k:Int))%2)).map V.int)):=hD4.trans (congrArg (fun z=>some (HO.lst z)) (DV rule fun k n=>n*(iM c (40+(k:Int))%2)));refine hNN _ _ ⟨D3,_,rfl,g4,ed,by rw[Pm.aL];exact lr,fun x hx=>?_⟩;obtain⟨k,hk,rfl⟩:=Pm.dj hx;have nk:=nr _ (Pm.zQ hk);have m0:=dg (iM c (40+(k:Int))) (show(0:Int)<2 by decide);have m1:=cZ (iM c (40+(k:Int))) (show(0:Int)<2 by decide);rcases(show iM c (40+(k:Int))%2=0∨iM c (40+(k:Int))%2=1 by omega)with z|z
    ·rw[z,Int.mul_zero];exact⟨gk.zero hB,Rm.Bd.zero _⟩
    ·rw[z,Int.mul_one];exact nk
  clear nr lr h1 h1';rintro σ' H4 ⟨l1,rule,rfl,g4,h1,lr,nr⟩;have h2':=g4 _ _ h2;refine NQ.by (fun σ' H'=>∃(l2:Addr) (starts:List Int),σ'=[some (.ref a),some (.int st),some (.int b),some (.int most),some (.int c),some (.int N),some (.int so),some (.ref l1),some (.ref l2)]/\Same H4 H'/\H' l2=some (.lst (starts.map V.int))/\starts.length=N/\∀x∈starts,gk b x/\Rm.Bd 45 x) (fun NN hNN=>?_) ?_
  ·refine⟨_,rfl,_,_,rfl,rfl,⟨by decide,by decide⟩,_,_,rfl,rfl,(by decide:(0:Int)<3),_,rfl,?_⟩;refine ni (fun _=>?_) (fun _=>tW (hNN _ _ ⟨D2,starts,rfl,Same.refl _,h2',ls,nst⟩));refine⟨_,rfl,_,_,rfl,rfl,_,rfl,?_⟩;refine ni (fun cc=>?_) (fun _=>hNN _ _ ⟨D2,starts,rfl,Same.refl _,h2',ls,nst⟩);have hN0:0<N:=by have:=dec_true cc;omega
   refine⟨(by show 1<=sizeLine;decide),fun m1 hm1=>?_⟩;have k1:=Same.new hm1 (.lst [.int 0]);have e1:(upd H4 m1 (.lst [.int 0])) m1=some (.lst [.int 0]):=aD;generalize upd H4 m1 (.lst [.int 0])=G1 at k1 e1;refine⟨_,rfl,_,_,rfl,rfl,_,e1,by omega,by omega,?_,fun m2 hm2=>?_⟩
   ·show 1*((N:Int)-1).toNat<=sizeLine;rw[Nat.one_mul];exact Nat.le_of_lt (bU (by omega))
   rw[show((N:Int)-1).toNat=N-1 by omega,iU];have k2:=Same.new hm2 (.lst ((Pm.ofF (N-1) fun _=>0).map V.int));have e2:(upd G1 m2 (.lst ((Pm.ofF (N-1) fun _=>0).map V.int))) m2=some (.lst ((Pm.ofF (N-1) fun _=>0).map V.int)):=aD;generalize upd G1 m2 (.lst ((Pm.ofF (N-1) fun _=>0).map V.int))=G2 at k2 e2;have h2G:=k2 _ _ (k1 _ _ h2');refine⟨_,rfl,_,rfl,_,_,.inl (SqL.of h2G),KN (ns:=starts) (N-1) (by omega) (by omega),(by show 1<=sizeLine;decide),fun m3 hm3=>?_⟩;have k3:=Same.new hm3 (.lst [.int (starts.getD (N-1) 0)]);have e3:(upd G2 m3 (.lst [.int (starts.getD (N-1) 0)])) m3=some (.lst [.int (starts.getD (N-1) 0)]):=aD;have e2':=k3 _ _ e2;generalize upd G2 m3 (.lst [.int (starts.getD (N-1) 0)])=G3 at k3 e3 e2';refine .inl ⟨_,_,e2',e3,?_,fun m4 hm4=>?_⟩
   ·rw[List.length_map,Pm.aL];exact Nat.le_of_lt (bU (by show _+1<=1000;omega))
   have k4:=Same.new hm4 (.lst ((Pm.ofF (N-1) fun _=>0).map V.int++[.int (starts.getD (N-1) 0)]));refine hNN _ _ ⟨m4,(Pm.ofF (N-1) fun _=>0)++[Pm.co starts (N-1)],rfl,k1.trans (k2.trans (k3.trans k4)),by rw[aD,yg];rfl,by rw[List.length_append,Pm.aL];show N-1+1=N;omega,fun x hx=>?_⟩;rcases List.mem_append.mp hx with hx|hx
   ·obtain⟨_,_,rfl⟩:=Pm.dj hx;exact⟨gk.zero hB,Rm.Bd.zero _⟩
   ·rw[List.mem_singleton.mp hx];exact nst _ (Pm.zQ (by omega))
  clear nst ls h2 h2';rintro σ' H5 ⟨l2,starts,rfl,g5,h2,ls,nst⟩;refine⟨_,rfl,_,rfl,l1,_,rfl,.inl ⟨SqL.of (g5 _ _ h1),fun t1 ht1=>?_⟩⟩;have gt1:=Same.new ht1 (.tup (rule.map V.int));refine⟨_,rfl,l2,_,rfl,.inl ⟨SqL.of (gt1 _ _ h2),fun t2 ht2=>?_⟩⟩;have gt2:=Same.new ht2 (.tup (starts.map V.int));refine⟨(by show 3<=sizeLine;decide),fun t3 ht3=>?_⟩;have gt3:=Same.new ht3 (.tup [.int b,.ref t1,.ref t2]);exact q (.ref t3) ⟨b,rule,starts⟩ _ (gA.trans (g4.trans (g5.trans (gt1.trans (gt2.trans gt3))))) ⟨t3,t1,t2,rfl,aD,gt3 _ _ (gt2 _ _ aD),gt3 _ _ aD⟩ ⟨rfl,lr.trans ls.symm,by show rule.length<=most;omega,fun x hx=>(nr x hx).1,fun x hx=>(nst x hx).1,fun x hx=>(nr x hx).2,fun x hx=>(nst x hx).2⟩
theorem Af(F:Fn K mg "shared_by" oN ["one","other"]):nR P w K mg base:=by
 refine F.cal yO (fun vs H Q E h=>?_) (fun f cdv A outer s H vs Q E hr h=>?_)
 ·obtain⟨v1,v2,r1,r2,rfl,_⟩:=h;rfl
 ·obtain⟨v1,v2,r1,r2,rfl,⟨a1,p1,q1,rfl,hA1,_,_⟩,⟨a2,p2,q2,rfl,hA2,_,_⟩,e,q⟩:=h;refine⟨_,(ak (eV (aU (xne K hr) (bh (xix K) (pv 0) au (fun _ _=>rfl)) (bh (xix K) (pv 1) au (fun _ _=>rfl)) (bw _))
   (aF nH)
   bQ)
   (aF (aR (bh (xix K) (pv 0) au (fun _ _=>rfl))))),?_⟩
  refine⟨_,rfl,_,_,.inr (SqT.of hA1),rfl,_,rfl,_,_,.inr (SqT.of hA2),rfl,_,rfl,?_⟩;rw[decide_eq_true e];refine tW ?_;exact⟨_,rfl,_,_,.inr (SqT.of hA1),rfl,q⟩
theorem vH(F:Fn K mg "refuse_long" lF ["length"]):fV P w K mg base aH:=by
 refine F.Lx vA (fun vs H Q E h=>?_) (fun f cdv A outer s H vs Q E hr h=>?_)
 ·obtain⟨n,rfl,_⟩:=h;rfl
 ·obtain⟨n,rfl,q1,q2⟩:=h;refine⟨_,(aF (eV (aU qH (pv 0) (pF rfl B.mO) (bw _))
   (aF (Cw M.Ir rfl (lY Nh ao)))
   bQ)),?_⟩
  refine⟨_,rfl,_,_,rfl,rfl,_,rfl,?_⟩;exact ni (fun c=>⟨(by show 1<=sizeLine;decide),q2 (dec_true c)⟩) (fun c=>q1 (by have:=dec_false c;omega))
theorem Ao(F:Fn K mg "told_row" qN ["by","rule","starts"])(bf:gb P w K mg base)(aX:fL P w K mg base):jg P w K mg base:=by
 refine F.cal oV (fun vs H Q E h=>?_) (fun f cdv A outer s H vs Q E hr h=>?_)
 ·obtain⟨b,a,e,ns,ms,F,n,z,c,d,rfl,_⟩:=h;rfl
 ·obtain⟨b,a,e,ns,ms,F0,n,z,c,d,rfl,hA,hC,hD0,q⟩:=h;have hb0:=hD0.hB.lo;have zn:ns.length<=1000:=by have:=hD0.ln;have:=hD0.n12;omega
  have zm:ms.length<=1000:=by have:=hD0.lm;omega
  refine⟨_,(ak (aJ (i:=3) oV.nd rfl (Or.inl rfl) (cg (jU K) rfl B.gK boot_tuple (aG (dU (sc:=yZ) (N:=["number","by"]) (ix:=[none,some 0]) cM rfl (JB K (pv 1)) (fun cl C s₀ H₀ ex=>⟨(bB (i:=0) iz rfl (Or.inl rfl)),cN,(aq bf hr rfl (aO (pv 1) (aO (pv 0) ao)))⟩)) ao)))
   (ak (aJ (i:=4) oV.nd rfl (Or.inl rfl) (cg (jU K) rfl B.gK boot_tuple (aG (dU (sc:=yX) (N:=["number","by"]) (ix:=[none,some 0]) cM rfl (JB K (pv 2)) (fun cl C s₀ H₀ ex=>⟨(bB (i:=0) iz rfl (Or.inl rfl)),cN,(aq bf hr rfl (aO (pv 1) (aO (pv 0) ao)))⟩)) ao)))
   (aF (aR (aq aX hr rfl (Vv (mK (aO (pv 0) (aO (pv 3) (aO (pv 4) ao)))) ao)))))),?_⟩
  refine⟨_,rfl,zx hA zn rfl (Rm.tk b) ?_ ?_⟩
  ·intro H2 x g2 hx kk hkk;exact⟨_,rfl,_,rfl,b,x,rfl,hb0,hkk⟩
  intro D hD;have gD:=Same.new hD (.lst ((ns.map (Rm.tk b)).map V.int));refine⟨D,_,rfl,.inl ⟨SqL.of aD,fun t1 ht1=>?_⟩⟩;have g1:=Same.new ht1 (.tup ((ns.map (Rm.tk b)).map V.int));have h1:(upd (upd H D (.lst ((ns.map (Rm.tk b)).map V.int))) t1 (.tup ((ns.map (Rm.tk b)).map V.int))) t1=some (.tup ((ns.map (Rm.tk b)).map V.int)):=aD;have gD1:=gD.trans g1;generalize upd (upd H D (.lst ((ns.map (Rm.tk b)).map V.int))) t1 (.tup ((ns.map (Rm.tk b)).map V.int))=H1 at gD1 h1;refine⟨_,rfl,zx (hC.same gD1) zm rfl (Rm.tk b) ?_ ?_⟩
  ·intro H2 x g2 hx kk hkk;exact⟨_,rfl,_,rfl,b,x,rfl,hb0,hkk⟩
  intro D2 hD2;have gD2:=Same.new hD2 (.lst ((ms.map (Rm.tk b)).map V.int));refine⟨D2,_,rfl,.inl ⟨SqL.of aD,fun t2 ht2=>?_⟩⟩;have g2:=Same.new ht2 (.tup ((ms.map (Rm.tk b)).map V.int));have h2:(upd (upd H1 D2 (.lst ((ms.map (Rm.tk b)).map V.int))) t2 (.tup ((ms.map (Rm.tk b)).map V.int))) t2=some (.tup ((ms.map (Rm.tk b)).map V.int)):=aD;have aap:=gD2.trans g2;have h12:=aap _ _ h1;generalize upd (upd H1 D2 (.lst ((ms.map (Rm.tk b)).map V.int))) t2 (.tup ((ms.map (Rm.tk b)).map V.int))=H2 at aap h2 h12;refine⟨_,rfl,_,rfl,_,rfl,(by show 3<=sizeLine;decide),fun t3 ht3=>?_⟩;have g3:=Same.new ht3 (.tup [.int b,.ref t1,.ref t2]);refine⟨.ref t3,⟨b,ns.map (Rm.tk b),ms.map (Rm.tk b)⟩,rfl,⟨t3,t1,t2,rfl,aD,g3 _ _ h12,g3 _ _ h2⟩,hD0.ok,hD0.hB.p,hD0.tame,fun v' L H4 g4 hR lst ll=>?_⟩;have ll':L.length<=ns.length+1:=by have:(ns.map (Rm.tk b)).length=ns.length:=List.length_map _;rw[<-this];exact ll
  exact q v' _ L H4 (gD1.trans (aap.trans (g3.trans g4))) hR (hD0.tr lst ll') hD0.fb ll'
theorem yU(F:Fn K mg "sum_place" nY ["ours","theirs","n"]):n6 P w K mg base:=by
 refine F.cal yG (fun vs H Q E h=>?_) (fun f cdv A outer s H vs Q E hr h=>?_)
 ·obtain⟨l1,l2,m,a,c,n,rfl,_⟩:=h;rfl
 ·obtain⟨l1,l2,m,a,c,n,rfl,h1,h2,hn,hm,b1,b2,q⟩:=h;refine⟨_,(aF (aR (aK (jK K) (bh (xix K) (pv 0) (pv 2) (fun _ _=>rfl)) (bh (xix K) (pv 1) (pv 2) (fun _ _=>rfl))))),?_⟩;exact⟨_,rfl,_,rfl,_,_,.inl (SqL.of h1),vO hn,_,rfl,_,rfl,_,_,.inl (SqL.of h2),vO hn,q _ (Same.refl _)⟩
theorem tE(F:Fn K mg "product_place" jj ["ours","theirs","n"]):jq P w K mg base:=by
 refine F.cal tH (fun vs H Q E h=>?_) (fun f cdv A outer s H vs Q E hr h=>?_)
 ·obtain⟨l1,l2,m,a,c,n,rfl,_⟩:=h;rfl
 ·obtain⟨l1,l2,m,a,c,n,rfl,h1,h2,hn,hm,b1,b2,q⟩:=h;refine⟨_,(aF (aR (aK v_mul (bh (xix K) (pv 0) (pv 2) (fun _ _=>rfl)) (bh (xix K) (pv 1) (pv 2) (fun _ _=>rfl))))),?_⟩;exact⟨_,rfl,_,rfl,_,V.int (a n),.inl (SqL.of h1),vO hn,_,rfl,_,rfl,_,V.int (c n),.inl (SqL.of h2),vO hn,vd (b1 n (by omega)) (b2 n (by omega)) (by decide),q _ (Same.refl _)⟩
theorem uR(F:Fn K mg "rolled_place" jH ["ours","theirs","n"]):jC P w K mg base:=by
 refine F.cal uZ (fun vs H Q E h=>?_) (fun f cdv A outer s H vs Q E hr h=>?_)
 ·obtain⟨l1,l2,m,a,c,n,rfl,_⟩:=h;rfl
 ·obtain⟨l1,l2,m,a,c,n,rfl,h1,h2,hn,hm,b1,b2,q⟩:=h;refine⟨_,(aF (aR (aM (Vt K rfl) rfl B.Lh boot_sum (aG (dU (sc:=sY) (N:=["i","n","ours","theirs"]) (ix:=[none,some 2,some 0,some 1]) cM rfl (cC rfl B.cQ (nM (aK (jK K) (pv 2) au) ao)) (fun cl C s₀ H₀ ex=>⟨(bB (i:=0) iz rfl (Or.inl rfl)),cN,(aK v_mul (bh (xix K) (pv 2) (pv 0) (fun _ _=>rfl)) (bh (xix K) (pv 3) (aK cB (pv 1) (pv 0)) (fun _ _=>rfl)))⟩)) ao)))),?_⟩;refine⟨_,rfl,(n:Int)+1,rfl,(by omega:-(2^62)<=(n:Int)+1),(by omega:(n:Int)+1<2^62),?_⟩;rw[show((n:Int)+1).toNat=n+1 by omega];refine jh (n:=n+1) (by omega) rfl (fun i=>a i*c (n-i)) ?_ ?_
  ·intro H8 k g8 hk kk hkk;refine⟨_,rfl,_,rfl,_,V.int (a k),.inl (SqL.of (g8 _ _ h1)),(by rw[Int.zero_add];exact vO (by omega)),_,rfl,_,rfl,_,rfl,_,_,rfl,rfl,_,V.int (c (n-k)),.inl (SqL.of (g8 _ _ h2)),(by rw[Int.zero_add,show(n:Int)-(k:Int)=((n-k:Nat):Int)by omega];exact vO (by omega)),vd (b1 k (by omega)) (b2 (n-k) (by omega)) (by decide),hkk _ (Same.refl _)⟩
  ·intro D H8 hD g8 h8;refine⟨D,Pm.ofF (n+1) fun i=>a i*c (n-i),rfl,SqL.of h8,?_⟩;rw[Jj];exact q _ g8
theorem Cd(F:Fn K mg "pair_row" rQ ["one","other","rule","pair_place"])(aW:dN P w K mg base)(cF:jg P w K mg base)(gH:n6 P w K mg base)(dJ:jC P w K mg base)(dB:jq P w K mg base):rZ P w K mg base:=by
 refine F.cal kJ (fun vs H Q E h=>?_) (fun f cdv A outer s H vs Q E hr h=>?_)
 ·obtain⟨f0,v1,v2,t,g,b,r1,r2,ns,n,z,c,d,rfl,_⟩:=h;rfl
 ·obtain⟨f0,v1,v2,t,g,b,r1,r2,ns,n,z,c,d,rfl,hg,hR1,hR2,ok1,ok2,eb,w1',w3',hT,hD0,q⟩:=h;refine⟨_,(ak (aJ (i:=4) kJ.nd rfl (Or.inl rfl) (aM (jx K) rfl B.cR boot_len (aO (pv 2) ao)))
   (ak (aJ (i:=5) kJ.nd rfl (Or.inr rfl) (aq aW hr rfl (aO (pv 0) (aO (pv 4) ao))))
   (ak (aJ (i:=6) kJ.nd rfl (Or.inr rfl) (aq aW hr rfl (aO (pv 1) (aO (pv 4) ao))))
   (aF (aR (aq cF hr rfl (aG (bh (xix K) (pv 0) au (fun _ _=>rfl)) (aO (pv 2) (aG (dU (sc:=zH) (N:=["n","ours","pair_place","theirs"]) (ix:=[none,some 5,some 3,some 6]) cM rfl (cC rfl B.cQ (aO (pv 4) ao)) (fun cl C s₀ H₀ ex=>⟨(bB (i:=0) iz rfl (Or.inl rfl)),cN,(FZ gH dJ dB hr (pv 2) (aO (pv 1) (aO (pv 3) (aO (pv 0) ao))))⟩)) ao))))))))),?_⟩
  have n12:ns.length<=12:=Nat.le_trans hD0.ln hD0.n12;have lT:(ns.map V.int).length=ns.length:=List.length_map _;refine⟨_,rfl,.ref t,ns.length,rfl,hT.elim (fun h=> .inl ⟨_,SqL.of h,lT.symm⟩) (fun h=> .inr ⟨_,SqT.of h,lT.symm⟩),?_⟩;refine⟨_,rfl,_,rfl,v1,r1,(ns.length:Int),rfl,hR1,ok1,by omega,by omega,fun l1 H1 g1 f1 h1=>?_⟩;rw[Int.toNat_natCast,qO]at h1;refine⟨_,rfl,_,rfl,v2,r2,(ns.length:Int),rfl,hR2.same g1,ok2,by omega,by omega,fun l2 H2 g2 f2 h2=>?_⟩;rw[Int.toNat_natCast,qO]at h2;have g12:=g1.trans g2;obtain⟨a1,p1,q1,rfl,hA1,hP1,hS1⟩:=id (hR1.same g12);have h12:=g2 _ _ h1;refine⟨_,rfl,_,_,.inr (SqT.of hA1),rfl,_,rfl,_,rfl,(ns.length:Int),rfl,(by omega:-(2^62)<=(ns.length:Int)),(by omega:(ns.length:Int)<2^62),?_⟩;rw[Int.toNat_natCast];refine jh (n:=ns.length) (by omega) rfl (f0 r1.at r2.at) ?_ ?_
  ·intro H8 k g8 hk kk hkk;rcases hg with⟨hm,ef⟩|⟨hm,ef⟩|⟨hm,ef⟩
   ·subst ef;exact⟨_,rfl,.inl ⟨⟨g,hm,rfl⟩,_,rfl,_,rfl,_,rfl,l1,l2,ns.length,r1.at,r2.at,k,by rw[Int.zero_add],g8 _ _ h12,g8 _ _ h2,hk,n12,w1',w3',hkk⟩⟩
   ·subst ef;exact⟨_,rfl,.inr (.inl ⟨⟨g,hm,rfl⟩,_,rfl,_,rfl,_,rfl,l1,l2,ns.length,r1.at,r2.at,k,by rw[Int.zero_add],g8 _ _ h12,g8 _ _ h2,hk,n12,w1',w3',hkk⟩)⟩
   ·subst ef;exact⟨_,rfl,.inr (.inr ⟨⟨g,hm,rfl⟩,_,rfl,_,rfl,_,rfl,l1,l2,ns.length,r1.at,r2.at,k,by rw[Int.zero_add],g8 _ _ h12,g8 _ _ h2,hk,n12,w1',w3',hkk⟩)⟩
  ·intro D H8 hD g8 h8;subst eb;refine⟨r1.b,t,D,ns,Pm.ofF ns.length (f0 r1.at r2.at),_,n,z,c,d,rfl,(hT.same g12).same g8,.inl h8,hD0,fun v' r' L' H' g' hR' hT' hF' hl'=>?_⟩;exact q v' r' L' H' (g12.trans (g8.trans g')) hR' hT' hF' hl'
theorem yQ(F:Fn K mg "joint_row" n8 ["one","other","pair_place"])(gw:nR P w K mg base)(aX:fL P w K mg base)(bN:fV P w K mg base aH)(qU:BQ P w K mg base)(eX:qj P w K mg base)(je:rZ P w K mg base)(fW:pQ P w K mg base):ou P w K mg base aH:=by
 refine F.Lx ig (fun vs H Q E h=>?_) (fun f cdv A outer s H vs Q E hr h=>?_)
 ·obtain⟨f0,v1,v2,g,rfl,_⟩:=h;rfl
 ·obtain⟨f0,v1,v2,g,rfl,hg,b,r1,r2,n1,u1,c1,d1,n2,u2,c2,d2,L1,L2,hR1,hR2,M1,M2,vq,tK,hw1,hw2,aei,q1,q2⟩:=h;refine⟨_,(ak (aJ (i:=3) ig.nd rfl (Or.inl rfl) (aq gw hr rfl (aO (pv 0) (aO (pv 1) ao))))
   (ak (aJ (i:=4) ig.nd rfl (Or.inl rfl) (aq aX hr rfl (aO (pv 0) ao)))
   (ak (aJ (i:=5) ig.nd rfl (Or.inl rfl) (aq aX hr rfl (aO (pv 1) ao)))
   (ak (eU (ju bN hr rfl (nM (aK (jK K) (aM (jx K) rfl B.cR boot_len (aG (bh (xix K) (pv 4) au (fun _ _=>rfl)) ao)) (aM (jx K) rfl B.cR boot_len (aG (bh (xix K) (pv 5) au (fun _ _=>rfl)) ao))) ao)))
   (ak (aJ (i:=6) ig.nd rfl (Or.inl rfl) (aq qU hr rfl (aO (pv 3) (aG (aq eX hr rfl (aO (pv 3) (aG (bh (xix K) (pv 4) au (fun _ _=>rfl)) ao))) (aG (aq eX hr rfl (aO (pv 3) (aG (bh (xix K) (pv 5) au (fun _ _=>rfl)) ao))) ao)))))
   (aF (aR (aq je hr rfl (aO (pv 4) (aO (pv 5) (aG (aq fW hr rfl (aO (pv 3) (aO (pv 6) ao))) (aO (pv 2) ao)))))))))))),?_⟩
  have e1:=M1.by_;have e2:=M2.by_;have hb:=M1.hB;have hb0:=hb.lo;have k1:=vq.mon.pos;have k2:=tK.mon.pos;have s1:=M1.tG;have s2:=M2.tG;have ll1:=M1.ll vq;have ll2:=M2.ll tK;refine⟨_,rfl,_,rfl,v1,v2,r1,r2,rfl,hR1,hR2,by rw[e1,e2],?_⟩;rw[e1];refine⟨_,rfl,v1,r1,rfl,hR1,M1.ok,M1.byp,M1.tame,fun x1 L1' H1 g1 hS1 GD _=>?_⟩;have eL1:L1'=L1:=by
   rw[e1]at GD;exact GD.uniq hb.one vq
  subst eL1;refine⟨_,rfl,v2,r2,rfl,hR2.same g1,M2.ok,M2.byp,M2.tame,fun x2 L2' H2 g2 hS2 Jm _=>?_⟩;have eL2:L2'=L2:=by
   rw[e2]at Jm;exact Jm.uniq hb.one tK
  subst eL2;obtain⟨ok1,_,ea1,l1,_,eP1⟩:=M1.sh vq;obtain⟨ok2,_,ea2,l2,_,eP2⟩:=M2.sh tK;have SD:=hS1.same g2;obtain⟨a1,p1,t1,rfl,hC1,hP1,hT1⟩:=id SD;obtain⟨a2,p2,t2,rfl,hC2,hP2,hT2⟩:=id hS2;have lS1:((aQ r1 L1').rule.map V.int).length=L1'.length-1:=by rw[List.length_map,l1]
  have lS2:((aQ r2 L2').rule.map V.int).length=L2'.length-1:=by rw[List.length_map,l2]
  refine⟨_,rfl,_,_,.inr (SqT.of hC1),rfl,.ref p1,L1'.length-1,rfl,.inr ⟨_,SqT.of hP1,lS1.symm⟩,_,rfl,_,_,.inr (SqT.of hC2),rfl,.ref p2,L2'.length-1,rfl,.inr ⟨_,SqT.of hP2,lS2.symm⟩,?_⟩;refine⟨((L1'.length-1:Nat):Int)+((L2'.length-1:Nat):Int),rfl,fun hle=>?_,fun hlt=>q2 (by omega) _ (g1.trans g2)⟩;have hle':L1'.length-1+(L2'.length-1)<=12:=by omega
  obtain⟨n,c,d,hn,n12,hK,bd,c10,hst,hsz,q⟩:=q1 hle';have bc1:=M1.fb.least hb vq;have bc2:=M2.fb.least hb tK;have u1':=M1.fb.u10;have m1:=M1.fb.n12;have m2:=M2.fb.n12;refine⟨_,rfl,_,rfl,_,rfl,_,_,.inr (SqT.of hC1),rfl,b,p1,(aQ r1 L1').rule,rfl,hb0,hP1,by omega,fun t3 H3 g3 h3=>?_⟩;refine⟨_,rfl,_,rfl,_,_,.inr (SqT.of (g3 _ _ hC2)),rfl,b,p2,(aQ r2 L2').rule,rfl,hb0,g3 _ _ hP2,by omega,fun t4 H4 g4 h4=>?_⟩;rw[eP1]at h3;rw[eP2]at h4;refine⟨b,t3,t4,L1',L2',rfl,hb0,g4 _ _ h3,h4,by omega,by omega,Hu bc1 (by omega),Hu bc2 (by omega),fun t5 H5 g5 h5=>?_⟩;have g35:=g3.trans (g4.trans g5);obtain⟨hm,hl2⟩:=Ip hb vq.mon tK.mon;refine⟨_,rfl,_,rfl,_,rfl,_,rfl,b,t5,Pm.mul b L1' L2',rfl,hb0,h5,by omega,by omega,fun t6 H6 g6 h6=>?_⟩;have g36:=g35.trans g6;have eR:(Pm.cO b (Pm.mul b L1' L2')).map (Rm.tk b)=Pm.cO b (Pm.mul b L1' L2'):=jo fun y hy=>by
   obtain⟨k,_,rfl⟩:=Pm.dj (show y∈Pm.ofF _ _ from hy);exact nO hb0 _
  have lR:(Pm.cO b (Pm.mul b L1' L2')).length=L1'.length-1+(L2'.length-1):=by rw[Pm.dR,hl2];rfl
  refine⟨_,rfl,f0,.ref a1,.ref a2,t6,g,b,aQ r1 L1',aQ r2 L2',Pm.cO b (Pm.mul b L1' L2'),n,u1+u2+13*(n1+n2+3),c,d,rfl,hg,SD.same g36,hS2.same g36,ok1,ok2,e1,by rw[ea1];exact M1.fb.few hw1,by rw[ea2];exact M2.fb.few hw2,.inr h6,?_,fun v' r' L' H' g' hR' hT' hF' hl'=>?_⟩
  ·rw[ea1,ea2];refine⟨hb,by omega,n12,by rw[Pm.aL],fun x hx=>?_,by omega,by omega,bd,c10,hst,hsz,fun k=>?_⟩
   ·obtain⟨k,_,rfl⟩:=Pm.dj (show x∈Pm.ofF _ _ from hx);refine fQ hb (by omega) ?_;rw[Int.zero_sub];exact Pm.vW (Pm.jD (fun x hx=>(Nu hb (by omega) (by omega) bc1 bc2 x hx).mono (by omega)) _)
   ·rw[eR,lR,show(Pm.ofF (L1'.length-1+(L2'.length-1)) (f0 r1.at r2.at)).map (Rm.tk b)=Pm.ofF (L1'.length-1+(L2'.length-1)) fun n=>Rm.tk b (f0 r1.at r2.at n)from List.map_map ..];exact Tq hb vq.mon tK.mon hK k
  ·rw[ea1,ea2]at hT' hF';have hln:=hT'.len;rw[lR]at hl';exact q v' r' L' H' (g1.trans (g2.trans (g36.trans g'))) hR' hT' hF' (by omega)
theorem Ma(F:Fn K mg "added" BK ["one","other"])(gG:ou P w K mg base aH)(gH:n6 P w K mg base):Ge P w K mg base aH:=by
 refine F.Lx K9 (fun vs H Q E h=>?_) (fun f cdv A outer s H vs Q E hr h=>?_)
 ·obtain⟨v1,v2,rfl,_⟩:=h;rfl
 ·obtain⟨v1,v2,rfl,q⟩:=h;refine⟨_,(aF (aR (ju gG hr rfl (aO (pv 0) (aO (pv 1) (aO (wZ gH rfl) ao)))))),?_⟩;exact⟨_,rfl,_,rfl,fun g hg=>⟨Ob,v1,v2,g,rfl,.inl ⟨hg,rfl⟩,q⟩⟩
theorem Gk(F:Fn K mg "rolled" yj ["one","other"])(gG:ou P w K mg base aH)(dJ:jC P w K mg base):CV P w K mg base aH:=by
 refine F.Lx Hy (fun vs H Q E h=>?_) (fun f cdv A outer s H vs Q E hr h=>?_)
 ·obtain⟨v1,v2,rfl,_⟩:=h;rfl
 ·obtain⟨v1,v2,rfl,q⟩:=h;refine⟨_,(aF (aR (ju gG hr rfl (aO (pv 0) (aO (pv 1) (aO (wZ dJ rfl) ao)))))),?_⟩;exact⟨_,rfl,_,rfl,fun g hg=>⟨qC,v1,v2,g,rfl,.inr (.inl ⟨hg,rfl⟩),q⟩⟩
theorem vm(F:Fn K mg "behind_first" jM ["rule","sums","k"]):jL P w K mg base:=by
 refine F.cal mQ (fun vs H Q E h=>?_) (fun f cdv A outer s H vs Q E hr h=>?_)
 ·obtain⟨a,c,rule,sums,k,rfl,_⟩:=h;rfl
 ·obtain⟨a,c,rule,sums,k,rfl,hA,hC,k1,k24,hl,b1,b2,q⟩:=h;refine⟨_,(ak (aJ (i:=3) mQ.nd rfl (Or.inl rfl) (aM (Gz rfl) rfl B.YV boot_min (nM (aK cB (pv 2) au) (aG (aM (jx K) rfl B.cR boot_len (aO (pv 0) ao)) ao))))
   (aF (aR (aM (Vt K rfl) rfl B.Lh boot_sum (aG (dU (sc:=tu) (N:=["i","k","rule","sums"]) (ix:=[none,some 2,some 0,some 1]) cM rfl (cC rfl B.cQ (aO (pv 3) ao)) (fun cl C s₀ H₀ ex=>⟨(bB (i:=0) iz rfl (Or.inl rfl)),cN,(aK v_mul (bh (xix K) (pv 2) (pv 0) (fun _ _=>rfl)) (bh (xix K) (pv 3) (aK cB (aK cB (pv 1) au) (pv 0)) (fun _ _=>rfl)))⟩)) ao))))),?_⟩
  have lR:(rule.map V.int).length=rule.length:=List.length_map _;refine⟨_,rfl,_,_,rfl,rfl,_,rfl,.ref a,rule.length,rfl,hA.elim (fun h=> .inl ⟨_,SqL.of h,lR.symm⟩) (fun h=> .inr ⟨_,SqT.of h,lR.symm⟩),(k:Int)-1,(rule.length:Int),rfl,?_⟩;have em:(if(rule.length:Int)<(k:Int)-1 then(rule.length:Int)else(k:Int)-1)=((min (k-1) rule.length:Nat):Int):=by split<;>omega
  rw[em];refine⟨_,rfl,((min (k-1) rule.length:Nat):Int),rfl,(by omega:-(2^62)<=((min (k-1) rule.length:Nat):Int)),(by omega:((min (k-1) rule.length:Nat):Int)<2^62),?_⟩;rw[Int.toNat_natCast];refine jh (n:=min (k-1) rule.length) (by omega) rfl (fun i=>Pm.co rule i*Pm.co sums (k-2-i)) ?_ ?_
  ·intro H2 i g2 hi kk hkk;exact⟨_,rfl,_,rfl,_,V.int (Pm.co rule i),(hA.same g2).imp SqL.of SqT.of,(by rw[Int.zero_add];exact zN (by omega)),_,rfl,_,rfl,_,_,rfl,rfl,_,rfl,_,_,rfl,rfl,_,V.int (Pm.co sums (k-2-i)),(hC.same g2).imp SqL.of SqT.of,(by rw[Int.zero_add,show(k:Int)-2-(i:Int)=((k-2-i:Nat):Int)by omega];exact zN (by omega)),vd (Pm.jD b1 i) (Pm.jD b2 (k-2-i)) (by decide),hkk _ (Same.refl _)⟩
  ·intro D H8 hD g8 h8;refine⟨D,Pm.ofF (min (k-1) rule.length) fun i=>Pm.co rule i*Pm.co sums (k-2-i),rfl,SqL.of h8,?_⟩;rw[Jj];exact q _ g8
theorem wI(F:Fn K mg "power_sums" mJ ["rule","count"])(dM:jL P w K mg base):mH P w K mg base:=by
 refine F.cal iR (fun vs H Q E h=>?_) (fun f cdv A outer s H vs Q E hr h=>?_)
 ·obtain⟨a,rule,n,w,rfl,_⟩:=h;rfl
 ·obtain⟨a,rule,n,w,rfl,hA,n12,hnw,hw,br,q⟩:=h;refine⟨_,(ak (aJ (i:=2) iR.nd rfl (Or.inl rfl) (nq ao))
   (ak (mU PassesOwn.never rfl (pq rfl B.cQ (lY au (nM (aK (jK K) (pv 1) au) ao))) (bB (i:=3) iR.nd rfl (Or.inl rfl))
   (ak (aJ (i:=4) iR.nd rfl (Or.inl rfl) (Jc (wY (aU RH (pv 3) (aM (jx K) rfl B.cR boot_len (aO (pv 0) ao)) (bw _)) (aK v_mul (pv 3) (bh (xix K) (pv 0) (aK cB (pv 3) au) (fun _ _=>rfl))) au)))
   (aF (eU (uD K (pv 2) (aK (jK K) (pv 4) (aq dM hr rfl (aO (pv 0) (aO (pv 2) (aO (pv 3) ao))))))))))
   (aF (aR (pv 2))))),?_⟩
  have lR:(rule.map V.int).length=rule.length:=List.length_map _;have b1:∀x∈rule,Rm.Bd 60000 x:=fun x hx=>by
   obtain⟨k,hk,e⟩:=List.mem_iff_getElem.mp hx;have:=br k;rw[Pm.pJ hk,e]at this;exact this.bd.mono (by omega)
  refine⟨(by show 0<=sizeLine;decide),fun l hl=>?_⟩;refine⟨_,rfl,1,(n:Int)+1,rfl,⟨by omega,by omega,by omega,by omega⟩,?_⟩;rw[show((n:Int)+1-1).toNat=n by omega];refine gY (lo:=1) (n:=n) (fun i σ' H'=>∃(o3 o4:Option V) (sums:List Int),σ'=[some (.ref a),some (.int (n:Int)),some (.ref l),o3,o4]/\Same H H'/\H' l=some (.lst (sums.map V.int))/\sums.length=i/\(∀j,j<i->Le (Pm.co sums j) ((2^(w+3))^(j+1)))/\∀k,k<i->Pm.co sums k=(if k+1<=rule.length then((k+1:Nat):Int)*Pm.co rule k else 0)+bhd rule sums (k+1)) ⟨none,none,[],rfl,Same.new hl _,aD,rfl,fun j hj=>absurd hj (by omega),fun j hj=>absurd hj (by omega)⟩ ?_ ?_
  ·rintro i σ' H' hi ⟨o3,o4,sums,rfl,g,hL,ls,bd,eqs⟩;rw[show(1:Int)+(i:Int)=((i+1:Nat):Int)by omega];have hA':=g _ _ hA;refine Bar.by (fun v H1=>v = .int (if i+1<=rule.length then((i+1:Nat):Int)*Pm.co rule i else 0)/\H1=H') (fun kk hkk=>?_) ?_
   ·refine⟨_,rfl,_,rfl,.ref a,rule.length,rfl,.inr ⟨_,SqT.of hA',lR.symm⟩,_,_,rfl,rfl,_,rfl,?_⟩;refine ni (fun c=>?_) (fun c=>?_)
    ·have c':i+1<=rule.length:=by have:=dec_true c;omega
     have hk:=hkk (.int (if i+1<=rule.length then((i+1:Nat):Int)*Pm.co rule i else 0)) H' ⟨rfl,rfl⟩;rw[if_pos c']at hk;exact⟨_,rfl,_,rfl,_,rfl,_,_,rfl,rfl,_,V.int (Pm.co rule i),.inr (SqT.of hA'),(by rw[show((i+1:Nat):Int)-1=(i:Int)by omega];exact zN (by omega)),vd (m:=10) (Rm.Bd.of (by omega) (by omega)) (Pm.jD b1 i) (by decide),hk⟩
    ·have c':¬i+1<=rule.length:=by have:=dec_false c;omega
     have hk:=hkk (.int (if i+1<=rule.length then((i+1:Nat):Int)*Pm.co rule i else 0)) H' ⟨rfl,rfl⟩;rw[if_neg c']at hk;exact hk
   rintro _ _ ⟨rfl,rfl⟩;have st:=QS (w:=w) (rule:=rule) (sums:=sums) (k:=i+1) (by omega) (by omega) br (fun j hj=>bd j (by omega));rw[Nat.add_sub_cancel]at st;have ad8:sums.length*(w+3)<=n*(w+3):=Nat.mul_le_mul_right _ (by omega);refine⟨_,rfl,.inl ⟨rfl,_,SqL.of hL⟩,_,rfl,_,rfl,_,rfl,_,rfl,a,l,rule,sums,i+1,rfl,.inr hA',.inl hL,by omega,by omega,by omega,b1,Le.list (w:=w+3) (by omega) (fun j hj=>bd j (by omega)),fun H2 g2=>?_⟩;have hL2:=g2 _ _ hL;refine⟨l,_,_,rfl,rfl,hL2,?_,?_⟩
   ·rw[List.length_map,ls];exact bU (by omega)
   ·refine⟨_,_,sums++[(if i+1<=rule.length then((i+1:Nat):Int)*Pm.co rule i else 0)+bhd rule sums (i+1)],rfl,(g.trans g2).upd hl _,by rw[aD,List.map_append];rfl,by rw[List.length_append,ls];rfl,Le.grow ls bd st,fun k hk=>?_⟩;rw[NV (by omega)];by_cases d:k<i
    ·rw[Pm.bY,if_pos (by omega)];exact eqs k d
    ·have e:k=i:=by omega
     subst e;rw[Pm.bY,if_neg (by omega),ls,Nat.sub_self];rfl
  ·rintro σ' H' ⟨o3,o4,sums,rfl,g,hL,ls,bd,eqs⟩;exact⟨_,rfl,q l sums H' g hL ls bd eqs⟩
theorem uV(F:Fn K mg "rule_of_sums" jF ["sums"])(dM:jL P w K mg base):jE P w K mg base:=by
 refine F.cal jl (fun vs H Q E h=>?_) (fun f cdv A outer s H vs Q E hr h=>?_)
 ·obtain⟨c,sums,n,z,rfl,_⟩:=h;rfl
 ·obtain⟨c,sums,n,z,rfl,hC,hn,n12,hz,bs,q⟩:=h;refine⟨_,(ak (aJ (i:=1) jl.nd rfl (Or.inl rfl) (nq ao))
   (ak (mU PassesOwn.never rfl (pq rfl B.cQ (lY au (nM (aK (jK K) (aM (jx K) rfl B.cR boot_len (aO (pv 0) ao)) au) ao))) (bB (i:=2) jl.nd rfl (Or.inl rfl))
   (aF (eU (uD K (pv 1) (aK j6 (aK cB (bh (xix K) (pv 0) (aK cB (pv 2) au) (fun _ _=>rfl)) (aq dM hr rfl (aO (pv 1) (aO (pv 0) (aO (pv 2) ao))))) (pv 2))))))
   (aF (aR (pv 1))))),?_⟩
  have lS:(sums.map V.int).length=n:=by rw[List.length_map,hn]
  have aej:sums.length*z<=n*z:=Nat.mul_le_mul_right _ (by omega);have b2:∀x∈sums,Rm.Bd 60000 x:=Le.list (w:=z) (by omega) (fun j hj=>bs j (by omega));refine⟨(by show 0<=sizeLine;decide),fun l hl=>?_⟩;have gl:=Same.new hl (.lst []);refine⟨_,rfl,.ref c,n,rfl,.inl ⟨_,SqL.of (gl _ _ hC),lS.symm⟩,1,(n:Int)+1,rfl,⟨by omega,by omega,by omega,by omega⟩,?_⟩;rw[show((n:Int)+1-1).toNat=n by omega];refine gY (lo:=1) (n:=n) (fun i σ' H'=>∃(o2:Option V) (rule:List Int),σ'=[some (.ref c),some (.ref l),o2]/\Same H H'/\H' l=some (.lst (rule.map V.int))/\rule.length=i/\(∀j,j<i->Le (Pm.co rule j) ((2^z)^(j+1)))/\∀k,k<i->Pm.co rule k=(Pm.co sums k-bhd rule sums (k+1))/((k+1:Nat):Int)) ⟨none,[],rfl,gl,aD,rfl,fun j hj=>absurd hj (by omega),fun j hj=>absurd hj (by omega)⟩ ?_ ?_
  ·rintro i σ' H' hi ⟨o2,rule,rfl,g,hL,lr,bd,eqs⟩;rw[show(1:Int)+(i:Int)=((i+1:Nat):Int)by omega];have hC':=g _ _ hC;have st:=J2 (Z:=2^z) (rule:=rule) (sums:=sums) (k:=i+1) (by omega) (by omega) (fun j hj=>bd j (by omega)) (fun j hj=>bs j (by omega));rw[Nat.add_sub_cancel]at st;have aeh:rule.length*z<=n*z:=Nat.mul_le_mul_right _ (by omega);refine⟨_,rfl,.inl ⟨rfl,_,SqL.of hL⟩,_,rfl,_,rfl,_,_,rfl,rfl,_,V.int (Pm.co sums i),.inl (SqL.of hC'),(by rw[show((i+1:Nat):Int)-1=(i:Int)by omega];exact zN (by omega)),_,rfl,_,rfl,_,rfl,l,c,rule,sums,i+1,rfl,.inl hL,.inl hC',by omega,by omega,by omega,Le.list (w:=z) (by omega) (fun j hj=>bd j (by omega)),b2,fun H2 g2=>?_⟩;have hL2:=g2 _ _ hL;refine⟨_,_,rfl,rfl,_,rfl,_,_,rfl,rfl,⟨by omega,by show((i+1:Nat):Int)<1073741824;omega⟩,l,_,_,rfl,rfl,hL2,?_,?_⟩
   ·rw[List.length_map,lr];exact bU (by omega)
   ·refine⟨_,rule++[(Pm.co sums i-bhd rule sums (i+1))/((i+1:Nat):Int)],rfl,(g.trans g2).upd hl _,by rw[aD,List.map_append];rfl,by rw[List.length_append,lr];rfl,Le.grow lr bd st,fun k hk=>?_⟩;rw[J9 (by omega)];by_cases d:k<i
    ·rw[Pm.bY,if_pos (by omega)];exact eqs k d
    ·have e:k=i:=by omega
     subst e;rw[Pm.bY,if_neg (by omega),lr,Nat.sub_self];rfl
  ·rintro σ' H' ⟨o2,rule,rfl,g,hL,lr,bd,eqs⟩;exact⟨_,rfl,q l rule H' g hL lr bd eqs⟩
theorem yp(F:Fn K mg "multiplied" nj ["one","other"])(gw:nR P w K mg base)(aX:fL P w K mg base)(bN:fV P w K mg base aH)(dX:mH P w K mg base)(dO:jE P w K mg base)(je:rZ P w K mg base)(dB:jq P w K mg base):sO P w K mg base aH:=by
 refine F.Lx dG (fun vs H Q E h=>?_) (fun f cdv A outer s H vs Q E hr h=>?_)
 ·obtain⟨v1,v2,rfl,_⟩:=h;rfl
 ·obtain⟨v1,v2,rfl,hU⟩:=h;refine⟨_,(ak (eU (aq gw hr rfl (aO (pv 0) (aO (pv 1) ao))))
   (ak (aJ (i:=2) dG.nd rfl (Or.inl rfl) (aq aX hr rfl (aO (pv 0) ao)))
   (ak (aJ (i:=3) dG.nd rfl (Or.inl rfl) (aq aX hr rfl (aO (pv 1) ao)))
   (ak (aJ (i:=4) dG.nd rfl (Or.inl rfl) (aK v_mul (aM (jx K) rfl B.cR boot_len (aG (bh (xix K) (pv 2) au (fun _ _=>rfl)) ao)) (aM (jx K) rfl B.cR boot_len (aG (bh (xix K) (pv 3) au (fun _ _=>rfl)) ao))))
   (ak (eU (ju bN hr rfl (aO (pv 4) ao)))
   (ak (aJ (i:=5) dG.nd rfl (Or.inr rfl) (aq dX hr rfl (aG (bh (xix K) (pv 2) au (fun _ _=>rfl)) (aO (pv 4) ao))))
   (ak (aJ (i:=6) dG.nd rfl (Or.inr rfl) (aq dX hr rfl (aG (bh (xix K) (pv 3) au (fun _ _=>rfl)) (aO (pv 4) ao))))
   (ak (aJ (i:=7) dG.nd rfl (Or.inl rfl) (aq dO hr rfl (aG (dU (sc:=vI) (N:=["k","our_sums","their_sums"]) (ix:=[none,some 5,some 6]) cM rfl (cC rfl B.cQ (aO (pv 4) ao)) (fun cl C s₀ H₀ ex=>⟨(bB (i:=0) iz rfl (Or.inl rfl)),cN,(aK v_mul (bh (xix K) (pv 1) (pv 0) (fun _ _=>rfl)) (bh (xix K) (pv 2) (pv 0) (fun _ _=>rfl)))⟩)) ao)))
   (aF (aR (aq je hr rfl (aO (pv 2) (aO (pv 3) (aO (pv 7) (aO (wZ dB rfl) ao))))))))))))))),?_⟩
  obtain⟨b,r1,r2,n1,u1,c1,d1,n2,u2,c2,d2,L1,L2,hR1,hR2,M1,M2,vq,tK,hw1,hw2,q1,q2⟩:=hU;have e1:=M1.by_;have e2:=M2.by_;have hb:=M1.hB;have s1:=M1.tG;have s2:=M2.tG;have ll1:=M1.ll vq;have ll2:=M2.ll tK;refine⟨_,rfl,_,rfl,v1,v2,r1,r2,rfl,hR1,hR2,by rw[e1,e2],?_⟩;refine⟨_,rfl,v1,r1,rfl,hR1,M1.ok,M1.byp,M1.tame,fun x1 L1' H1 g1 hS1 GD _=>?_⟩;have eL1:L1'=L1:=by
   rw[e1]at GD;exact GD.uniq hb.one vq
  subst eL1;refine⟨_,rfl,v2,r2,rfl,hR2.same g1,M2.ok,M2.byp,M2.tame,fun x2 L2' H2 g2 hS2 Jm _=>?_⟩;have eL2:L2'=L2:=by
   rw[e2]at Jm;exact Jm.uniq hb.one tK
  subst eL2;obtain⟨ok1,adw,ea1,l1,_,_⟩:=M1.sh vq;obtain⟨ok2,adO,ea2,l2,_,_⟩:=M2.sh tK;have SD:=hS1.same g2;obtain⟨a1,p1,t1,rfl,hC1,hP1,hT1⟩:=id SD;obtain⟨a2,p2,t2,rfl,hC2,hP2,hT2⟩:=id hS2;have lS1:((aQ r1 L1').rule.map V.int).length=L1'.length-1:=by rw[List.length_map,l1]
  have lS2:((aQ r2 L2').rule.map V.int).length=L2'.length-1:=by rw[List.length_map,l2]
  refine⟨_,rfl,_,_,.inr (SqT.of hC1),rfl,.ref p1,L1'.length-1,rfl,.inr ⟨_,SqT.of hP1,lS1.symm⟩,_,rfl,_,_,.inr (SqT.of hC2),rfl,.ref p2,L2'.length-1,rfl,.inr ⟨_,SqT.of hP2,lS2.symm⟩,mulL (by omega) (by omega),?_⟩;rw[<-Int.natCast_mul];generalize hn:(L1'.length-1)*(L2'.length-1)=N at q1 q2;refine⟨_,rfl,(N:Int),rfl,fun hle=>?_,fun hlt=>q2 (by omega) _ (g1.trans g2)⟩;obtain⟨n,c,d,Nn,n12,bd,c10,hst,hz,hsz,q⟩:=q1 (by omega);have N12:N<=12:=by omega
  have br1:∀i,Le (Pm.co (aQ r1 L1').rule i) (2^(u1+13*(n1+1))):=fun i=>Nat.le_of_lt (Pm.jD adw i);have br2:∀i,Le (Pm.co (aQ r2 L2').rule i) (2^(u2+13*(n2+1))):=fun i=>Nat.le_of_lt (Pm.jD adO i);generalize aeg:u1+13*(n1+1)=w1 at br1;generalize aee:u2+13*(n2+1)=w2 at br2;have eu:u1+u2+13*(n1+n2+2)+6=w1+3+(w2+3):=by omega
  rw[eu]at hz hsz q;have z1:N*(w1+3+(w2+3))<=(w1+3+(w2+3))*n:=by rw[Nat.mul_comm];exact Nat.mul_le_mul_left _ Nn
  have z2:N*(w1+3)<=N*(w1+3+(w2+3)):=Nat.mul_le_mul_left _ (by omega);have z3:N*(w2+3)<=N*(w1+3+(w2+3)):=Nat.mul_le_mul_left _ (by omega);have w1b:w1<=59500:=by have:=M1.fb.u59;have:=M1.fb.n12;omega
  have w2b:w2<=59500:=by have:=M2.fb.u59;have:=M2.fb.n12;omega
  refine⟨_,rfl,_,_,.inr (SqT.of hC1),rfl,_,rfl,p1,(aQ r1 L1').rule,N,w1,rfl,hP1,by omega,by omega,w1b,br1,fun l5 s5 H5 g5 h5 ls1 bs1 eq1=>?_⟩;refine⟨_,rfl,_,_,.inr (SqT.of (g5 _ _ hC2)),rfl,_,rfl,p2,(aQ r2 L2').rule,N,w2,rfl,g5 _ _ hP2,by omega,by omega,w2b,br2,fun l6 s6 H6 g6 h6 ls2 bs2 eq2=>?_⟩;have h56:=g6 _ _ h5;have bu1:∀x∈s5,Rm.Bd 60000 x:=Le.list (w:=w1+3) (by rw[ls1];omega) (fun j hj=>bs1 j (by omega));have bu2:∀x∈s6,Rm.Bd 60000 x:=Le.list (w:=w2+3) (by rw[ls2];omega) (fun j hj=>bs2 j (by omega));refine⟨_,rfl,(N:Int),rfl,(by omega:-(2^62)<=(N:Int)),(by omega:(N:Int)<2^62),?_⟩;rw[Int.toNat_natCast];refine jh (n:=N) (by omega) rfl (fun k=>Pm.co s5 k*Pm.co s6 k) ?_ ?_
  ·intro H7 k g7 hk kk hkk;exact⟨_,rfl,_,rfl,_,V.int (Pm.co s5 k),.inl (SqL.of (g7 _ _ h56)),(by rw[Int.zero_add];exact zN (by omega)),_,rfl,_,rfl,_,V.int (Pm.co s6 k),.inl (SqL.of (g7 _ _ h6)),(by rw[Int.zero_add];exact zN (by omega)),vd (Pm.jD bu1 k) (Pm.jD bu2 k) (by decide),hkk _ (Same.refl _)⟩
  ·intro D H7 hD g7 h7;refine⟨D,Pm.ofF N fun k=>Pm.co s5 k*Pm.co s6 k,N,w1+3+(w2+3),rfl,h7,Pm.aL ..,N12,by omega,fun i hi=>?_,fun l8 rule H8 g8 h8 lr br eq3=>?_⟩
   ·rw[Pm.bK,if_pos hi,show(2:Nat)^(w1+3+(w2+3))=2^(w1+3)*2^(w2+3)from Nat.pow_add ..,Nat.mul_pow];exact(bs1 i hi).mul (bs2 i hi)
   ·have g38:=g5.trans (g6.trans (g7.trans g8));have hpa:=QZ (b:=b) (c:=(aQ r1 L1').rule) (d:=(aQ r2 L2').rule) (s1:=(aQ r1 L1').starts) (s2:=(aQ r2 L2').starts) (u1:=s5) (u2:=s6) (R:=rule) (N:=N) ok1.len ok2.len (fun x hx=>by have:=ok1.lD x hx;rw[show(aQ r1 L1').b=b from e1]at this;exact this) (fun x hx=>by have:=ok2.lD x hx;rw[show(aQ r2 L2').b=b from e2]at this;exact this) (fun x hx=>by have:=ok1.gU x hx;rw[show(aQ r1 L1').b=b from e1]at this;exact this) (fun x hx=>by have:=ok2.gU x hx;rw[show(aQ r2 L2').b=b from e2]at this;exact this) (by rw[l1,l2];exact hn.symm) lr eq1 eq2 eq3;have f1:Rm.at_ b (aQ r1 L1').rule (aQ r1 L1').starts=r1.at:=by rw[<-ea1,<-e1];rfl
    have f2:Rm.at_ b (aQ r2 L2').rule (aQ r2 L2').starts=r2.at:=by rw[<-ea2,<-e2];rfl
    rw[f1,f2]at hpa;refine⟨_,rfl,_,rfl,_,rfl,fun g hg=>⟨yD,.ref a1,.ref a2,l8,g,b,aQ r1 L1',aQ r2 L2',rule,n,(w1+3+(w2+3))*n+10,c,d,rfl,.inr (.inr ⟨hg,rfl⟩),SD.same g38,hS2.same g38,ok1,ok2,e1,by rw[ea1];exact M1.fb.few hw1,by rw[ea2];exact M2.fb.few hw2,.inl h8,?_,fun v' r' L' H' g' hR' hT' hF' hl'=>?_⟩⟩
    ·rw[ea1,ea2];refine⟨hb,by omega,n12,by rw[Pm.aL],Le.list (w:=w1+3+(w2+3)) (by rw[lr];omega) (fun i hi=>br i (by omega)),by omega,hz,bd,c10,hst,hsz,fun k=>?_⟩;rw[lr,show(Pm.ofF N (yD r1.at r2.at)).map (Rm.tk b)=Pm.ofF N fun n=>Rm.tk b (yD r1.at r2.at n)from List.map_map ..];exact hpa k
    ·rw[ea1,ea2]at hT' hF';have hln:=hT'.len;exact q v' r' L' H' (g1.trans (g2.trans (g38.trans g'))) hR' hT' hF' (by omega)
theorem oM(F:Fn K mg "refuse_far_steps" fY ["start","step"]):f9 P w K mg base:=by
 refine F.cal oO (fun vs H Q E h=>?_) (fun f cdv A outer s H vs Q E hr h=>?_)
 ·obtain⟨st,e,rfl,_⟩:=h;rfl
 ·obtain⟨st,e,rfl,h1,h2,h3,q⟩:=h;refine⟨_,(aF (eV (PW.pt (vG (aU xG (pv 0) au (bw _)) (vG (aU qH (pv 0) (pF rfl B.dI) (bw _)) (vG (aU xG (pv 1) au (bw _)) (vM (aU qH (pv 1) (pF rfl B.fM) (bw _)))))))
   (aF nH)
   bQ)),?_⟩
  refine⟨_,rfl,_,_,rfl,rfl,_,rfl,?_⟩;rw[decide_eq_false (by omega:¬(st:Int)<0)];refine tW ⟨_,rfl,_,_,rfl,rfl,_,rfl,?_⟩;rw[decide_eq_false (by omega:¬(st:Int)>100)];refine tW ⟨_,rfl,_,_,rfl,rfl,_,rfl,?_⟩;rw[decide_eq_false (by omega:¬(e:Int)<1)];refine tW ⟨_,rfl,_,_,rfl,rfl,_,rfl,?_⟩;rw[decide_eq_false (by omega:¬(e:Int)>10)];exact tW q
theorem K1(F:Fn K mg "every" Bx ["row","start","step"])(cI:f9 P w K mg base)(aX:fL P w K mg base)(dX:mH P w K mg base)(aW:dN P w K mg base)(dO:jE P w K mg base)(cF:jg P w K mg base):FJ P w K mg base:=by
 refine F.cal nF (fun vs H Q E h=>?_) (fun f cdv A outer s H vs Q E hr h=>?_)
 ·obtain⟨v,st,e,rfl,_⟩:=h;rfl
 ·obtain⟨v,st,e,rfl,hU⟩:=h;refine⟨_,(ak (eU (aq cI hr rfl (aO (pv 1) (aO (pv 2) ao))))
   (ak (aJ (i:=3) nF.nd rfl (Or.inl rfl) (aq aX hr rfl (aO (pv 0) ao)))
   (ak (aJ (i:=4) nF.nd rfl (Or.inl rfl) (aM (jx K) rfl B.cR boot_len (aG (bh (xix K) (pv 3) au (fun _ _=>rfl)) ao)))
   (ak (aJ (i:=5) nF.nd rfl (Or.inr rfl) (aq dX hr rfl (aG (bh (xix K) (pv 3) au (fun _ _=>rfl)) (nM (aK v_mul (pv 2) (pv 4)) ao))))
   (ak (aJ (i:=6) nF.nd rfl (Or.inr rfl) (aq aW hr rfl (aO (pv 3) (nM (aK (jK K) (pv 1) (aK v_mul (pv 2) (pv 4))) ao))))
   (ak (aJ (i:=7) nF.nd rfl (Or.inl rfl) (aq dO hr rfl (aG (dU (sc:=IL) (N:=["k","step","sums"]) (ix:=[none,some 2,some 5]) cM rfl (pq rfl B.cQ (lY au (nM (aK (jK K) (pv 4) au) ao))) (fun cl C s₀ H₀ ex=>⟨(bB (i:=0) iz rfl (Or.inl rfl)),cN,(bh (xix K) (pv 2) (aK cB (aK v_mul (pv 1) (pv 0)) au) (fun _ _=>rfl))⟩)) ao)))
   (aF (aR (aq cF hr rfl (aG (bh (xix K) (pv 0) au (fun _ _=>rfl)) (aO (pv 7) (aG (dU (sc:=Fw) (N:=["k","found","start","step"]) (ix:=[none,some 6,some 1,some 2]) cM rfl (cC rfl B.cQ (aO (pv 4) ao)) (fun cl C s₀ H₀ ex=>⟨(bB (i:=0) iz rfl (Or.inl rfl)),cN,(bh (xix K) (pv 1) (aK (jK K) (pv 2) (aK v_mul (pv 3) (pv 0))) (fun _ _=>rfl))⟩)) ao)))))))))))),?_⟩
  obtain⟨b,r,n,u,c,d,L0,hR,M0,ac7,hst,e1,e10,hz,acF,hsz,q⟩:=hU;have eb:=M0.by_;subst eb;have hb:=M0.hB;have ok:=M0.ok;have n12:=M0.fb.n12;have u10:=M0.fb.u10;have u59:=M0.fb.u59;refine⟨_,rfl,_,rfl,st,e,rfl,hst,e1,e10,?_⟩;refine⟨_,rfl,v,r,rfl,hR,ok,hb.p,M0.tame,fun x1 L H1 g1 hS lst ll=>?_⟩;have eL:L=L0:=lst.uniq hb.one ac7;subst eL;have lL:=M0.fb.len hb lst;have lp:=lst.mon.pos;obtain⟨okS,bdS,eaS,l1,l2,_⟩:=M0.sh lst;obtain⟨c1,p1,t1,rfl,hC1,hP1,hT1⟩:=id hS;have lS:((aQ r L).rule.map V.int).length=L.length-1:=by rw[List.length_map,l1]
  generalize hN:L.length-1=N at l1 l2 lS;have Nn:N<=n:=by omega
  have eN:e*N<=e*n:=Nat.mul_le_mul_left _ Nn;have eN2:e*N<=10*12:=Nat.mul_le_mul e10 (by omega);have NeN:N<=e*N:=Nat.le_mul_of_pos_left _ e1;refine⟨_,rfl,_,_,.inr (SqT.of hC1),rfl,.ref p1,N,rfl,.inr ⟨_,SqT.of hP1,lS.symm⟩,?_⟩;have sz1:(e*N)*(u+13*(n+1)+3)+1<=60000:=by
   have:(e*N)*(u+13*(n+1)+3)<=(u+13*(n+1)+3)*(e*n):=by rw[Nat.mul_comm];exact Nat.mul_le_mul_left _ eN
   omega
  refine⟨_,rfl,_,_,.inr (SqT.of hC1),rfl,_,rfl,_,rfl,mulL (by omega) (by omega),p1,(aQ r L).rule,e*N,u+13*(n+1),by rw[Int.natCast_mul];rfl,hP1,by omega,sz1,by omega,fun i=>Nat.le_of_lt (Pm.jD bdS i),fun l5 sums H5 g5 h5 ls bs eqs=>?_⟩;have hS5:=hS.same g5;refine⟨_,rfl,_,rfl,_,rfl,_,rfl,mulL (by omega) (by omega),.ref c1,aQ r L,(st:Int)+(e:Int)*(N:Int),rfl,hS5,okS,by rw[<-Int.natCast_mul];omega,by rw[<-Int.natCast_mul];omega,fun l6 H6 g6 f6 h6=>?_⟩;rw[show((st:Int)+(e:Int)*(N:Int)).toNat=st+e*N by rw[<-Int.natCast_mul];omega,qO,eaS]at h6;have h56:=g6 _ _ h5;refine⟨_,rfl,1,(N:Int)+1,rfl,⟨by omega,by omega,by omega,by omega⟩,?_⟩;rw[show((N:Int)+1-1).toNat=N by omega];refine zp (lo:=1) (n:=N) (by omega) rfl (fun k=>Pm.co sums (e*(k+1)-1)) ?_ ?_
  ·intro H7 k g7 hk kk hkk;have t1:1<=e*(k+1):=Nat.mul_pos e1 (by omega);have t2:(e:Int)*(1+(k:Int))=((e*(k+1):Nat):Int):=by rw[Int.natCast_mul,Int.natCast_add,Int.add_comm];rfl
   have t3:e*(k+1)<=e*N:=Nat.mul_le_mul_left _ hk;refine⟨_,rfl,_,rfl,_,rfl,mulL (by omega) (by omega),_,_,rfl,rfl,_,V.int (Pm.co sums (e*(k+1)-1)),.inl (SqL.of (g7 _ _ h56)),?_,hkk⟩;rw[t2,show((e*(k+1):Nat):Int)-1=((e*(k+1)-1:Nat):Int)by omega];exact zN (by omega)
  intro D hD;have gD:=Same.new hD (.lst ((Pm.ofF N fun k=>Pm.co sums (e*(k+1)-1)).map V.int));refine⟨D,Pm.ofF N fun k=>Pm.co sums (e*(k+1)-1),N,(u+13*(n+1)+3)*e,rfl,aD,Pm.aL ..,by omega,?_,fun i hi=>?_,fun l7 R H7 g7 h7 lr br eq3=>?_⟩
  ·rw[Nat.mul_comm,Nat.mul_assoc,Nat.mul_comm _ (e*N)];exact sz1
  ·rw[Pm.bK,if_pos hi];have t1:1<=e*(i+1):=Nat.mul_pos e1 (by omega);have t3:e*(i+1)<=e*N:=Nat.mul_le_mul_left _ hi;have:=bs (e*(i+1)-1) (by omega);rw[Nat.sub_add_cancel t1,<-Nat.pow_mul]at this;rw[<-Nat.pow_mul,Nat.mul_assoc];exact this
  have g17:=g1.trans (g5.trans (g6.trans (gD.trans g7)));have h67:=g7 _ _ (gD _ _ h6);obtain⟨a0,q1,q2,rfl,hA0,_,_⟩:=id (hR.same g17);refine⟨_,rfl,_,_,.inr (SqT.of hA0),rfl,_,rfl,_,rfl,(N:Int),rfl,(by omega:-(2^62)<=(N:Int)),(by omega:(N:Int)<2^62),?_⟩;rw[Int.toNat_natCast];refine jh (n:=N) (by omega) rfl (fun k=>r.at (st+e*k)) ?_ ?_
  ·intro H8 k g8 hk kk hkk;have t3:e*(k+1)<=e*N:=Nat.mul_le_mul_left _ hk;rw[Nat.mul_succ]at t3;refine⟨_,rfl,_,rfl,_,rfl,_,rfl,mulL (by omega) (by omega),_,V.int (r.at (st+e*k)),.inl (SqL.of (g8 _ _ h67)),?_,hkk _ (Same.refl _)⟩;rw[show(st:Int)+(e:Int)*(0+(k:Int))=((st+e*k:Nat):Int)by rw[Int.zero_add,Int.natCast_add,Int.natCast_mul]];rw[zN (by rw[Pm.aL];omega),Pm.bK,if_pos (by omega)]
  intro D2 H8 hD2 g8 h8;have hzz:R.length*((u+13*(n+1)+3)*e)+1<=(u+13*(n+1)+3)*(e*n)+10:=by
   rw[lr,Nat.mul_comm,Nat.mul_assoc];have:=Nat.mul_le_mul_left (u+13*(n+1)+3) eN;omega
  have bR:∀x∈R,Rm.Bd ((u+13*(n+1)+3)*(e*n)+10) x:=Le.list hzz fun i hi=>br i (by omega);have hev:=K7 (b:=r.b) (c:=(aQ r L).rule) (s1:=(aQ r L).starts) (u:=sums) (R:=R) (e:=e) (st:=st) (N:=N) e1 okS.len okS.lD okS.gU l1.symm lr eqs eq3;have f1:Rm.at_ r.b (aQ r L).rule (aQ r L).starts=r.at:=by rw[<-eaS];rfl
  rw[f1]at hev;refine⟨r.b,l7,D2,R,_,fun k=>r.at (st+e*k),n,(u+13*(n+1)+3)*(e*n)+10,c+d*st,d*e,rfl,.inl (g8 _ _ h7),.inl h8,⟨hb,by omega,n12,by rw[Pm.aL,lr],bR,by omega,hz,fun k=>?_,by have:=M0.fb.c10;omega,acF,hsz,fun k=>?_⟩,fun v' r' L' H9 g9 hR9 hT9 hF9 hl9=>?_⟩
  ·refine(M0.fb.at_ (st+e*k)).mono ?_;rw[Nat.mul_add,Nat.mul_assoc,Nat.add_assoc];exact Nat.le_refl _
  ·rw[show(Pm.ofF N fun k=>r.at (st+e*k)).map (Rm.tk r.b)=Pm.ofF N fun k=>Rm.tk r.b (r.at (st+e*k))from List.map_map ..,hev k,ok.LY]
  ·have:=hT9.len;exact q v' r' L' H9 (g17.trans (g8.trans g9)) hR9 hT9 hF9 (by omega)
theorem GP(F:Fn K mg "scaled" xQ ["row","number"])(cF:jg P w K mg base):Dt P w K mg base:=by
 refine F.cal Jd (fun vs H Q E h=>?_) (fun f cdv A outer s H vs Q E hr h=>?_)
 ·obtain⟨v,b,r,x,n,u,c,d,z,rfl,_⟩:=h;rfl
 ·obtain⟨v,b,r,x,n,u,c,d,z,rfl,hR,hM,hx,hz,z10,z2,hc,hsz,q⟩:=h;refine⟨_,(aF (aR (aq cF hr rfl (aG (bh (xix K) (pv 0) au (fun _ _=>rfl)) (aG (bh (xix K) (pv 0) au (fun _ _=>rfl)) (aG (dU (sc:=Em) (N:=["start","number"]) (ix:=[none,some 1]) cM rfl (JB K (bh (xix K) (pv 0) au (fun _ _=>rfl))) (fun cl C s₀ H₀ ex=>⟨(bB (i:=0) iz rfl (Or.inl rfl)),cN,(aK v_mul (pv 1) (pv 0))⟩)) ao)))))),?_⟩;obtain⟨a,p,p2,rfl,hA,hP,hS⟩:=id hR;have hl:=hM.ok.len;have h12:=hM.tG;have eb:=hM.by_;have c10:=hM.fb.c10;refine⟨_,rfl,_,_,.inr (SqT.of hA),rfl,_,rfl,_,_,.inr (SqT.of hA),rfl,_,rfl,_,_,.inr (SqT.of hA),rfl,p2,rfl,.inr ⟨⟨_,SqT.of hS⟩,xY (yc (SqT.of hS)) (by omega) rfl (fun s=>x*s) ?_ ?_⟩⟩
  ·intro H2 y g2 hy kk hkk;exact⟨_,rfl,_,rfl,vd hx (hM.ok.iQ y hy) (by decide),hkk⟩
  intro D hD;have gD:=Same.new hD (.lst ((r.starts.map fun s=>x*s).map V.int));have e1:r.rule.map (Rm.tk b)=r.rule:=jo fun y hy=>by have:=hM.ok.lD y hy;rw[eb]at this;exact this
  have e2:(r.starts.map fun s=>x*s).map (Rm.tk b)=r.starts.map fun s=>Rm.tk b (x*s):=by rw[List.map_map];rfl
  have bd:∀k,Rm.Bd (c+10+d*k) (Rm.tk b (x*r.at k)):=fun k=>fQ hM.hB (by omega) ((hx.mul (hM.fb.at_ k)).mono (by omega));rw[eb];refine⟨b,p,D,r.rule,r.starts.map fun s=>x*s,fun k=>Rm.tk b (x*r.at k),12,z,c+10,d,rfl,.inr (gD _ _ hP),.inl aD,⟨hM.hB,h12,by decide,by rw[List.length_map];omega,hz,z10,by omega,bd,by omega,by omega,by show 12*(c+10+d*24+12)+z+458<=112100;omega,fun k=>by rw[e1,e2];exact Ga eb hl k⟩,fun v' r' L H' g' hR' hT _ _=>?_⟩;obtain⟨P,hm,hK,hl,hu⟩:=hM.fb.kp;exact q v' r' L H' (gD.trans g') hR' hT ⟨bd,fun k=>Rm.gj _ _,hM.fb.n12,hM.fb.u10,hM.fb.u59,by omega,P,hm,GJ hK,hl,hu⟩
theorem Hh(F:Fn K mg "summed" xg ["row"])(aX:fL P w K mg base)(bN:fV P w K mg base aH)(qU:BQ P w K mg base)(bf:gb P w K mg base)(eX:qj P w K mg base)(aW:dN P w K mg base)(cF:jg P w K mg base)(fW:pQ P w K mg base):CM P w K mg base aH:=by
 refine F.Lx jX (fun vs H Q E h=>?_) (fun f cdv A outer s H vs Q E hr h=>?_)
 ·obtain⟨v,b,r,n,u,c,d,L,rfl,_⟩:=h;rfl
 ·obtain⟨v,b,r,n,u,c,d,L,rfl,hR,hM,lst,n11,hz,hc,hsz,q⟩:=h;refine⟨_,(ak (aJ (i:=1) jX.nd rfl (Or.inl rfl) (bh (xix K) (pv 0) au (fun _ _=>rfl)))
   (ak (aJ (i:=2) jX.nd rfl (Or.inl rfl) (aq aX hr rfl (aO (pv 0) ao)))
   (ak (aJ (i:=3) jX.nd rfl (Or.inl rfl) (aK (jK K) (aM (jx K) rfl B.cR boot_len (aG (bh (xix K) (pv 2) au (fun _ _=>rfl)) ao)) au))
   (ak (eU (ju bN hr rfl (aO (pv 3) ao)))
   (ak (aJ (i:=4) jX.nd rfl (Or.inl rfl) (aq qU hr rfl (aO (pv 1) (aG (aq eX hr rfl (aO (pv 1) (aG (bh (xix K) (pv 2) au (fun _ _=>rfl)) ao))) (Vv (mK (aG (aq bf hr rfl (aO (pv 1) (YJ (Lz Dp au) ao))) (lY au ao))) ao)))))
   (ak (aJ (i:=5) jX.nd rfl (Or.inr rfl) (aq aW hr rfl (aO (pv 2) (aO (pv 3) ao))))
   (aF (aR (aq cF hr rfl (aO (pv 1) (aG (aq fW hr rfl (aO (pv 1) (aO (pv 4) ao))) (aG (dU (sc:=EY) (N:=["n","found"]) (ix:=[none,some 5]) cM rfl (cC rfl B.cQ (aO (pv 3) ao)) (fun cl C s₀ H₀ ex=>⟨(bB (i:=0) iz rfl (Or.inl rfl)),cN,(aM (Vt K rfl) rfl B.Lh boot_sum (aG (qD (xsl K) (pv 1) u6 (vp (aK (jK K) (pv 0) au))) ao))⟩)) ao)))))))))))),?_⟩
  obtain⟨a,p,p2,rfl,hA,hP,hS⟩:=id hR;have eb:=hM.by_;have hb:=hM.hB;have h12:=hM.tG;have hlp:=lst.mon.pos;have hb0:=hM.hB.lo;have ll:=hM.ll lst;have lL:=hM.fb.len hb lst;have u10:=hM.fb.u10;have c10:=hM.fb.c10;refine⟨_,rfl,_,_,.inr (SqT.of hA),rfl,?_⟩;refine⟨_,rfl,.ref a,r,rfl,hR,hM.ok,hM.byp,hM.tame,fun v2 L2 H2 g2 hR2 tK ll2=>?_⟩;have eL:L2=L:=by
   rw[eb]at tK;exact tK.uniq hM.hB.one lst
  subst eL;obtain⟨ok2,_,ea2,l1,l2,eP⟩:=hM.sh lst;obtain⟨a2,s1,s2,rfl,hA2,hP2,hS2⟩:=id hR2;have lS:((aQ r L2).rule.map V.int).length=L2.length-1:=by rw[List.length_map,l1]
  refine⟨_,rfl,_,_,.inr (SqT.of hA2),rfl,.ref s1,L2.length-1,rfl,.inr ⟨_,SqT.of hP2,lS.symm⟩,?_⟩;have eN:((L2.length-1:Nat):Int)+1=(L2.length:Int):=by omega
  refine⟨_,rfl,((L2.length-1:Nat):Int)+1,rfl,fun hle=>?_,fun hlt=>absurd hlt (by omega)⟩;rw[eb];refine⟨_,rfl,_,rfl,_,rfl,_,_,.inr (SqT.of hA2),rfl,b,s1,(aQ r L2).rule,rfl,hb0,hP2,by omega,fun t3 H3 g3 h3=>?_⟩;refine⟨_,rfl,_,rfl,b,-1,rfl,hb0,(by show 2<=sizeLine;decide),fun t4 ht4=>?_⟩;have g4:=Same.new ht4 (.tup ([Rm.tk b (-1),1].map V.int));rw[eP]at h3;have bc:=hM.fb.least hb lst;refine⟨b,t3,t4,L2,[Rm.tk b (-1),1],rfl,hb0,g4 _ _ h3,aD,by omega,(by show 2<=400;decide),Hu bc (by omega),fun x hx=>?_,fun t5 H5 g5 h5=>?_⟩
  ·rcases List.mem_cons.mp hx with rfl|hx
   ·exact fQ hM.hB (by decide) ((Rm.Bd.of (n:=1) (by decide) (by decide)).mono (by decide))
   ·rw[List.mem_singleton.mp hx];exact(Rm.Bd.of (n:=1) (by decide) (by decide)).mono (by decide)
  have g25:=g3.trans (g4.trans g5);refine⟨_,rfl,_,rfl,.ref a2,aQ r L2,((L2.length-1:Nat):Int)+1,rfl,hR2.same g25,ok2,by omega,by omega,fun l6 H6 g6 f6 h6=>?_⟩;have acZ:(aQ r L2).row (((L2.length-1:Nat):Int)+1).toNat=Pm.ofF L2.length r.at:=by
   rw[eN,Int.toNat_natCast,qO,ea2]
  rw[acZ]at h6;obtain⟨hm,hl2⟩:=CF hM.hB.one lst.mon;refine⟨_,rfl,_,rfl,_,rfl,b,t5,Ew b L2,rfl,hb0,g6 _ _ h5,by omega,by omega,fun t7 H7 g7 h7=>?_⟩;have h67:=g7 _ _ h6;refine⟨_,rfl,((L2.length-1:Nat):Int)+1,rfl,(by omega:-(2^62)<=((L2.length-1:Nat):Int)+1),(by omega:((L2.length-1:Nat):Int)+1<2^62),?_⟩;rw[show(((L2.length-1:Nat):Int)+1).toNat=L2.length by omega];refine jh (n:=L2.length) (by omega) rfl (fun n=>Pm.sm (n+1) r.at) ?_ ?_
  ·intro H8 k g8 hk kk hkk;refine⟨_,rfl,_,rfl,_,rfl,.inl ⟨_,SqL.of (g8 _ _ h67),fun l9 hl9=>?_⟩⟩;have eC:yE ((Pm.ofF L2.length r.at).map V.int) none (some (0+(k:Int)+1))=(Pm.ofF (k+1) r.at).map V.int:=by
    rw[show 0+(k:Int)+1=((k+1:Nat):Int)by omega,DF,<-List.map_take,LQ _ (by omega)]
   rw[eC];refine⟨l9,Pm.ofF (k+1) r.at,rfl,SqL.of aD,?_⟩;rw[Pm.ofF,Pm.tO];exact hkk _ (Same.new hl9 _)
  ·intro D H8 hD g8 h8;have e1:(Pm.cO b (Ew b L2)).map (Rm.tk b)=Pm.cO b (Ew b L2):=jo fun y hy=>by
    obtain⟨k,_,rfl⟩:=Pm.dj (show y∈Pm.ofF _ _ from hy);exact nO hb0 _
   have e2:(Pm.ofF L2.length fun n=>Pm.sm (n+1) r.at).map (Rm.tk b)=Pm.ofF L2.length (smA b r.at):=by
    rw[Pm.ofF,Pm.ofF,List.map_map];rfl
   have lR:(Pm.cO b (Ew b L2)).length=L2.length:=by rw[Pm.dR,hl2];rfl
   refine⟨b,t7,D,Pm.cO b (Ew b L2),Pm.ofF L2.length fun n=>Pm.sm (n+1) r.at,smA b r.at,n+1,u+13*(n+1)+23,c+1,d+1,rfl,.inr (g8 _ _ h7),.inl h8,⟨hb,by omega,n11,by rw[Pm.aL,lR],fun x hx=>?_,by omega,hz,fun k=>?_,by omega,hc,hsz,fun k=>by rw[e1,e2];exact Gb hb lst k⟩,fun v' r' L' H' g' hR' hT hF _=>?_⟩
   ·obtain⟨k,_,rfl⟩:=Pm.dj (show x∈Pm.ofF _ _ from hx);refine fQ hb (by omega) ?_;rw[Int.zero_sub];exact Pm.vW (Pm.jD (NS hb (by omega) (by omega) bc) _)
   ·refine fQ hb (by omega) ((Pm.Br (c:=c+d*k) (k+1) fun i hi=>(hM.fb.at_ i).mono (Nat.add_le_add_left (Nat.mul_le_mul_left _ (by omega)) _)).mono ?_);rw[Nat.succ_mul];omega
   ·exact q v' r' L' H' (g2.trans (g25.trans (g6.trans (g7.trans (g8.trans g'))))) hR' hT hF
theorem yM(F:Fn K mg "put_ahead" nU ["row","numbers"])(aX:fL P w K mg base)(bN:fV P w K mg base aH)(cF:jg P w K mg base):uM P w K mg base aH:=by
 refine F.Lx mW (fun vs H Q E h=>?_) (fun f cdv A outer s H vs Q E hr h=>?_)
 ·obtain⟨v,b,r,n,u,c,d,L,ln,ns,rfl,_⟩:=h;rfl
 ·obtain⟨v,b,r,n,u,c,d,L,ln,ns,rfl,hR,hM,lst,hN,n12,hn,hnb,hz,hc,hsz,q⟩:=h;refine⟨_,(ak (aJ (i:=2) mW.nd rfl (Or.inl rfl) (aq aX hr rfl (aO (pv 0) ao)))
   (ak (eU (ju bN hr rfl (nM (aK (jK K) (aM (jx K) rfl B.cR boot_len (aG (bh (xix K) (pv 2) au (fun _ _=>rfl)) ao)) (aM (jx K) rfl B.cR boot_len (aO (pv 1) ao))) ao)))
   (ak (aJ (i:=3) mW.nd rfl (Or.inl rfl) (aK (jK K) (cg (xlist K) rfl B.vL boot_list (aG (bh (xix K) (pv 2) au (fun _ _=>rfl)) ao)) (aK v_mul (nq (lY au ao)) (aM (jx K) rfl B.cR boot_len (aO (pv 1) ao)))))
   (aF (aR (aq cF hr rfl (aG (bh (xix K) (pv 0) au (fun _ _=>rfl)) (aO (pv 3) (nM (aK (jK K) (cg (xlist K) rfl B.vL boot_list (aO (pv 1) ao)) (cg (xlist K) rfl B.vL boot_list (aG (bh (xix K) (pv 2) au (fun _ _=>rfl)) ao))) ao))))))))),?_⟩
  obtain⟨a,p,p2,rfl,hA,hP,hS⟩:=id hR;have eb:=hM.by_;have hb:=hM.hB;have h12:=hM.tG;have hlp:=lst.mon.pos;have hb0:=hM.hB.lo;have lL:=hM.fb.len hb lst;have u10:=hM.fb.u10;have lN:(ns.map V.int).length=ns.length:=List.length_map _;refine⟨_,rfl,.ref a,r,rfl,hR,hM.ok,hM.byp,hM.tame,fun v2 L2 H2 g2 hR2 tK ll2=>?_⟩;have eL:L2=L:=by
   rw[eb]at tK;exact tK.uniq hM.hB.one lst
  subst eL;obtain⟨ok2,bd2,ea2,l1,l2,_⟩:=hM.sh lst;obtain⟨a2,s1,s2,rfl,hA2,hP2,hS2⟩:=id hR2;have lS:((aQ r L2).rule.map V.int).length=L2.length-1:=by rw[List.length_map,l1]
  have hN2:=g2 _ _ hN;refine⟨_,rfl,_,_,.inr (SqT.of hA2),rfl,.ref s1,L2.length-1,rfl,.inr ⟨_,SqT.of hP2,lS.symm⟩,_,rfl,.ref ln,ns.length,rfl,.inl ⟨_,SqL.of hN2,lN.symm⟩,?_⟩;refine⟨((L2.length-1:Nat):Int)+(ns.length:Int),rfl,fun hle=>?_,fun hlt=>absurd hlt (by omega)⟩;refine⟨_,rfl,_,_,.inr (SqT.of hA2),rfl,s1,_,rfl,.inr (SqT.of hP2),fun l3 hl3=>?_⟩;have g3:=Same.new hl3 (.lst ((aQ r L2).rule.map V.int));refine⟨(by show 1<=sizeLine;decide),fun l4 hl4=>?_⟩;have g4:=Same.new hl4 (.lst [.int 0]);have h4:(upd (upd H2 l3 (.lst ((aQ r L2).rule.map V.int))) l4 (.lst [.int 0])) l4=some (.lst [.int 0]):=aD;have h3:(upd (upd H2 l3 (.lst ((aQ r L2).rule.map V.int))) l4 (.lst [.int 0])) l3=some (.lst ((aQ r L2).rule.map V.int)):=g4 _ _ aD;have g34:=g3.trans g4;generalize upd (upd H2 l3 (.lst ((aQ r L2).rule.map V.int))) l4 (.lst [.int 0])=H4 at g34 h3 h4;refine⟨_,rfl,.ref ln,ns.length,rfl,.inl ⟨_,SqL.of (g34 _ _ hN2),lN.symm⟩,?_⟩;refine⟨_,h4,by omega,by omega,?_,fun l5 hl5=>?_⟩
  ·show 1*(ns.length:Int).toNat<=sizeLine;rw[Nat.one_mul];exact Nat.le_of_lt (bU (by omega))
  rw[show(ns.length:Int).toNat=ns.length from Int.toNat_natCast _,iU];have g5:=Same.new hl5 (.lst ((zer ns.length).map V.int));have h5:(upd H4 l5 (.lst ((zer ns.length).map V.int))) l5=some (.lst ((zer ns.length).map V.int)):=aD;have h35:=g5 _ _ h3;have g35:=g34.trans g5;generalize upd H4 l5 (.lst ((zer ns.length).map V.int))=H5 at g35 h5 h35;refine .inl ⟨_,_,h35,h5,?_,fun l6 hl6=>?_⟩
  ·rw[List.length_map,List.length_map,Pm.aL];exact Nat.le_of_lt (bU (by omega))
  rw[<-List.map_append];have g6:=Same.new hl6 (.lst (((aQ r L2).rule++zer ns.length).map V.int));have h6:(upd H5 l6 (.lst (((aQ r L2).rule++zer ns.length).map V.int))) l6=some (.lst (((aQ r L2).rule++zer ns.length).map V.int)):=aD;have g36:=g35.trans g6;generalize upd H5 l6 (.lst (((aQ r L2).rule++zer ns.length).map V.int))=H6 at g36 h6;refine⟨_,rfl,_,_,.inr (SqT.of ((g2.trans g36) _ _ hA)),rfl,_,rfl,?_⟩;refine⟨_,rfl,ln,_,rfl,.inl (SqL.of (g36 _ _ hN2)),fun l7 hl7=>?_⟩;have g7:=Same.new hl7 (.lst (ns.map V.int));refine⟨_,rfl,_,_,.inr (SqT.of (g7 _ _ (g36 _ _ hA2))),rfl,s2,_,rfl,.inr (SqT.of (g7 _ _ (g36 _ _ hS2))),fun l8 hl8=>?_⟩;have g8:=Same.new hl8 (.lst ((aQ r L2).starts.map V.int));refine .inl ⟨_,_,g8 _ _ aD,aD,?_,fun l9 hl9=>?_⟩
  ·rw[List.length_map,List.length_map,l2];exact Nat.le_of_lt (bU (by omega))
  rw[<-List.map_append];have g9:=Same.new hl9 (.lst ((ns++(aQ r L2).starts).map V.int));have g79:=g7.trans (g8.trans g9);rw[eb];have n0:gk b 0:=by
   by_cases z:b=0
   ·exact .inl z
   ·exact .inr ⟨Int.le_refl _,by omega⟩
  have e1:((aQ r L2).rule++zer ns.length).map (Rm.tk b)=(aQ r L2).rule++zer ns.length:=jo fun y hy=>by
   rcases List.mem_append.mp hy with z|z
   ·have:=ok2.lD y z;rw[show(aQ r L2).b=b from eb]at this;exact this
   ·obtain⟨k,_,rfl⟩:=Pm.dj z;exact n0
  have e2:(ns++(aQ r L2).starts).map (Rm.tk b)=ns++(aQ r L2).starts:=jo fun y hy=>by
   rcases List.mem_append.mp hy with z|z
   ·exact hn y z
   ·have:=ok2.gU y z;rw[show(aQ r L2).b=b from eb]at this;exact this
  have ea:∀k,(⟨b,(aQ r L2).rule++zer ns.length,ns++(aQ r L2).starts⟩:Rw).at k=ahd ns r.at k:=fun k=>by
   rw[LC (by omega),<-ea2];unfold ahd;split
   ·rfl
   ·show Rm.at_ b _ _ _=Rm.at_ r.b _ _ _;rw[eb]
  refine⟨b,l6,l9,(aQ r L2).rule++zer ns.length,ns++(aQ r L2).starts,ahd ns r.at,n+ns.length,u+13*(n+1),c,d,rfl,.inl (g79 _ _ h6),.inl aD,⟨hb,by rw[List.length_append,Pm.aL];omega,n12,by rw[List.length_append,List.length_append,Pm.aL];omega,fun x hx=>?_,by omega,hz,fun k=>?_,hM.fb.c10,hc,hsz,fun k=>by rw[e1,e2];exact ea k⟩,fun v' r' L' H' g' hR' hT' hF' hl'=>?_⟩
  ·rcases List.mem_append.mp hx with z|z
   ·exact bd2 x z
   ·obtain⟨k,_,rfl⟩:=Pm.dj z;exact Rm.Bd.zero _
  ·unfold ahd;split
   ·exact(Pm.jD hnb _).mono (Nat.le_add_right _ _)
   ·exact(hM.fb.at_ _).mono (Nat.add_le_add_left (Nat.mul_le_mul_left _ (by omega)) _)
  ·rw[List.length_append,Pm.aL]at hl';have hlen:=hT'.len;exact q v' r' L' H' (g2.trans (g36.trans (g79.trans g'))) hR' hT' hF' (by omega)
theorem wW(F:Fn K mg "refuse_far" mj ["n"]):sW P w K mg base:=by
 refine F.cal wQ (fun vs H Q E h=>?_) (fun f cdv A outer s H vs Q E hr h=>?_)
 ·obtain⟨n,rfl,_⟩:=h;rfl
 ·obtain⟨n,rfl,h0,h1,q⟩:=h;refine⟨_,(aF (eV (PW.pt (vG (aU xG (pv 0) au (bw _)) (vM (aU qH (pv 0) (pF rfl B.j4) (bw _)))))
   (aF nH)
   bQ)),?_⟩
  refine⟨_,rfl,_,_,rfl,rfl,_,rfl,?_⟩;refine ni (fun c=>absurd (dec_true c) (by omega)) (fun _=>?_);refine⟨_,rfl,_,_,rfl,rfl,_,rfl,?_⟩;refine ni (fun c=>absurd (dec_true c) (by omega)) (fun _=>?_);exact q
theorem Fl(F:Fn K mg "places" wL ["row","count"])(m9:sW P w K mg base)(aW:dN P w K mg base):DR P w K mg base:=by
 refine F.cal GZ (fun vs H Q E h=>?_) (fun f cdv A outer s H vs Q E hr h=>?_)
 ·obtain⟨v,r,c,rfl,_⟩:=h;rfl
 ·obtain⟨v,r,c,rfl,hR,ok,h0,h1,q⟩:=h;refine⟨_,(ak (eU (aq m9 hr rfl (aO (pv 1) ao)))
   (aF (aR (aq aW hr rfl (aO (pv 0) (aO (pv 1) ao)))))),?_⟩
  refine⟨_,rfl,c,rfl,h0,h1,?_⟩;exact⟨_,rfl,_,rfl,v,r,c,rfl,hR,ok,h0,by omega,q⟩
theorem qL(F:Fn K mg "common_divisor" iC ["one","other"]):lU P w K mg base:=by
 refine F.cal cP (fun vs H Q E h=>?_) (fun f cdv A outer s H vs Q E hr h=>?_)
 ·obtain⟨x,y,rfl,_⟩:=h;rfl
 ·obtain⟨x,y,rfl,q⟩:=h;refine⟨_,(ak (aJ (i:=2) cP.nd rfl (Or.inl rfl) (aM DP rfl B.SX boot_abs (aO (pv 0) ao)))
   (ak (aJ (i:=3) cP.nd rfl (Or.inl rfl) (aM DP rfl B.SX boot_abs (aO (pv 1) ao)))
   (ak (iV PassesOwn.never (aU qH (pv 3) au (bw _))
   (ak (aJ (i:=4) cP.nd rfl (Or.inl rfl) (aK dz (pv 2) (pv 3)))
   (ak (aJ (i:=2) cP.nd rfl (Or.inl rfl) (pv 3))
   (aF (aJ (i:=3) cP.nd rfl (Or.inl rfl) (pv 4))))))
   (aF (aR (pv 2)))))),?_⟩
  refine⟨_,rfl,x,rfl,?_⟩;refine⟨_,rfl,y,rfl,?_⟩;rw[C0,C0];refine⟨fun t σ' H'=>∃(g w:Nat) (o4:Option V),w=t/\Nat.gcd g w=Nat.gcd x.natAbs y.natAbs/\σ'=[some (.int x),some (.int y),some (.int g),some (.int w),o4]/\H=H',⟨_,x.natAbs,y.natAbs,_,rfl,rfl,rfl,rfl⟩,?_⟩;rintro t σ' H' ⟨g,w,o4,rfl,hg,rfl,rfl⟩;refine⟨_,rfl,_,_,rfl,rfl,_,rfl,?_⟩;refine ni (fun c=>?_) (fun c=>?_)
  ·have hw:0<w:=by have:=dec_true c;omega
   refine⟨_,fun _ _ z=>z,?_⟩;refine⟨_,rfl,_,rfl,_,_,rfl,rfl,(by omega:(0:Int)<(w:Int)),?_⟩;refine⟨_,rfl,?_⟩;refine⟨_,rfl,?_⟩;refine⟨g%w,Nat.mod_lt _ hw,w,g%w,some (.int ((g%w:Nat):Int)),rfl,?_,?_,rfl⟩
   ·rw[<-hg,Nat.gcd_comm w,<-Nat.gcd_rec,Nat.gcd_comm]
   ·rw[Int.natCast_emod];rfl
  ·have hw:w=0:=by have:=dec_false c;omega
   subst hw;rw[Nat.gcd_zero_right]at hg;rw[<-hg]at q;exact⟨_,rfl,q⟩
theorem vf(F:Fn K mg "refuse_prime" jB ["row"]):gR P w K mg base bG:=by
 refine F.Lx um (fun vs H Q E h=>?_) (fun f cdv A outer s H vs Q E hr h=>?_)
 ·obtain⟨v,r,rfl,_⟩:=h;rfl
 ·obtain⟨v,r,rfl,⟨a,p,p2,rfl,hA,hR,hS⟩,q1,q2⟩:=h;refine⟨_,(aF (eV (aU (xne K hr) (bh (xix K) (pv 0) au (fun _ _=>rfl)) au (bw _))
   (aF (Cw M.RW rfl (lY Nh ao)))
   bQ)),?_⟩
  refine⟨_,rfl,_,_,.inr (SqT.of hA),rfl,_,rfl,?_⟩;refine ni (fun c=>⟨(by show 1<=sizeLine;decide),q2 fun z=>?_⟩) (fun c=>q1 ?_)
  ·rw[z]at c;exact absurd c (by decide)
  ·by_cases z:r.b=0
   ·exact z
   ·exact absurd (by rw[decide_eq_false z];rfl) c
theorem Bm(F:Fn K mg "rest_row" qJ ["row","divisor"])(bf:gb P w K mg base):rR P w K mg base:=by
 refine F.cal nT (fun vs H Q E h=>?_) (fun f cdv A outer s H vs Q E hr h=>?_)
 ·obtain⟨v,r,d,rfl,_⟩:=h;rfl
 ·obtain⟨v,r,d,rfl,⟨a,p,p2,rfl,hA,hR,hS⟩,ok,hd,q⟩:=h;refine⟨_,(ak (aJ (i:=2) nT.nd rfl (Or.inl rfl) (cg (jU K) rfl B.gK boot_tuple (aG (dU (sc:=zR) (N:=["number","divisor"]) (ix:=[none,some 1]) cM rfl (JB K (bh (xix K) (pv 0) au (fun _ _=>rfl))) (fun cl C s₀ H₀ ex=>⟨(bB (i:=0) iz rfl (Or.inl rfl)),cN,(aq bf hr rfl (aO (pv 1) (aO (pv 0) ao)))⟩)) ao)))
   (ak (aJ (i:=3) nT.nd rfl (Or.inl rfl) (cg (jU K) rfl B.gK boot_tuple (aG (dU (sc:=zV) (N:=["number","divisor"]) (ix:=[none,some 1]) cM rfl (JB K (bh (xix K) (pv 0) au (fun _ _=>rfl))) (fun cl C s₀ H₀ ex=>⟨(bB (i:=0) iz rfl (Or.inl rfl)),cN,(aq bf hr rfl (aO (pv 1) (aO (pv 0) ao)))⟩)) ao)))
   (aF (aR (mK (aO (pv 1) (aO (pv 2) (aO (pv 3) ao)))))))),?_⟩
  have hl:=ok.len;have hl2:=ok.short;refine⟨_,rfl,_,_,.inr (SqT.of hA),rfl,p,rfl,.inr ⟨⟨_,SqT.of hR⟩,pC hR (by omega) rfl (fun x=>Rm.tk d x) ?_ ?_⟩⟩
  ·intro H4 x g4 hx kk hk;exact⟨_,rfl,_,rfl,d,x,rfl,by omega,hk⟩
  intro D1 hD1;refine⟨D1,_,rfl,.inl ⟨SqL.of aD,fun t1 ht1=>?_⟩⟩;have g1:=(Same.new hD1 (.lst ((r.rule.map fun x=>Rm.tk d x).map V.int))).trans (Same.new ht1 (.tup ((r.rule.map fun x=>Rm.tk d x).map V.int)));have h1:(upd (upd H D1 (.lst ((r.rule.map fun x=>Rm.tk d x).map V.int))) t1 (.tup ((r.rule.map fun x=>Rm.tk d x).map V.int))) t1=some (.tup ((r.rule.map fun x=>Rm.tk d x).map V.int)):=aD;have hA1:=g1 _ _ hA;have hS1:=g1 _ _ hS;generalize upd (upd H D1 (.lst ((r.rule.map fun x=>Rm.tk d x).map V.int))) t1 (.tup ((r.rule.map fun x=>Rm.tk d x).map V.int))=H1 at g1 h1 hA1 hS1;refine⟨_,rfl,_,_,.inr (SqT.of hA1),rfl,p2,rfl,.inr ⟨⟨_,SqT.of hS1⟩,pC hS1 (by omega) rfl (fun x=>Rm.tk d x) ?_ ?_⟩⟩
  ·intro H4 x g4 hx kk hk;exact⟨_,rfl,_,rfl,d,x,rfl,by omega,hk⟩
  intro D2 hD2;refine⟨D2,_,rfl,.inl ⟨SqL.of aD,fun t2 ht2=>?_⟩⟩;have g2:=(Same.new hD2 (.lst ((r.starts.map fun x=>Rm.tk d x).map V.int))).trans (Same.new ht2 (.tup ((r.starts.map fun x=>Rm.tk d x).map V.int)));have h2:(upd (upd H1 D2 (.lst ((r.starts.map fun x=>Rm.tk d x).map V.int))) t2 (.tup ((r.starts.map fun x=>Rm.tk d x).map V.int))) t2=some (.tup ((r.starts.map fun x=>Rm.tk d x).map V.int)):=aD;have h1':=g2 _ _ h1;generalize upd (upd H1 D2 (.lst ((r.starts.map fun x=>Rm.tk d x).map V.int))) t2 (.tup ((r.starts.map fun x=>Rm.tk d x).map V.int))=H2 at g2 h2 h1';refine⟨_,rfl,_,rfl,_,rfl,(by show 3<=sizeLine;decide),fun pz hpz=>?_⟩;have gz:=Same.new hpz (.tup [.int d,.ref t1,.ref t2]);exact q _ _ (g1.trans (g2.trans gz)) ⟨pz,t1,t2,rfl,aD,gz _ _ h1',gz _ _ h2⟩
theorem B7(F:Fn K mg "by_prime" rE ["row","prime"])(cG:gR P w K mg base bG)(jc:rR P w K mg base):wA P w K mg base bG:=by
 refine F.cal Az (fun vs H Q E h=>?_) (fun f cdv A outer s H vs Q E hr h=>?_)
 ·obtain⟨v,r,d,rfl,_⟩:=h;rfl
 ·obtain⟨v,r,d,rfl,hR,ok,hd,hb,q⟩:=h;refine⟨_,(ak (eU (aq cG hr rfl (aO (pv 0) ao)))
   (aF (aR (aq jc hr rfl (aO (pv 0) (aO (pv 1) ao)))))),?_⟩
  exact⟨_,rfl,v,r,rfl,hR,fun _=>⟨_,rfl,_,rfl,v,r,d,rfl,hR,ok,hd,q⟩,fun z=>absurd hb z⟩
theorem yF(F:Fn K mg "undivided" oX ["row","divisor","start","step"])(cG:gR P w K mg base bG)(cI:f9 P w K mg base)(aW:dN P w K mg base)(jc:rR P w K mg base):uN P w K mg base:=by
 refine F.cal jz (fun vs H Q E h=>?_) (fun f cdv A outer s H vs Q E hr h=>?_)
 ·obtain⟨v,r,d,rfl,_⟩:=h;rfl
 ·obtain⟨v,r,d,rfl,hR,ok,hb,hd,hF,h12,q1,q2⟩:=h;refine⟨_,(ak (eU (aq cG hr rfl (aO (pv 0) ao)))
   (ak (eU (aq cI hr rfl (aO (pv 2) (aO (pv 3) ao))))
   (ak (eV (aU xG (pv 1) au (bw _))
   (aF nH)
   bQ)
   (ak (aJ (i:=4) jz.nd rfl (Or.inl rfl) (aM (jx K) rfl B.cR boot_len (aG (bh (xix K) (pv 0) au (fun _ _=>rfl)) ao)))
   (ak (aJ (i:=5) jz.nd rfl (Or.inl rfl) (aq aW hr rfl (aG (aq jc hr rfl (aO (pv 0) (aO (pv 1) ao))) (nM (aK (jK K) (pv 2) (aK v_mul (pv 3) (pv 4))) ao))))
   (ak (mU PassesOwn.never rfl (cC rfl B.cQ (aO (pv 4) ao)) (bB (i:=6) jz.nd rfl (Or.inl rfl))
   (aF (eV (aU (xne K hr) (bh (xix K) (pv 5) (aK (jK K) (pv 2) (aK v_mul (pv 3) (pv 6))) (fun _ _=>rfl)) au (bw _))
   (aF (aR (pv 6)))
   bQ)))
   (aF (aR MQ)))))))),?_⟩
  refine⟨_,rfl,v,r,rfl,hR,fun _=>?_,fun z=>absurd hb z⟩;refine⟨_,rfl,_,rfl,0,1,rfl,by decide,by decide,by decide,?_⟩;refine⟨_,rfl,_,_,rfl,rfl,_,rfl,?_⟩;rw[decide_eq_false (by omega:¬d<1)];refine tW ?_;have hR':=hR;obtain⟨a,p,p2,rfl,hA,hRu,hS⟩:=hR;have lR:(r.rule.map V.int).length=r.rule.length:=List.length_map _;refine⟨_,rfl,_,_,.inr (SqT.of hA),rfl,.ref p,r.rule.length,rfl,.inr ⟨_,SqT.of hRu,lR.symm⟩,?_⟩;refine⟨_,rfl,_,rfl,.ref a,r,d,rfl,hR',ok,hd,fun v' H1 g1 hR1=>?_⟩;refine⟨_,rfl,_,rfl,_,rfl,mulL (by omega) (by omega),v',r.rests d,0+1*(r.rule.length:Int),rfl,hR1,ok.rests hF,by omega,by omega,fun l H2 g2 hl2' hr2=>?_⟩;rw[show(0+1*(r.rule.length:Int)).toNat=r.rule.length by omega]at hr2;have gg:=g1.trans g2;refine⟨_,rfl,(r.rule.length:Int),rfl,(by omega:-(2^62)<=(r.rule.length:Int)),(by omega:(r.rule.length:Int)<2^62),?_⟩;rw[Int.toNat_natCast];refine gY (lo:=0) (n:=r.rule.length) (fun i σ' H'=>∃o6:Option V,σ'=[some (.ref a),some (.int d),some (.int 0),some (.int 1),some (.int (r.rule.length:Int)),some (.ref l),o6]/\H2=H'/\∀j,j<i->Rm.tk d (r.at j)=0) ⟨_,rfl,rfl,fun j hj=>absurd hj (Nat.not_lt_zero _)⟩ ?_ ?_
  ·rintro i σ' H' hi ⟨o6,rfl,rfl,hj⟩;refine⟨_,rfl,_,rfl,_,rfl,_,rfl,mulL (by omega) (by omega),_,_,.inl (SqL.of hr2),cA (ns:=(r.rests d).row r.rule.length) (k:=(0:Int)+1*(0+(i:Int))) (by omega) (by rw[Rw.iD];omega),_,rfl,?_⟩;have ev:((r.rests d).row r.rule.length).getD ((0:Int)+1*(0+(i:Int))).toNat 0=Rm.tk d (r.at i):=by
    rw[show((0:Int)+1*(0+(i:Int))).toNat=i by omega];exact(Rm.BX _ _ _ hi).trans (Rw.C7 ok hb hd _)
   rw[ev];by_cases z:Rm.tk d (r.at i)=0
   ·rw[decide_eq_true z];exact tW ⟨some (.int (0+(i:Int))),rfl,rfl,fun j hj'=>by
     by_cases e:j=i
     ·rw[e];exact z
     ·exact hj j (by omega)⟩
   ·rw[decide_eq_false z];refine QJ ⟨_,rfl,?_⟩;rw[Int.zero_add];exact q2 (fun h=>z (h i hi)) i _ gg
  ·rintro σ' H' ⟨o6,rfl,rfl,hj⟩;exact q1 hj _ gg
theorem wK(F:Fn K mg "divisor_of" mq ["row"])(cG:gR P w K mg base bG)(iJ:lU P w K mg base):mY P w K mg base bG:=by
 refine F.Lx iZ (fun vs H Q E h=>?_) (fun f cdv A outer s H vs Q E hr h=>?_)
 ·obtain⟨v,r,rfl,_⟩:=h;rfl
 ·obtain⟨v,r,rfl,hR,q1,q2⟩:=h;refine⟨_,(ak (eU (ju cG hr rfl (aO (pv 0) ao)))
   (ak (aJ (i:=1) iZ.nd rfl (Or.inl rfl) au)
   (ak (mU PassesOwn.leaving rfl (JB K (bh (xix K) (pv 0) au (fun _ _=>rfl))) (bB (i:=2) iZ.nd rfl (Or.inl rfl))
   (aF (aJ (i:=1) iZ.nd rfl (Or.inl rfl) (aq iJ hr rfl (aO (pv 1) (aO (pv 2) ao))))))
   (aF (aR (pv 1)))))),?_⟩
  refine⟨_,rfl,v,r,rfl,hR,fun c=>?_,q2⟩;obtain⟨a,p,p2,rfl,hA,hRu,hS⟩:=hR;refine⟨_,rfl,_,_,.inr (SqT.of hA),rfl,p2,rfl,.inr ⟨⟨_,SqT.of hS⟩,?_⟩⟩;refine PJ (yc (SqT.of hS)) (fun i σ' H'=>∃o2:Option V,σ'=[some (.ref a),some (.int ((Lm.Dq 0 (r.starts.take i):Nat):Int)),o2]/\H=H') ⟨_,rfl,rfl⟩ (fun i σ' H' ⟨_,_,z⟩=>z▸Same.refl _) ?_ ?_
  ·rintro i x σ' H' hx ⟨o2,rfl,rfl⟩;obtain⟨rfl,hi⟩:=oF hx;refine⟨_,rfl,_,rfl,_,_,rfl,⟨some (.int (Pm.co r.starts i)),?_,rfl⟩⟩;rw[Int.natAbs_natCast,<-Lm.Fg,<-Ph hi];rfl
  ·rintro σ' H' ⟨o2,rfl,rfl⟩;rw[List.length_map,List.take_length];exact⟨_,rfl,q1 c⟩
theorem Kw(F:Fn K mg "_law_done" Bv ["_law_way","_law_one","_law_other","_law_cell"])(B4:Ge P w K mg base aH)(mF:sO P w K mg base aH)(xu:CV P w K mg base aH)(wO:Dt P w K mg base)(kO:xP P w K mg base)(yq:CM P w K mg base aH)(B6:FJ P w K mg base)(nZ:uM P w K mg base aH):Jw P w K mg base:=by
 refine F.cal CW (fun vs H Q E h=>?_) (fun f cdv A outer s H vs Q E hr h=>?_)
 ·obtain⟨w,cell,b,v1,v2,r1,r2,rfl,_⟩:=h;rfl
 ·obtain⟨w,cell,b,v1,v2,r1,r2,rfl,hR1,hR2,M1,M2,hr1,w0,w6,c0,c6,q⟩:=h;refine⟨_,(ak (aJ (i:=4) CW.nd rfl (Or.inr rfl) (aK cB (aK dz (pv 3) au) au))
   (ak (eV (aU (xeq K hr) (pv 0) au (bw _))
   (aF (aR (aq B4 hr rfl (aO (pv 1) (aO (pv 2) ao)))))
   bQ)
   (ak (eV (aU (xeq K hr) (pv 0) au (bw _))
   (aF (aR (aq mF hr rfl (aO (pv 1) (aO (pv 2) ao)))))
   bQ)
   (ak (eV (aU (xeq K hr) (pv 0) au (bw _))
   (aF (aR (aq xu hr rfl (aO (pv 1) (aO (pv 2) ao)))))
   bQ)
   (ak (eV (aU (xeq K hr) (pv 0) au (bw _))
   (aF (aR (aq wO hr rfl (aO (pv 1) (aG (aq kO hr rfl (aG (bh (xix K) (pv 1) au (fun _ _=>rfl)) (aO (pv 4) ao))) ao)))))
   bQ)
   (ak (eV (aU (xeq K hr) (pv 0) au (bw _))
   (aF (aR (aq yq hr rfl (aO (pv 1) ao))))
   bQ)
   (ak (eV (aU (xeq K hr) (pv 0) au (bw _))
   (aF (aR (aq B6 hr rfl (aO (pv 1) (nM (aK dz (pv 3) au) (nM (aK (jK K) au (aK dz (aK j6 (pv 3) au) au)) ao))))))
   bQ)
   (aF (aR (aq nZ hr rfl (aO (pv 1) (aG (dU (sc:=Fy) (N:=["_law_k","_law_number_here","_law_one"]) (ix:=[none,some 4,some 1]) cM rfl (cC rfl B.cQ (nM (aK dz (aK j6 (pv 3) au) au) ao)) (fun cl C s₀ H₀ ex=>⟨(bB (i:=0) iz rfl (Or.inl rfl)),cN,(aq kO hr rfl (aG (bh (xix K) (pv 2) au (fun _ _=>rfl)) (nM (aK (jK K) (pv 1) (pv 0)) ao)))⟩)) ao)))))))))))),?_⟩
  have hb:=M1.hB;obtain⟨L1,vq,_⟩:=M1.ex;obtain⟨L2,tK,_⟩:=M2.ex;have l1:=M1.fb.len hb vq;have l2:=M2.fb.len hb tK;have p1:=vq.mon.pos;have p2:=tK.mon.pos;have x0:=dg cell (show(0:Int)<9 by decide);have x1:=cZ cell (show(0:Int)<9 by decide);refine⟨_,rfl,_,_,rfl,rfl,(by decide:(0:Int)<9),_,_,rfl,rfl,?_⟩;refine⟨_,rfl,_,rfl,?_⟩;by_cases z0:w=0
  ·subst z0;rw[decide_eq_true rfl];refine QJ ⟨_,rfl,_,rfl,v1,v2,rfl,b,r1,r2,3,45,45,49,3,45,45,49,L1,L2,hR1,hR2,M1,M2,vq,tK,by decide,by decide,by decide,fun _=>⟨6,46,49,by omega,by decide,Ug vq.kp tK.kp,UU hb M1.fb M2.fb,by decide,by decide,by decide,fun v' r' L' H' g' hR' hT' hF' _=>?_⟩,fun z=>by omega⟩;exact q v' r' H' g' hR' (Again.mk hb hT' hF' (by decide))
  rw[decide_eq_false z0];refine tW ⟨_,rfl,_,rfl,?_⟩;by_cases z1:w=1
  ·subst z1;rw[decide_eq_true rfl];have p9:(L1.length-1)*(L2.length-1)<=3*3:=Nat.mul_le_mul (by omega) (by omega);refine QJ ⟨_,rfl,_,rfl,v1,v2,rfl,b,r1,r2,3,45,45,49,3,45,45,49,L1,L2,hR1,hR2,M1,M2,vq,tK,by decide,by decide,fun _=>⟨9,90,98,by omega,by decide,Te hb M1.fb M2.fb,by decide,by decide,by decide,by decide,fun v' r' L' H' g' hR' hT' hF' _=>?_⟩,fun z=>by omega⟩;exact q v' r' H' g' hR' (Again.mk hb hT' hF' (by decide))
  rw[decide_eq_false z1];refine tW ⟨_,rfl,_,rfl,?_⟩;by_cases z2:w=2
  ·subst z2;rw[decide_eq_true rfl];refine QJ ⟨_,rfl,_,rfl,v1,v2,rfl,b,r1,r2,3,45,45,49,3,45,45,49,L1,L2,hR1,hR2,M1,M2,vq,tK,by decide,by decide,by decide,fun _=>⟨6,91,50,by omega,by decide,Pu vq.kp tK.kp,Oi hb M1.fb M2.fb,by decide,by decide,by decide,fun v' r' L' H' g' hR' hT' hF' _=>?_⟩,fun z=>by omega⟩;exact q v' r' H' g' hR' (Again.mk hb hT' hF' (by decide))
  rw[decide_eq_false z2];refine tW ⟨_,rfl,_,rfl,?_⟩;obtain⟨a1,q1,q2,e1,hA1,hP1,hS1⟩:=id hR1;subst e1;have eb:=M1.by_;by_cases z3:w=3
  ·subst z3;rw[decide_eq_true rfl];refine QJ ⟨_,rfl,_,rfl,_,_,.inr (SqT.of hA1),rfl,_,rfl,r1.b,cell%9-4,rfl,by rw[eb];exact hb.lo,?_⟩;rw[eb];refine⟨.ref a1,b,r1,Rm.tk b (cell%9-4),3,45,45,49,45,rfl,hR1,M1,fQ hb (by decide) (Rm.Bd.of (by show -(2^10)<cell%9-4;omega) (by show cell%9-4<2^10;omega)),hr1,by decide,by decide,by decide,by decide,fun v' r' L' H' g' hR' hT' hF'=>?_⟩;exact q v' r' H' g' hR' (Again.mk hb hT' hF' (by decide))
  rw[decide_eq_false z3];refine tW ⟨_,rfl,_,rfl,?_⟩;by_cases z4:w=4
  ·subst z4;rw[decide_eq_true rfl];refine QJ ⟨_,rfl,.ref a1,b,r1,3,45,45,49,L1,rfl,hR1,M1,vq,by decide,by decide,by decide,by decide,fun v' r' L' H' g' hR' hT' hF'=>?_⟩;exact q v' r' H' g' hR' (Again.mk hb hT' hF' (by decide))
  rw[decide_eq_false z4];refine tW ⟨_,rfl,_,rfl,?_⟩;by_cases z5:w=5
  ·subst z5;rw[decide_eq_true rfl];have s0:=dg cell (show(0:Int)<5 by decide);have s1:=cZ cell (show(0:Int)<5 by decide);have t0:=dg (cell/5) (show(0:Int)<3 by decide);have t1:=cZ (cell/5) (show(0:Int)<3 by decide);refine QJ ⟨_,rfl,_,rfl,_,_,rfl,rfl,(by decide:(0:Int)<5),_,rfl,_,_,rfl,rfl,⟨by decide,by decide⟩,_,_,rfl,rfl,(by decide:(0:Int)<3),?_⟩;dsimp only[Ku];have e0:((cell%5).toNat:Int)=cell%5:=Int.toNat_of_nonneg s0;have e1:((1+cell/5%3).toNat:Int)=1+cell/5%3:=Int.toNat_of_nonneg (by omega);have k2:49*(cell%5).toNat<=49*4:=Nat.mul_le_mul_left _ (by omega);have k3:49*(1+cell/5%3).toNat<=49*3:=Nat.mul_le_mul_left _ (by omega);have k4:(1+cell/5%3).toNat*3<=9:=by omega
   have k5:(45+13*(3+1)+3)*((1+cell/5%3).toNat*3)<=100*9:=Nat.mul_le_mul_left _ k4;refine⟨.ref a1,(cell%5).toNat,(1+cell/5%3).toNat,by rw[e0,e1];rfl,b,r1,3,45,45,49,L1,hR1,M1,vq,by omega,by omega,by omega,by omega,by omega,by omega,fun v' r' L' H' g' hR' hT' hF' _=>?_⟩;exact q v' r' H' g' hR' (Again.mk hb hT' hF' (by omega))
  rw[decide_eq_false z5];refine tW ?_;dsimp only[TX];have s0:=dg (cell/9) (show(0:Int)<3 by decide);have s1:=cZ (cell/9) (show(0:Int)<3 by decide);refine⟨_,rfl,_,rfl,_,_,rfl,rfl,⟨by decide,by decide⟩,_,_,rfl,rfl,(by decide:(0:Int)<3),cell/9%3,rfl,(by omega:-(2^62)<=cell/9%3),(by omega:cell/9%3<2^62),?_⟩;have hm2:(cell/9%3).toNat<=2:=by omega
  have ew:doF b w cell r1.at r2.at=ahd (Pm.ofF (cell/9%3).toNat fun k=>Rm.tk b (cell%9-4+(k:Int))) r1.at:=by
   unfold doF;rw[if_neg z0,if_neg z1,if_neg z2,if_neg z3,if_neg z4,if_neg z5]
  rw[ew]at q;generalize (cell/9%3).toNat=m at hm2 q;refine jh (n:=m) (by omega) rfl (fun k=>Rm.tk b (cell%9-4+(k:Int))) ?_ ?_
  ·intro H2 k g2 hk kk hkk;refine⟨_,rfl,_,_,.inr (SqT.of (g2 _ _ hA1)),rfl,_,rfl,_,rfl,r1.b,cell%9-4+(0+(k:Int)),rfl,by rw[eb];exact hb.lo,?_⟩;rw[eb,Int.zero_add];exact hkk _ (Same.refl _)
  intro D H2 hD g2 h2;have lN:(Pm.ofF m fun k=>Rm.tk b (cell%9-4+(k:Int))).length=m:=Pm.aL ..;refine⟨.ref a1,b,r1,3,45,45,49,L1,D,_,rfl,hR1.same g2,M1,vq,h2,by rw[lN];omega,fun x hx=>?_,fun x hx=>?_,by decide,by decide,?_,fun v' r' L' H' g' hR' hT' hF' _=>?_⟩
  ·obtain⟨k,_,rfl⟩:=Pm.dj hx;exact nO hb.lo _
  ·obtain⟨k,hk,rfl⟩:=Pm.dj hx;exact fQ hb (by decide) (Rm.Bd.of (by show -(2^45)<cell%9-4+(k:Int);omega) (by show cell%9-4+(k:Int)<2^45;omega))
  ·rw[lN];have:(3+m)*(45+49*(2*(3+m))+(3+m))<=5*(45+49*10+5):=Nat.mul_le_mul (by omega) (by omega);omega
  ·rw[lN]at hF';refine q v' r' H' (g2.trans g') hR' (Again.mk hb hT' hF' ?_);have:(3+m)*(45+49*(2*(3+m))+(3+m))<=5*(45+49*10+5):=Nat.mul_le_mul (by omega) (by omega);omega
theorem Al(F:Fn K mg "_law_refused" sG ["_law_row_here"])(fJ:mY P w K mg base bG):vY P w K mg base:=by
 refine F.cal j8 (fun vs H Q E h=>?_) (fun f cdv A outer s H vs Q E hr h=>?_)
 ·obtain⟨v,r,rfl,_⟩:=h;rfl
 ·obtain⟨v,r,rfl,hR,hb,q⟩:=h;refine⟨_,(ak (aJ (i:=1) j8.nd rfl (Or.inl rfl) MQ)
   (ak (ED (j:=2) fJ hr rfl rfl rfl rfl (aO (pv 0) ao) j8.nd rfl rfl rfl M.Ai (fun a=>(aF (aJ (i:=1) j8.nd rfl (Or.inl rfl) (pv 2)))))
   (aF (aR (aM (Xa K) rfl B.yI boot_isinstance (aO (pv 1) (aO (Ve rfl M.Sw) ao))))))),?_⟩
  refine⟨_,rfl,v,r,rfl,hR,fun z=>absurd z hb,fun _=>⟨_,rfl,M.sZ,fun a ha=>?_⟩⟩;have g0:=Same.new ha (Q8 a bG);have hA:=aD (H:=H) (a:=a) (o:=Q8 a bG);refine⟨_,rfl,?_⟩;exact⟨_,rfl,a,bG,_,true,rfl,hA,M.RD,.inl ⟨_,rfl,M.ji⟩,q _ g0⟩
theorem Tw{f:Addr}{fd:FuncData}(F:Fun K "law" "law" BD f fd)(fK:rM P w K mg base)(CT:Mt P w K mg base)(xV:Jw P w K mg base)(jR:wA P w K mg base bG)(aX:fL P w K mg base)(Ax:IK P w K mg base)(wC:DR P w K mg base)(fJ:mY P w K mg base bG)(oH:uN P w K mg base)(rY:vY P w K mg base):JC P w K mg base (tD P w) VL f fd ["_law_script"] (PK K):=by
 refine F.okN (k:=17) lQ (fun vs H Q E h=>?_) (fun cdv A outer s H vs Q E hr h=>?_)
 ·obtain⟨a,ns,rfl,_⟩:=h;rfl
 ·obtain⟨a,ns,rfl,hS,hlen,q⟩:=h;refine⟨_,(ak (aJ (i:=1) lQ.nd rfl (Or.inl rfl) (aq fK hr rfl (aO (pv 0) (lY au ao))))
   (ak (aJ (i:=2) lQ.nd rfl (Or.inr rfl) (bh (xix K) (nq (lY au (lY au (lY au (lY au (lY au (lY au ao))))))) (aK dz (pv 1) au) (fun _ _=>rfl)))
   (ak (aJ (i:=3) lQ.nd rfl (Or.inl rfl) (aq CT hr rfl (aO (pv 0) (lY au (lY au (lY au ao))))))
   (ak (aJ (i:=4) lQ.nd rfl (Or.inl rfl) (aq CT hr rfl (aO (pv 0) (lY au (lY au (lY au ao))))))
   (ak (aJ (i:=5) lQ.nd rfl (Or.inl rfl) (aK dz (aK j6 (pv 1) au) au))
   (ak (aJ (i:=6) lQ.nd rfl (Or.inl rfl) (aK dz (aK j6 (pv 1) au) (aK Jz au au)))
   (ak (aJ (i:=7) lQ.nd rfl (Or.inl rfl) (aq xV hr rfl (aO (pv 5) (aO (pv 3) (aO (pv 4) (aO (pv 6) ao))))))
   (ak (aJ (i:=8) lQ.nd rfl (Or.inl rfl) (aq jR hr rfl (aO (pv 3) (aO (pv 2) ao))))
   (ak (aJ (i:=9) lQ.nd rfl (Or.inl rfl) (aq xV hr rfl (aO (pv 5) (aO (pv 8) (aG (aq jR hr rfl (aO (pv 4) (aO (pv 2) ao))) (aO (pv 6) ao))))))
   (ak (eV (PW.pt (vG (aU (xne K hr) (aq aX hr rfl (aG (aq jR hr rfl (aO (pv 7) (aO (pv 2) ao))) ao)) (pv 9) (bw _)) (vM (aU qH (aM (jx K) rfl B.cR boot_len (aG (bh (xix K) (pv 9) au (fun _ _=>rfl)) ao)) (aM (jx K) rfl B.cR boot_len (aG (bh (xix K) (pv 7) au (fun _ _=>rfl)) ao)) (bw _)))))
   (aF (aR Ac))
   bQ)
   (ak (rF (i:=10) (hN:=lQ.nd) (hi':=rfl) (hx:=(Or.inl rfl)) (sc:=QW) (N:=["_law_number_here","_law_prime"]) (ix:=[none,some 2]) cM rfl (JB K (aq Ax hr rfl (aO (pv 3) (lY au ao)))) (fun cl C s₀ H₀ ex=>⟨(bB (i:=0) iz rfl (Or.inl rfl)),cN,(aK dz (pv 0) (pv 1))⟩))
   (ak (eV (PW.pt (vG (aU (xne K hr) (aq wC hr rfl (aO (pv 8) (lY au ao))) (pv 10) (bw _)) (vG (aU (xne K hr) (bh (xix K) (pv 8) au (fun _ _=>rfl)) (pv 2) (bw _)) (vM (aU qH (aM (jx K) rfl B.cR boot_len (aG (bh (xix K) (aq aX hr rfl (aO (pv 8) ao)) au (fun _ _=>rfl)) ao)) (aM (jx K) rfl B.cR boot_len (aG (bh (xix K) (aq aX hr rfl (aO (pv 3) ao)) au (fun _ _=>rfl)) ao)) (bw _))))))
   (aF (aR Ac))
   bQ)
   (ak (aJ (i:=11) lQ.nd rfl (Or.inl rfl) (yx (xeq K hr) (pv 9) (mK (aO (pv 2) (Vv (mK ao) (Vv (mK ao) ao)))) (bw _)))
   (ak (eV (PW.pt (vG (aU (xne K hr) (Um (Ti (aq oH hr rfl (aO (pv 7) (aO (pv 2) (lY au (lY au ao))))))) (pv 11) (bw _)) (vM (aU (xne K hr) (yx (xeq K hr) (aK dz (aq fJ hr rfl (aO (pv 7) ao)) (pv 2)) au (bw _)) (pv 11) (bw _)))))
   (aF (aR Ac))
   bQ)
   (aF (aR (aq rY hr rfl (aO (pv 8) ao)))))))))))))))))),?_⟩
  refine⟨_,rfl,a,ns,0,rfl,hS,by decide,?_⟩;generalize cellAt ns 0=c;refine⟨(by show 6<=sizeLine;decide),fun p6 hp6=>?_⟩;have e0:=dg c (show(0:Int)<6 by decide);have e1:=cZ c (show(0:Int)<6 by decide);refine⟨_,rfl,_,_,rfl,rfl,(by decide:(0:Int)<6),_,_,.inl (SqL.of aD),cA (ns:=prL) e0 e1,?_⟩;have g1:=Same.new hp6 (.lst (prL.map V.int));have eH:(upd H p6 (.lst [.int 2,.int 3,.int 5,.int 7,.int 97,.int 997]))=upd H p6 (.lst (prL.map V.int)):=rfl;rw[eH];generalize upd H p6 (.lst (prL.map V.int))=H1 at g1;obtain⟨hp,hp0⟩:=SN (c%6).toNat (by omega);generalize prL.getD (c%6).toNat 0=p at hp hp0;refine⟨_,rfl,a,ns,1,0,3,rfl,g1.seq hS,by decide,.inl rfl,by decide,fun v1 r1 H2 g2 hR1 hL1=>?_⟩;refine⟨_,rfl,a,ns,4,0,3,rfl,g2.seq (g1.seq hS),by decide,.inl rfl,by decide,fun v2 r2 H3 g3 hR2 hL2=>?_⟩;have w0:=dg (c/6) (show(0:Int)<7 by decide);have w1:=cZ (c/6) (show(0:Int)<7 by decide);refine⟨_,rfl,_,_,rfl,rfl,⟨by decide,by decide⟩,_,_,rfl,rfl,(by decide:(0:Int)<7),?_⟩;refine⟨_,rfl,_,_,rfl,rfl,⟨by decide,by decide⟩,_,_,rfl,rfl,⟨by decide,by decide,by decide⟩,_,_,rfl,rfl,(by decide:(0:Int)<10^(6:Int).toNat),?_⟩;have c0:=dg (c/42) (show(0:Int)<10^(6:Int).toNat by decide);have c1:=cZ (c/42) (show(0:Int)<10^(6:Int).toNat by decide);have c1':c/42%10^(6:Int).toNat<1000000:=c1;dsimp only;generalize c/6%7=w at w0 w1;generalize c/42%10^(6:Int).toNat=cell at c0 c1';clear c1;have M1:=hL1.ri (by decide);have M2:=hL2.ri (by decide);obtain⟨N1,ea1⟩:=M1.rests hp hp0;obtain⟨N2,ea2⟩:=M2.rests hp hp0;have Vs:=hR1.same g3;refine⟨_,rfl,_,rfl,_,rfl,_,rfl,w,cell,0,v1,v2,r1,r2,rfl,Vs,hR2,M1,M2,hL1.lV,w0,by omega,c0,c1',fun v7 R H7 g7 hR7 hA7=>?_⟩;obtain⟨L7,n7,u7,c7,d7,T7,M7⟩:=hA7;refine⟨_,rfl,_,rfl,v1,r1,p,rfl,Vs.same g7,M1.ok,hp0,M1.by_,fun v8 H8 g8 hR8=>?_⟩;refine⟨_,rfl,_,rfl,_,rfl,_,rfl,v2,r2,p,rfl,hR2.same (g7.trans g8),M2.ok,hp0,M2.by_,fun v2' H9 g9 hR9=>?_⟩;refine⟨_,rfl,w,cell,p,v8,v2',r1.rests p,r2.rests p,rfl,hR8.same g9,hR9,N1,N2,fun y hy=>?_,w0,by omega,c0,c1',fun v10 r10 H10 g10 adL ZW=>?_⟩
  ·obtain⟨x,hx,rfl⟩:=List.mem_map.mp (show y∈r1.rule.map (Rm.tk p)from hy);exact fQ hp (by decide) (hL1.lV x hx)
  obtain⟨L10,n10,u10,c10,d10,T10,M10⟩:=ZW;have abE:=g8.trans (g9.trans g10);have Oj:=hR7.same abE;obtain⟨N7,ea7⟩:=M7.rests hp hp0;have eF:doF p w cell (r1.rests p).at (r2.rests p).at=(R.rests p).at:=funext fun k=>by
   rw[ea7,T7.same k,RX,show(r1.rests p).at=fun k=>Rm.tk p (r1.at k)from funext ea1,show(r2.rests p).at=fun k=>Rm.tk p (r2.at k)from funext ea2]
  rw[eF]at T10;refine⟨_,rfl,_,rfl,v7,R,p,rfl,Oj,M7.ok,hp0,M7.by_,fun v11 H11 g11 adh=>?_⟩;refine⟨v11,R.rests p,rfl,adh,N7.ok,N7.byp,N7.tame,fun v12 L12 H12 g12 acg YT aen=>?_⟩;have T12:=N7.tr YT;have e12:aQ (R.rests p) L12=r10:=TR.uniq hp T12 T10;rw[e12]at acg;have FQ:=g11.trans g12;have GK:=adL.same FQ;refine⟨_,rfl,ab7 acg GK ⟨_,rfl,?_⟩⟩;rw[decide_eq_true ⟨rfl,rfl,rfl⟩];refine tW ?_;have e7:(fun k=>Rm.tk p (doF 0 w cell r1.at r2.at k))=(R.rests p).at:=funext fun k=>by rw[ea7,T7.same k]
  have lle:L10.length<=L7.length:=T10.lst.le hp.one T7.lst.mon (by rw[<-e7];exact Nt T7.lst.kp);have k7:=T7.len;have k10:=T10.len;obtain⟨a10,p10,q10,rfl,ZW,ac6,aep⟩:=id GK;obtain⟨a7,p7,q7,rfl,hA7,hP7,hS7⟩:=id (Oj.same FQ);refine⟨_,rfl,_,_,.inr (SqT.of ZW),rfl,.ref p10,r10.rule.length,rfl,.inr ⟨_,SqT.of ac6,(List.length_map _).symm⟩,_,rfl,_,_,.inr (SqT.of hA7),rfl,.ref p7,R.rule.length,rfl,.inr ⟨_,SqT.of hP7,(List.length_map _).symm⟩,_,_,rfl,rfl,_,rfl,?_⟩;rw[decide_eq_false (by omega:¬(r10.rule.length:Int)>(R.rule.length:Int))];refine tW ?_;have abJ:=g7.trans (abE.trans FQ);refine⟨_,rfl,v1,r1,40,rfl,Vs.same abJ,M1.ok,by decide,by decide,fun l13 H13 g13 f13 h13=>?_⟩;rw[show r1.row (40:Int).toNat=Pm.ofF 40 r1.at from qO r1 40]at h13;refine⟨l13,rfl,.inl ⟨⟨_,SqL.of h13⟩,KZ h13 (by rw[Pm.aL];decide) rfl (fun x=>x%p) ?_ ?_⟩⟩
  ·intro H14 x g14 hx kk hkk;exact⟨_,rfl,_,rfl,_,_,rfl,rfl,hp0,hkk⟩
  intro D hD;have gD:=Same.new hD (.lst (((Pm.ofF 40 r1.at).map fun x=>x%p).map V.int));have hDD:(upd H13 D (.lst (((Pm.ofF 40 r1.at).map fun x=>x%p).map V.int))) D=some (.lst (((Pm.ofF 40 r1.at).map fun x=>x%p).map V.int)):=aD;generalize upd H13 D (.lst (((Pm.ofF 40 r1.at).map fun x=>x%p).map V.int))=H14 at gD hDD;have O3:=g13.trans gD;have adn:=g9.trans (g10.trans (FQ.trans O3));have RZ:=hR8.same adn;refine⟨_,rfl,v8,r1.rests p,40,rfl,RZ,N1.ok,by decide,by decide,fun l15 H15 g15 f15 h15=>?_⟩;rw[show(r1.rests p).row (40:Int).toNat=(Pm.ofF 40 r1.at).map (fun x=>x%p)from by
   rw[qO,Pm.ofF,Pm.ofF,List.map_map];exact List.map_congr_left fun k _=>by rw[ea1,Rm.fZ (by omega)];rfl]at h15
  have adg:=g15 _ _ hDD;refine⟨_,rfl,adE (SqL.of h15) (SqL.of adg) ⟨_,rfl,?_⟩⟩;rw[decide_eq_true rfl];refine tW ?_;have Ox:=RZ.same g15;obtain⟨a8,p8,q8,rfl,hA8,hP8,hS8⟩:=id Ox;refine⟨_,rfl,_,_,.inr (SqT.of hA8),rfl,_,rfl,?_⟩;refine⟨_,rfl,?_⟩;rw[decide_eq_true (show(r1.rests p).b=p from rfl)];refine tW ?_;refine⟨_,rfl,.ref a8,r1.rests p,rfl,Ox,N1.ok,N1.byp,N1.tame,fun v16 L16 H16 g16 adp SG aec=>?_⟩;have T16:=N1.tr SG;obtain⟨a16,p16,q16,rfl,adX,ac2,ael⟩:=id adp;refine⟨_,_,.inr (SqT.of adX),rfl,.ref p16,(aQ (r1.rests p) L16).rule.length,rfl,.inr ⟨_,SqT.of ac2,(List.length_map _).symm⟩,?_⟩;refine⟨_,rfl,v1,r1,rfl,(Vs.same abJ).same (O3.trans (g15.trans g16)),M1.ok,M1.byp,M1.tame,fun v17 L17 H17 g17 adl J3 aek=>?_⟩;rw[M1.by_]at J3;have T17:=M1.tr J3;obtain⟨a17,p17,q17,rfl,adz,acy,aeo⟩:=id adl;refine⟨_,_,.inr (SqT.of adz),rfl,.ref p17,(aQ r1 L17).rule.length,rfl,.inr ⟨_,SqT.of acy,(List.length_map _).symm⟩,_,_,rfl,rfl,_,rfl,?_⟩;have l17:=T17.len;have l16:=T16.len;have aed:L16.length<=L17.length:=SG.le hp.one J3.mon (by rw[show(r1.rests p).at=fun k=>Rm.tk p (r1.at k)from funext ea1];exact Nt J3.kp);rw[decide_eq_false (by omega:¬((aQ (r1.rests p) L16).rule.length:Int)>((aQ r1 L17).rule.length:Int))];refine tW ?_;have Vf:=O3.trans (g15.trans (g16.trans g17));have R4:=GK.same Vf;have ZD:=(Oj.same FQ).same Vf;refine⟨_,rfl,_,rfl,?_⟩;refine⟨(by show 0<=sizeLine;decide),fun t1 ht1=>⟨(by show 0<=sizeLine;decide),fun t2 ht2=>⟨(by show 3<=sizeLine;decide),fun t3 ht3=>?_⟩⟩⟩;have k1:=Same.new ht1 (.tup ([]:List V));have k2:=Same.new ht2 (.tup ([]:List V));have k3:=Same.new ht3 (.tup [.int p,.ref t1,.ref t2]);have k13:=k1.trans (k2.trans k3);have hN:cU (upd (upd (upd H17 t1 (.tup [])) t2 (.tup [])) t3 (.tup [.int p,.ref t1,.ref t2])) (.ref t3) ⟨p,[],[]⟩:=⟨t3,t1,t2,rfl,aD,k3 _ _ (k2 _ _ aD),k3 _ _ aD⟩;generalize upd (upd (upd H17 t1 (.tup [])) t2 (.tup [])) t3 (.tup [.int p,.ref t1,.ref t2])=H18 at k13 hN;refine ab7 (R4.same k13) hN ?_;have hno:=T10.none hp;have hall:(∀j,j<R.rule.length->Rm.tk p (R.at j)=0)↔∀k,(R.rests p).at k=0:=by
   constructor
   ·intro h k;rw[ea7];exact(vQ hp0).mpr (MX M7.ok M7.by_ ((HL M7.ok M7.by_).mp fun j hj=>(vQ hp0).mp (h j hj)) k)
   ·intro h j _;rw[<-ea7];exact h j
  have ab8:p∣((Lm.Dq 0 R.starts:Nat):Int)↔∀k,(R.rests p).at k=0:=by
   constructor
   ·intro h k;rw[ea7];exact(vQ hp0).mpr (MX M7.ok M7.by_ h k)
   ·intro h;exact(HL M7.ok M7.by_).mp fun j _=>(vQ hp0).mp (by rw[<-ea7];exact h j)
  have adU:r10.b=p:=T10.by_;have JR:=ZD.same k13;have Sd:=(Ox.same (g16.trans g17)).same k13;by_cases z:∀k,(R.rests p).at k=0
  ·rw[decide_eq_true ⟨adU,(hno.mpr z).1,(hno.mpr z).2⟩];refine⟨_,rfl,_,rfl,.ref a7,R,p,rfl,JR,M7.ok,M7.by_,hp0,hp,M7.tG,fun _ H19 g19=>?_,fun h=>absurd (hall.mpr z) h⟩;refine⟨_,rfl,_,rfl,?_⟩;rw[decide_eq_true (show decide (V.non=V.non)=id true by simp)];refine tW ⟨_,rfl,.ref a7,R,rfl,JR.same g19,fun _=>?_,fun h=>absurd M7.by_ h⟩;refine⟨_,rfl,_,_,rfl,rfl,hp0,_,rfl,_,rfl,?_⟩;rw[decide_eq_true (show id (decide (((Lm.Dq 0 R.starts:Nat):Int)%p=0))=id true by rw[decide_eq_true (Int.emod_eq_zero_of_dvd (ab8.mpr z))])];refine tW ⟨_,rfl,.ref a8,r1.rests p,rfl,Sd.same g19,?_,fun H20 g20=>q _⟩;show p≠0;omega
  ·have hne:¬(r10.b=p/\r10.rule=[]/\r10.starts=[]):=fun h=>z (hno.mp h.2);rw[decide_eq_false hne];refine⟨_,rfl,_,rfl,.ref a7,R,p,rfl,JR,M7.ok,M7.by_,hp0,hp,M7.tG,fun h=>absurd (hall.mp h) z,fun _ k H19 g19=>?_⟩;refine⟨_,rfl,_,rfl,?_⟩;rw[decide_eq_true (show decide (V.int (k:Int)=V.non)=id false by simp)];refine tW ⟨_,rfl,.ref a7,R,rfl,JR.same g19,fun _=>?_,fun h=>absurd M7.by_ h⟩;refine⟨_,rfl,_,_,rfl,rfl,hp0,_,rfl,_,rfl,?_⟩;rw[decide_eq_true (show id (decide (((Lm.Dq 0 R.starts:Nat):Int)%p=0))=id false by rw[decide_eq_false fun h=>z (ab8.mp (Int.dvd_of_emod_eq_zero h))])];refine tW ⟨_,rfl,.ref a8,r1.rests p,rfl,Sd.same g19,?_,fun H20 g20=>q _⟩;show p≠0;omega
end
theorem all_mk{l:W.OpenLaw}{w:World}{K:W.Frag}{h:Heap}{mg:Str->Option Value}{fa:Addr}(X:K.In h)(G:h.Ns mainGlobals mg)(hfa:mg "law" = some (.ref fa))
  (F0:eZ K "is_prime" rm) (F1:eZ K "taken" Av) (F2:eZ K "inverse" uK) (F3:eZ K "over" Iv) (F4:eZ K "shared_by" oN) (F5:eZ K "refuse_prime" jB) (F6:eZ K "next_place" mR) (F7:eZ K "first_places" jO) (F8:eZ K "refuse_far" mj) (F9:eZ K "places" wL) (F10:eZ K "trimmed" uJ) (F11:eZ K "times" Bg) (F12:eZ K "divided" uL) (F13:eZ K "monic" AF) (F14:eZ K "greatest" qT) (F15:eZ K "of_rule" ud) (F16:eZ K "rule_of" u5) (F17:eZ K "behind_first" jM) (F18:eZ K "power_sums" mJ) (F19:eZ K "rule_of_sums" jF) (F20:eZ K "prime_above" kY) (F21:eZ K "divides" tZ) (F22:eZ K "taken_poly" lZ) (F23:eZ K "nearest" tY) (F24:eZ K "joined" wM) (F25:eZ K "whole_greatest" iy) (F26:eZ K "shared_divisor" iK) (F27:eZ K "top_of" wX) (F28:eZ K "least_of" qP) (F29:eZ K "shortest" qK) (F30:eZ K "refuse_long" lF) (F31:eZ K "refuse_far_steps" fY) (F32:eZ K "told_row" qN) (F33:eZ K "sum_place" nY) (F34:eZ K "product_place" jj) (F35:eZ K "rolled_place" jH) (F36:eZ K "pair_row" rQ) (F37:eZ K "joint_row" n8) (F38:eZ K "added" BK) (F39:eZ K "rolled" yj) (F40:eZ K "multiplied" nj) (F41:eZ K "scaled" xQ) (F42:eZ K "summed" xg) (F43:eZ K "every" Bx) (F44:eZ K "put_ahead" nU) (F45:eZ K "common_divisor" iC) (F46:eZ K "rest_row" qJ) (F47:eZ K "divisor_of" mq) (F48:eZ K "undivided" oX) (F49:eZ K "by_prime" rE) (F50:eZ K "_law_cell_at" rN) (F51:eZ K "_law_mixed" wH) (F52:eZ K "_law_taken" xO) (F53:eZ K "_law_number" uI) (F54:eZ K "_law_gone" Aj) (F55:eZ K "_law_row" IB) (F56:eZ K "_law_done" Bv) (F57:eZ K "_law_refused" sG) (FL:eZ K "law" BD) (Ql:W.nsIn K mainGlobals "abs" = some none) (oE:W.nsIn K mainGlobals "enumerate" = some none) (m8:W.nsIn K mainGlobals "isinstance" = some none) (O2:W.nsIn K mainGlobals "len" = some none) (FD:W.nsIn K mainGlobals "list" = some none) (QH:W.nsIn K mainGlobals "max" = some none) (Qq:W.nsIn K mainGlobals "min" = some none) (Cq:W.nsIn K mainGlobals "range" = some none) (O8:W.nsIn K mainGlobals "sum" = some none) (Bf:W.nsIn K mainGlobals "tuple" = some none) (Ot:W.nsIn K mainGlobals "zip" = some none) (cY:∃t,W.nsIn K mainGlobals "BELOW_THE_PRIMES" = some (some (.int 1000000 t))) (j4:∃t,W.nsIn K mainGlobals "FARTHEST" = some (some (.int 300 t))) (dI:∃t,W.nsIn K mainGlobals "FARTHEST_START" = some (some (.int 100 t))) (mO:∃t,W.nsIn K mainGlobals "LONGEST" = some (some (.int 12 t))) (fM:∃t,W.nsIn K mainGlobals "WIDEST_STEP" = some (some (.int 10 t))) {bG:Addr} (Cy:W.nsIn K mainGlobals "NoBy" = some (some (.ref bG))) {bI:Addr} (oW:W.nsIn K mainGlobals "RuleError" = some (some (.ref bI))) {aH:Addr} (pZ:W.nsIn K mainGlobals "TooLong" = some (some (.ref aH))) (GC:W.excIn K bG [.type "ValueError",.type "Exception",.type "BaseException",.type "object"] "ValueError.__new__" = true) (iB:CG K bG bI=true) (iI:W.ktsIn K bI "BaseException" = true) (BP:W.findIn K (.ref bG) "__getattribute__" = some (some (.builtin "BaseException.__getattribute__"))) (Bj:W.findIn K (.ref bG) "__getattr__" = some none) (AH:W.findIn K (.ref bG) "__class__" = some (some (.builtin "object.__class__"))) (AK:W.mroIn K bG (.type "BaseException")=some true) (Ca:W.mroIn K bG (.type "object")=some true) (A9:(W.clsIn K bG).isSome=true) (ji:W.kitOne K (.ref bG) (.ref bG)=some true) (eY:W.kitOne K (.ref bG) (.ref bI)=some true) (gQ:W.kitOne K (.ref bG) (.ref aH)=some false) (eE:W.kitOne K (.ref bG) (.type "ValueError")=some true) (uw:W.excIn K aH [.type "ValueError",.type "Exception",.type "BaseException",.type "object"] "ValueError.__new__" = true) (fu:CG K aH bI=true) (fD:W.ktsIn K bI "BaseException" = true) (sH:W.findIn K (.ref aH) "__getattribute__" = some (some (.builtin "BaseException.__getattribute__"))) (rA:W.findIn K (.ref aH) "__getattr__" = some none) (qZ:W.findIn K (.ref aH) "__class__" = some (some (.builtin "object.__class__"))) (su:W.mroIn K aH (.type "BaseException")=some true) (rD:W.mroIn K aH (.type "object")=some true) (rW:(W.clsIn K aH).isSome=true) (gO:W.kitOne K (.ref aH) (.ref bG)=some false) (dF:W.kitOne K (.ref aH) (.ref bI)=some true) (d9:W.kitOne K (.ref aH) (.ref aH)=some true) (dh:W.kitOne K (.ref aH) (.type "ValueError")=some true):
  ∃fd:FuncData,(∀(s:Shared) (v:Value),BindsTo s fd ⟨[v],[]⟩ [("_law_script",v)])/\∀base:Heap,K.In base->base.Ns mainGlobals mg->JC l.prog w K mg base (tD l.prog w) VL fa fd ["_law_script"] (PK K):=by
 obtain⟨f,oc,od,kV,doc,pm,an,cdv,ct,sl,e1,e2,e3,e4⟩:=FL.ex;have e:=hfa.symm.trans (W.mg_of X G e1);cases e;have FF:=Nb (st:=BD) e2 e3 e4;have B:Bt mg:=⟨W.mg_none_of X G Ql,W.mg_none_of X G oE,W.mg_none_of X G m8,W.mg_none_of X G O2,W.mg_none_of X G FD,W.mg_none_of X G QH,W.mg_none_of X G Qq,W.mg_none_of X G Cq,W.mg_none_of X G O8,W.mg_none_of X G Bf,W.mg_none_of X G Ot,(let⟨t,q⟩:=cY;⟨t,W.mg_of X G q⟩),(let⟨t,q⟩:=j4;⟨t,W.mg_of X G q⟩),(let⟨t,q⟩:=dI;⟨t,W.mg_of X G q⟩),(let⟨t,q⟩:=mO;⟨t,W.mg_of X G q⟩),(let⟨t,q⟩:=fM;⟨t,W.mg_of X G q⟩)⟩;refine⟨W.fnOf "law" "law" (aC BD) (aA BD) (aj BD) .none kV doc pm an cdv ct,fun s v=> .of_eq rfl,fun base kB gB=>?_⟩;have M:Ms K mg base bG bI aH:=⟨W.mg_of X G Cy,W.mg_of X G oW,W.mg_of X G pZ,M4 kB gB Cy GC F.excBase_ValueError (by decide),MR kB iB iI,⟨BP,Bj,AH,AK,Ca,A9⟩,ji,eY,gQ,eE,M4 kB gB pZ uw F.excBase_ValueError (by decide),MR kB fu fD,⟨sH,rA,qZ,su,rD,rW⟩,gO,dF,d9,dh⟩;have qX:=Cg (P:=l.prog) (w:=w) B M (F0.fnA X G);have bf:=Ka (P:=l.prog) (w:=w) B M (F1.fnA X G);have uE:=Er (P:=l.prog) (w:=w) B M (F2.fnA X G) bf;have v5:=OL (P:=l.prog) (w:=w) B M (F3.fnA X G) bf uE;have gw:=Af (P:=l.prog) (w:=w) B M (F4.fnA X G);have cG:=vf (P:=l.prog) (w:=w) B M (F5.fnA X G);have mX:=yd (P:=l.prog) (w:=w) B M (F6.fnA X G) bf;have aW:=uQ (P:=l.prog) (w:=w) B M (F7.fnA X G) mX;have m9:=wW (P:=l.prog) (w:=w) B M (F8.fnA X G);have wC:=Fl (P:=l.prog) (w:=w) B M (F9.fnA X G) m9 aW;have dw:=E1 (P:=l.prog) (w:=w) B M (F10.fnA X G);have qU:=Kl (P:=l.prog) (w:=w) B M (F11.fnA X G) bf dw;have fX:=Ey (P:=l.prog) (w:=w) B M (F12.fnA X G) bf dw;have uO:=Mf (P:=l.prog) (w:=w) B M (F13.fnA X G) v5;have jf:=Bc (P:=l.prog) (w:=w) B M (F14.fnA X G) uO fX;have eX:=E5 (P:=l.prog) (w:=w) B M (F15.fnA X G) bf;have fW:=EW (P:=l.prog) (w:=w) B M (F16.fnA X G) bf;have dM:=vm (P:=l.prog) (w:=w) B M (F17.fnA X G);have dX:=wI (P:=l.prog) (w:=w) B M (F18.fnA X G) dM;have dO:=uV (P:=l.prog) (w:=w) B M (F19.fnA X G) dM;have lu:=vD (P:=l.prog) (w:=w) B M (F20.fnA X G) qX;have pH:=D6 (P:=l.prog) (w:=w) B M (F21.fnA X G) fX;have jA:=xr (P:=l.prog) (w:=w) B M (F22.fnA X G) dw bf;have jY:=Ez (P:=l.prog) (w:=w) B M (F23.fnA X G);have wG:=Ig (P:=l.prog) (w:=w) B M (F24.fnA X G) v5 bf jY;have iw:=rT (P:=l.prog) (w:=w) B M (F25.fnA X G) pH lu jf jA jY wG;have iG:=rP (P:=l.prog) (w:=w) B M (F26.fnA X G) iw jf;have wF:=Jo (P:=l.prog) (w:=w) B M (F27.fnA X G) bf dw;have rH:=AX (P:=l.prog) (w:=w) B M (F28.fnA X G) eX wF fX iG;have aX:=Bl (P:=l.prog) (w:=w) B M (F29.fnA X G) rH fW;have bN:=vH (P:=l.prog) (w:=w) B M (F30.fnA X G);have cI:=oM (P:=l.prog) (w:=w) B M (F31.fnA X G);have cF:=Ao (P:=l.prog) (w:=w) B M (F32.fnA X G) bf aX;have gH:=yU (P:=l.prog) (w:=w) B M (F33.fnA X G);have dB:=tE (P:=l.prog) (w:=w) B M (F34.fnA X G);have dJ:=uR (P:=l.prog) (w:=w) B M (F35.fnA X G);have je:=Cd (P:=l.prog) (w:=w) B M (F36.fnA X G) aW cF gH dJ dB;have gG:=yQ (P:=l.prog) (w:=w) B M (F37.fnA X G) gw aX bN qU eX je fW;have B4:=Ma (P:=l.prog) (w:=w) B M (F38.fnA X G) gG gH;have xu:=Gk (P:=l.prog) (w:=w) B M (F39.fnA X G) gG dJ;have mF:=yp (P:=l.prog) (w:=w) B M (F40.fnA X G) gw aX bN dX dO je dB
 have wO:=GP (P:=l.prog) (w:=w) B M (F41.fnA X G) cF;have yq:=Hh (P:=l.prog) (w:=w) B M (F42.fnA X G) aX bN qU bf eX aW cF fW;have B6:=K1 (P:=l.prog) (w:=w) B M (F43.fnA X G) cI aX dX aW dO cF;have nZ:=yM (P:=l.prog) (w:=w) B M (F44.fnA X G) aX bN cF;have iJ:=qL (P:=l.prog) (w:=w) B M (F45.fnA X G);have jc:=Bm (P:=l.prog) (w:=w) B M (F46.fnA X G) bf;have fJ:=wK (P:=l.prog) (w:=w) B M (F47.fnA X G) cG iJ;have oH:=yF (P:=l.prog) (w:=w) B M (F48.fnA X G) cG cI aW jc;have jR:=B7 (P:=l.prog) (w:=w) B M (F49.fnA X G) cG jc;have fK:=Ce (P:=l.prog) (w:=w) B M (F50.fnA X G);have qp:=Fp (P:=l.prog) (w:=w) B M (F51.fnA X G);have kO:=G9 (P:=l.prog) (w:=w) B M (F52.fnA X G);have qw:=Es (P:=l.prog) (w:=w) B M (F53.fnA X G);have Ax:=Ly (P:=l.prog) (w:=w) B M (F54.fnA X G) kO;have CT:=Qf (P:=l.prog) (w:=w) B M (F55.fnA X G) fK qw qp;have xV:=Kw (P:=l.prog) (w:=w) B M (F56.fnA X G) B4 mF xu wO kO yq B6 nZ;have rY:=Al (P:=l.prog) (w:=w) B M (F57.fnA X G) fJ;exact Tw B M FF fK CT xV jR aX Ax wC fJ oH rY
end K58
namespace L2
open PySem PySem.W W.X
theorem KP{q:Program}{loose:List Str}{XP:(Str->Option Value)->Heap->Prop}{K:Params->Frag}{as:List Addr}{n t:Nat}{r:RowW}{d:DefRec}{kwd:List (Str×PySem.Expr)}{run:Value->List Value->Sem Value}(keys:∀P,as=(K P).map (·.1))
  (W:WalkO q loose XP (fun w h=>(K w.params).In h) r d kwd run):WalkX q loose XP (obsZ as) (valZ K n t) r d kwd run:=
 fun w s0 s1 mg mb G y a o pm cd doc dV kV h1 h2 h3 h4 h5 h6 args vals as' L p1 p2 p3 p4 p5=>W w s0 s1 mg mb G (InK.keeps w _ _ (z_facts keys y).2.1 L.keeps) a o pm cd doc dV kV h1 h2 h3 h4 h5 h6 args vals as' p1 p2 p3 p4 p5
end L2
namespace K58
def topF(i:Nat):PySem.Stmt:=PySem.Challenge.pw_nextbyrule_k58_whole_exact_and_by_primes.main.body.getD i (.Pass ⟨0,0,0,0⟩)
def pwL:PySem.Program:={ PySem.Challenge.pw_nextbyrule_k58_whole_exact_and_by_primes with main:={ PySem.Challenge.pw_nextbyrule_k58_whole_exact_and_by_primes.main with body:=[topF 0,topF 1,topF 2,topF 3,topF 4,topF 5,topF 6,topF 7,topF 8,topF 9,topF 10,topF 11,topF 12,topF 13,topF 14,topF 15,topF 16,topF 17,topF 18,topF 19,topF 20,topF 21,topF 22,topF 23,topF 24,topF 25,topF 26,topF 27,topF 28,topF 29,topF 30,topF 31,topF 32,topF 33,topF 34,topF 35,topF 36,topF 37,topF 38,topF 39,topF 40,topF 41,topF 42,topF 43,topF 44,topF 45,topF 46,topF 47,topF 48,topF 49,topF 50,topF 51,topF 52,topF 53,topF 54,topF 55,topF 56,topF 57,topF 58,topF 59,topF 60,topF 61,topF 62,topF 63,topF 64,topF 65,topF 66,topF 67,topF 68,topF 69,topF 70,topF 71,topF 72,topF 73,topF 74,topF 75,topF 76,topF 77,topF 78,topF 79,topF 80,topF 81] } }
def rwL:PySem.W.OpenLaw:={ PySem.Challenge.rw_nextbyrule_k58_whole_exact_and_by_primes with prog:=pwL }
end K58
namespace K58
namespace H
noncomputable section
open PySem PySem.W PySem.Calls PyProof.Rows
theorem warm:(K58.pwL.main.body.isEmpty||true)=true:=by k_qdec
abbrev nd(v:Obj)(l r:BT):BT:= .node v l r
abbrev e:BT:= .nil
abbrev kh:=PyData.keyHash
abbrev tt(i:Nat):Stmt:=PySem.W.Fast.tw938718607463309169 i
def z0:Str:=⟨⟨[95,95,110,97,109,101,95,95]⟩⟩
def z1:Str:=⟨⟨[108,97,119,95,110,101,120,116,98,121,114,117,108,101,95,107,53,56,95,119,104,111,108,101,95,101,120,97,99,116,95,97,110,100,95,98,121,95,112,114,105,109,101,115]⟩⟩
def z2:Str:=⟨⟨[95,95,100,111,99,95,95]⟩⟩
def z3:Str:=⟨⟨[95,95,112,97,99,107,97,103,101,95,95]⟩⟩
def z4:Str:=⟨⟨[95,95,108,111,97,100,101,114,95,95]⟩⟩
def z5:Str:=⟨⟨[95,95,115,112,101,99,95,95]⟩⟩
def z6:Str:=⟨⟨[95,95,97,110,110,111,116,97,116,105,111,110,115,95,95]⟩⟩
def z7:Str:=⟨⟨[95,95,98,117,105,108,116,105,110,115,95,95]⟩⟩
def z8:Str:=⟨⟨[95,95,102,105,108,101,95,95]⟩⟩
def z9:Str:=⟨⟨[47,99,108,97,105,109,47,99,117,116,46,112,121]⟩⟩
def z10:Str:=⟨⟨[95,95,99,97,99,104,101,100,95,95]⟩⟩
def z11:Str:=⟨⟨[82,117,108,101,69,114,114,111,114]⟩⟩
def z12:Str:=⟨⟨[78,111,78,117,109,98,101,114]⟩⟩
def z13:Str:=⟨⟨[78,111,66,121]⟩⟩
def z14:Str:=⟨⟨[84,111,111,70,97,114]⟩⟩
def z15:Str:=⟨⟨[84,111,111,76,111,110,103]⟩⟩
def z16:Str:=⟨⟨[105,115,95,112,114,105,109,101]⟩⟩
def z17:Str:=⟨⟨[116,97,107,101,110]⟩⟩
def z18:Str:=⟨⟨[105,110,118,101,114,115,101]⟩⟩
def z19:Str:=⟨⟨[111,118,101,114]⟩⟩
def z20:Str:=⟨⟨[76,79,78,71,69,83,84]⟩⟩
def z21:Str:=⟨⟨[70,65,82,84,72,69,83,84]⟩⟩
def z22:Str:=⟨⟨[115,104,97,114,101,100,95,98,121]⟩⟩
def z23:Str:=⟨⟨[114,101,102,117,115,101,95,112,114,105,109,101]⟩⟩
def z24:Str:=⟨⟨[110,101,120,116,95,112,108,97,99,101]⟩⟩
def z25:Str:=⟨⟨[102,105,114,115,116,95,112,108,97,99,101,115]⟩⟩
def z26:Str:=⟨⟨[114,101,102,117,115,101,95,102,97,114]⟩⟩
def z27:Str:=⟨⟨[112,108,97,99,101,115]⟩⟩
def z28:Str:=⟨⟨[116,114,105,109,109,101,100]⟩⟩
def z29:Str:=⟨⟨[116,105,109,101,115]⟩⟩
def z30:Str:=⟨⟨[100,105,118,105,100,101,100]⟩⟩
def z31:Str:=⟨⟨[109,111,110,105,99]⟩⟩
def z32:Str:=⟨⟨[103,114,101,97,116,101,115,116]⟩⟩
def z33:Str:=⟨⟨[111,102,95,114,117,108,101]⟩⟩
def z34:Str:=⟨⟨[114,117,108,101,95,111,102]⟩⟩
def z35:Str:=⟨⟨[98,101,104,105,110,100,95,102,105,114,115,116]⟩⟩
def z36:Str:=⟨⟨[112,111,119,101,114,95,115,117,109,115]⟩⟩
def z37:Str:=⟨⟨[114,117,108,101,95,111,102,95,115,117,109,115]⟩⟩
def z38:Str:=⟨⟨[66,69,76,79,87,95,84,72,69,95,80,82,73,77,69,83]⟩⟩
def z39:Str:=⟨⟨[112,114,105,109,101,95,97,98,111,118,101]⟩⟩
def z40:Str:=⟨⟨[100,105,118,105,100,101,115]⟩⟩
def z41:Str:=⟨⟨[116,97,107,101,110,95,112,111,108,121]⟩⟩
def z42:Str:=⟨⟨[110,101,97,114,101,115,116]⟩⟩
def z43:Str:=⟨⟨[106,111,105,110,101,100]⟩⟩
def z44:Str:=⟨⟨[119,104,111,108,101,95,103,114,101,97,116,101,115,116]⟩⟩
def z45:Str:=⟨⟨[115,104,97,114,101,100,95,100,105,118,105,115,111,114]⟩⟩
def z46:Str:=⟨⟨[116,111,112,95,111,102]⟩⟩
def z47:Str:=⟨⟨[108,101,97,115,116,95,111,102]⟩⟩
def z48:Str:=⟨⟨[115,104,111,114,116,101,115,116]⟩⟩
def z49:Str:=⟨⟨[70,65,82,84,72,69,83,84,95,83,84,65,82,84]⟩⟩
def z50:Str:=⟨⟨[87,73,68,69,83,84,95,83,84,69,80]⟩⟩
def z51:Str:=⟨⟨[114,101,102,117,115,101,95,108,111,110,103]⟩⟩
def z52:Str:=⟨⟨[114,101,102,117,115,101,95,102,97,114,95,115,116,101,112,115]⟩⟩
def z53:Str:=⟨⟨[116,111,108,100,95,114,111,119]⟩⟩
def z54:Str:=⟨⟨[115,117,109,95,112,108,97,99,101]⟩⟩
def z55:Str:=⟨⟨[112,114,111,100,117,99,116,95,112,108,97,99,101]⟩⟩
def z56:Str:=⟨⟨[114,111,108,108,101,100,95,112,108,97,99,101]⟩⟩
def z57:Str:=⟨⟨[112,97,105,114,95,114,111,119]⟩⟩
def z58:Str:=⟨⟨[106,111,105,110,116,95,114,111,119]⟩⟩
def z59:Str:=⟨⟨[97,100,100,101,100]⟩⟩
def z60:Str:=⟨⟨[114,111,108,108,101,100]⟩⟩
def z61:Str:=⟨⟨[109,117,108,116,105,112,108,105,101,100]⟩⟩
def z62:Str:=⟨⟨[115,99,97,108,101,100]⟩⟩
def z63:Str:=⟨⟨[115,117,109,109,101,100]⟩⟩
def z64:Str:=⟨⟨[101,118,101,114,121]⟩⟩
def z65:Str:=⟨⟨[112,117,116,95,97,104,101,97,100]⟩⟩
def z66:Str:=⟨⟨[99,111,109,109,111,110,95,100,105,118,105,115,111,114]⟩⟩
def z67:Str:=⟨⟨[114,101,115,116,95,114,111,119]⟩⟩
def z68:Str:=⟨⟨[100,105,118,105,115,111,114,95,111,102]⟩⟩
def z69:Str:=⟨⟨[117,110,100,105,118,105,100,101,100]⟩⟩
def z70:Str:=⟨⟨[98,121,95,112,114,105,109,101]⟩⟩
def z71:Str:=⟨⟨[95,108,97,119,95,99,101,108,108,95,97,116]⟩⟩
def z72:Str:=⟨⟨[95,108,97,119,95,109,105,120,101,100]⟩⟩
def z73:Str:=⟨⟨[95,108,97,119,95,98,121]⟩⟩
def z74:Str:=⟨⟨[95,108,97,119,95,116,97,107,101,110]⟩⟩
def z75:Str:=⟨⟨[95,108,97,119,95,110,117,109,98,101,114]⟩⟩
def z76:Str:=⟨⟨[95,108,97,119,95,103,111,110,101]⟩⟩
def z77:Str:=⟨⟨[95,108,97,119,95,114,111,119]⟩⟩
def z78:Str:=⟨⟨[95,108,97,119,95,108,111,110,103,101,114]⟩⟩
def z79:Str:=⟨⟨[95,108,97,119,95,100,111,110,101]⟩⟩
def z80:Str:=⟨⟨[95,108,97,119,95,114,101,102,117,115,101,100]⟩⟩
def z81:Str:=⟨⟨[108,97,119]⟩⟩
def z82:Str:=⟨⟨[60,109,111,100,117,108,101,62]⟩⟩
def z83:Str:=⟨⟨[95,95,109,97,105,110,95,95]⟩⟩
def z84:Str:=⟨⟨[95,95,109,111,100,117,108,101,95,95]⟩⟩
def z85:Str:=⟨⟨[110,101,120,116,98,121,114,117,108,101,46,101,114,114,111,114,115]⟩⟩
def z86:Str:=⟨⟨[95,95,113,117,97,108,110,97,109,101,95,95]⟩⟩
def z87:Str:=⟨⟨[95,95,102,105,114,115,116,108,105,110,101,110,111,95,95]⟩⟩
def z88:Str:=⟨⟨[95,95,115,116,97,116,105,99,95,97,116,116,114,105,98,117,116,101,115,95,95]⟩⟩
def z89:Str:=⟨⟨[95,95,119,101,97,107,114,101,102,95,95]⟩⟩
def z90:Str:=⟨⟨[110,117,109,98,101,114]⟩⟩
def z91:Str:=⟨⟨[100,105,118,105,115,111,114]⟩⟩
def z92:Str:=⟨⟨[110,101,120,116,98,121,114,117,108,101,46,110,117,109,98,101,114,115]⟩⟩
def z93:Str:=⟨⟨[98,121]⟩⟩
def z94:Str:=⟨⟨[112,114,105,109,101]⟩⟩
def z95:Str:=⟨⟨[112,111,119,101,114]⟩⟩
def z96:Str:=⟨⟨[115,113,117,97,114,101]⟩⟩
def z97:Str:=⟨⟨[108,101,102,116]⟩⟩
def z98:Str:=⟨⟨[111,110,101]⟩⟩
def z99:Str:=⟨⟨[111,116,104,101,114]⟩⟩
def Ny:Str:=⟨⟨[110,101,120,116,98,121,114,117,108,101,46,114,111,119,115]⟩⟩
def Kd:Str:=⟨⟨[114,111,119]⟩⟩
def Rj:Str:=⟨⟨[114,117,108,101]⟩⟩
def acu:Str:=⟨⟨[98,101,102,111,114,101]⟩⟩
def ach:Str:=⟨⟨[116,111,116,97,108]⟩⟩
def Rh:Str:=⟨⟨[107]⟩⟩
def Zh:Str:=⟨⟨[99,111,117,110,116]⟩⟩
def acv:Str:=⟨⟨[115,116,97,114,116,115]⟩⟩
def abD:Str:=⟨⟨[102,111,117,110,100]⟩⟩
def ZM:Str:=⟨⟨[110]⟩⟩
def abL:Str:=⟨⟨[110,117,109,98,101,114,115]⟩⟩
def acO:Str:=⟨⟨[101,110,100]⟩⟩
def MN:Str:=⟨⟨[110,101,120,116,98,121,114,117,108,101,46,112,111,108,121,115]⟩⟩
def acY:Str:=⟨⟨[105]⟩⟩
def abG:Str:=⟨⟨[116,111,112]⟩⟩
def acG:Str:=⟨⟨[111,102,116,101,110]⟩⟩
def ac4:Str:=⟨⟨[115,104,105,102,116]⟩⟩
def acI:Str:=⟨⟨[102,97,99,116,111,114]⟩⟩
def ace:Str:=⟨⟨[103,114,101,97,116]⟩⟩
def abQ:Str:=⟨⟨[115,109,97,108,108]⟩⟩
def V0:Str:=⟨⟨[110,101,120,116,98,121,114,117,108,101,46,112,111,119,101,114,115]⟩⟩
def abS:Str:=⟨⟨[115,117,109,115]⟩⟩
def adu:Str:=⟨⟨[111,119,110]⟩⟩
def Nx:Str:=⟨⟨[110,101,120,116,98,121,114,117,108,101,46,119,104,111,108,101,115]⟩⟩
def adi:Str:=⟨⟨[109,111,110,105,99,95,111,110,101]⟩⟩
def YS:Str:=⟨⟨[112,111,108,121]⟩⟩
def ab0:Str:=⟨⟨[109,111,100,117,108,117,115]⟩⟩
def abR:Str:=⟨⟨[114,101,115,116]⟩⟩
def acJ:Str:=⟨⟨[109,111,114,101]⟩⟩
def Vw:Str:=⟨⟨[110,101,120,116,98,121,114,117,108,101,46,115,104,111,114,116,101,115,116]⟩⟩
def abZ:Str:=⟨⟨[108,101,97,115,116]⟩⟩
def acf:Str:=⟨⟨[108,101,110,103,116,104]⟩⟩
def Ah:Str:=⟨⟨[110,101,120,116,98,121,114,117,108,101,46,109,105,120,101,115]⟩⟩
def Yg:Str:=⟨⟨[115,116,97,114,116]⟩⟩
def abO:Str:=⟨⟨[115,116,101,112]⟩⟩
def Yh:Str:=⟨⟨[111,117,114,115]⟩⟩
def ZL:Str:=⟨⟨[116,104,101,105,114,115]⟩⟩
def adt:Str:=⟨⟨[112,97,105,114,95,112,108,97,99,101]⟩⟩
def acV:Str:=⟨⟨[110,101,120,116,98,121,114,117,108,101,46,116,97,98,108,101,115]⟩⟩
def Vu:Str:=⟨⟨[110,101,120,116,98,121,114,117,108,101,46,100,105,118,105,115,111,114,115]⟩⟩
def adN:Str:=⟨⟨[114,101,115,116,115]⟩⟩
def adZ:Str:=⟨⟨[95,108,97,119,95,115,99,114,105,112,116]⟩⟩
def Ww:Str:=⟨⟨[95,108,97,119,95,107]⟩⟩
def Yd:Str:=⟨⟨[95,108,97,119,95,99,101,108,108]⟩⟩
def aaL:Str:=⟨⟨[95,108,97,119,95,110,117,109,98,101,114,95,104,101,114,101]⟩⟩
def Xz:Str:=⟨⟨[95,108,97,119,95,98,121,95,104,101,114,101]⟩⟩
def adv:Str:=⟨⟨[95,108,97,119,95,115,111,114,116]⟩⟩
def abF:Str:=⟨⟨[95,108,97,119,95,114,111,119,95,104,101,114,101]⟩⟩
def ad4:Str:=⟨⟨[95,108,97,119,95,99,111,117,110,116]⟩⟩
def ac9:Str:=⟨⟨[95,108,97,119,95,114,117,108,101]⟩⟩
def acL:Str:=⟨⟨[95,108,97,119,95,115,116,97,114,116,115]⟩⟩
def acR:Str:=⟨⟨[95,108,97,119,95,102,111,117,110,100]⟩⟩
def acz:Str:=⟨⟨[95,108,97,119,95,116,111,116,97,108]⟩⟩
def acW:Str:=⟨⟨[95,108,97,119,95,99,97,117,103,104,116]⟩⟩
def adx:Str:=⟨⟨[101]⟩⟩
noncomputable abbrev t0:String:=PySem.W.SL.s14018661285674007319x4
noncomputable abbrev t1:String:=PySem.W.SL.s7097527257260152453x26
noncomputable abbrev t2:String:=PySem.W.SL.s2766695959194262286x5
noncomputable abbrev t3:String:=PySem.W.SL.s5856160107412720595x4
noncomputable abbrev t4:String:=PySem.W.SL.s658472552662922059x5
noncomputable abbrev t5:String:=PySem.W.SL.s6070975301684473832x10
noncomputable abbrev t6:String:=PySem.W.SL.s11030030927630378310x26
noncomputable abbrev t7:String:=PySem.W.SL.s10062305145149207511x16
noncomputable abbrev t8:String:=PySem.W.SL.s17162191345867700912x4
noncomputable abbrev t9:String:=PySem.W.SL.s4209523147560561109x18
noncomputable abbrev t10:String:=PySem.W.SL.s5946037652744460706x9
noncomputable abbrev t11:String:=PySem.W.SL.s4278001404047624695x13
noncomputable abbrev t12:String:=PySem.W.SL.s2742458400755230247x6
noncomputable abbrev t13:String:=PySem.W.SL.s14755015743595814543x17
noncomputable abbrev t14:String:=PySem.W.SL.s10220274742760427390x26
noncomputable abbrev t15:String:=PySem.W.SL.s4290257624100764138x5
noncomputable abbrev t16:String:=PySem.W.SL.s4860613602091757760x24
noncomputable abbrev t17:String:=PySem.W.SL.s7174869446012820540x8
def l3(P:Params):List DictEntry:=[⟨kh P z0,.str z0 165,.str z1 722⟩,⟨kh P z2,.str z2 166,.none⟩,⟨kh P z3,.str z3 167,.none⟩,⟨kh P z4,.str z4 168,.builtin t1⟩,⟨kh P z5,.str z5 169,.none⟩,⟨kh P z6,.str z6 170,.ref 6⟩,⟨kh P z7,.str z7 171,.ref 4⟩,⟨kh P z8,.str z8 173,.str z9 172⟩,⟨kh P z10,.str z10 174,.none⟩,⟨kh P z11,.str z11 206,.ref 24⟩,⟨kh P z12,.str z12 222,.ref 37⟩,⟨kh P z13,.str z13 238,.ref 49⟩,⟨kh P z14,.str z14 254,.ref 61⟩,⟨kh P z15,.str z15 270,.ref 73⟩,⟨kh P z16,.str z16 280,.ref 82⟩,⟨kh P z17,.str z17 288,.ref 89⟩,⟨kh P z18,.str z18 299,.ref 96⟩,⟨kh P z19,.str z19 308,.ref 103⟩,⟨kh P z20,.str z20 312,.int 12 311⟩,⟨kh P z21,.str z21 314,.int 300 313⟩,⟨kh P z22,.str z22 322,.ref 110⟩,⟨kh P z23,.str z23 329,.ref 117⟩,⟨kh P z24,.str z24 340,.ref 124⟩,⟨kh P z25,.str z25 352,.ref 131⟩,⟨kh P z26,.str z26 359,.ref 138⟩,⟨kh P z27,.str z27 367,.ref 145⟩,⟨kh P z28,.str z28 377,.ref 152⟩,⟨kh P z29,.str z29 389,.ref 159⟩,⟨kh P z30,.str z30 404,.ref 166⟩,⟨kh P z31,.str z31 410,.ref 171⟩,⟨kh P z32,.str z32 422,.ref 178⟩,⟨kh P z33,.str z33 428,.ref 183⟩,⟨kh P z34,.str z34 434,.ref 188⟩,⟨kh P z35,.str z35 442,.ref 193⟩,⟨kh P z36,.str z36 453,.ref 200⟩,⟨kh P z37,.str z37 462,.ref 207⟩,⟨kh P z38,.str z38 466,.int 1000000 465⟩,⟨kh P z39,.str z39 474,.ref 214⟩,⟨kh P z40,.str z40 482,.ref 221⟩,⟨kh P z41,.str z41 488,.ref 226⟩,⟨kh P z42,.str z42 497,.ref 233⟩,⟨kh P z43,.str z43 508,.ref 240⟩,⟨kh P z44,.str z44 514,.ref 245⟩,⟨kh P z45,.str z45 523,.ref 252⟩,⟨kh P z46,.str z46 531,.ref 257⟩,⟨kh P z47,.str z47 541,.ref 264⟩,⟨kh P z48,.str z48 550,.ref 271⟩,⟨kh P z49,.str z49 554,.int 100 553⟩,⟨kh P z50,.str z50 556,.int 10 555⟩,⟨kh P z51,.str z51 563,.ref 278⟩,⟨kh P z52,.str z52 571,.ref 285⟩,⟨kh P z53,.str z53 577,.ref 290⟩,⟨kh P z54,.str z54 586,.ref 297⟩,⟨kh P z55,.str z55 595,.ref 304⟩,⟨kh P z56,.str z56 601,.ref 309⟩,⟨kh P z57,.str z57 607,.ref 314⟩,⟨kh P z58,.str z58 620,.ref 321⟩,⟨kh P z59,.str z59 628,.ref 328⟩,⟨kh P z60,.str z60 636,.ref 335⟩,⟨kh P z61,.str z61 642,.ref 340⟩,⟨kh P z62,.str z62 648,.ref 345⟩,⟨kh P z63,.str z63 654,.ref 350⟩,⟨kh P z64,.str z64 660,.ref 355⟩,⟨kh P z65,.str z65 670,.ref 362⟩,⟨kh P z66,.str z66 683,.ref 369⟩,⟨kh P z67,.str z67 691,.ref 374⟩,⟨kh P z68,.str z68 700,.ref 381⟩,⟨kh P z69,.str z69 713,.ref 388⟩,⟨kh P z70,.str z70 721,.ref 395⟩,⟨kh P z71,.str z71 731,.ref 402⟩,⟨kh P z72,.str z72 740,.ref 409⟩,⟨kh P z73,.str z73 747,.ref 416⟩,⟨kh P z74,.str z74 755,.ref 423⟩,⟨kh P z75,.str z75 764,.ref 430⟩,⟨kh P z76,.str z76 779,.ref 437⟩,⟨kh P z77,.str z77 785,.ref 442⟩,⟨kh P z78,.str z78 791,.ref 447⟩,⟨kh P z79,.str z79 797,.ref 452⟩,⟨kh P z80,.str z80 806,.ref 459⟩,⟨kh P z81,.str z81 812,.ref 464⟩]
def o3(P:Params):Obj:=⟨.type t0,.none,.dict ⟨l3 P⟩ 80,⟨[]⟩⟩
def adR(P:Params):Obj:=⟨.type t0,.none,.dict ⟨[⟨kh P z0,.str z0 165,.str z85 187⟩,⟨kh P z2,.str z2 166,.none⟩,⟨kh P z3,.str z3 167,.none⟩,⟨kh P z4,.str z4 168,.builtin t1⟩,⟨kh P z5,.str z5 169,.none⟩,⟨kh P z6,.str z6 170,.ref 6⟩,⟨kh P z7,.str z7 171,.ref 4⟩,⟨kh P z8,.str z8 173,.str z9 172⟩,⟨kh P z10,.str z10 174,.none⟩,⟨kh P z11,.str z11 206,.ref 24⟩]⟩ 10,⟨[]⟩⟩
def acB(P:Params):Obj:=⟨.type t0,.none,.dict ⟨[⟨kh P z0,.str z0 165,.str z85 187⟩,⟨kh P z2,.str z2 166,.none⟩,⟨kh P z3,.str z3 167,.none⟩,⟨kh P z4,.str z4 168,.builtin t1⟩,⟨kh P z5,.str z5 169,.none⟩,⟨kh P z6,.str z6 170,.ref 6⟩,⟨kh P z7,.str z7 171,.ref 4⟩,⟨kh P z8,.str z8 173,.str z9 172⟩,⟨kh P z10,.str z10 174,.none⟩,⟨kh P z11,.str z11 206,.ref 24⟩,⟨kh P z12,.str z12 222,.ref 37⟩]⟩ 11,⟨[]⟩⟩
def adf(P:Params):Obj:=⟨.type t0,.none,.dict ⟨[⟨kh P z0,.str z0 165,.str z85 187⟩,⟨kh P z2,.str z2 166,.none⟩,⟨kh P z3,.str z3 167,.none⟩,⟨kh P z4,.str z4 168,.builtin t1⟩,⟨kh P z5,.str z5 169,.none⟩,⟨kh P z6,.str z6 170,.ref 6⟩,⟨kh P z7,.str z7 171,.ref 4⟩,⟨kh P z8,.str z8 173,.str z9 172⟩,⟨kh P z10,.str z10 174,.none⟩,⟨kh P z11,.str z11 206,.ref 24⟩,⟨kh P z12,.str z12 222,.ref 37⟩,⟨kh P z13,.str z13 238,.ref 49⟩]⟩ 12,⟨[]⟩⟩
def VW(P:Params):Obj:=⟨.type t0,.none,.dict ⟨[⟨kh P z0,.str z0 165,.str z85 187⟩,⟨kh P z2,.str z2 166,.none⟩,⟨kh P z3,.str z3 167,.none⟩,⟨kh P z4,.str z4 168,.builtin t1⟩,⟨kh P z5,.str z5 169,.none⟩,⟨kh P z6,.str z6 170,.ref 6⟩,⟨kh P z7,.str z7 171,.ref 4⟩,⟨kh P z8,.str z8 173,.str z9 172⟩,⟨kh P z10,.str z10 174,.none⟩,⟨kh P z11,.str z11 206,.ref 24⟩,⟨kh P z12,.str z12 222,.ref 37⟩,⟨kh P z13,.str z13 238,.ref 49⟩,⟨kh P z14,.str z14 254,.ref 61⟩]⟩ 13,⟨[]⟩⟩
def Yz(P:Params):Obj:=⟨.type t0,.none,.dict ⟨[⟨kh P z0,.str z0 165,.str Ny 309⟩,⟨kh P z2,.str z2 166,.none⟩,⟨kh P z3,.str z3 167,.none⟩,⟨kh P z4,.str z4 168,.builtin t1⟩,⟨kh P z5,.str z5 169,.none⟩,⟨kh P z6,.str z6 170,.ref 6⟩,⟨kh P z7,.str z7 171,.ref 4⟩,⟨kh P z8,.str z8 173,.str z9 172⟩,⟨kh P z10,.str z10 174,.none⟩,⟨kh P z11,.str z11 206,.ref 24⟩,⟨kh P z12,.str z12 222,.ref 37⟩,⟨kh P z13,.str z13 238,.ref 49⟩,⟨kh P z14,.str z14 254,.ref 61⟩,⟨kh P z15,.str z15 270,.ref 73⟩,⟨kh P z16,.str z16 280,.ref 82⟩,⟨kh P z17,.str z17 288,.ref 89⟩,⟨kh P z18,.str z18 299,.ref 96⟩,⟨kh P z19,.str z19 308,.ref 103⟩,⟨kh P z20,.str z20 312,.int 12 311⟩,⟨kh P z21,.str z21 314,.int 300 313⟩]⟩ 20,⟨[]⟩⟩
def Yx(P:Params):Obj:=⟨.type t0,.none,.dict ⟨[⟨kh P z0,.str z0 165,.str MN 368⟩,⟨kh P z2,.str z2 166,.none⟩,⟨kh P z3,.str z3 167,.none⟩,⟨kh P z4,.str z4 168,.builtin t1⟩,⟨kh P z5,.str z5 169,.none⟩,⟨kh P z6,.str z6 170,.ref 6⟩,⟨kh P z7,.str z7 171,.ref 4⟩,⟨kh P z8,.str z8 173,.str z9 172⟩,⟨kh P z10,.str z10 174,.none⟩,⟨kh P z11,.str z11 206,.ref 24⟩,⟨kh P z12,.str z12 222,.ref 37⟩,⟨kh P z13,.str z13 238,.ref 49⟩,⟨kh P z14,.str z14 254,.ref 61⟩,⟨kh P z15,.str z15 270,.ref 73⟩,⟨kh P z16,.str z16 280,.ref 82⟩,⟨kh P z17,.str z17 288,.ref 89⟩,⟨kh P z18,.str z18 299,.ref 96⟩,⟨kh P z19,.str z19 308,.ref 103⟩,⟨kh P z20,.str z20 312,.int 12 311⟩,⟨kh P z21,.str z21 314,.int 300 313⟩,⟨kh P z22,.str z22 322,.ref 110⟩,⟨kh P z23,.str z23 329,.ref 117⟩,⟨kh P z24,.str z24 340,.ref 124⟩,⟨kh P z25,.str z25 352,.ref 131⟩,⟨kh P z26,.str z26 359,.ref 138⟩,⟨kh P z27,.str z27 367,.ref 145⟩,⟨kh P z28,.str z28 377,.ref 152⟩,⟨kh P z29,.str z29 389,.ref 159⟩,⟨kh P z30,.str z30 404,.ref 166⟩,⟨kh P z31,.str z31 410,.ref 171⟩,⟨kh P z32,.str z32 422,.ref 178⟩,⟨kh P z33,.str z33 428,.ref 183⟩]⟩ 32,⟨[]⟩⟩
def Zb(P:Params):Obj:=⟨.type t0,.none,.dict ⟨[⟨kh P z0,.str z0 165,.str Vw 524⟩,⟨kh P z2,.str z2 166,.none⟩,⟨kh P z3,.str z3 167,.none⟩,⟨kh P z4,.str z4 168,.builtin t1⟩,⟨kh P z5,.str z5 169,.none⟩,⟨kh P z6,.str z6 170,.ref 6⟩,⟨kh P z7,.str z7 171,.ref 4⟩,⟨kh P z8,.str z8 173,.str z9 172⟩,⟨kh P z10,.str z10 174,.none⟩,⟨kh P z11,.str z11 206,.ref 24⟩,⟨kh P z12,.str z12 222,.ref 37⟩,⟨kh P z13,.str z13 238,.ref 49⟩,⟨kh P z14,.str z14 254,.ref 61⟩,⟨kh P z15,.str z15 270,.ref 73⟩,⟨kh P z16,.str z16 280,.ref 82⟩,⟨kh P z17,.str z17 288,.ref 89⟩,⟨kh P z18,.str z18 299,.ref 96⟩,⟨kh P z19,.str z19 308,.ref 103⟩,⟨kh P z20,.str z20 312,.int 12 311⟩,⟨kh P z21,.str z21 314,.int 300 313⟩,⟨kh P z22,.str z22 322,.ref 110⟩,⟨kh P z23,.str z23 329,.ref 117⟩,⟨kh P z24,.str z24 340,.ref 124⟩,⟨kh P z25,.str z25 352,.ref 131⟩,⟨kh P z26,.str z26 359,.ref 138⟩,⟨kh P z27,.str z27 367,.ref 145⟩,⟨kh P z28,.str z28 377,.ref 152⟩,⟨kh P z29,.str z29 389,.ref 159⟩,⟨kh P z30,.str z30 404,.ref 166⟩,⟨kh P z31,.str z31 410,.ref 171⟩,⟨kh P z32,.str z32 422,.ref 178⟩,⟨kh P z33,.str z33 428,.ref 183⟩,⟨kh P z34,.str z34 434,.ref 188⟩,⟨kh P z35,.str z35 442,.ref 193⟩,⟨kh P z36,.str z36 453,.ref 200⟩,⟨kh P z37,.str z37 462,.ref 207⟩,⟨kh P z38,.str z38 466,.int 1000000 465⟩,⟨kh P z39,.str z39 474,.ref 214⟩,⟨kh P z40,.str z40 482,.ref 221⟩,⟨kh P z41,.str z41 488,.ref 226⟩,⟨kh P z42,.str z42 497,.ref 233⟩,⟨kh P z43,.str z43 508,.ref 240⟩,⟨kh P z44,.str z44 514,.ref 245⟩,⟨kh P z45,.str z45 523,.ref 252⟩,⟨kh P z46,.str z46 531,.ref 257⟩]⟩ 45,⟨[]⟩⟩
def V2(P:Params):Obj:=⟨.type t0,.none,.dict ⟨[⟨kh P z0,.str z0 165,.str Ah 551⟩,⟨kh P z2,.str z2 166,.none⟩,⟨kh P z3,.str z3 167,.none⟩,⟨kh P z4,.str z4 168,.builtin t1⟩,⟨kh P z5,.str z5 169,.none⟩,⟨kh P z6,.str z6 170,.ref 6⟩,⟨kh P z7,.str z7 171,.ref 4⟩,⟨kh P z8,.str z8 173,.str z9 172⟩,⟨kh P z10,.str z10 174,.none⟩,⟨kh P z11,.str z11 206,.ref 24⟩,⟨kh P z12,.str z12 222,.ref 37⟩,⟨kh P z13,.str z13 238,.ref 49⟩,⟨kh P z14,.str z14 254,.ref 61⟩,⟨kh P z15,.str z15 270,.ref 73⟩,⟨kh P z16,.str z16 280,.ref 82⟩,⟨kh P z17,.str z17 288,.ref 89⟩,⟨kh P z18,.str z18 299,.ref 96⟩,⟨kh P z19,.str z19 308,.ref 103⟩,⟨kh P z20,.str z20 312,.int 12 311⟩,⟨kh P z21,.str z21 314,.int 300 313⟩,⟨kh P z22,.str z22 322,.ref 110⟩,⟨kh P z23,.str z23 329,.ref 117⟩,⟨kh P z24,.str z24 340,.ref 124⟩,⟨kh P z25,.str z25 352,.ref 131⟩,⟨kh P z26,.str z26 359,.ref 138⟩,⟨kh P z27,.str z27 367,.ref 145⟩,⟨kh P z28,.str z28 377,.ref 152⟩,⟨kh P z29,.str z29 389,.ref 159⟩,⟨kh P z30,.str z30 404,.ref 166⟩,⟨kh P z31,.str z31 410,.ref 171⟩,⟨kh P z32,.str z32 422,.ref 178⟩,⟨kh P z33,.str z33 428,.ref 183⟩,⟨kh P z34,.str z34 434,.ref 188⟩,⟨kh P z35,.str z35 442,.ref 193⟩,⟨kh P z36,.str z36 453,.ref 200⟩,⟨kh P z37,.str z37 462,.ref 207⟩,⟨kh P z38,.str z38 466,.int 1000000 465⟩,⟨kh P z39,.str z39 474,.ref 214⟩,⟨kh P z40,.str z40 482,.ref 221⟩,⟨kh P z41,.str z41 488,.ref 226⟩,⟨kh P z42,.str z42 497,.ref 233⟩,⟨kh P z43,.str z43 508,.ref 240⟩,⟨kh P z44,.str z44 514,.ref 245⟩,⟨kh P z45,.str z45 523,.ref 252⟩,⟨kh P z46,.str z46 531,.ref 257⟩,⟨kh P z47,.str z47 541,.ref 264⟩,⟨kh P z48,.str z48 550,.ref 271⟩,⟨kh P z49,.str z49 554,.int 100 553⟩,⟨kh P z50,.str z50 556,.int 10 555⟩,⟨kh P z51,.str z51 563,.ref 278⟩,⟨kh P z52,.str z52 571,.ref 285⟩,⟨kh P z53,.str z53 577,.ref 290⟩,⟨kh P z54,.str z54 586,.ref 297⟩,⟨kh P z55,.str z55 595,.ref 304⟩,⟨kh P z56,.str z56 601,.ref 309⟩,⟨kh P z57,.str z57 607,.ref 314⟩,⟨kh P z58,.str z58 620,.ref 321⟩,⟨kh P z59,.str z59 628,.ref 328⟩,⟨kh P z60,.str z60 636,.ref 335⟩]⟩ 59,⟨[]⟩⟩
def Z4(P:Params):Obj:=⟨.type t0,.none,.dict ⟨(l3 P).take 71⟩ 71,⟨[]⟩⟩
def o11:Obj:=⟨.type t2,.none,.seq ⟨[]⟩ 0,⟨[]⟩⟩
def l12:List Value:=[.int 2 0,.int 0 0,.ref 20,.int 4 0,.int 0 0,.ref 33,.int 6 0,.int 0 0,.ref 45,.int 8 0,.int 0 0,.ref 57,.int 10 0,.int 0 0,.ref 69,.int 13 0,.int 0 0,.ref 81,.int 22 0,.int 0 0,.ref 88,.int 26 0,.int 0 0,.ref 95,.int 36 0,.int 0 0,.ref 102,.int 45 0,.int 0 0,.ref 109,.int 49 0,.int 0 0,.ref 116,.int 52 0,.int 0 0,.ref 123,.int 57 0,.int 0 0,.ref 130,.int 65 0,.int 0 0,.ref 137,.int 68 0,.int 0 0,.ref 144,.int 72 0,.int 0 0,.ref 151,.int 77 0,.int 0 0,.ref 158,.int 83 0,.int 0 0,.ref 165,.int 93 0,.int 0 0,.ref 170,.int 98 0,.int 0 0,.ref 177,.int 106 0,.int 0 0,.ref 182,.int 110 0,.int 0 0,.ref 187,.int 114 0,.int 0 0,.ref 192,.int 117 0,.int 0 0,.ref 199,.int 123 0,.int 0 0,.ref 206,.int 130 0,.int 0 0,.ref 213,.int 135 0,.int 0 0,.ref 220,.int 137 0,.int 0 0,.ref 225,.int 139 0,.int 0 0,.ref 232,.int 142 0,.int 0 0,.ref 239,.int 145 0,.int 0 0,.ref 244,.int 163 0,.int 0 0,.ref 251,.int 166 0,.int 0 0,.ref 256,.int 174 0,.int 0 0,.ref 263,.int 179 0,.int 0 0,.ref 270,.int 186 0,.int 0 0,.ref 277,.int 189 0,.int 0 0,.ref 284,.int 192 0,.int 0 0,.ref 289,.int 196 0,.int 0 0,.ref 296,.int 198 0,.int 0 0,.ref 303,.int 200 0,.int 0 0,.ref 308,.int 202 0,.int 0 0,.ref 313,.int 207 0,.int 0 0,.ref 320,.int 214 0,.int 0 0,.ref 327,.int 216 0,.int 0 0,.ref 334,.int 218 0,.int 0 0,.ref 339,.int 228 0,.int 0 0,.ref 344,.int 230 0,.int 0 0,.ref 349,.int 238 0,.int 0 0,.ref 354,.int 246 0,.int 0 0,.ref 361,.int 252 0,.int 0 0,.ref 368,.int 261 0,.int 0 0,.ref 373,.int 265 0,.int 0 0,.ref 380,.int 271 0,.int 0 0,.ref 387,.int 282 0,.int 0 0,.ref 394,.int 286 0,.int 0 0,.ref 401,.int 290 0,.int 0 0,.ref 408,.int 293 0,.int 0 0,.ref 415,.int 295 0,.int 0 0,.ref 422,.int 299 0,.int 0 0,.ref 429,.int 307 0,.int 0 0,.ref 436,.int 316 0,.int 0 0,.ref 441,.int 327 0,.int 0 0,.ref 446,.int 333 0,.int 0 0,.ref 451,.int 348 0,.int 0 0,.ref 458,.int 355 0,.int 0 0,.ref 463]
def o12:Obj:=⟨.none,.none,.fields ⟨l12⟩,⟨[]⟩⟩
def U4:Obj:=⟨.none,.none,.fields ⟨l12.take 0⟩,⟨[]⟩⟩
def aak:Obj:=⟨.none,.none,.fields ⟨l12.take 3⟩,⟨[]⟩⟩
def V1:Obj:=⟨.none,.none,.fields ⟨l12.take 6⟩,⟨[]⟩⟩
def aad:Obj:=⟨.none,.none,.fields ⟨l12.take 9⟩,⟨[]⟩⟩
def Uk:Obj:=⟨.none,.none,.fields ⟨l12.take 12⟩,⟨[]⟩⟩
def RN:Obj:=⟨.none,.none,.fields ⟨l12.take 27⟩,⟨[]⟩⟩
def UC:Obj:=⟨.none,.none,.fields ⟨l12.take 63⟩,⟨[]⟩⟩
def Uh:Obj:=⟨.none,.none,.fields ⟨l12.take 99⟩,⟨[]⟩⟩
def RL:Obj:=⟨.none,.none,.fields ⟨l12.take 135⟩,⟨[]⟩⟩
def Uw:Obj:=⟨.none,.none,.fields ⟨l12.take 171⟩,⟨[]⟩⟩
def o13:Obj:=⟨.type t3,.none,.fields ⟨[.str z82 182,.str z82 183,.str z9 184,.int 1 0,.int 0 0,.int 0 0,.int 0 0,.int 0 0,.ref 11,.bool false,.int 181 0,.ref 12,.none,.none,.none,.none,.int 185 0,.int 1 0,.str z9 186]⟩,⟨[]⟩⟩
def o14:Obj:=⟨.type t4,.none,.plain,⟨[.some (.ref 13),.some (.ref 3),.some (.ref 3),.none,.some (.str z83 164),.none,.some (.ref 0)]⟩⟩
def o15:Obj:=⟨.type t2,.none,.seq ⟨[.type t5]⟩ 0,⟨[]⟩⟩
def o16:Obj:=⟨.type t6,.none,.fields ⟨[.builtin t7,.type t8]⟩,⟨[]⟩⟩
def o17(P:Params):Obj:=⟨.type t0,.none,.dict ⟨[⟨kh P z84,.str z84 196,.str z85 187⟩,⟨kh P z86,.str z86 198,.str z11 197⟩,⟨kh P z87,.str z87 200,.int 2 199⟩,⟨kh P z88,.str z88 201,.ref 22⟩]⟩ 4,⟨[]⟩⟩
def o19:Obj:=⟨.none,.none,.fields ⟨[]⟩,⟨[]⟩⟩
def o20:Obj:=⟨.type t3,.none,.fields ⟨[.str z11 191,.str z11 192,.str z9 193,.int 2 0,.int 0 0,.int 0 0,.int 0 0,.int 0 0,.ref 18,.bool false,.int 181 0,.ref 19,.none,.none,.none,.none,.int 194 0,.int 2 0,.str z9 195]⟩,⟨[]⟩⟩
def o21:Obj:=⟨.type t4,.none,.plain,⟨[.some (.ref 20),.some (.ref 3),.some (.ref 17),.none,.some (.str z85 187),.none,.some (.ref 0)]⟩⟩
def o23(P:Params):Obj:=⟨.type t0,.none,.dict ⟨[⟨kh P z84,.str z84 196,.str z85 187⟩,⟨kh P z87,.str z87 200,.int 2 199⟩,⟨kh P z88,.str z88 201,.ref 22⟩,⟨kh P z89,.str z89 203,.ref 25⟩,⟨kh P z2,.str z2 204,.none⟩]⟩ 3,⟨[]⟩⟩
def o24:Obj:=⟨.type t8,.none,.cls ⟨z11,[.type t5],[.ref 24,.type t5,.type t10,.type t11,.type t12],23,z11,true,[],[.ref 37,.ref 49,.ref 61,.ref 73],false,.none,false⟩,⟨[.some (.ref 15),.none,.some (.str z11 189),.some (.str z11 197),.some (.builtin t9),.some (.bool true)]⟩⟩
def Wc:Obj:=⟨.type t8,.none,.cls ⟨z11,[.type t5],[.ref 24,.type t5,.type t10,.type t11,.type t12],23,z11,true,[],[],false,.none,false⟩,⟨[.some (.ref 15),.none,.some (.str z11 189),.some (.str z11 197),.some (.builtin t9),.some (.bool true)]⟩⟩
def aah:Obj:=⟨.type t8,.none,.cls ⟨z11,[.type t5],[.ref 24,.type t5,.type t10,.type t11,.type t12],23,z11,true,[],[.ref 37],false,.none,false⟩,⟨[.some (.ref 15),.none,.some (.str z11 189),.some (.str z11 197),.some (.builtin t9),.some (.bool true)]⟩⟩
def aa8:Obj:=⟨.type t8,.none,.cls ⟨z11,[.type t5],[.ref 24,.type t5,.type t10,.type t11,.type t12],23,z11,true,[],[.ref 37,.ref 49],false,.none,false⟩,⟨[.some (.ref 15),.none,.some (.str z11 189),.some (.str z11 197),.some (.builtin t9),.some (.bool true)]⟩⟩
def RM:Obj:=⟨.type t8,.none,.cls ⟨z11,[.type t5],[.ref 24,.type t5,.type t10,.type t11,.type t12],23,z11,true,[],[.ref 37,.ref 49,.ref 61],false,.none,false⟩,⟨[.some (.ref 15),.none,.some (.str z11 189),.some (.str z11 197),.some (.builtin t9),.some (.bool true)]⟩⟩
def o25:Obj:=⟨.type t13,.none,.fields ⟨[.str z89 202,.ref 24,.builtin t14,.none]⟩,⟨[]⟩⟩
def o26:Obj:=⟨.type t15,.none,.fields ⟨[.ref 24,.ref 24,.ref 24]⟩,⟨[]⟩⟩
def o27:Obj:=⟨.type t6,.none,.fields ⟨[.builtin t16,.ref 24]⟩,⟨[]⟩⟩
def o28:Obj:=⟨.type t2,.none,.seq ⟨[.ref 24]⟩ 0,⟨[]⟩⟩
def o30(P:Params):Obj:=⟨.type t0,.none,.dict ⟨[⟨kh P z84,.str z84 214,.str z85 187⟩,⟨kh P z86,.str z86 216,.str z12 215⟩,⟨kh P z87,.str z87 218,.int 4 217⟩,⟨kh P z88,.str z88 219,.ref 35⟩]⟩ 4,⟨[]⟩⟩
def o33:Obj:=⟨.type t3,.none,.fields ⟨[.str z12 209,.str z12 210,.str z9 211,.int 4 0,.int 0 0,.int 0 0,.int 0 0,.int 0 0,.ref 31,.bool false,.int 181 0,.ref 32,.none,.none,.none,.none,.int 212 0,.int 4 0,.str z9 213]⟩,⟨[]⟩⟩
def o34:Obj:=⟨.type t4,.none,.plain,⟨[.some (.ref 33),.some (.ref 3),.some (.ref 30),.none,.some (.str z85 187),.none,.some (.ref 0)]⟩⟩
def o36(P:Params):Obj:=⟨.type t0,.none,.dict ⟨[⟨kh P z84,.str z84 214,.str z85 187⟩,⟨kh P z87,.str z87 218,.int 4 217⟩,⟨kh P z88,.str z88 219,.ref 35⟩,⟨kh P z2,.str z2 220,.none⟩]⟩ 2,⟨[]⟩⟩
def o37:Obj:=⟨.type t8,.none,.cls ⟨z12,[.ref 24],[.ref 37,.ref 24,.type t5,.type t10,.type t11,.type t12],36,z12,true,[],[],false,.none,false⟩,⟨[.some (.ref 28),.none,.some (.str z12 207),.some (.str z12 215),.some (.builtin t9),.some (.bool true)]⟩⟩
def o38:Obj:=⟨.type t15,.none,.fields ⟨[.ref 37,.ref 37,.ref 37]⟩,⟨[]⟩⟩
def o39:Obj:=⟨.type t6,.none,.fields ⟨[.builtin t16,.ref 37]⟩,⟨[]⟩⟩
def o42(P:Params):Obj:=⟨.type t0,.none,.dict ⟨[⟨kh P z84,.str z84 230,.str z85 187⟩,⟨kh P z86,.str z86 232,.str z13 231⟩,⟨kh P z87,.str z87 234,.int 6 233⟩,⟨kh P z88,.str z88 235,.ref 47⟩]⟩ 4,⟨[]⟩⟩
def o45:Obj:=⟨.type t3,.none,.fields ⟨[.str z13 225,.str z13 226,.str z9 227,.int 6 0,.int 0 0,.int 0 0,.int 0 0,.int 0 0,.ref 43,.bool false,.int 181 0,.ref 44,.none,.none,.none,.none,.int 228 0,.int 6 0,.str z9 229]⟩,⟨[]⟩⟩
def o46:Obj:=⟨.type t4,.none,.plain,⟨[.some (.ref 45),.some (.ref 3),.some (.ref 42),.none,.some (.str z85 187),.none,.some (.ref 0)]⟩⟩
def o48(P:Params):Obj:=⟨.type t0,.none,.dict ⟨[⟨kh P z84,.str z84 230,.str z85 187⟩,⟨kh P z87,.str z87 234,.int 6 233⟩,⟨kh P z88,.str z88 235,.ref 47⟩,⟨kh P z2,.str z2 236,.none⟩]⟩ 2,⟨[]⟩⟩
def o49:Obj:=⟨.type t8,.none,.cls ⟨z13,[.ref 24],[.ref 49,.ref 24,.type t5,.type t10,.type t11,.type t12],48,z13,true,[],[],false,.none,false⟩,⟨[.some (.ref 40),.none,.some (.str z13 223),.some (.str z13 231),.some (.builtin t9),.some (.bool true)]⟩⟩
def o50:Obj:=⟨.type t15,.none,.fields ⟨[.ref 49,.ref 49,.ref 49]⟩,⟨[]⟩⟩
def o51:Obj:=⟨.type t6,.none,.fields ⟨[.builtin t16,.ref 49]⟩,⟨[]⟩⟩
def o54(P:Params):Obj:=⟨.type t0,.none,.dict ⟨[⟨kh P z84,.str z84 246,.str z85 187⟩,⟨kh P z86,.str z86 248,.str z14 247⟩,⟨kh P z87,.str z87 250,.int 8 249⟩,⟨kh P z88,.str z88 251,.ref 59⟩]⟩ 4,⟨[]⟩⟩
def o57:Obj:=⟨.type t3,.none,.fields ⟨[.str z14 241,.str z14 242,.str z9 243,.int 8 0,.int 0 0,.int 0 0,.int 0 0,.int 0 0,.ref 55,.bool false,.int 181 0,.ref 56,.none,.none,.none,.none,.int 244 0,.int 8 0,.str z9 245]⟩,⟨[]⟩⟩
def o58:Obj:=⟨.type t4,.none,.plain,⟨[.some (.ref 57),.some (.ref 3),.some (.ref 54),.none,.some (.str z85 187),.none,.some (.ref 0)]⟩⟩
def o60(P:Params):Obj:=⟨.type t0,.none,.dict ⟨[⟨kh P z84,.str z84 246,.str z85 187⟩,⟨kh P z87,.str z87 250,.int 8 249⟩,⟨kh P z88,.str z88 251,.ref 59⟩,⟨kh P z2,.str z2 252,.none⟩]⟩ 2,⟨[]⟩⟩
def o61:Obj:=⟨.type t8,.none,.cls ⟨z14,[.ref 24],[.ref 61,.ref 24,.type t5,.type t10,.type t11,.type t12],60,z14,true,[],[],false,.none,false⟩,⟨[.some (.ref 52),.none,.some (.str z14 239),.some (.str z14 247),.some (.builtin t9),.some (.bool true)]⟩⟩
def o62:Obj:=⟨.type t15,.none,.fields ⟨[.ref 61,.ref 61,.ref 61]⟩,⟨[]⟩⟩
def o63:Obj:=⟨.type t6,.none,.fields ⟨[.builtin t16,.ref 61]⟩,⟨[]⟩⟩
def o66(P:Params):Obj:=⟨.type t0,.none,.dict ⟨[⟨kh P z84,.str z84 262,.str z85 187⟩,⟨kh P z86,.str z86 264,.str z15 263⟩,⟨kh P z87,.str z87 266,.int 10 265⟩,⟨kh P z88,.str z88 267,.ref 71⟩]⟩ 4,⟨[]⟩⟩
def o69:Obj:=⟨.type t3,.none,.fields ⟨[.str z15 257,.str z15 258,.str z9 259,.int 10 0,.int 0 0,.int 0 0,.int 0 0,.int 0 0,.ref 67,.bool false,.int 181 0,.ref 68,.none,.none,.none,.none,.int 260 0,.int 10 0,.str z9 261]⟩,⟨[]⟩⟩
def o70:Obj:=⟨.type t4,.none,.plain,⟨[.some (.ref 69),.some (.ref 3),.some (.ref 66),.none,.some (.str z85 187),.none,.some (.ref 0)]⟩⟩
def o72(P:Params):Obj:=⟨.type t0,.none,.dict ⟨[⟨kh P z84,.str z84 262,.str z85 187⟩,⟨kh P z87,.str z87 266,.int 10 265⟩,⟨kh P z88,.str z88 267,.ref 71⟩,⟨kh P z2,.str z2 268,.none⟩]⟩ 2,⟨[]⟩⟩
def o73:Obj:=⟨.type t8,.none,.cls ⟨z15,[.ref 24],[.ref 73,.ref 24,.type t5,.type t10,.type t11,.type t12],72,z15,true,[],[],false,.none,false⟩,⟨[.some (.ref 64),.none,.some (.str z15 255),.some (.str z15 263),.some (.builtin t9),.some (.bool true)]⟩⟩
def o74:Obj:=⟨.type t15,.none,.fields ⟨[.ref 73,.ref 73,.ref 73]⟩,⟨[]⟩⟩
def o75:Obj:=⟨.type t6,.none,.fields ⟨[.builtin t16,.ref 73]⟩,⟨[]⟩⟩
def o78:Obj:=⟨.type t2,.none,.seq ⟨[.str z90 276,.str z91 277]⟩ 0,⟨[]⟩⟩
def o80:Obj:=⟨.none,.none,.func ⟨z16,z16,L2.aC (tt 7),.stmts (L2.aA (tt 7)),L2.aj (tt 7),0,[],.none,.none,.none,.none,.none,.none,.none,0⟩,⟨[]⟩⟩
def o81:Obj:=⟨.type t3,.none,.fields ⟨[.str z16 273,.str z16 274,.str z9 275,.int 13 0,.int 1 0,.int 0 0,.int 0 0,.int 3 0,.ref 76,.bool true,.int 181 0,.ref 77,.none,.ref 78,.ref 79,.ref 80,.int 278 0,.int 13 0,.str z9 279]⟩,⟨[]⟩⟩
def o82:Obj:=⟨.type t17,.none,.func ⟨z16,z16,L2.aC (tt 7),.stmts (L2.aA (tt 7)),L2.aj (tt 7),3,[],.none,.none,.none,.str z92 271,.none,.ref 81,.none,0⟩,⟨[]⟩⟩
def o85:Obj:=⟨.type t2,.none,.seq ⟨[.str z93 284,.str z90 285]⟩ 0,⟨[]⟩⟩
def o87:Obj:=⟨.none,.none,.func ⟨z17,z17,L2.aC (tt 8),.stmts (L2.aA (tt 8)),L2.aj (tt 8),0,[],.none,.none,.none,.none,.none,.none,.none,0⟩,⟨[]⟩⟩
def o88:Obj:=⟨.type t3,.none,.fields ⟨[.str z17 281,.str z17 282,.str z9 283,.int 22 0,.int 2 0,.int 0 0,.int 0 0,.int 3 0,.ref 83,.bool true,.int 181 0,.ref 84,.none,.ref 85,.ref 86,.ref 87,.int 286 0,.int 22 0,.str z9 287]⟩,⟨[]⟩⟩
def o89:Obj:=⟨.type t17,.none,.func ⟨z17,z17,L2.aC (tt 8),.stmts (L2.aA (tt 8)),L2.aj (tt 8),3,[],.none,.none,.none,.str z92 271,.none,.ref 88,.none,0⟩,⟨[]⟩⟩
def o92:Obj:=⟨.type t2,.none,.seq ⟨[.str z94 292,.str z90 293,.str z95 294,.str z96 295,.str z97 296]⟩ 0,⟨[]⟩⟩
def o94:Obj:=⟨.none,.none,.func ⟨z18,z18,L2.aC (tt 9),.stmts (L2.aA (tt 9)),L2.aj (tt 9),0,[],.none,.none,.none,.none,.none,.none,.none,0⟩,⟨[]⟩⟩
def o95:Obj:=⟨.type t3,.none,.fields ⟨[.str z18 289,.str z18 290,.str z9 291,.int 26 0,.int 2 0,.int 0 0,.int 0 0,.int 3 0,.ref 90,.bool true,.int 181 0,.ref 91,.none,.ref 92,.ref 93,.ref 94,.int 297 0,.int 26 0,.str z9 298]⟩,⟨[]⟩⟩
def o96:Obj:=⟨.type t17,.none,.func ⟨z18,z18,L2.aC (tt 9),.stmts (L2.aA (tt 9)),L2.aj (tt 9),3,[],.none,.none,.none,.str z92 271,.none,.ref 95,.none,0⟩,⟨[]⟩⟩
def o99:Obj:=⟨.type t2,.none,.seq ⟨[.str z93 303,.str z98 304,.str z99 305]⟩ 0,⟨[]⟩⟩
def Wz:Obj:=⟨.none,.none,.func ⟨z19,z19,L2.aC (tt 10),.stmts (L2.aA (tt 10)),L2.aj (tt 10),0,[],.none,.none,.none,.none,.none,.none,.none,0⟩,⟨[]⟩⟩
def Y6:Obj:=⟨.type t3,.none,.fields ⟨[.str z19 300,.str z19 301,.str z9 302,.int 36 0,.int 3 0,.int 0 0,.int 0 0,.int 3 0,.ref 97,.bool true,.int 181 0,.ref 98,.none,.ref 99,.ref 100,.ref 101,.int 306 0,.int 36 0,.str z9 307]⟩,⟨[]⟩⟩
def V9:Obj:=⟨.type t17,.none,.func ⟨z19,z19,L2.aC (tt 10),.stmts (L2.aA (tt 10)),L2.aj (tt 10),3,[],.none,.none,.none,.str z92 271,.none,.ref 102,.none,0⟩,⟨[]⟩⟩
def WM:Obj:=⟨.type t2,.none,.seq ⟨[.str z98 318,.str z99 319]⟩ 0,⟨[]⟩⟩
def WH:Obj:=⟨.none,.none,.func ⟨z22,z22,L2.aC (tt 14),.stmts (L2.aA (tt 14)),L2.aj (tt 14),0,[],.none,.none,.none,.none,.none,.none,.none,0⟩,⟨[]⟩⟩
def Zw:Obj:=⟨.type t3,.none,.fields ⟨[.str z22 315,.str z22 316,.str z9 317,.int 45 0,.int 2 0,.int 0 0,.int 0 0,.int 3 0,.ref 104,.bool true,.int 181 0,.ref 105,.none,.ref 106,.ref 107,.ref 108,.int 320 0,.int 45 0,.str z9 321]⟩,⟨[]⟩⟩
def Zf:Obj:=⟨.type t17,.none,.func ⟨z22,z22,L2.aC (tt 14),.stmts (L2.aA (tt 14)),L2.aj (tt 14),3,[],.none,.none,.none,.str Ny 309,.none,.ref 109,.none,0⟩,⟨[]⟩⟩
def X7:Obj:=⟨.type t2,.none,.seq ⟨[.str Kd 326]⟩ 0,⟨[]⟩⟩
def V6:Obj:=⟨.none,.none,.func ⟨z23,z23,L2.aC (tt 15),.stmts (L2.aA (tt 15)),L2.aj (tt 15),0,[],.none,.none,.none,.none,.none,.none,.none,0⟩,⟨[]⟩⟩
def YG:Obj:=⟨.type t3,.none,.fields ⟨[.str z23 323,.str z23 324,.str z9 325,.int 49 0,.int 1 0,.int 0 0,.int 0 0,.int 3 0,.ref 111,.bool true,.int 181 0,.ref 112,.none,.ref 113,.ref 114,.ref 115,.int 327 0,.int 49 0,.str z9 328]⟩,⟨[]⟩⟩
def Zr:Obj:=⟨.type t17,.none,.func ⟨z23,z23,L2.aC (tt 15),.stmts (L2.aA (tt 15)),L2.aj (tt 15),3,[],.none,.none,.none,.str Ny 309,.none,.ref 116,.none,0⟩,⟨[]⟩⟩
def abn:Obj:=⟨.type t2,.none,.seq ⟨[.str z93 333,.str Rj 334,.str acu 335,.str ach 336,.str Rh 337]⟩ 0,⟨[]⟩⟩
def Yo:Obj:=⟨.none,.none,.func ⟨z24,z24,L2.aC (tt 16),.stmts (L2.aA (tt 16)),L2.aj (tt 16),0,[],.none,.none,.none,.none,.none,.none,.none,0⟩,⟨[]⟩⟩
def abv:Obj:=⟨.type t3,.none,.fields ⟨[.str z24 330,.str z24 331,.str z9 332,.int 52 0,.int 3 0,.int 0 0,.int 0 0,.int 3 0,.ref 118,.bool true,.int 181 0,.ref 119,.none,.ref 120,.ref 121,.ref 122,.int 338 0,.int 52 0,.str z9 339]⟩,⟨[]⟩⟩
def aa1:Obj:=⟨.type t17,.none,.func ⟨z24,z24,L2.aC (tt 16),.stmts (L2.aA (tt 16)),L2.aj (tt 16),3,[],.none,.none,.none,.str Ny 309,.none,.ref 123,.none,0⟩,⟨[]⟩⟩
def VX:Obj:=⟨.type t2,.none,.seq ⟨[.str Kd 344,.str Zh 345,.str z93 346,.str Rj 347,.str acv 348,.str abD 349]⟩ 0,⟨[]⟩⟩
def aaH:Obj:=⟨.none,.none,.func ⟨z25,z25,L2.aC (tt 17),.stmts (L2.aA (tt 17)),L2.aj (tt 17),0,[],.none,.none,.none,.none,.none,.none,.none,0⟩,⟨[]⟩⟩
def Z2:Obj:=⟨.type t3,.none,.fields ⟨[.str z25 341,.str z25 342,.str z9 343,.int 57 0,.int 2 0,.int 0 0,.int 0 0,.int 3 0,.ref 125,.bool true,.int 181 0,.ref 126,.none,.ref 127,.ref 128,.ref 129,.int 350 0,.int 57 0,.str z9 351]⟩,⟨[]⟩⟩
def W9:Obj:=⟨.type t17,.none,.func ⟨z25,z25,L2.aC (tt 17),.stmts (L2.aA (tt 17)),L2.aj (tt 17),3,[],.none,.none,.none,.str Ny 309,.none,.ref 130,.none,0⟩,⟨[]⟩⟩
def aaT:Obj:=⟨.type t2,.none,.seq ⟨[.str ZM 356]⟩ 0,⟨[]⟩⟩
def aaj:Obj:=⟨.none,.none,.func ⟨z26,z26,L2.aC (tt 18),.stmts (L2.aA (tt 18)),L2.aj (tt 18),0,[],.none,.none,.none,.none,.none,.none,.none,0⟩,⟨[]⟩⟩
def abp:Obj:=⟨.type t3,.none,.fields ⟨[.str z26 353,.str z26 354,.str z9 355,.int 65 0,.int 1 0,.int 0 0,.int 0 0,.int 3 0,.ref 132,.bool true,.int 181 0,.ref 133,.none,.ref 134,.ref 135,.ref 136,.int 357 0,.int 65 0,.str z9 358]⟩,⟨[]⟩⟩
def X8:Obj:=⟨.type t17,.none,.func ⟨z26,z26,L2.aC (tt 18),.stmts (L2.aA (tt 18)),L2.aj (tt 18),3,[],.none,.none,.none,.str Ny 309,.none,.ref 137,.none,0⟩,⟨[]⟩⟩
def Zd:Obj:=⟨.type t2,.none,.seq ⟨[.str Kd 363,.str Zh 364]⟩ 0,⟨[]⟩⟩
def abq:Obj:=⟨.none,.none,.func ⟨z27,z27,L2.aC (tt 19),.stmts (L2.aA (tt 19)),L2.aj (tt 19),0,[],.none,.none,.none,.none,.none,.none,.none,0⟩,⟨[]⟩⟩
def Zx:Obj:=⟨.type t3,.none,.fields ⟨[.str z27 360,.str z27 361,.str z9 362,.int 68 0,.int 2 0,.int 0 0,.int 0 0,.int 3 0,.ref 139,.bool true,.int 181 0,.ref 140,.none,.ref 141,.ref 142,.ref 143,.int 365 0,.int 68 0,.str z9 366]⟩,⟨[]⟩⟩
def XE:Obj:=⟨.type t17,.none,.func ⟨z27,z27,L2.aC (tt 19),.stmts (L2.aA (tt 19)),L2.aj (tt 19),3,[],.none,.none,.none,.str Ny 309,.none,.ref 144,.none,0⟩,⟨[]⟩⟩
def aaS:Obj:=⟨.type t2,.none,.seq ⟨[.str abL 373,.str acO 374]⟩ 0,⟨[]⟩⟩
def aaQ:Obj:=⟨.none,.none,.func ⟨z28,z28,L2.aC (tt 21),.stmts (L2.aA (tt 21)),L2.aj (tt 21),0,[],.none,.none,.none,.none,.none,.none,.none,0⟩,⟨[]⟩⟩
def aac:Obj:=⟨.type t3,.none,.fields ⟨[.str z28 370,.str z28 371,.str z9 372,.int 72 0,.int 1 0,.int 0 0,.int 0 0,.int 3 0,.ref 146,.bool true,.int 181 0,.ref 147,.none,.ref 148,.ref 149,.ref 150,.int 375 0,.int 72 0,.str z9 376]⟩,⟨[]⟩⟩
def aaE:Obj:=⟨.type t17,.none,.func ⟨z28,z28,L2.aC (tt 21),.stmts (L2.aA (tt 21)),L2.aj (tt 21),3,[],.none,.none,.none,.str MN 368,.none,.ref 151,.none,0⟩,⟨[]⟩⟩
def aaF:Obj:=⟨.type t2,.none,.seq ⟨[.str z93 381,.str z98 382,.str z99 383,.str ach 384,.str acY 385,.str Rh 386]⟩ 0,⟨[]⟩⟩
def WK:Obj:=⟨.none,.none,.func ⟨z29,z29,L2.aC (tt 22),.stmts (L2.aA (tt 22)),L2.aj (tt 22),0,[],.none,.none,.none,.none,.none,.none,.none,0⟩,⟨[]⟩⟩
def aas:Obj:=⟨.type t3,.none,.fields ⟨[.str z29 378,.str z29 379,.str z9 380,.int 77 0,.int 3 0,.int 0 0,.int 0 0,.int 3 0,.ref 153,.bool true,.int 181 0,.ref 154,.none,.ref 155,.ref 156,.ref 157,.int 387 0,.int 77 0,.str z9 388]⟩,⟨[]⟩⟩
def Xp:Obj:=⟨.type t17,.none,.func ⟨z29,z29,L2.aC (tt 22),.stmts (L2.aA (tt 22)),L2.aj (tt 22),3,[],.none,.none,.none,.str MN 368,.none,.ref 158,.none,0⟩,⟨[]⟩⟩
def Zu:Obj:=⟨.type t2,.none,.seq ⟨[.str z93 393,.str z98 394,.str z99 395,.str abG 396,.str acG 397,.str z97 398,.str ac4 399,.str acI 400,.str Rh 401]⟩ 0,⟨[]⟩⟩
def VD:Obj:=⟨.none,.none,.func ⟨z30,z30,L2.aC (tt 23),.stmts (L2.aA (tt 23)),L2.aj (tt 23),0,[],.none,.none,.none,.none,.none,.none,.none,0⟩,⟨[]⟩⟩
def WZ:Obj:=⟨.type t3,.none,.fields ⟨[.str z30 390,.str z30 391,.str z9 392,.int 83 0,.int 3 0,.int 0 0,.int 0 0,.int 3 0,.ref 160,.bool true,.int 181 0,.ref 161,.none,.ref 162,.ref 163,.ref 164,.int 402 0,.int 83 0,.str z9 403]⟩,⟨[]⟩⟩
def Vz:Obj:=⟨.type t17,.none,.func ⟨z30,z30,L2.aC (tt 23),.stmts (L2.aA (tt 23)),L2.aj (tt 23),3,[],.none,.none,.none,.str MN 368,.none,.ref 165,.none,0⟩,⟨[]⟩⟩
def Xu:Obj:=⟨.none,.none,.func ⟨z31,z31,L2.aC (tt 24),.stmts (L2.aA (tt 24)),L2.aj (tt 24),0,[],.none,.none,.none,.none,.none,.none,.none,0⟩,⟨[]⟩⟩
def YM:Obj:=⟨.type t3,.none,.fields ⟨[.str z31 405,.str z31 406,.str z9 407,.int 93 0,.int 2 0,.int 0 0,.int 0 0,.int 3 0,.ref 167,.bool true,.int 181 0,.ref 168,.none,.none,.none,.ref 169,.int 408 0,.int 93 0,.str z9 409]⟩,⟨[]⟩⟩
def Z8:Obj:=⟨.type t17,.none,.func ⟨z31,z31,L2.aC (tt 24),.stmts (L2.aA (tt 24)),L2.aj (tt 24),3,[],.none,.none,.none,.str MN 368,.none,.ref 170,.none,0⟩,⟨[]⟩⟩
def Yt:Obj:=⟨.type t2,.none,.seq ⟨[.str z93 414,.str z98 415,.str z99 416,.str ace 417,.str abQ 418,.str z97 419]⟩ 0,⟨[]⟩⟩
def Za:Obj:=⟨.none,.none,.func ⟨z32,z32,L2.aC (tt 25),.stmts (L2.aA (tt 25)),L2.aj (tt 25),0,[],.none,.none,.none,.none,.none,.none,.none,0⟩,⟨[]⟩⟩
def Ws:Obj:=⟨.type t3,.none,.fields ⟨[.str z32 411,.str z32 412,.str z9 413,.int 98 0,.int 3 0,.int 0 0,.int 0 0,.int 3 0,.ref 172,.bool true,.int 181 0,.ref 173,.none,.ref 174,.ref 175,.ref 176,.int 420 0,.int 98 0,.str z9 421]⟩,⟨[]⟩⟩
def aan:Obj:=⟨.type t17,.none,.func ⟨z32,z32,L2.aC (tt 25),.stmts (L2.aA (tt 25)),L2.aj (tt 25),3,[],.none,.none,.none,.str MN 368,.none,.ref 177,.none,0⟩,⟨[]⟩⟩
def VH:Obj:=⟨.none,.none,.func ⟨z33,z33,L2.aC (tt 26),.stmts (L2.aA (tt 26)),L2.aj (tt 26),0,[],.none,.none,.none,.none,.none,.none,.none,0⟩,⟨[]⟩⟩
def ZV:Obj:=⟨.type t3,.none,.fields ⟨[.str z33 423,.str z33 424,.str z9 425,.int 106 0,.int 2 0,.int 0 0,.int 0 0,.int 3 0,.ref 179,.bool true,.int 181 0,.ref 180,.none,.none,.none,.ref 181,.int 426 0,.int 106 0,.str z9 427]⟩,⟨[]⟩⟩
def WB:Obj:=⟨.type t17,.none,.func ⟨z33,z33,L2.aC (tt 26),.stmts (L2.aA (tt 26)),L2.aj (tt 26),3,[],.none,.none,.none,.str MN 368,.none,.ref 182,.none,0⟩,⟨[]⟩⟩
def Wy:Obj:=⟨.none,.none,.func ⟨z34,z34,L2.aC (tt 27),.stmts (L2.aA (tt 27)),L2.aj (tt 27),0,[],.none,.none,.none,.none,.none,.none,.none,0⟩,⟨[]⟩⟩
def Xm:Obj:=⟨.type t3,.none,.fields ⟨[.str z34 429,.str z34 430,.str z9 431,.int 110 0,.int 2 0,.int 0 0,.int 0 0,.int 3 0,.ref 184,.bool true,.int 181 0,.ref 185,.none,.none,.none,.ref 186,.int 432 0,.int 110 0,.str z9 433]⟩,⟨[]⟩⟩
def WY:Obj:=⟨.type t17,.none,.func ⟨z34,z34,L2.aC (tt 27),.stmts (L2.aA (tt 27)),L2.aj (tt 27),3,[],.none,.none,.none,.str MN 368,.none,.ref 187,.none,0⟩,⟨[]⟩⟩
def aax:Obj:=⟨.none,.none,.func ⟨z35,z35,L2.aC (tt 29),.stmts (L2.aA (tt 29)),L2.aj (tt 29),0,[],.none,.none,.none,.none,.none,.none,.none,0⟩,⟨[]⟩⟩
def aaN:Obj:=⟨.type t3,.none,.fields ⟨[.str z35 437,.str z35 438,.str z9 439,.int 114 0,.int 3 0,.int 0 0,.int 0 0,.int 3 0,.ref 189,.bool true,.int 181 0,.ref 190,.none,.none,.none,.ref 191,.int 440 0,.int 114 0,.str z9 441]⟩,⟨[]⟩⟩
def Wj:Obj:=⟨.type t17,.none,.func ⟨z35,z35,L2.aC (tt 29),.stmts (L2.aA (tt 29)),L2.aj (tt 29),3,[],.none,.none,.none,.str V0 435,.none,.ref 192,.none,0⟩,⟨[]⟩⟩
def Y7:Obj:=⟨.type t2,.none,.seq ⟨[.str Rj 446,.str Zh 447,.str abS 448,.str Rh 449,.str adu 450]⟩ 0,⟨[]⟩⟩
def WL:Obj:=⟨.none,.none,.func ⟨z36,z36,L2.aC (tt 30),.stmts (L2.aA (tt 30)),L2.aj (tt 30),0,[],.none,.none,.none,.none,.none,.none,.none,0⟩,⟨[]⟩⟩
def VB:Obj:=⟨.type t3,.none,.fields ⟨[.str z36 443,.str z36 444,.str z9 445,.int 117 0,.int 2 0,.int 0 0,.int 0 0,.int 3 0,.ref 194,.bool true,.int 181 0,.ref 195,.none,.ref 196,.ref 197,.ref 198,.int 451 0,.int 117 0,.str z9 452]⟩,⟨[]⟩⟩
def o200:Obj:=⟨.type t17,.none,.func ⟨z36,z36,L2.aC (tt 30),.stmts (L2.aA (tt 30)),L2.aj (tt 30),3,[],.none,.none,.none,.str V0 435,.none,.ref 199,.none,0⟩,⟨[]⟩⟩
def ZF:Obj:=⟨.type t2,.none,.seq ⟨[.str abS 457,.str Rj 458,.str Rh 459]⟩ 0,⟨[]⟩⟩
def XF:Obj:=⟨.none,.none,.func ⟨z37,z37,L2.aC (tt 31),.stmts (L2.aA (tt 31)),L2.aj (tt 31),0,[],.none,.none,.none,.none,.none,.none,.none,0⟩,⟨[]⟩⟩
def Zi:Obj:=⟨.type t3,.none,.fields ⟨[.str z37 454,.str z37 455,.str z9 456,.int 123 0,.int 1 0,.int 0 0,.int 0 0,.int 3 0,.ref 201,.bool true,.int 181 0,.ref 202,.none,.ref 203,.ref 204,.ref 205,.int 460 0,.int 123 0,.str z9 461]⟩,⟨[]⟩⟩
def aaD:Obj:=⟨.type t17,.none,.func ⟨z37,z37,L2.aC (tt 31),.stmts (L2.aA (tt 31)),L2.aj (tt 31),3,[],.none,.none,.none,.str V0 435,.none,.ref 206,.none,0⟩,⟨[]⟩⟩
def YC:Obj:=⟨.type t2,.none,.seq ⟨[.str z90 470,.str abD 471]⟩ 0,⟨[]⟩⟩
def XY:Obj:=⟨.none,.none,.func ⟨z39,z39,L2.aC (tt 34),.stmts (L2.aA (tt 34)),L2.aj (tt 34),0,[],.none,.none,.none,.none,.none,.none,.none,0⟩,⟨[]⟩⟩
def ZC:Obj:=⟨.type t3,.none,.fields ⟨[.str z39 467,.str z39 468,.str z9 469,.int 130 0,.int 1 0,.int 0 0,.int 0 0,.int 3 0,.ref 208,.bool true,.int 181 0,.ref 209,.none,.ref 210,.ref 211,.ref 212,.int 472 0,.int 130 0,.str z9 473]⟩,⟨[]⟩⟩
def aby:Obj:=⟨.type t17,.none,.func ⟨z39,z39,L2.aC (tt 34),.stmts (L2.aA (tt 34)),L2.aj (tt 34),3,[],.none,.none,.none,.str Nx 463,.none,.ref 213,.none,0⟩,⟨[]⟩⟩
def ZQ:Obj:=⟨.type t2,.none,.seq ⟨[.str adi 478,.str YS 479]⟩ 0,⟨[]⟩⟩
def Xv:Obj:=⟨.none,.none,.func ⟨z40,z40,L2.aC (tt 35),.stmts (L2.aA (tt 35)),L2.aj (tt 35),0,[],.none,.none,.none,.none,.none,.none,.none,0⟩,⟨[]⟩⟩
def W0:Obj:=⟨.type t3,.none,.fields ⟨[.str z40 475,.str z40 476,.str z9 477,.int 135 0,.int 2 0,.int 0 0,.int 0 0,.int 3 0,.ref 215,.bool true,.int 181 0,.ref 216,.none,.ref 217,.ref 218,.ref 219,.int 480 0,.int 135 0,.str z9 481]⟩,⟨[]⟩⟩
def V4:Obj:=⟨.type t17,.none,.func ⟨z40,z40,L2.aC (tt 35),.stmts (L2.aA (tt 35)),L2.aj (tt 35),3,[],.none,.none,.none,.str Nx 463,.none,.ref 220,.none,0⟩,⟨[]⟩⟩
def Zt:Obj:=⟨.none,.none,.func ⟨z41,z41,L2.aC (tt 36),.stmts (L2.aA (tt 36)),L2.aj (tt 36),0,[],.none,.none,.none,.none,.none,.none,.none,0⟩,⟨[]⟩⟩
def V3:Obj:=⟨.type t3,.none,.fields ⟨[.str z41 483,.str z41 484,.str z9 485,.int 137 0,.int 2 0,.int 0 0,.int 0 0,.int 3 0,.ref 222,.bool true,.int 181 0,.ref 223,.none,.none,.none,.ref 224,.int 486 0,.int 137 0,.str z9 487]⟩,⟨[]⟩⟩
def Xi:Obj:=⟨.type t17,.none,.func ⟨z41,z41,L2.aC (tt 36),.stmts (L2.aA (tt 36)),L2.aj (tt 36),3,[],.none,.none,.none,.str Nx 463,.none,.ref 225,.none,0⟩,⟨[]⟩⟩
def Yi:Obj:=⟨.type t2,.none,.seq ⟨[.str ab0 492,.str z90 493,.str abR 494]⟩ 0,⟨[]⟩⟩
def YW:Obj:=⟨.none,.none,.func ⟨z42,z42,L2.aC (tt 37),.stmts (L2.aA (tt 37)),L2.aj (tt 37),0,[],.none,.none,.none,.none,.none,.none,.none,0⟩,⟨[]⟩⟩
def Wr:Obj:=⟨.type t3,.none,.fields ⟨[.str z42 489,.str z42 490,.str z9 491,.int 139 0,.int 2 0,.int 0 0,.int 0 0,.int 3 0,.ref 227,.bool true,.int 181 0,.ref 228,.none,.ref 229,.ref 230,.ref 231,.int 495 0,.int 139 0,.str z9 496]⟩,⟨[]⟩⟩
def W5:Obj:=⟨.type t17,.none,.func ⟨z42,z42,L2.aC (tt 37),.stmts (L2.aA (tt 37)),L2.aj (tt 37),3,[],.none,.none,.none,.str Nx 463,.none,.ref 232,.none,0⟩,⟨[]⟩⟩
def Xy:Obj:=⟨.type t2,.none,.seq ⟨[.str ab0 501,.str z90 502,.str z94 503,.str abR 504,.str acJ 505]⟩ 0,⟨[]⟩⟩
def abr:Obj:=⟨.none,.none,.func ⟨z43,z43,L2.aC (tt 38),.stmts (L2.aA (tt 38)),L2.aj (tt 38),0,[],.none,.none,.none,.none,.none,.none,.none,0⟩,⟨[]⟩⟩
def Xc:Obj:=⟨.type t3,.none,.fields ⟨[.str z43 498,.str z43 499,.str z9 500,.int 142 0,.int 4 0,.int 0 0,.int 0 0,.int 3 0,.ref 234,.bool true,.int 181 0,.ref 235,.none,.ref 236,.ref 237,.ref 238,.int 506 0,.int 142 0,.str z9 507]⟩,⟨[]⟩⟩
def Wn:Obj:=⟨.type t17,.none,.func ⟨z43,z43,L2.aC (tt 38),.stmts (L2.aA (tt 38)),L2.aj (tt 38),3,[],.none,.none,.none,.str Nx 463,.none,.ref 239,.none,0⟩,⟨[]⟩⟩
def W3:Obj:=⟨.none,.none,.func ⟨z44,z44,L2.aC (tt 39),.stmts (L2.aA (tt 39)),L2.aj (tt 39),0,[],.none,.none,.none,.none,.none,.none,.none,0⟩,⟨[]⟩⟩
def Ym:Obj:=⟨.type t3,.none,.fields ⟨[.str z44 509,.str z44 510,.str z9 511,.int 145 0,.int 2 0,.int 0 0,.int 0 0,.int 3 0,.ref 241,.bool true,.int 181 0,.ref 242,.none,.none,.none,.ref 243,.int 512 0,.int 145 0,.str z9 513]⟩,⟨[]⟩⟩
def YZ:Obj:=⟨.type t17,.none,.func ⟨z44,z44,L2.aC (tt 39),.stmts (L2.aA (tt 39)),L2.aj (tt 39),3,[],.none,.none,.none,.str Nx 463,.none,.ref 244,.none,0⟩,⟨[]⟩⟩
def Zv:Obj:=⟨.type t2,.none,.seq ⟨[.str z93 518,.str z98 519,.str z99 520]⟩ 0,⟨[]⟩⟩
def Xf:Obj:=⟨.none,.none,.func ⟨z45,z45,L2.aC (tt 40),.stmts (L2.aA (tt 40)),L2.aj (tt 40),0,[],.none,.none,.none,.none,.none,.none,.none,0⟩,⟨[]⟩⟩
def Wa:Obj:=⟨.type t3,.none,.fields ⟨[.str z45 515,.str z45 516,.str z9 517,.int 163 0,.int 3 0,.int 0 0,.int 0 0,.int 3 0,.ref 246,.bool true,.int 181 0,.ref 247,.none,.ref 248,.ref 249,.ref 250,.int 521 0,.int 163 0,.str z9 522]⟩,⟨[]⟩⟩
def YL:Obj:=⟨.type t17,.none,.func ⟨z45,z45,L2.aC (tt 40),.stmts (L2.aA (tt 40)),L2.aj (tt 40),3,[],.none,.none,.none,.str Nx 463,.none,.ref 251,.none,0⟩,⟨[]⟩⟩
def Yj:Obj:=⟨.none,.none,.func ⟨z46,z46,L2.aC (tt 42),.stmts (L2.aA (tt 42)),L2.aj (tt 42),0,[],.none,.none,.none,.none,.none,.none,.none,0⟩,⟨[]⟩⟩
def Xd:Obj:=⟨.type t3,.none,.fields ⟨[.str z46 526,.str z46 527,.str z9 528,.int 166 0,.int 2 0,.int 0 0,.int 0 0,.int 3 0,.ref 253,.bool true,.int 181 0,.ref 254,.none,.none,.none,.ref 255,.int 529 0,.int 166 0,.str z9 530]⟩,⟨[]⟩⟩
def ZJ:Obj:=⟨.type t17,.none,.func ⟨z46,z46,L2.aC (tt 42),.stmts (L2.aA (tt 42)),L2.aj (tt 42),3,[],.none,.none,.none,.str Vw 524,.none,.ref 256,.none,0⟩,⟨[]⟩⟩
def ZR:Obj:=⟨.type t2,.none,.seq ⟨[.str Kd 535,.str z93 536,.str YS 537,.str abG 538]⟩ 0,⟨[]⟩⟩
def WD:Obj:=⟨.none,.none,.func ⟨z47,z47,L2.aC (tt 43),.stmts (L2.aA (tt 43)),L2.aj (tt 43),0,[],.none,.none,.none,.none,.none,.none,.none,0⟩,⟨[]⟩⟩
def Y8:Obj:=⟨.type t3,.none,.fields ⟨[.str z47 532,.str z47 533,.str z9 534,.int 174 0,.int 1 0,.int 0 0,.int 0 0,.int 3 0,.ref 258,.bool true,.int 181 0,.ref 259,.none,.ref 260,.ref 261,.ref 262,.int 539 0,.int 174 0,.str z9 540]⟩,⟨[]⟩⟩
def YX:Obj:=⟨.type t17,.none,.func ⟨z47,z47,L2.aC (tt 43),.stmts (L2.aA (tt 43)),L2.aj (tt 43),3,[],.none,.none,.none,.str Vw 524,.none,.ref 263,.none,0⟩,⟨[]⟩⟩
def VG:Obj:=⟨.type t2,.none,.seq ⟨[.str Kd 545,.str abZ 546,.str Rj 547]⟩ 0,⟨[]⟩⟩
def aay:Obj:=⟨.none,.none,.func ⟨z48,z48,L2.aC (tt 44),.stmts (L2.aA (tt 44)),L2.aj (tt 44),0,[],.none,.none,.none,.none,.none,.none,.none,0⟩,⟨[]⟩⟩
def Ye:Obj:=⟨.type t3,.none,.fields ⟨[.str z48 542,.str z48 543,.str z9 544,.int 179 0,.int 1 0,.int 0 0,.int 0 0,.int 3 0,.ref 265,.bool true,.int 181 0,.ref 266,.none,.ref 267,.ref 268,.ref 269,.int 548 0,.int 179 0,.str z9 549]⟩,⟨[]⟩⟩
def Yc:Obj:=⟨.type t17,.none,.func ⟨z48,z48,L2.aC (tt 44),.stmts (L2.aA (tt 44)),L2.aj (tt 44),3,[],.none,.none,.none,.str Vw 524,.none,.ref 270,.none,0⟩,⟨[]⟩⟩
def aaM:Obj:=⟨.type t2,.none,.seq ⟨[.str acf 560]⟩ 0,⟨[]⟩⟩
def Wl:Obj:=⟨.none,.none,.func ⟨z51,z51,L2.aC (tt 48),.stmts (L2.aA (tt 48)),L2.aj (tt 48),0,[],.none,.none,.none,.none,.none,.none,.none,0⟩,⟨[]⟩⟩
def Zg:Obj:=⟨.type t3,.none,.fields ⟨[.str z51 557,.str z51 558,.str z9 559,.int 186 0,.int 1 0,.int 0 0,.int 0 0,.int 3 0,.ref 272,.bool true,.int 181 0,.ref 273,.none,.ref 274,.ref 275,.ref 276,.int 561 0,.int 186 0,.str z9 562]⟩,⟨[]⟩⟩
def XC:Obj:=⟨.type t17,.none,.func ⟨z51,z51,L2.aC (tt 48),.stmts (L2.aA (tt 48)),L2.aj (tt 48),3,[],.none,.none,.none,.str Ah 551,.none,.ref 277,.none,0⟩,⟨[]⟩⟩
def abg:Obj:=⟨.type t2,.none,.seq ⟨[.str Yg 567,.str abO 568]⟩ 0,⟨[]⟩⟩
def XO:Obj:=⟨.none,.none,.func ⟨z52,z52,L2.aC (tt 49),.stmts (L2.aA (tt 49)),L2.aj (tt 49),0,[],.none,.none,.none,.none,.none,.none,.none,0⟩,⟨[]⟩⟩
def Wg:Obj:=⟨.type t3,.none,.fields ⟨[.str z52 564,.str z52 565,.str z9 566,.int 189 0,.int 2 0,.int 0 0,.int 0 0,.int 3 0,.ref 279,.bool true,.int 181 0,.ref 280,.none,.ref 281,.ref 282,.ref 283,.int 569 0,.int 189 0,.str z9 570]⟩,⟨[]⟩⟩
def Zq:Obj:=⟨.type t17,.none,.func ⟨z52,z52,L2.aC (tt 49),.stmts (L2.aA (tt 49)),L2.aj (tt 49),3,[],.none,.none,.none,.str Ah 551,.none,.ref 284,.none,0⟩,⟨[]⟩⟩
def Xw:Obj:=⟨.none,.none,.func ⟨z53,z53,L2.aC (tt 50),.stmts (L2.aA (tt 50)),L2.aj (tt 50),0,[],.none,.none,.none,.none,.none,.none,.none,0⟩,⟨[]⟩⟩
def Wi:Obj:=⟨.type t3,.none,.fields ⟨[.str z53 572,.str z53 573,.str z9 574,.int 192 0,.int 3 0,.int 0 0,.int 0 0,.int 3 0,.ref 286,.bool true,.int 181 0,.ref 287,.none,.none,.none,.ref 288,.int 575 0,.int 192 0,.str z9 576]⟩,⟨[]⟩⟩
def aaI:Obj:=⟨.type t17,.none,.func ⟨z53,z53,L2.aC (tt 50),.stmts (L2.aA (tt 50)),L2.aj (tt 50),3,[],.none,.none,.none,.str Ah 551,.none,.ref 289,.none,0⟩,⟨[]⟩⟩
def aaO:Obj:=⟨.type t2,.none,.seq ⟨[.str Yh 581,.str ZL 582,.str ZM 583]⟩ 0,⟨[]⟩⟩
def Ys:Obj:=⟨.none,.none,.func ⟨z54,z54,L2.aC (tt 51),.stmts (L2.aA (tt 51)),L2.aj (tt 51),0,[],.none,.none,.none,.none,.none,.none,.none,0⟩,⟨[]⟩⟩
def WC:Obj:=⟨.type t3,.none,.fields ⟨[.str z54 578,.str z54 579,.str z9 580,.int 196 0,.int 3 0,.int 0 0,.int 0 0,.int 3 0,.ref 291,.bool true,.int 181 0,.ref 292,.none,.ref 293,.ref 294,.ref 295,.int 584 0,.int 196 0,.str z9 585]⟩,⟨[]⟩⟩
def Wm:Obj:=⟨.type t17,.none,.func ⟨z54,z54,L2.aC (tt 51),.stmts (L2.aA (tt 51)),L2.aj (tt 51),3,[],.none,.none,.none,.str Ah 551,.none,.ref 296,.none,0⟩,⟨[]⟩⟩
def o300:Obj:=⟨.type t2,.none,.seq ⟨[.str Yh 590,.str ZL 591,.str ZM 592]⟩ 0,⟨[]⟩⟩
def aaV:Obj:=⟨.none,.none,.func ⟨z55,z55,L2.aC (tt 52),.stmts (L2.aA (tt 52)),L2.aj (tt 52),0,[],.none,.none,.none,.none,.none,.none,.none,0⟩,⟨[]⟩⟩
def XD:Obj:=⟨.type t3,.none,.fields ⟨[.str z55 587,.str z55 588,.str z9 589,.int 198 0,.int 3 0,.int 0 0,.int 0 0,.int 3 0,.ref 298,.bool true,.int 181 0,.ref 299,.none,.ref 300,.ref 301,.ref 302,.int 593 0,.int 198 0,.str z9 594]⟩,⟨[]⟩⟩
def aa9:Obj:=⟨.type t17,.none,.func ⟨z55,z55,L2.aC (tt 52),.stmts (L2.aA (tt 52)),L2.aj (tt 52),3,[],.none,.none,.none,.str Ah 551,.none,.ref 303,.none,0⟩,⟨[]⟩⟩
def XM:Obj:=⟨.none,.none,.func ⟨z56,z56,L2.aC (tt 53),.stmts (L2.aA (tt 53)),L2.aj (tt 53),0,[],.none,.none,.none,.none,.none,.none,.none,0⟩,⟨[]⟩⟩
def YH:Obj:=⟨.type t3,.none,.fields ⟨[.str z56 596,.str z56 597,.str z9 598,.int 200 0,.int 3 0,.int 0 0,.int 0 0,.int 3 0,.ref 305,.bool true,.int 181 0,.ref 306,.none,.none,.none,.ref 307,.int 599 0,.int 200 0,.str z9 600]⟩,⟨[]⟩⟩
def aaf:Obj:=⟨.type t17,.none,.func ⟨z56,z56,L2.aC (tt 53),.stmts (L2.aA (tt 53)),L2.aj (tt 53),3,[],.none,.none,.none,.str Ah 551,.none,.ref 308,.none,0⟩,⟨[]⟩⟩
def Xr:Obj:=⟨.none,.none,.func ⟨z57,z57,L2.aC (tt 54),.stmts (L2.aA (tt 54)),L2.aj (tt 54),0,[],.none,.none,.none,.none,.none,.none,.none,0⟩,⟨[]⟩⟩
def ZX:Obj:=⟨.type t3,.none,.fields ⟨[.str z57 602,.str z57 603,.str z9 604,.int 202 0,.int 4 0,.int 0 0,.int 0 0,.int 3 0,.ref 310,.bool true,.int 181 0,.ref 311,.none,.none,.none,.ref 312,.int 605 0,.int 202 0,.str z9 606]⟩,⟨[]⟩⟩
def Y5:Obj:=⟨.type t17,.none,.func ⟨z57,z57,L2.aC (tt 54),.stmts (L2.aA (tt 54)),L2.aj (tt 54),3,[],.none,.none,.none,.str Ah 551,.none,.ref 313,.none,0⟩,⟨[]⟩⟩
def aa0:Obj:=⟨.type t2,.none,.seq ⟨[.str z98 611,.str z99 612,.str adt 613,.str z93 614,.str Yh 615,.str ZL 616,.str YS 617]⟩ 0,⟨[]⟩⟩
def abm:Obj:=⟨.none,.none,.func ⟨z58,z58,L2.aC (tt 55),.stmts (L2.aA (tt 55)),L2.aj (tt 55),0,[],.none,.none,.none,.none,.none,.none,.none,0⟩,⟨[]⟩⟩
def aa3:Obj:=⟨.type t3,.none,.fields ⟨[.str z58 608,.str z58 609,.str z9 610,.int 207 0,.int 3 0,.int 0 0,.int 0 0,.int 3 0,.ref 315,.bool true,.int 181 0,.ref 316,.none,.ref 317,.ref 318,.ref 319,.int 618 0,.int 207 0,.str z9 619]⟩,⟨[]⟩⟩
def YF:Obj:=⟨.type t17,.none,.func ⟨z58,z58,L2.aC (tt 55),.stmts (L2.aA (tt 55)),L2.aj (tt 55),3,[],.none,.none,.none,.str Ah 551,.none,.ref 320,.none,0⟩,⟨[]⟩⟩
def aaX:Obj:=⟨.type t2,.none,.seq ⟨[.str z98 624,.str z99 625]⟩ 0,⟨[]⟩⟩
def Xx:Obj:=⟨.none,.none,.func ⟨z59,z59,L2.aC (tt 56),.stmts (L2.aA (tt 56)),L2.aj (tt 56),0,[],.none,.none,.none,.none,.none,.none,.none,0⟩,⟨[]⟩⟩
def Wq:Obj:=⟨.type t3,.none,.fields ⟨[.str z59 621,.str z59 622,.str z9 623,.int 214 0,.int 2 0,.int 0 0,.int 0 0,.int 3 0,.ref 322,.bool true,.int 181 0,.ref 323,.none,.ref 324,.ref 325,.ref 326,.int 626 0,.int 214 0,.str z9 627]⟩,⟨[]⟩⟩
def aaz:Obj:=⟨.type t17,.none,.func ⟨z59,z59,L2.aC (tt 56),.stmts (L2.aA (tt 56)),L2.aj (tt 56),3,[],.none,.none,.none,.str Ah 551,.none,.ref 327,.none,0⟩,⟨[]⟩⟩
def Vy:Obj:=⟨.type t2,.none,.seq ⟨[.str z98 632,.str z99 633]⟩ 0,⟨[]⟩⟩
def Yw:Obj:=⟨.none,.none,.func ⟨z60,z60,L2.aC (tt 57),.stmts (L2.aA (tt 57)),L2.aj (tt 57),0,[],.none,.none,.none,.none,.none,.none,.none,0⟩,⟨[]⟩⟩
def Y0:Obj:=⟨.type t3,.none,.fields ⟨[.str z60 629,.str z60 630,.str z9 631,.int 216 0,.int 2 0,.int 0 0,.int 0 0,.int 3 0,.ref 329,.bool true,.int 181 0,.ref 330,.none,.ref 331,.ref 332,.ref 333,.int 634 0,.int 216 0,.str z9 635]⟩,⟨[]⟩⟩
def aat:Obj:=⟨.type t17,.none,.func ⟨z60,z60,L2.aC (tt 57),.stmts (L2.aA (tt 57)),L2.aj (tt 57),3,[],.none,.none,.none,.str Ah 551,.none,.ref 334,.none,0⟩,⟨[]⟩⟩
def Zz:Obj:=⟨.none,.none,.func ⟨z61,z61,L2.aC (tt 58),.stmts (L2.aA (tt 58)),L2.aj (tt 58),0,[],.none,.none,.none,.none,.none,.none,.none,0⟩,⟨[]⟩⟩
def Zn:Obj:=⟨.type t3,.none,.fields ⟨[.str z61 637,.str z61 638,.str z9 639,.int 218 0,.int 2 0,.int 0 0,.int 0 0,.int 3 0,.ref 336,.bool true,.int 181 0,.ref 337,.none,.none,.none,.ref 338,.int 640 0,.int 218 0,.str z9 641]⟩,⟨[]⟩⟩
def aae:Obj:=⟨.type t17,.none,.func ⟨z61,z61,L2.aC (tt 58),.stmts (L2.aA (tt 58)),L2.aj (tt 58),3,[],.none,.none,.none,.str Ah 551,.none,.ref 339,.none,0⟩,⟨[]⟩⟩
def ZP:Obj:=⟨.none,.none,.func ⟨z62,z62,L2.aC (tt 59),.stmts (L2.aA (tt 59)),L2.aj (tt 59),0,[],.none,.none,.none,.none,.none,.none,.none,0⟩,⟨[]⟩⟩
def Ze:Obj:=⟨.type t3,.none,.fields ⟨[.str z62 643,.str z62 644,.str z9 645,.int 228 0,.int 2 0,.int 0 0,.int 0 0,.int 3 0,.ref 341,.bool true,.int 181 0,.ref 342,.none,.none,.none,.ref 343,.int 646 0,.int 228 0,.str z9 647]⟩,⟨[]⟩⟩
def Wo:Obj:=⟨.type t17,.none,.func ⟨z62,z62,L2.aC (tt 59),.stmts (L2.aA (tt 59)),L2.aj (tt 59),3,[],.none,.none,.none,.str Ah 551,.none,.ref 344,.none,0⟩,⟨[]⟩⟩
def W7:Obj:=⟨.none,.none,.func ⟨z63,z63,L2.aC (tt 60),.stmts (L2.aA (tt 60)),L2.aj (tt 60),0,[],.none,.none,.none,.none,.none,.none,.none,0⟩,⟨[]⟩⟩
def aaW:Obj:=⟨.type t3,.none,.fields ⟨[.str z63 649,.str z63 650,.str z9 651,.int 230 0,.int 1 0,.int 0 0,.int 0 0,.int 3 0,.ref 346,.bool true,.int 181 0,.ref 347,.none,.none,.none,.ref 348,.int 652 0,.int 230 0,.str z9 653]⟩,⟨[]⟩⟩
def XG:Obj:=⟨.type t17,.none,.func ⟨z63,z63,L2.aC (tt 60),.stmts (L2.aA (tt 60)),L2.aj (tt 60),3,[],.none,.none,.none,.str Ah 551,.none,.ref 349,.none,0⟩,⟨[]⟩⟩
def abf:Obj:=⟨.none,.none,.func ⟨z64,z64,L2.aC (tt 61),.stmts (L2.aA (tt 61)),L2.aj (tt 61),0,[],.none,.none,.none,.none,.none,.none,.none,0⟩,⟨[]⟩⟩
def Wh:Obj:=⟨.type t3,.none,.fields ⟨[.str z64 655,.str z64 656,.str z9 657,.int 238 0,.int 3 0,.int 0 0,.int 0 0,.int 3 0,.ref 351,.bool true,.int 181 0,.ref 352,.none,.none,.none,.ref 353,.int 658 0,.int 238 0,.str z9 659]⟩,⟨[]⟩⟩
def abb:Obj:=⟨.type t17,.none,.func ⟨z64,z64,L2.aC (tt 61),.stmts (L2.aA (tt 61)),L2.aj (tt 61),3,[],.none,.none,.none,.str Ah 551,.none,.ref 354,.none,0⟩,⟨[]⟩⟩
def abu:Obj:=⟨.type t2,.none,.seq ⟨[.str Kd 664,.str abL 665,.str abZ 666,.str Rj 667]⟩ 0,⟨[]⟩⟩
def aai:Obj:=⟨.none,.none,.func ⟨z65,z65,L2.aC (tt 62),.stmts (L2.aA (tt 62)),L2.aj (tt 62),0,[],.none,.none,.none,.none,.none,.none,.none,0⟩,⟨[]⟩⟩
def V5:Obj:=⟨.type t3,.none,.fields ⟨[.str z65 661,.str z65 662,.str z9 663,.int 246 0,.int 2 0,.int 0 0,.int 0 0,.int 3 0,.ref 356,.bool true,.int 181 0,.ref 357,.none,.ref 358,.ref 359,.ref 360,.int 668 0,.int 246 0,.str z9 669]⟩,⟨[]⟩⟩
def ZY:Obj:=⟨.type t17,.none,.func ⟨z65,z65,L2.aC (tt 62),.stmts (L2.aA (tt 62)),L2.aj (tt 62),3,[],.none,.none,.none,.str Ah 551,.none,.ref 361,.none,0⟩,⟨[]⟩⟩
def Xq:Obj:=⟨.type t2,.none,.seq ⟨[.str z98 676,.str z99 677,.str ace 678,.str abQ 679,.str z97 680]⟩ 0,⟨[]⟩⟩
def XJ:Obj:=⟨.none,.none,.func ⟨z66,z66,L2.aC (tt 64),.stmts (L2.aA (tt 64)),L2.aj (tt 64),0,[],.none,.none,.none,.none,.none,.none,.none,0⟩,⟨[]⟩⟩
def aaw:Obj:=⟨.type t3,.none,.fields ⟨[.str z66 673,.str z66 674,.str z9 675,.int 252 0,.int 2 0,.int 0 0,.int 0 0,.int 3 0,.ref 363,.bool true,.int 181 0,.ref 364,.none,.ref 365,.ref 366,.ref 367,.int 681 0,.int 252 0,.str z9 682]⟩,⟨[]⟩⟩
def Wv:Obj:=⟨.type t17,.none,.func ⟨z66,z66,L2.aC (tt 64),.stmts (L2.aA (tt 64)),L2.aj (tt 64),3,[],.none,.none,.none,.str acV 671,.none,.ref 368,.none,0⟩,⟨[]⟩⟩
def aau:Obj:=⟨.none,.none,.func ⟨z67,z67,L2.aC (tt 66),.stmts (L2.aA (tt 66)),L2.aj (tt 66),0,[],.none,.none,.none,.none,.none,.none,.none,0⟩,⟨[]⟩⟩
def WT:Obj:=⟨.type t3,.none,.fields ⟨[.str z67 686,.str z67 687,.str z9 688,.int 261 0,.int 2 0,.int 0 0,.int 0 0,.int 3 0,.ref 370,.bool true,.int 181 0,.ref 371,.none,.none,.none,.ref 372,.int 689 0,.int 261 0,.str z9 690]⟩,⟨[]⟩⟩
def VF:Obj:=⟨.type t17,.none,.func ⟨z67,z67,L2.aC (tt 66),.stmts (L2.aA (tt 66)),L2.aj (tt 66),3,[],.none,.none,.none,.str Vu 684,.none,.ref 373,.none,0⟩,⟨[]⟩⟩
def o377:Obj:=⟨.type t2,.none,.seq ⟨[.str Kd 695,.str z91 696,.str Yg 697]⟩ 0,⟨[]⟩⟩
def Z7:Obj:=⟨.none,.none,.func ⟨z68,z68,L2.aC (tt 67),.stmts (L2.aA (tt 67)),L2.aj (tt 67),0,[],.none,.none,.none,.none,.none,.none,.none,0⟩,⟨[]⟩⟩
def Zo:Obj:=⟨.type t3,.none,.fields ⟨[.str z68 692,.str z68 693,.str z9 694,.int 265 0,.int 1 0,.int 0 0,.int 0 0,.int 3 0,.ref 375,.bool true,.int 181 0,.ref 376,.none,.ref 377,.ref 378,.ref 379,.int 698 0,.int 265 0,.str z9 699]⟩,⟨[]⟩⟩
def Xe:Obj:=⟨.type t17,.none,.func ⟨z68,z68,L2.aC (tt 67),.stmts (L2.aA (tt 67)),L2.aj (tt 67),3,[],.none,.none,.none,.str Vu 684,.none,.ref 380,.none,0⟩,⟨[]⟩⟩
def aaC:Obj:=⟨.type t2,.none,.seq ⟨[.str Kd 704,.str z91 705,.str Yg 706,.str abO 707,.str acf 708,.str adN 709,.str Rh 710]⟩ 0,⟨[]⟩⟩
def XI:Obj:=⟨.none,.none,.func ⟨z69,z69,L2.aC (tt 68),.stmts (L2.aA (tt 68)),L2.aj (tt 68),0,[],.none,.none,.none,.none,.none,.none,.none,0⟩,⟨[]⟩⟩
def Wu:Obj:=⟨.type t3,.none,.fields ⟨[.str z69 701,.str z69 702,.str z9 703,.int 271 0,.int 4 0,.int 0 0,.int 0 0,.int 3 0,.ref 382,.bool true,.int 181 0,.ref 383,.none,.ref 384,.ref 385,.ref 386,.int 711 0,.int 271 0,.str z9 712]⟩,⟨[]⟩⟩
def Zk:Obj:=⟨.type t17,.none,.func ⟨z69,z69,L2.aC (tt 68),.stmts (L2.aA (tt 68)),L2.aj (tt 68),3,[],.none,.none,.none,.str Vu 684,.none,.ref 387,.none,0⟩,⟨[]⟩⟩
def Xh:Obj:=⟨.type t2,.none,.seq ⟨[.str Kd 717,.str z94 718]⟩ 0,⟨[]⟩⟩
def aaG:Obj:=⟨.none,.none,.func ⟨z70,z70,L2.aC (tt 69),.stmts (L2.aA (tt 69)),L2.aj (tt 69),0,[],.none,.none,.none,.none,.none,.none,.none,0⟩,⟨[]⟩⟩
def WV:Obj:=⟨.type t3,.none,.fields ⟨[.str z70 714,.str z70 715,.str z9 716,.int 282 0,.int 2 0,.int 0 0,.int 0 0,.int 3 0,.ref 389,.bool true,.int 181 0,.ref 390,.none,.ref 391,.ref 392,.ref 393,.int 719 0,.int 282 0,.str z9 720]⟩,⟨[]⟩⟩
def aar:Obj:=⟨.type t17,.none,.func ⟨z70,z70,L2.aC (tt 69),.stmts (L2.aA (tt 69)),L2.aj (tt 69),3,[],.none,.none,.none,.str Vu 684,.none,.ref 394,.none,0⟩,⟨[]⟩⟩
def VJ:Obj:=⟨.type t2,.none,.seq ⟨[.str adZ 727,.str Ww 728]⟩ 0,⟨[]⟩⟩
def o400:Obj:=⟨.none,.none,.func ⟨z71,z71,L2.aC (tt 71),.stmts (L2.aA (tt 71)),L2.aj (tt 71),0,[],.none,.none,.none,.none,.none,.none,.none,0⟩,⟨[]⟩⟩
def abo:Obj:=⟨.type t3,.none,.fields ⟨[.str z71 724,.str z71 725,.str z9 726,.int 286 0,.int 2 0,.int 0 0,.int 0 0,.int 3 0,.ref 396,.bool true,.int 181 0,.ref 397,.none,.ref 398,.ref 399,.ref 400,.int 729 0,.int 286 0,.str z9 730]⟩,⟨[]⟩⟩
def WG:Obj:=⟨.type t17,.none,.func ⟨z71,z71,L2.aC (tt 71),.stmts (L2.aA (tt 71)),L2.aj (tt 71),3,[],.none,.none,.none,.str z1 722,.none,.ref 401,.none,0⟩,⟨[]⟩⟩
def aa2:Obj:=⟨.type t2,.none,.seq ⟨[.str Yd 735,.str Ww 736,.str aaL 737]⟩ 0,⟨[]⟩⟩
def abl:Obj:=⟨.none,.none,.func ⟨z72,z72,L2.aC (tt 72),.stmts (L2.aA (tt 72)),L2.aj (tt 72),0,[],.none,.none,.none,.none,.none,.none,.none,0⟩,⟨[]⟩⟩
def Wb:Obj:=⟨.type t3,.none,.fields ⟨[.str z72 732,.str z72 733,.str z9 734,.int 290 0,.int 2 0,.int 0 0,.int 0 0,.int 3 0,.ref 403,.bool true,.int 181 0,.ref 404,.none,.ref 405,.ref 406,.ref 407,.int 738 0,.int 290 0,.str z9 739]⟩,⟨[]⟩⟩
def Xo:Obj:=⟨.type t17,.none,.func ⟨z72,z72,L2.aC (tt 72),.stmts (L2.aA (tt 72)),L2.aj (tt 72),3,[],.none,.none,.none,.str z1 722,.none,.ref 408,.none,0⟩,⟨[]⟩⟩
def ab5:Obj:=⟨.type t2,.none,.seq ⟨[.str Yd 744]⟩ 0,⟨[]⟩⟩
def abH:Obj:=⟨.none,.none,.func ⟨z73,z73,L2.aC (tt 73),.stmts (L2.aA (tt 73)),L2.aj (tt 73),0,[],.none,.none,.none,.none,.none,.none,.none,0⟩,⟨[]⟩⟩
def aci:Obj:=⟨.type t3,.none,.fields ⟨[.str z73 741,.str z73 742,.str z9 743,.int 293 0,.int 1 0,.int 0 0,.int 0 0,.int 3 0,.ref 410,.bool true,.int 181 0,.ref 411,.none,.ref 412,.ref 413,.ref 414,.int 745 0,.int 293 0,.str z9 746]⟩,⟨[]⟩⟩
def ab3:Obj:=⟨.type t17,.none,.func ⟨z73,z73,L2.aC (tt 73),.stmts (L2.aA (tt 73)),L2.aj (tt 73),3,[],.none,.none,.none,.str z1 722,.none,.ref 415,.none,0⟩,⟨[]⟩⟩
def aaq:Obj:=⟨.type t2,.none,.seq ⟨[.str Xz 751,.str aaL 752]⟩ 0,⟨[]⟩⟩
def XQ:Obj:=⟨.none,.none,.func ⟨z74,z74,L2.aC (tt 74),.stmts (L2.aA (tt 74)),L2.aj (tt 74),0,[],.none,.none,.none,.none,.none,.none,.none,0⟩,⟨[]⟩⟩
def abj:Obj:=⟨.type t3,.none,.fields ⟨[.str z74 748,.str z74 749,.str z9 750,.int 295 0,.int 2 0,.int 0 0,.int 0 0,.int 3 0,.ref 417,.bool true,.int 181 0,.ref 418,.none,.ref 419,.ref 420,.ref 421,.int 753 0,.int 295 0,.str z9 754]⟩,⟨[]⟩⟩
def abd:Obj:=⟨.type t17,.none,.func ⟨z74,z74,L2.aC (tt 74),.stmts (L2.aA (tt 74)),L2.aj (tt 74),3,[],.none,.none,.none,.str z1 722,.none,.ref 422,.none,0⟩,⟨[]⟩⟩
def Y9:Obj:=⟨.type t2,.none,.seq ⟨[.str Xz 759,.str Yd 760,.str adv 761]⟩ 0,⟨[]⟩⟩
def Xk:Obj:=⟨.none,.none,.func ⟨z75,z75,L2.aC (tt 75),.stmts (L2.aA (tt 75)),L2.aj (tt 75),0,[],.none,.none,.none,.none,.none,.none,.none,0⟩,⟨[]⟩⟩
def WW:Obj:=⟨.type t3,.none,.fields ⟨[.str z75 756,.str z75 757,.str z9 758,.int 299 0,.int 3 0,.int 0 0,.int 0 0,.int 3 0,.ref 424,.bool true,.int 181 0,.ref 425,.none,.ref 426,.ref 427,.ref 428,.int 762 0,.int 299 0,.str z9 763]⟩,⟨[]⟩⟩
def X6:Obj:=⟨.type t17,.none,.func ⟨z75,z75,L2.aC (tt 75),.stmts (L2.aA (tt 75)),L2.aj (tt 75),3,[],.none,.none,.none,.str z1 722,.none,.ref 429,.none,0⟩,⟨[]⟩⟩
def YB:Obj:=⟨.type t2,.none,.seq ⟨[.str abF 768,.str ad4 769,.str Xz 770,.str ac9 771,.str acL 772,.str acR 773,.str acz 774,.str Ww 775,.str aaL 776]⟩ 0,⟨[]⟩⟩
def abw:Obj:=⟨.none,.none,.func ⟨z76,z76,L2.aC (tt 76),.stmts (L2.aA (tt 76)),L2.aj (tt 76),0,[],.none,.none,.none,.none,.none,.none,.none,0⟩,⟨[]⟩⟩
def Wk:Obj:=⟨.type t3,.none,.fields ⟨[.str z76 765,.str z76 766,.str z9 767,.int 307 0,.int 2 0,.int 0 0,.int 0 0,.int 3 0,.ref 431,.bool true,.int 181 0,.ref 432,.none,.ref 433,.ref 434,.ref 435,.int 777 0,.int 307 0,.str z9 778]⟩,⟨[]⟩⟩
def Z6:Obj:=⟨.type t17,.none,.func ⟨z76,z76,L2.aC (tt 76),.stmts (L2.aA (tt 76)),L2.aj (tt 76),3,[],.none,.none,.none,.str z1 722,.none,.ref 436,.none,0⟩,⟨[]⟩⟩
def Zj:Obj:=⟨.none,.none,.func ⟨z77,z77,L2.aC (tt 77),.stmts (L2.aA (tt 77)),L2.aj (tt 77),0,[],.none,.none,.none,.none,.none,.none,.none,0⟩,⟨[]⟩⟩
def aal:Obj:=⟨.type t3,.none,.fields ⟨[.str z77 780,.str z77 781,.str z9 782,.int 316 0,.int 4 0,.int 0 0,.int 0 0,.int 3 0,.ref 438,.bool true,.int 181 0,.ref 439,.none,.none,.none,.ref 440,.int 783 0,.int 316 0,.str z9 784]⟩,⟨[]⟩⟩
def Z5:Obj:=⟨.type t17,.none,.func ⟨z77,z77,L2.aC (tt 77),.stmts (L2.aA (tt 77)),L2.aj (tt 77),3,[],.none,.none,.none,.str z1 722,.none,.ref 441,.none,0⟩,⟨[]⟩⟩
def ab4:Obj:=⟨.none,.none,.func ⟨z78,z78,L2.aC (tt 78),.stmts (L2.aA (tt 78)),L2.aj (tt 78),0,[],.none,.none,.none,.none,.none,.none,.none,0⟩,⟨[]⟩⟩
def ab2:Obj:=⟨.type t3,.none,.fields ⟨[.str z78 786,.str z78 787,.str z9 788,.int 327 0,.int 2 0,.int 0 0,.int 0 0,.int 3 0,.ref 443,.bool true,.int 181 0,.ref 444,.none,.none,.none,.ref 445,.int 789 0,.int 327 0,.str z9 790]⟩,⟨[]⟩⟩
def abB:Obj:=⟨.type t17,.none,.func ⟨z78,z78,L2.aC (tt 78),.stmts (L2.aA (tt 78)),L2.aj (tt 78),3,[],.none,.none,.none,.str z1 722,.none,.ref 446,.none,0⟩,⟨[]⟩⟩
def Xj:Obj:=⟨.none,.none,.func ⟨z79,z79,L2.aC (tt 79),.stmts (L2.aA (tt 79)),L2.aj (tt 79),0,[],.none,.none,.none,.none,.none,.none,.none,0⟩,⟨[]⟩⟩
def Wf:Obj:=⟨.type t3,.none,.fields ⟨[.str z79 792,.str z79 793,.str z9 794,.int 333 0,.int 4 0,.int 0 0,.int 0 0,.int 3 0,.ref 448,.bool true,.int 181 0,.ref 449,.none,.none,.none,.ref 450,.int 795 0,.int 333 0,.str z9 796]⟩,⟨[]⟩⟩
def Z0:Obj:=⟨.type t17,.none,.func ⟨z79,z79,L2.aC (tt 79),.stmts (L2.aA (tt 79)),L2.aj (tt 79),3,[],.none,.none,.none,.str z1 722,.none,.ref 451,.none,0⟩,⟨[]⟩⟩
def XU:Obj:=⟨.type t2,.none,.seq ⟨[.str abF 801,.str acW 802,.str adx 803]⟩ 0,⟨[]⟩⟩
def Wt:Obj:=⟨.none,.none,.func ⟨z80,z80,L2.aC (tt 80),.stmts (L2.aA (tt 80)),L2.aj (tt 80),0,[],.none,.none,.none,.none,.none,.none,.none,0⟩,⟨[]⟩⟩
def WQ:Obj:=⟨.type t3,.none,.fields ⟨[.str z80 798,.str z80 799,.str z9 800,.int 348 0,.int 1 0,.int 0 0,.int 0 0,.int 3 0,.ref 453,.bool true,.int 181 0,.ref 454,.none,.ref 455,.ref 456,.ref 457,.int 804 0,.int 348 0,.str z9 805]⟩,⟨[]⟩⟩
def VR:Obj:=⟨.type t17,.none,.func ⟨z80,z80,L2.aC (tt 80),.stmts (L2.aA (tt 80)),L2.aj (tt 80),3,[],.none,.none,.none,.str z1 722,.none,.ref 458,.none,0⟩,⟨[]⟩⟩
def Vx:Obj:=⟨.none,.none,.func ⟨z81,z81,L2.aC (tt 81),.stmts (L2.aA (tt 81)),L2.aj (tt 81),0,[],.none,.none,.none,.none,.none,.none,.none,0⟩,⟨[]⟩⟩
def V8:Obj:=⟨.type t3,.none,.fields ⟨[.str z81 807,.str z81 808,.str z9 809,.int 355 0,.int 1 0,.int 0 0,.int 0 0,.int 3 0,.ref 460,.bool true,.int 181 0,.ref 461,.none,.none,.none,.ref 462,.int 810 0,.int 355 0,.str z9 811]⟩,⟨[]⟩⟩
def abt:Obj:=⟨.type t17,.none,.func ⟨z81,z81,L2.aC (tt 81),.stmts (L2.aA (tt 81)),L2.aj (tt 81),3,[],.none,.none,.none,.str z1 722,.none,.ref 463,.none,0⟩,⟨[]⟩⟩
def TF(P:Params):BT:=(nd (PySem.W.boot_o_0 P) (nd (PySem.W.boot_o_1 P) (nd (o3 P) (nd (PySem.W.boot_o_7 P) (nd o15 (nd o11 (nd o63 (nd VX (nd Yj e e) (nd o19 e e)) (nd aax (nd abm e e) (nd abB e e))) (nd o95 (nd Xp (nd o19 e e) (nd aci e e)) (nd o19 (nd o11 e e) e))) (nd o11 (nd o11 (nd abq (nd Yc e e) (nd o11 e e)) (nd aaD (nd aat e e) (nd V8 e e))) (nd o11 (nd o11 (nd XD e e) (nd o11 e e)) (nd Xc (nd XJ e e) e)))) (nd (o23 P) (nd o39 (nd o11 (nd o11 (nd Y8 e e) (nd Xh e e)) (nd VB (nd Wq e e) (nd XU e e))) (nd V9 (nd o11 (nd Ys e e) (nd abd e e)) (nd YW (nd o11 e e) e))) (nd o11 (nd o87 (nd aac (nd o11 e e) (nd abl e e)) (nd o11 (nd ZP e e) e)) (nd o19 (nd WB (nd o19 e e) (nd o19 e e)) (nd o19 (nd o11 e e) e))))) (nd o11 (nd o19 (nd o11 (nd o11 (nd W9 (nd o19 e e) (nd Wu e e)) (nd o19 (nd o19 e e) (nd Wf e e))) (nd o99 (nd o11 (nd o11 e e) (nd aaq e e)) (nd o11 (nd abb e e) e))) (nd o51 (nd o11 (nd o19 (nd o11 e e) (nd o11 e e)) (nd o11 (nd Zn e e) e)) (nd V6 (nd o11 (nd XM e e) (nd abw e e)) (nd W3 (nd o19 e e) e)))) (nd o27 (nd o11 (nd o75 (nd o11 (nd VG e e) (nd aar e e)) (nd ZF (nd Vy e e) (nd VR e e))) (nd o11 (nd Z8 (nd o19 e e) (nd o11 e e)) (nd o19 (nd o11 e e) e))) (nd o11 (nd o19 (nd aaF (nd XO e e) (nd o19 e e)) (nd Xv (nd o19 e e) e)) (nd abv (nd Xm (nd o11 e e) (nd o11 e e)) (nd Wa (nd Z7 e e) e)))))) (nd (PySem.W.boot_o_5 P) (nd (PySem.W.boot_o_9 P) (nd (o17 P) (nd o33 (nd o16 (nd aaH (nd ZJ e e) (nd o11 e e)) (nd Wj (nd YF e e) (nd o19 e e))) (nd o11 (nd o19 (nd Wi e e) (nd o11 e e)) (nd V3 (nd abf e e) e))) (nd o49 (nd o81 (nd XE (nd o19 e e) (nd abo e e)) (nd o19 (nd o19 e e) e)) (nd X7 (nd Ws (nd o11 e e) (nd YB e e)) (nd o11 (nd Wv e e) e)))) (nd o25 (nd o16 (nd o73 (nd abp (nd o11 e e) (nd aaG e e)) (nd o11 (nd o11 e e) (nd Wt e e))) (nd o19 (nd Xu (nd Wm e e) (nd o19 e e)) (nd W5 (nd V5 e e) e))) (nd o57 (nd o89 (nd o11 (nd abg e e) (nd Xo e e)) (nd ZQ (nd Wo e e) e)) (nd o11 (nd o19 (nd ZX e e) (nd aal e e)) (nd o11 (nd o377 e e) e))))) (nd o13 (nd o21 (nd o37 (nd o69 (nd o19 (nd o11 e e) (nd o11 e e)) (nd o11 (nd o11 e e) (nd o11 e e))) (nd Wz (nd WZ (nd aaO e e) (nd XQ e e)) (nd Yi (nd o19 e e) e))) (nd o16 (nd o85 (nd o11 (nd Zg e e) (nd aa2 e e)) (nd ZC (nd o11 e e) e)) (nd Zr (nd VH (nd aaf e e) (nd Z6 e e)) (nd YZ (nd WT e e) e)))) (nd o16 (nd o45 (nd o19 (nd Zd (nd aay e e) (nd o19 e e)) (nd XF (nd Yw e e) (nd o19 e e))) (nd Zw (nd o19 (nd o11 e e) (nd WW e e)) (nd o11 (nd Xq e e) e))) (nd o61 (nd o11 (nd WK (nd Zq e e) (nd o11 e e)) (nd V4 (nd aaW e e) e)) (nd o11 (nd o11 (nd aa0 e e) (nd ab4 e e)) (nd o11 (nd Xe e e) e))))))) (nd (PySem.W.boot_o_2 P) (nd (PySem.W.boot_o_4 P) (nd (PySem.W.boot_o_8 P) (nd o16 (nd o19 (nd o28 (nd o11 (nd Xd e e) (nd aaC e e)) (nd aaN (nd aa3 e e) (nd o11 e e))) (nd o96 (nd o11 (nd Xw e e) (nd ab3 e e)) (nd Zt (nd o19 e e) e))) (nd (o48 P) (nd o80 (nd Zx (nd o11 e e) (nd o400 e e)) (nd o11 (nd o11 e e) (nd abt e e))) (nd o19 (nd Za (nd aa9 e e) (nd o19 e e)) (nd Wn (nd aaw e e) e)))) (nd o24 (nd o28 (nd (o72 P) (nd aaj (nd YX e e) (nd o11 e e)) (nd o200 (nd aaz e e) (nd o11 e e))) (nd o11 (nd o19 (nd WC e e) (nd o11 e e)) (nd Wr (nd aai e e) e))) (nd o19 (nd o88 (nd aaE (nd o19 e e) (nd Wb e e)) (nd o19 (nd Ze e e) e)) (nd abn (nd o11 (nd Xr e e) (nd Zj e e)) (nd Zv (nd o19 e e) e))))) (nd o12 (nd o20 (nd (o36 P) (nd o19 (nd o11 (nd ZR e e) (nd Zk e e)) (nd Y7 (nd aaX e e) (nd Z0 e e))) (nd o11 (nd VD (nd o19 e e) (nd o11 e e)) (nd o19 (nd o11 e e) e))) (nd o28 (nd o19 (nd aaS (nd Wl e e) (nd o19 e e)) (nd XY (nd aae e e) e)) (nd YG (nd o19 (nd YH e e) (nd Wk e e)) (nd Ym (nd aau e e) e)))) (nd o28 (nd o19 (nd o11 (nd o19 (nd o11 e e) (nd o11 e e)) (nd o11 (nd o11 e e) (nd o11 e e))) (nd WH (nd o11 (nd o300 e e) (nd Xk e e)) (nd Xy (nd o19 e e) e))) (nd (o60 P) (nd o92 (nd o11 (nd Wg e e) (nd ab5 e e)) (nd W0 (nd W7 e e) e)) (nd aa1 (nd WY (nd o19 e e) (nd o19 e e)) (nd YL (nd Zo e e) e)))))) (nd (PySem.W.boot_o_6 P) (nd (PySem.W.boot_o_10 P) (nd o11 (nd o34 (nd (o66 P) (nd Z2 (nd o11 e e) (nd XI e e)) (nd o11 (nd o11 e e) (nd Xj e e))) (nd o19 (nd Zu (nd aaI e e) (nd o19 e e)) (nd Xi (nd Wh e e) e))) (nd o50 (nd o82 (nd o11 (nd aaM e e) (nd WG e e)) (nd YC (nd Zz e e) e)) (nd o11 (nd aan (nd o19 e e) (nd o11 e e)) (nd o19 (nd o11 e e) e)))) (nd o26 (nd (o42 P) (nd o74 (nd X8 (nd o19 e e) (nd WV e e)) (nd o19 (nd o19 e e) (nd WQ e e))) (nd WM (nd YM (nd o11 e e) (nd Y9 e e)) (nd o11 (nd ZY e e) e))) (nd o58 (nd o11 (nd o19 (nd o11 e e) (nd o11 e e)) (nd o11 (nd o11 e e) e)) (nd Yo (nd Wy (nd Y5 e e) (nd Z5 e e)) (nd Xf (nd o11 e e) e))))) (nd o14 (nd o11 (nd o38 (nd o70 (nd aaT (nd WD e e) (nd o19 e e)) (nd WL (nd Xx e e) (nd o19 e e))) (nd Y6 (nd Vz (nd o11 e e) (nd abj e e)) (nd o11 (nd abu e e) e))) (nd (o54 P) (nd o11 (nd aaQ (nd XC e e) (nd o11 e e)) (nd aby (nd o19 e e) e)) (nd o11 (nd ZV (nd o11 e e) (nd o11 e e)) (nd o11 (nd VF e e) e)))) (nd (o30 P) (nd o46 (nd o78 (nd o11 (nd Ye e e) (nd VJ e e)) (nd Zi (nd Y0 e e) (nd Vx e e))) (nd Zf (nd Yt (nd aaV e e) (nd X6 e e)) (nd abr (nd o11 e e) e))) (nd o62 (nd o94 (nd aas (nd o11 e e) (nd abH e e)) (nd o11 (nd XG e e) e)) (nd o19 (nd o19 (nd o11 e e) (nd ab2 e e)) (nd o19 (nd o11 e e) e))))))))
def HF(P:Params):Heap:=⟨⟨[PySem.W.boot_o_0 P,PySem.W.boot_o_1 P,PySem.W.boot_o_2 P,o3 P,PySem.W.boot_o_4 P,PySem.W.boot_o_5 P,PySem.W.boot_o_6 P,PySem.W.boot_o_7 P,PySem.W.boot_o_8 P,PySem.W.boot_o_9 P,PySem.W.boot_o_10 P,o11,o12,o13,o14,o15,o16,o17 P,o11,o19,o20,o21,o11,o23 P,o24,o25,o26,o27,o28,o16,o30 P,o11,o19,o33,o34,o11,o36 P,o37,o38,o39,o28,o16,o42 P,o11,o19,o45,o46,o11,o48 P,o49,o50,o51,o28,o16,o54 P,o11,o19,o57,o58,o11,o60 P,o61,o62,o63,o28,o16,o66 P,o11,o19,o69,o70,o11,o72 P,o73,o74,o75,o11,o19,o78,o11,o80,o81,o82,o11,o19,o85,o11,o87,o88,o89,o11,o19,o92,o11,o94,o95,o96,o11,o19,o99,o11,Wz,Y6,V9,o11,o19,WM,o11,WH,Zw,Zf,o11,o19,X7,o11,V6,YG,Zr,o11,o19,abn,o11,Yo,abv,aa1,o11,o19,VX,o11,aaH,Z2,W9,o11,o19,aaT,o11,aaj,abp,X8,o11,o19,Zd,o11,abq,Zx,XE,o11,o19,aaS,o11,aaQ,aac,aaE,o11,o19,aaF,o11,WK,aas,Xp,o11,o19,Zu,o11,VD,WZ,Vz,o11,o19,Xu,YM,Z8,o11,o19,Yt,o11,Za,Ws,aan,o11,o19,VH,ZV,WB,o11,o19,Wy,Xm,WY,o11,o19,aax,aaN,Wj,o11,o19,Y7,o11,WL,VB,o200,o11,o19,ZF,o11,XF,Zi,aaD,o11,o19,YC,o11,XY,ZC,aby,o11,o19,ZQ,o11,Xv,W0,V4,o11,o19,Zt,V3,Xi,o11,o19,Yi,o11,YW,Wr,W5,o11,o19,Xy,o11,abr,Xc,Wn,o11,o19,W3,Ym,YZ,o11,o19,Zv,o11,Xf,Wa,YL,o11,o19,Yj,Xd,ZJ,o11,o19,ZR,o11,WD,Y8,YX,o11,o19,VG,o11,aay,Ye,Yc,o11,o19,aaM,o11,Wl,Zg,XC,o11,o19,abg,o11,XO,Wg,Zq,o11,o19,Xw,Wi,aaI,o11,o19,aaO,o11,Ys,WC,Wm,o11,o19,o300,o11,aaV,XD,aa9,o11,o19,XM,YH,aaf,o11,o19,Xr,ZX,Y5,o11,o19,aa0,o11,abm,aa3,YF,o11,o19,aaX,o11,Xx,Wq,aaz,o11,o19,Vy,o11,Yw,Y0,aat,o11,o19,Zz,Zn,aae,o11,o19,ZP,Ze,Wo,o11,o19,W7,aaW,XG,o11,o19,abf,Wh,abb,o11,o19,abu,o11,aai,V5,ZY,o11,o19,Xq,o11,XJ,aaw,Wv,o11,o19,aau,WT,VF,o11,o19,o377,o11,Z7,Zo,Xe,o11,o19,aaC,o11,XI,Wu,Zk,o11,o19,Xh,o11,aaG,WV,aar,o11,o19,VJ,o11,o400,abo,WG,o11,o19,aa2,o11,abl,Wb,Xo,o11,o19,ab5,o11,abH,aci,ab3,o11,o19,aaq,o11,XQ,abj,abd,o11,o19,Y9,o11,Xk,WW,X6,o11,o19,YB,o11,abw,Wk,Z6,o11,o19,Zj,aal,Z5,o11,o19,ab4,ab2,abB,o11,o19,Xj,Wf,Z0,o11,o19,XU,o11,Wt,WQ,VR,o11,o19,Vx,V8,abt]⟩,{}⟩
def K(P:Params):Frag:=(nat_lit 0,PySem.W.boot_o_0 P)::(nat_lit 1,PySem.W.boot_o_1 P)::(nat_lit 2,PySem.W.boot_o_2 P)::(nat_lit 3,o3 P)::(nat_lit 4,PySem.W.boot_o_4 P)::(nat_lit 5,PySem.W.boot_o_5 P)::(nat_lit 6,PySem.W.boot_o_6 P)::(nat_lit 7,PySem.W.boot_o_7 P)::(nat_lit 8,PySem.W.boot_o_8 P)::(nat_lit 9,PySem.W.boot_o_9 P)::(nat_lit 10,PySem.W.boot_o_10 P)::(nat_lit 11,o11)::(nat_lit 12,o12)::(nat_lit 13,o13)::(nat_lit 14,o14)::(nat_lit 15,o15)::(nat_lit 22,o11)::(nat_lit 23,o23 P)::(nat_lit 24,o24)::(nat_lit 25,o25)::(nat_lit 28,o28)::(nat_lit 35,o11)::(nat_lit 36,o36 P)::(nat_lit 37,o37)::(nat_lit 40,o28)::(nat_lit 47,o11)::(nat_lit 48,o48 P)::(nat_lit 49,o49)::(nat_lit 52,o28)::(nat_lit 59,o11)::(nat_lit 60,o60 P)::(nat_lit 61,o61)::(nat_lit 64,o28)::(nat_lit 71,o11)::(nat_lit 72,o72 P)::(nat_lit 73,o73)::(nat_lit 76,o11)::(nat_lit 77,o19)::(nat_lit 78,o78)::(nat_lit 79,o11)::(nat_lit 80,o80)::(nat_lit 81,o81)::(nat_lit 82,o82)::(nat_lit 83,o11)::(nat_lit 84,o19)::(nat_lit 85,o85)::(nat_lit 86,o11)::(nat_lit 87,o87)::(nat_lit 88,o88)::(nat_lit 89,o89)::(nat_lit 90,o11)::(nat_lit 91,o19)::(nat_lit 92,o92)::(nat_lit 93,o11)::(nat_lit 94,o94)::(nat_lit 95,o95)::(nat_lit 96,o96)::(nat_lit 97,o11)::(nat_lit 98,o19)::(nat_lit 99,o99)::(nat_lit 100,o11)::(nat_lit 101,Wz)::(nat_lit 102,Y6)::(nat_lit 103,V9)::(nat_lit 104,o11)::(nat_lit 105,o19)::(nat_lit 106,WM)::(nat_lit 107,o11)::(nat_lit 108,WH)::(nat_lit 109,Zw)::(nat_lit 110,Zf)::(nat_lit 111,o11)::(nat_lit 112,o19)::(nat_lit 113,X7)::(nat_lit 114,o11)::(nat_lit 115,V6)::(nat_lit 116,YG)::(nat_lit 117,Zr)::(nat_lit 118,o11)::(nat_lit 119,o19)::(nat_lit 120,abn)::(nat_lit 121,o11)::(nat_lit 122,Yo)::(nat_lit 123,abv)::(nat_lit 124,aa1)::(nat_lit 125,o11)::(nat_lit 126,o19)::(nat_lit 127,VX)::(nat_lit 128,o11)::(nat_lit 129,aaH)::(nat_lit 130,Z2)::(nat_lit 131,W9)::(nat_lit 132,o11)::(nat_lit 133,o19)::(nat_lit 134,aaT)::(nat_lit 135,o11)::(nat_lit 136,aaj)::(nat_lit 137,abp)::(nat_lit 138,X8)::(nat_lit 139,o11)::(nat_lit 140,o19)::(nat_lit 141,Zd)::(nat_lit 142,o11)::(nat_lit 143,abq)::(nat_lit 144,Zx)::(nat_lit 145,XE)::(nat_lit 146,o11)::(nat_lit 147,o19)::(nat_lit 148,aaS)::(nat_lit 149,o11)::(nat_lit 150,aaQ)::(nat_lit 151,aac)::(nat_lit 152,aaE)::(nat_lit 153,o11)::(nat_lit 154,o19)::(nat_lit 155,aaF)::(nat_lit 156,o11)::(nat_lit 157,WK)::(nat_lit 158,aas)::(nat_lit 159,Xp)::(nat_lit 160,o11)::(nat_lit 161,o19)::(nat_lit 162,Zu)::(nat_lit 163,o11)::(nat_lit 164,VD)::(nat_lit 165,WZ)::(nat_lit 166,Vz)::(nat_lit 167,o11)::(nat_lit 168,o19)::(nat_lit 169,Xu)::(nat_lit 170,YM)::(nat_lit 171,Z8)::(nat_lit 172,o11)::(nat_lit 173,o19)::(nat_lit 174,Yt)::(nat_lit 175,o11)::(nat_lit 176,Za)::(nat_lit 177,Ws)::(nat_lit 178,aan)::(nat_lit 179,o11)::(nat_lit 180,o19)::(nat_lit 181,VH)::(nat_lit 182,ZV)::(nat_lit 183,WB)::(nat_lit 184,o11)::(nat_lit 185,o19)::(nat_lit 186,Wy)::(nat_lit 187,Xm)::(nat_lit 188,WY)::(nat_lit 189,o11)::(nat_lit 190,o19)::(nat_lit 191,aax)::(nat_lit 192,aaN)::(nat_lit 193,Wj)::(nat_lit 194,o11)::(nat_lit 195,o19)::(nat_lit 196,Y7)::(nat_lit 197,o11)::(nat_lit 198,WL)::(nat_lit 199,VB)::(nat_lit 200,o200)::(nat_lit 201,o11)::(nat_lit 202,o19)::(nat_lit 203,ZF)::(nat_lit 204,o11)::(nat_lit 205,XF)::(nat_lit 206,Zi)::(nat_lit 207,aaD)::(nat_lit 208,o11)::(nat_lit 209,o19)::(nat_lit 210,YC)::(nat_lit 211,o11)::(nat_lit 212,XY)::(nat_lit 213,ZC)::(nat_lit 214,aby)::(nat_lit 215,o11)::(nat_lit 216,o19)::(nat_lit 217,ZQ)::(nat_lit 218,o11)::(nat_lit 219,Xv)::(nat_lit 220,W0)::(nat_lit 221,V4)::(nat_lit 222,o11)::(nat_lit 223,o19)::(nat_lit 224,Zt)::(nat_lit 225,V3)::(nat_lit 226,Xi)::(nat_lit 227,o11)::(nat_lit 228,o19)::(nat_lit 229,Yi)::(nat_lit 230,o11)::(nat_lit 231,YW)::(nat_lit 232,Wr)::(nat_lit 233,W5)::(nat_lit 234,o11)::(nat_lit 235,o19)::(nat_lit 236,Xy)::(nat_lit 237,o11)::(nat_lit 238,abr)::(nat_lit 239,Xc)::(nat_lit 240,Wn)::(nat_lit 241,o11)::(nat_lit 242,o19)::(nat_lit 243,W3)::(nat_lit 244,Ym)::(nat_lit 245,YZ)::(nat_lit 246,o11)::(nat_lit 247,o19)::(nat_lit 248,Zv)::(nat_lit 249,o11)::(nat_lit 250,Xf)::(nat_lit 251,Wa)::(nat_lit 252,YL)::(nat_lit 253,o11)::(nat_lit 254,o19)::(nat_lit 255,Yj)::(nat_lit 256,Xd)::(nat_lit 257,ZJ)::(nat_lit 258,o11)::(nat_lit 259,o19)::(nat_lit 260,ZR)::(nat_lit 261,o11)::(nat_lit 262,WD)::(nat_lit 263,Y8)::(nat_lit 264,YX)::(nat_lit 265,o11)::(nat_lit 266,o19)::(nat_lit 267,VG)::(nat_lit 268,o11)::(nat_lit 269,aay)::(nat_lit 270,Ye)::(nat_lit 271,Yc)::(nat_lit 272,o11)::(nat_lit 273,o19)::(nat_lit 274,aaM)::(nat_lit 275,o11)::(nat_lit 276,Wl)::(nat_lit 277,Zg)::(nat_lit 278,XC)::(nat_lit 279,o11)::(nat_lit 280,o19)::(nat_lit 281,abg)::(nat_lit 282,o11)::(nat_lit 283,XO)::(nat_lit 284,Wg)::(nat_lit 285,Zq)::(nat_lit 286,o11)::(nat_lit 287,o19)::(nat_lit 288,Xw)::(nat_lit 289,Wi)::(nat_lit 290,aaI)::(nat_lit 291,o11)::(nat_lit 292,o19)::(nat_lit 293,aaO)::(nat_lit 294,o11)::(nat_lit 295,Ys)::(nat_lit 296,WC)::(nat_lit 297,Wm)::(nat_lit 298,o11)::(nat_lit 299,o19)::(nat_lit 300,o300)::(nat_lit 301,o11)::(nat_lit 302,aaV)::(nat_lit 303,XD)::(nat_lit 304,aa9)::(nat_lit 305,o11)::(nat_lit 306,o19)::(nat_lit 307,XM)::(nat_lit 308,YH)::(nat_lit 309,aaf)::(nat_lit 310,o11)::(nat_lit 311,o19)::(nat_lit 312,Xr)::(nat_lit 313,ZX)::(nat_lit 314,Y5)::(nat_lit 315,o11)::(nat_lit 316,o19)::(nat_lit 317,aa0)::(nat_lit 318,o11)::(nat_lit 319,abm)::(nat_lit 320,aa3)::(nat_lit 321,YF)::(nat_lit 322,o11)::(nat_lit 323,o19)::(nat_lit 324,aaX)::(nat_lit 325,o11)::(nat_lit 326,Xx)::(nat_lit 327,Wq)::(nat_lit 328,aaz)::(nat_lit 329,o11)::(nat_lit 330,o19)::(nat_lit 331,Vy)::(nat_lit 332,o11)::(nat_lit 333,Yw)::(nat_lit 334,Y0)::(nat_lit 335,aat)::(nat_lit 336,o11)::(nat_lit 337,o19)::(nat_lit 338,Zz)::(nat_lit 339,Zn)::(nat_lit 340,aae)::(nat_lit 341,o11)::(nat_lit 342,o19)::(nat_lit 343,ZP)::(nat_lit 344,Ze)::(nat_lit 345,Wo)::(nat_lit 346,o11)::(nat_lit 347,o19)::(nat_lit 348,W7)::(nat_lit 349,aaW)::(nat_lit 350,XG)::(nat_lit 351,o11)::(nat_lit 352,o19)::(nat_lit 353,abf)::(nat_lit 354,Wh)::(nat_lit 355,abb)::(nat_lit 356,o11)::(nat_lit 357,o19)::(nat_lit 358,abu)::(nat_lit 359,o11)::(nat_lit 360,aai)::(nat_lit 361,V5)::(nat_lit 362,ZY)::(nat_lit 363,o11)::(nat_lit 364,o19)::(nat_lit 365,Xq)::(nat_lit 366,o11)::(nat_lit 367,XJ)::(nat_lit 368,aaw)::(nat_lit 369,Wv)::(nat_lit 370,o11)::(nat_lit 371,o19)::(nat_lit 372,aau)::(nat_lit 373,WT)::(nat_lit 374,VF)::(nat_lit 375,o11)::(nat_lit 376,o19)::(nat_lit 377,o377)::(nat_lit 378,o11)::(nat_lit 379,Z7)::(nat_lit 380,Zo)::(nat_lit 381,Xe)::(nat_lit 382,o11)::(nat_lit 383,o19)::(nat_lit 384,aaC)::(nat_lit 385,o11)::(nat_lit 386,XI)::(nat_lit 387,Wu)::(nat_lit 388,Zk)::(nat_lit 389,o11)::(nat_lit 390,o19)::(nat_lit 391,Xh)::(nat_lit 392,o11)::(nat_lit 393,aaG)::(nat_lit 394,WV)::(nat_lit 395,aar)::(nat_lit 396,o11)::(nat_lit 397,o19)::(nat_lit 398,VJ)::(nat_lit 399,o11)::(nat_lit 400,o400)::(nat_lit 401,abo)::(nat_lit 402,WG)::(nat_lit 403,o11)::(nat_lit 404,o19)::(nat_lit 405,aa2)::(nat_lit 406,o11)::(nat_lit 407,abl)::(nat_lit 408,Wb)::(nat_lit 409,Xo)::(nat_lit 417,o11)::(nat_lit 418,o19)::(nat_lit 419,aaq)::(nat_lit 420,o11)::(nat_lit 421,XQ)::(nat_lit 422,abj)::(nat_lit 423,abd)::(nat_lit 424,o11)::(nat_lit 425,o19)::(nat_lit 426,Y9)::(nat_lit 427,o11)::(nat_lit 428,Xk)::(nat_lit 429,WW)::(nat_lit 430,X6)::(nat_lit 431,o11)::(nat_lit 432,o19)::(nat_lit 433,YB)::(nat_lit 434,o11)::(nat_lit 435,abw)::(nat_lit 436,Wk)::(nat_lit 437,Z6)::(nat_lit 438,o11)::(nat_lit 439,o19)::(nat_lit 440,Zj)::(nat_lit 441,aal)::(nat_lit 442,Z5)::(nat_lit 448,o11)::(nat_lit 449,o19)::(nat_lit 450,Xj)::(nat_lit 451,Wf)::(nat_lit 452,Z0)::(nat_lit 453,o11)::(nat_lit 454,o19)::(nat_lit 455,XU)::(nat_lit 456,o11)::(nat_lit 457,Wt)::(nat_lit 458,WQ)::(nat_lit 459,VR)::(nat_lit 460,o11)::(nat_lit 461,o19)::(nat_lit 462,Vx)::(nat_lit 463,V8)::(nat_lit 464,abt)::[]
def as:List Nat:=[nat_lit 0,nat_lit 1,nat_lit 2,nat_lit 3,nat_lit 4,nat_lit 5,nat_lit 6,nat_lit 7,nat_lit 8,nat_lit 9,nat_lit 10,nat_lit 11,nat_lit 12,nat_lit 13,nat_lit 14,nat_lit 15,nat_lit 22,nat_lit 23,nat_lit 24,nat_lit 25,nat_lit 28,nat_lit 35,nat_lit 36,nat_lit 37,nat_lit 40,nat_lit 47,nat_lit 48,nat_lit 49,nat_lit 52,nat_lit 59,nat_lit 60,nat_lit 61,nat_lit 64,nat_lit 71,nat_lit 72,nat_lit 73,nat_lit 76,nat_lit 77,nat_lit 78,nat_lit 79,nat_lit 80,nat_lit 81,nat_lit 82,nat_lit 83,nat_lit 84,nat_lit 85,nat_lit 86,nat_lit 87,nat_lit 88,nat_lit 89,nat_lit 90,nat_lit 91,nat_lit 92,nat_lit 93,nat_lit 94,nat_lit 95,nat_lit 96,nat_lit 97,nat_lit 98,nat_lit 99,nat_lit 100,nat_lit 101,nat_lit 102,nat_lit 103,nat_lit 104,nat_lit 105,nat_lit 106,nat_lit 107,nat_lit 108,nat_lit 109,nat_lit 110,nat_lit 111,nat_lit 112,nat_lit 113,nat_lit 114,nat_lit 115,nat_lit 116,nat_lit 117,nat_lit 118,nat_lit 119,nat_lit 120,nat_lit 121,nat_lit 122,nat_lit 123,nat_lit 124,nat_lit 125,nat_lit 126,nat_lit 127,nat_lit 128,nat_lit 129,nat_lit 130,nat_lit 131,nat_lit 132,nat_lit 133,nat_lit 134,nat_lit 135,nat_lit 136,nat_lit 137,nat_lit 138,nat_lit 139,nat_lit 140,nat_lit 141,nat_lit 142,nat_lit 143,nat_lit 144,nat_lit 145,nat_lit 146,nat_lit 147,nat_lit 148,nat_lit 149,nat_lit 150,nat_lit 151,nat_lit 152,nat_lit 153,nat_lit 154,nat_lit 155,nat_lit 156,nat_lit 157,nat_lit 158,nat_lit 159,nat_lit 160,nat_lit 161,nat_lit 162,nat_lit 163,nat_lit 164,nat_lit 165,nat_lit 166,nat_lit 167,nat_lit 168,nat_lit 169,nat_lit 170,nat_lit 171,nat_lit 172,nat_lit 173,nat_lit 174,nat_lit 175,nat_lit 176,nat_lit 177,nat_lit 178,nat_lit 179,nat_lit 180,nat_lit 181,nat_lit 182,nat_lit 183,nat_lit 184,nat_lit 185,nat_lit 186,nat_lit 187,nat_lit 188,nat_lit 189,nat_lit 190,nat_lit 191,nat_lit 192,nat_lit 193,nat_lit 194,nat_lit 195,nat_lit 196,nat_lit 197,nat_lit 198,nat_lit 199,nat_lit 200,nat_lit 201,nat_lit 202,nat_lit 203,nat_lit 204,nat_lit 205,nat_lit 206,nat_lit 207,nat_lit 208,nat_lit 209,nat_lit 210,nat_lit 211,nat_lit 212,nat_lit 213,nat_lit 214,nat_lit 215,nat_lit 216,nat_lit 217,nat_lit 218,nat_lit 219,nat_lit 220,nat_lit 221,nat_lit 222,nat_lit 223,nat_lit 224,nat_lit 225,nat_lit 226,nat_lit 227,nat_lit 228,nat_lit 229,nat_lit 230,nat_lit 231,nat_lit 232,nat_lit 233,nat_lit 234,nat_lit 235,nat_lit 236,nat_lit 237,nat_lit 238,nat_lit 239,nat_lit 240,nat_lit 241,nat_lit 242,nat_lit 243,nat_lit 244,nat_lit 245,nat_lit 246,nat_lit 247,nat_lit 248,nat_lit 249,nat_lit 250,nat_lit 251,nat_lit 252,nat_lit 253,nat_lit 254,nat_lit 255,nat_lit 256,nat_lit 257,nat_lit 258,nat_lit 259,nat_lit 260,nat_lit 261,nat_lit 262,nat_lit 263,nat_lit 264,nat_lit 265,nat_lit 266,nat_lit 267,nat_lit 268,nat_lit 269,nat_lit 270,nat_lit 271,nat_lit 272,nat_lit 273,nat_lit 274,nat_lit 275,nat_lit 276,nat_lit 277,nat_lit 278,nat_lit 279,nat_lit 280,nat_lit 281,nat_lit 282,nat_lit 283,nat_lit 284,nat_lit 285,nat_lit 286,nat_lit 287,nat_lit 288,nat_lit 289,nat_lit 290,nat_lit 291,nat_lit 292,nat_lit 293,nat_lit 294,nat_lit 295,nat_lit 296,nat_lit 297,nat_lit 298,nat_lit 299,nat_lit 300,nat_lit 301,nat_lit 302,nat_lit 303,nat_lit 304,nat_lit 305,nat_lit 306,nat_lit 307,nat_lit 308,nat_lit 309,nat_lit 310,nat_lit 311,nat_lit 312,nat_lit 313,nat_lit 314,nat_lit 315,nat_lit 316,nat_lit 317,nat_lit 318,nat_lit 319,nat_lit 320,nat_lit 321,nat_lit 322,nat_lit 323,nat_lit 324,nat_lit 325,nat_lit 326,nat_lit 327,nat_lit 328,nat_lit 329,nat_lit 330,nat_lit 331,nat_lit 332,nat_lit 333,nat_lit 334,nat_lit 335,nat_lit 336,nat_lit 337,nat_lit 338,nat_lit 339,nat_lit 340,nat_lit 341,nat_lit 342,nat_lit 343,nat_lit 344,nat_lit 345,nat_lit 346,nat_lit 347,nat_lit 348,nat_lit 349,nat_lit 350,nat_lit 351,nat_lit 352,nat_lit 353,nat_lit 354,nat_lit 355,nat_lit 356,nat_lit 357,nat_lit 358,nat_lit 359,nat_lit 360,nat_lit 361,nat_lit 362,nat_lit 363,nat_lit 364,nat_lit 365,nat_lit 366,nat_lit 367,nat_lit 368,nat_lit 369,nat_lit 370,nat_lit 371,nat_lit 372,nat_lit 373,nat_lit 374,nat_lit 375,nat_lit 376,nat_lit 377,nat_lit 378,nat_lit 379,nat_lit 380,nat_lit 381,nat_lit 382,nat_lit 383,nat_lit 384,nat_lit 385,nat_lit 386,nat_lit 387,nat_lit 388,nat_lit 389,nat_lit 390,nat_lit 391,nat_lit 392,nat_lit 393,nat_lit 394,nat_lit 395,nat_lit 396,nat_lit 397,nat_lit 398,nat_lit 399,nat_lit 400,nat_lit 401,nat_lit 402,nat_lit 403,nat_lit 404,nat_lit 405,nat_lit 406,nat_lit 407,nat_lit 408,nat_lit 409,nat_lit 417,nat_lit 418,nat_lit 419,nat_lit 420,nat_lit 421,nat_lit 422,nat_lit 423,nat_lit 424,nat_lit 425,nat_lit 426,nat_lit 427,nat_lit 428,nat_lit 429,nat_lit 430,nat_lit 431,nat_lit 432,nat_lit 433,nat_lit 434,nat_lit 435,nat_lit 436,nat_lit 437,nat_lit 438,nat_lit 439,nat_lit 440,nat_lit 441,nat_lit 442,nat_lit 448,nat_lit 449,nat_lit 450,nat_lit 451,nat_lit 452,nat_lit 453,nat_lit 454,nat_lit 455,nat_lit 456,nat_lit 457,nat_lit 458,nat_lit 459,nat_lit 460,nat_lit 461,nat_lit 462,nat_lit 463,nat_lit 464]
def cut(n:Nat)(t:BT):Nat->Nat->BT:=BT.rec (motive:=fun _=>Nat->Nat->BT) (fun _ _=> .nil) (fun v _ _ l r a b=>cond (Nat.blt b n) (.node v (l (Nat.mul 2 a) (Nat.add a b)) (r (Nat.mul 2 a) (Nat.add (Nat.mul 2 a) b))) .nil) t
def HA(P:Params):Heap:=⟨⟨[PySem.W.boot_o_0 P,PySem.W.boot_o_1 P,PySem.W.boot_o_2 P,PySem.W.boot_o_3 P,PySem.W.boot_o_4 P,PySem.W.boot_o_5 P,PySem.W.boot_o_6 P,PySem.W.boot_o_7 P,PySem.W.boot_o_8 P,PySem.W.boot_o_9 P,PySem.W.boot_o_10 P,o11,U4,o13,o14]⟩,{}⟩
def SA(w:World)(os:OsState):Shared:=⟨HA w.params,⟨[]⟩,{},187,os⟩
def T1(P:Params):BT:=((cut 15 (TF P) 1 0).set 3 fun _=>PySem.W.boot_o_3 P).set 12 fun _=>U4
def S1(w:World)(os:OsState):SharedT:=⟨T1 w.params,15,{},⟨[]⟩,{},187,os⟩
def T2(P:Params):BT:=(((cut 28 (TF P) 1 0).set 3 fun _=>adR P).set 12 fun _=>aak).set 24 fun _=>Wc
def S2(w:World)(os:OsState):SharedT:=⟨T2 w.params,28,{},⟨[]⟩,{},207,os⟩
def T3(P:Params):BT:=(((cut 40 (TF P) 1 0).set 3 fun _=>acB P).set 12 fun _=>V1).set 24 fun _=>aah
def S3(w:World)(os:OsState):SharedT:=⟨T3 w.params,40,{},⟨[]⟩,{},223,os⟩
def T4(P:Params):BT:=(((cut 52 (TF P) 1 0).set 3 fun _=>adf P).set 12 fun _=>aad).set 24 fun _=>aa8
def S4(w:World)(os:OsState):SharedT:=⟨T4 w.params,52,{},⟨[]⟩,{},239,os⟩
def T5(P:Params):BT:=(((cut 64 (TF P) 1 0).set 3 fun _=>VW P).set 12 fun _=>Uk).set 24 fun _=>RM
def S5(w:World)(os:OsState):SharedT:=⟨T5 w.params,64,{},⟨[]⟩,{},255,os⟩
def T6(P:Params):BT:=((cut 104 (TF P) 1 0).set 3 fun _=>Yz P).set 12 fun _=>RN
def S6(w:World)(os:OsState):SharedT:=⟨T6 w.params,104,{},⟨[]⟩,{},315,os⟩
def T7(P:Params):BT:=((cut 184 (TF P) 1 0).set 3 fun _=>Yx P).set 12 fun _=>UC
def S7(w:World)(os:OsState):SharedT:=⟨T7 w.params,184,{},⟨[]⟩,{},429,os⟩
def T8(P:Params):BT:=((cut 258 (TF P) 1 0).set 3 fun _=>Zb P).set 12 fun _=>Uh
def S8(w:World)(os:OsState):SharedT:=⟨T8 w.params,258,{},⟨[]⟩,{},532,os⟩
def T9(P:Params):BT:=((cut 336 (TF P) 1 0).set 3 fun _=>V2 P).set 12 fun _=>RL
def S9(w:World)(os:OsState):SharedT:=⟨T9 w.params,336,{},⟨[]⟩,{},637,os⟩
def T10(P:Params):BT:=((cut 410 (TF P) 1 0).set 3 fun _=>Z4 P).set 12 fun _=>Uw
def S10(w:World)(os:OsState):SharedT:=⟨T10 w.params,410,{},⟨[]⟩,{},741,os⟩
def T11(P:Params):BT:=cut 465 (TF P) 1 0
def S11(w:World)(os:OsState):SharedT:=⟨T11 w.params,465,{},⟨[]⟩,{},813,os⟩
def SF(w:World)(os:OsState):Shared:=⟨HF w.params,⟨[]⟩,{},813,os⟩
def ann:Option Value:=some (.ref 6)
def env:Env:={ scope:=pwL.main.scope,locals:=mainNs,globals:=mainNs,cells:=[],code:= .ref 13,frame:=some 14 }
def cE:Code:= .body (behindTheImports pwL) env
abbrev BB:List Frame:=[topFrame ⟨0,0,0,0⟩]
def q:Program:={ pwL with main:={ pwL.main with body:=[topF 1,topF 2,topF 3,topF 4,topF 5,topF 7,topF 8,topF 9,topF 10,topF 12,topF 13,topF 14,topF 15,topF 16,topF 17,topF 18,topF 19,topF 21,topF 22,topF 23,topF 24,topF 25,topF 26,topF 27,topF 29,topF 30,topF 31,topF 33,topF 34,topF 35,topF 36,topF 37,topF 38,topF 39,topF 40,topF 42,topF 43,topF 44,topF 46,topF 47,topF 48,topF 49,topF 50,topF 51,topF 52,topF 53,topF 54,topF 55,topF 56,topF 57,topF 58,topF 59,topF 60,topF 61,topF 62,topF 64,topF 66,topF 67,topF 68,topF 69,topF 71,topF 72,topF 73,topF 74,topF 75,topF 76,topF 77,topF 78,topF 79,topF 80,topF 81] } }
theorem warm2:((fun(_:Env) (_:Code) (_:Program)=>true) env cE q)=true:=by k_qdec
theorem a0:@segRunT=PySem.W.Fast.tw10110043849684766642:=PySem.W.Fast.te10110043849684766642
theorem a1:@treeTable=PySem.W.Fast.tw14364793385576792824:=PySem.W.Fast.te14364793385576792824
theorem a2:@topGo=PySem.W.Fast.tw15667345088766844465:=PySem.W.Fast.te15667345088766844465
theorem a3:@topRun=PySem.W.Fast.tw14082659384304107361:=PySem.W.Fast.te14082659384304107361
theorem a4:@segRun=PySem.W.Fast.tw14374325043358763698:=PySem.W.Fast.te14374325043358763698
theorem a5:@denote=PySem.W.Fast.tw11892475500146522536:=PySem.W.Fast.te11892475500146522536
theorem a6:@cE=PySem.W.Fast.tw13926463593666838804:=PySem.W.Fast.te13926463593666838804
theorem a7:@env=PySem.W.Fast.tw7667072809199187623:=PySem.W.Fast.te7667072809199187623
theorem a8:@q=PySem.W.Fast.tw13570538464594458519:=PySem.W.Fast.te13570538464594458519
theorem a9:@pwL=PySem.W.Fast.tw3039908750019421643:=PySem.W.Fast.te3039908750019421643
theorem a10:@topF=PySem.W.Fast.tw938718607463309169:=PySem.W.Fast.te938718607463309169
theorem a11:@importedModules=PySem.W.Fast.tw5923862056798008813:=PySem.W.Fast.te5923862056798008813
theorem a12:@openSeen=PySem.W.Fast.tw4187177175401517315:=PySem.W.Fast.te4187177175401517315
theorem a13:@Heap.nsMap=PySem.W.Fast.tw8920871248978507458:=PySem.W.Fast.te8920871248978507458
set_option maxHeartbeats 0
theorem pre(w:World)(os:OsState):topGo treeTable pwL w 11 ann 12 ⟨boot_heap w.params,⟨[]⟩,boot_drawn,boot_toks,os⟩ (topStub pwL)=some (SA w os,⟨denote treeTable cE,cE,⟨0,0,0,0⟩,BB⟩):=by
 (try rw[a0]);(try rw[a1]);(try rw[a2]);(try rw[a3]);(try rw[a4]);(try rw[a5]);(try rw[a6]);(try rw[a7]);(try rw[a8]);(try rw[a9]);(try rw[a10]);kernel_rfl
theorem blk(w:World)(os:OsState):segRun treeTable pwL w 11 ann 1 1 (SA w os) (blockOf (behindTheImports pwL) env cE ⟨0,0,0,0⟩ BB)=some (.next,(S1 w os).abs,cE,⟨0,0,0,0⟩):=by
 (try rw[a0]);(try rw[a1]);(try rw[a2]);(try rw[a3]);(try rw[a4]);(try rw[a5]);(try rw[a6]);(try rw[a7]);(try rw[a8]);(try rw[a9]);(try rw[a10]);kernel_rfl
abbrev c1:List Stmt:=[topF 0,topF 1]
theorem p1(w:World)(os:OsState):segRunT treeTable pwL w 11 ann 1 196 (S1 w os) (piecesOf c1 env cE ⟨0,0,0,0⟩ BB)=some (.next,S2 w os,cE,⟨2,0,3,8⟩):=by
 unfold c1;(try rw[a0]);(try rw[a1]);(try rw[a2]);(try rw[a3]);(try rw[a4]);(try rw[a5]);(try rw[a6]);(try rw[a7]);(try rw[a8]);(try rw[a9]);(try rw[a10]);kernel_rfl
abbrev c2:List Stmt:=[topF 2]
theorem p2(w:World)(os:OsState):segRunT treeTable pwL w 11 ann 1 214 (S2 w os) (piecesOf c2 env cE ⟨2,0,3,8⟩ BB)=some (.next,S3 w os,cE,⟨4,0,5,8⟩):=by
 unfold c2;(try rw[a0]);(try rw[a1]);(try rw[a2]);(try rw[a3]);(try rw[a4]);(try rw[a5]);(try rw[a6]);(try rw[a7]);(try rw[a8]);(try rw[a9]);(try rw[a10]);kernel_rfl
abbrev c3:List Stmt:=[topF 3]
theorem p3(w:World)(os:OsState):segRunT treeTable pwL w 11 ann 1 214 (S3 w os) (piecesOf c3 env cE ⟨4,0,5,8⟩ BB)=some (.next,S4 w os,cE,⟨6,0,7,8⟩):=by
 unfold c3;(try rw[a0]);(try rw[a1]);(try rw[a2]);(try rw[a3]);(try rw[a4]);(try rw[a5]);(try rw[a6]);(try rw[a7]);(try rw[a8]);(try rw[a9]);(try rw[a10]);kernel_rfl
abbrev c4:List Stmt:=[topF 4]
theorem p4(w:World)(os:OsState):segRunT treeTable pwL w 11 ann 1 214 (S4 w os) (piecesOf c4 env cE ⟨6,0,7,8⟩ BB)=some (.next,S5 w os,cE,⟨8,0,9,8⟩):=by
 unfold c4;(try rw[a0]);(try rw[a1]);(try rw[a2]);(try rw[a3]);(try rw[a4]);(try rw[a5]);(try rw[a6]);(try rw[a7]);(try rw[a8]);(try rw[a9]);(try rw[a10]);kernel_rfl
abbrev c5:List Stmt:=[topF 5,topF 6,topF 7,topF 8,topF 9,topF 10,topF 11,topF 12,topF 13]
theorem p5(w:World)(os:OsState):segRunT treeTable pwL w 11 ann 1 374 (S5 w os) (piecesOf c5 env cE ⟨8,0,9,8⟩ BB)=some (.next,S6 w os,cE,⟨44,0,44,8⟩):=by
 unfold c5;(try rw[a0]);(try rw[a1]);(try rw[a2]);(try rw[a3]);(try rw[a4]);(try rw[a5]);(try rw[a6]);(try rw[a7]);(try rw[a8]);(try rw[a9]);(try rw[a10]);kernel_rfl
abbrev c6:List Stmt:=[topF 14,topF 15,topF 16,topF 17,topF 18,topF 19,topF 20,topF 21,topF 22,topF 23,topF 24,topF 25,topF 26]
theorem p6(w:World)(os:OsState):segRunT treeTable pwL w 11 ann 1 382 (S6 w os) (piecesOf c6 env cE ⟨44,0,44,8⟩ BB)=some (.next,S7 w os,cE,⟨106,0,109,31⟩):=by
 unfold c6;(try rw[a0]);(try rw[a1]);(try rw[a2]);(try rw[a3]);(try rw[a4]);(try rw[a5]);(try rw[a6]);(try rw[a7]);(try rw[a8]);(try rw[a9]);(try rw[a10]);kernel_rfl
abbrev c7:List Stmt:=[topF 27,topF 28,topF 29,topF 30,topF 31,topF 32,topF 33,topF 34,topF 35,topF 36,topF 37,topF 38,topF 39,topF 40,topF 41,topF 42]
theorem p7(w:World)(os:OsState):segRunT treeTable pwL w 11 ann 1 386 (S7 w os) (piecesOf c7 env cE ⟨106,0,109,31⟩ BB)=some (.next,S8 w os,cE,⟨166,0,173,23⟩):=by
 unfold c7;(try rw[a0]);(try rw[a1]);(try rw[a2]);(try rw[a3]);(try rw[a4]);(try rw[a5]);(try rw[a6]);(try rw[a7]);(try rw[a8]);(try rw[a9]);(try rw[a10]);kernel_rfl
abbrev c8:List Stmt:=[topF 43,topF 44,topF 45,topF 46,topF 47,topF 48,topF 49,topF 50,topF 51,topF 52,topF 53,topF 54,topF 55,topF 56,topF 57]
theorem p8(w:World)(os:OsState):segRunT treeTable pwL w 11 ann 1 385 (S8 w os) (piecesOf c8 env cE ⟨166,0,173,23⟩ BB)=some (.next,S9 w os,cE,⟨216,0,217,46⟩):=by
 unfold c8;(try rw[a0]);(try rw[a1]);(try rw[a2]);(try rw[a3]);(try rw[a4]);(try rw[a5]);(try rw[a6]);(try rw[a7]);(try rw[a8]);(try rw[a9]);(try rw[a10]);kernel_rfl
abbrev c9:List Stmt:=[topF 58,topF 59,topF 60,topF 61,topF 62,topF 63,topF 64,topF 65,topF 66,topF 67,topF 68,topF 69,topF 70,topF 71,topF 72]
theorem p9(w:World)(os:OsState):segRunT treeTable pwL w 11 ann 1 380 (S9 w os) (piecesOf c9 env cE ⟨216,0,217,46⟩ BB)=some (.next,S10 w os,cE,⟨290,0,292,74⟩):=by
 unfold c9;(try rw[a0]);(try rw[a1]);(try rw[a2]);(try rw[a3]);(try rw[a4]);(try rw[a5]);(try rw[a6]);(try rw[a7]);(try rw[a8]);(try rw[a9]);(try rw[a10]);kernel_rfl
abbrev c10:List Stmt:=[topF 73,topF 74,topF 75,topF 76,topF 77,topF 78,topF 79,topF 80,topF 81]
theorem p10(w:World)(os:OsState):segRunT treeTable pwL w 11 ann 1 263 (S10 w os) (piecesOf c10 env cE ⟨290,0,292,74⟩ BB)=some (.next,S11 w os,cE,⟨355,0,373,34⟩):=by
 unfold c10;(try rw[a0]);(try rw[a1]);(try rw[a2]);(try rw[a3]);(try rw[a4]);(try rw[a5]);(try rw[a6]);(try rw[a7]);(try rw[a8]);(try rw[a9]);(try rw[a10]);kernel_rfl
theorem fin(w:World)(os:OsState):topRun treeTable pwL w 11 ann 2 (S11 w os).abs ⟨doneF .next,cE,⟨355,0,373,34⟩,BB⟩=some (SF w os):=by
 (try rw[a0]);(try rw[a1]);(try rw[a2]);(try rw[a3]);(try rw[a4]);(try rw[a5]);(try rw[a6]);(try rw[a7]);(try rw[a8]);(try rw[a9]);(try rw[a10]);kernel_rfl
theorem body:behindTheImports pwL=c1++(c2++(c3++(c4++(c5++(c6++(c7++(c8++(c9++(c10++([])))))))))):=by
 (try rw[a6]);(try rw[a7]);(try rw[a8]);(try rw[a9]);(try rw[a10]);kernel_rfl
theorem run(w:World)(os:OsState):topRun treeTable pwL w 11 ann (12+(1+(196+(214+(214+(214+(374+(382+(386+(385+(380+(263+(2))))))))))))) ⟨boot_heap w.params,⟨[]⟩,boot_drawn,boot_toks,os⟩ (topStub pwL)=some (SF w os):=
 go_top (pre w os) (piece_block (blk w os) (by rw[body];exact piece_app (segRun_of (p1 w os)) (piece_app (segRun_of (p2 w os)) (piece_app (segRun_of (p3 w os)) (piece_app (segRun_of (p4 w os)) (piece_app (segRun_of (p5 w os)) (piece_app (segRun_of (p6 w os)) (piece_app (segRun_of (p7 w os)) (piece_app (segRun_of (p8 w os)) (piece_app (segRun_of (p9 w os)) (piece_app (segRun_of (p10 w os)) (piece_nil (fin w os)))))))))))))
theorem size(w:World):((boot_heap w.params).isNs mainGlobals&&(Array.mk ([]:List GenState)).size==0,(boot_heap w.params).objs.size,(boot_heap w.params).nsMap mainGlobals "__annotations__")=(true,11,ann):=by
 (try rw[a11]);(try rw[a12]);(try rw[a13]);kernel_rfl
abbrev Xt(s:Shared):Bool:=xlAt q [] s&&recOk [] s
theorem lk1(w:World)(os:OsState):(staticsOk (importedModules pwL.main.body) (boot_heap w.params) (HF w.params)&&namesBound pwL (HF w.params)&&gensDone (SF w os)&&laidKept (boot_heap w.params) (HF w.params))=true:=by
 (try rw[a11]);(try rw[a12]);(try rw[a13]);(try rw[a6]);(try rw[a7]);(try rw[a8]);(try rw[a9]);(try rw[a10]);kernel_rfl
theorem lk2(w:World)(os:OsState):openSeen q [] (importedModules pwL.main.body) Xt true (SF w os)=openGood q []:=by
 (try rw[a11]);(try rw[a12]);(try rw[a13]);(try rw[a6]);(try rw[a7]);(try rw[a8]);(try rw[a9]);(try rw[a10]);kernel_rfl
theorem lk3(w:World)(os:OsState):PySem.W.X.obsZ as (SF w os)=PySem.W.X.valZ K 465 813 w:=by
 (try rw[a11]);(try rw[a12]);(try rw[a13]);(try rw[a6]);(try rw[a7]);(try rw[a8]);(try rw[a9]);(try rw[a10]);kernel_rfl
theorem imports:opening pwL=plainProg pwL.main.scope.names:=by kernel_rfl
theorem left:LeftO pwL q [] Xt (PySem.W.X.obsZ as) (PySem.W.X.valZ K 465 813) 6122:=
 LeftO.of_pieces (boot_open imports (by rfl) (fun s=>by kernel_rfl)) size run (by rfl) fun w=>funext fun os=>looks_pair (lk1 w os) (looks_pair (lk2 w os) (lk3 w os))
end
end H
end K58
open PySem PySem.W PyProof.Rows
set_option maxRecDepth 100000 in
set_option maxHeartbeats 0 in
theorem PySem.Challenge.cw_nextbyrule_k58_whole_exact_and_by_primes_holds : PySem.Challenge.rw_nextbyrule_k58_whole_exact_and_by_primes.Holds := by
 change K58.rwL.Holds
 w_on;o_law;rename_i said
 refine holds_openX (d:=?d) (kwd:=?kwd) K58.H.left (fun s h=>xl_of s (Bool.and_eq_true_iff.mp h).1) XL.keeps (by rfl) (by rfl) (by rfl) (fun s h=>recFacts_of (Bool.and_eq_true_iff.mp h).2) (by rfl) said (by decide +kernel) ⟨rfl,rfl,rfl,rfl,rfl,by decide +kernel⟩ ?hw ?hc;case hw=>w_witness2
 k_fill
 refine L2.KP (fun _=>by kernel_rfl) ?_;refine L2.O7 (l:=K58.rwL) (n:=63) (k:=K58.VL) (x:= "_law_script") (CX:=fun w=>L2.tD K58.rwL.prog w) (sp:=fun _=>K58.PK _) rfl (by decide) rfl ⟨rfl,by decide,by decide⟩ (fun w h Y=>Y) ?F (fun w H a ns hl _ hS=>⟨a,ns,rfl,hS,hl,fun _=>rfl⟩) (fun _ _ _ _ _ z=>L2.vK z);case F=>
  intro w mg fa h KX G hmg
  refine' K58.all_mk KX G hmg ?F0 ?F1 ?F2 ?F3 ?F4 ?F5 ?F6 ?F7 ?F8 ?F9 ?F10 ?F11 ?F12 ?F13 ?F14 ?F15 ?F16 ?F17 ?F18 ?F19 ?F20 ?F21 ?F22 ?F23 ?F24 ?F25 ?F26 ?F27 ?F28 ?F29 ?F30 ?F31 ?F32 ?F33 ?F34 ?F35 ?F36 ?F37 ?F38 ?F39 ?F40 ?F41 ?F42 ?F43 ?F44 ?F45 ?F46 ?F47 ?F48 ?F49 ?F50 ?F51 ?F52 ?F53 ?F54 ?F55 ?F56 ?F57 ?FL ?Ql ?oE ?m8 ?O2 ?FD ?QH ?Qq ?Cq ?O8 ?Bf ?Ot ?cY ?j4 ?dI ?mO ?fM ?Cy ?oW ?pZ ?GC ?iB ?iI ?BP ?Bj ?AH ?AK ?Ca ?A9 ?ji ?eY ?gQ ?eE ?uw ?fu ?fD ?sH ?rA ?qZ ?su ?rD ?rW ?gO ?dF ?d9 ?dh
  (case F0|F1|F2|F3|F4|F5|F6|F7|F8|F9|F10|F11|F12|F13|F14|F15|F16|F17|F18|F19|F20|F21|F22|F23|F24|F25|F26|F27|F28|F29|F30|F31|F32|F33|F34|F35|F36|F37|F38|F39|F40|F41|F42|F43|F44|F45|F46|F47|F48|F49|F50|F51|F52|F53|F54|F55|F56|F57|FL=>(refine' L2.Qv ?a ?l ?c ?k;(case a|l|c|k=>k_is)))
  (case Ql|oE|m8|O2|FD|QH|Qq|Cq|O8|Bf|Ot|Cy|oW|pZ|BP|Bj|AH|AK|Ca|sH|rA|qZ|su|rD=>k_is)
  (case cY|j4|dI|mO|fM=>exact⟨_,by k_is⟩)
  (case GC|uw=>k_exc)
  (case iB|iI|A9|fu|fD|rW=>kernel_rfl)
  (case ji|eY|gQ|eE|gO|dF|d9|dh=>kit_is)
