import PyProof.Rows.All
import Wide.All
import OpenK.AllK
import Wide.FinOn
import Lean
import PyProof.EqAt
import PyProof.EqKinds
import PyProof.TupleCall
import PySem.Challenge.RW_nextbyrule_k36_whole_mixes_by_mixes
local macro_rules | `(tactic| omega)=>`(tactic| lia)
set_option Elab.async false
set_option linter.all false
set_option maxRecDepth 100000
noncomputable section
namespace L2
open PySem PySem.Spec PyProof.Rows
abbrev Key:=Sum Int Str
def Qj:Key->Value->Bool
 |.inl k,v=>Value.isInt k v
 |.inr x,v=>Value.isStrOf x v
def ac1(w:World):Key->Int
 |.inl k=>hashInt k
 |.inr x=>hashStr w x
theorem dG:∀{k:Key} {v:Value},Qj k v=true->(∃i t,k=Sum.inl i/\v=Value.int i t)∨(∃x t,k=Sum.inr x/\v=Value.str x t)
 |.inl i,v,h=>by
  obtain⟨t,e⟩:=Value.isInt_shape (k:=i) (v:=v) h;exact .inl ⟨i,t,rfl,e⟩
 |.inr x,v,h=>by
  obtain⟨t,e⟩:=Value.isStrOf_shape (x:=x) (v:=v) h;exact .inr ⟨x,t,rfl,e⟩
theorem R8(a b:Int):decide ((Sum.inl a:Key)=Sum.inl b)=(a==b):=by
 by_cases e:a=b
 ·subst e;simp
 ·have h:¬(Sum.inl a:Key)=Sum.inl b:=fun q=>e (Sum.inl.inj q);rw[decide_eq_false h];exact(beq_eq_false_iff_ne.mpr e).symm
theorem Qt(a b:Str):decide ((Sum.inr a:Key)=Sum.inr b)=decide (a=b):=by
 by_cases e:a=b
 ·subst e;simp
 ·have h:¬(Sum.inr a:Key)=Sum.inr b:=fun q=>e (Sum.inr.inj q);rw[decide_eq_false h,decide_eq_false e]
theorem Qy(a:Int)(b:Str):decide ((Sum.inl a:Key)=Sum.inr b)=false:=decide_eq_false (fun q=>nomatch q)
theorem Sx(a:Str)(b:Int):decide ((Sum.inr a:Key)=Sum.inl b)=false:=decide_eq_false (fun q=>nomatch q)
def rJ(prog:Program)(w:World):PySem.KeyKind prog w Key where
 is:=Qj
 hash:=ac1 w
 inj:=fun v a b ha hb=>by
  rcases dG ha with⟨i,t,rfl,rfl⟩|⟨x,t,rfl,rfl⟩
  ·rcases dG hb with⟨j,u,rfl,e⟩|⟨y,u,rfl,e⟩
   ·injection e with e1 _;rw[e1]
   ·exact nomatch e
  ·rcases dG hb with⟨j,u,rfl,e⟩|⟨y,u,rfl,e⟩
   ·exact nomatch e
   ·injection e with e1 _;rw[e1]
 byValue:=fun k v h=>by
  rcases dG h with⟨i,t,rfl,rfl⟩|⟨x,t,rfl,rfl⟩<;>rfl
 pyHash:=fun hv h=>by
  rcases dG hv with⟨i,t,rfl,rfl⟩|⟨x,t,rfl,rfl⟩
  ·exact wpAny_pyHash_int h
  ·exact wpAny_pyHash_str h
 eqBool:=fun hu hv h=>by
  rcases dG hu with⟨i,t,rfl,rfl⟩|⟨x,t,rfl,rfl⟩
  ·rcases dG hv with⟨j,u,rfl,rfl⟩|⟨y,u,rfl,rfl⟩
   ·rw[R8]at h;exact wpAny_eqBool_int h
   ·rw[Qy]at h;exact SeqAt.EqAt.int_str i t y u _ _ _ _ h
  ·rcases dG hv with⟨j,u,rfl,rfl⟩|⟨y,u,rfl,rfl⟩
   ·rw[Sx]at h;exact SeqAt.EqAt.str_int x t j u _ _ _ _ h
   ·rw[Qt]at h;exact wpAny_eqBool_str h
 «strs»:=fun k x t v h=>by
  rcases dG h with⟨i,u,rfl,e⟩|⟨y,u,rfl,e⟩
  ·exact nomatch e
  ·injection e with e1 _;subst e1;cases v<;>rfl
inductive V where
 |non|bl (b:Bool)|int (i:Int)|str (x:Str)|byt (b:Array UInt8)|flt (b:UInt64)|ref (a:Addr)|ty (n:String)
 deriving DecidableEq
def RelV:V->Value->Prop
 |.non,u=>u=Value.none
 |.bl b,u=>u=Value.bool b
 |.int i,u=>∃t,u=Value.int i t
 |.str x,u=>∃t,u=Value.str x t
 |.byt b,u=>∃t,u=Value.bytes b t
 |.flt b,u=>∃t,u=Value.float b t
 |.ref a,u=>u=Value.ref a
 |.ty n,u=>u=Value.type n
abbrev Vals:List V->List Value->Prop:=Paired RelV
theorem Vals.length{xs:List V}{us:List Value}(r:Vals xs us):xs.length=us.length:=Paired.length r
theorem Vals.get:∀{xs:List V} {us:List Value} {i:Nat} {x:V},Vals xs us->xs[i]?=some x->∃u,us[i]?=some u/\RelV x u
 |_,_,_,_,.nil,e=>by simp at e
 |_,_,0,_,.cons r _,e=>by simp at e;subst e;exact⟨_,rfl,r⟩
 |_,_,i+1,x,.cons _ t,e=>by
  obtain⟨u,h1,h2⟩:=Vals.get (i:=i) (x:=x) t (by simpa using e);exact⟨u,by simpa using h1,h2⟩
theorem Vals.set{x:V}{u:Value}(r:RelV x u):∀{xs:List V} {us:List Value} (i:Nat),Vals xs us->Vals (xs.set i x) (us.set i u)
 |_,_,_,.nil=> .nil
 |_,_,0,.cons _ t=> .cons r t
 |_,_,i+1,.cons q t=> .cons q (Vals.set r i t)
theorem Vals.append:∀{xs ys:List V} {us ws:List Value},Vals xs us->Vals ys ws->Vals (xs++ys) (us++ws)
 |_,_,_,_,.nil,s=>s
 |_,_,_,_,.cons r t,s=> .cons r (Vals.append t s)
theorem Vals.take:∀{xs:List V} {us:List Value} (n:Nat),Vals xs us->Vals (xs.take n) (us.take n)
 |_,_,0,_=> .nil
 |_,_,_+1,.nil=> .nil
 |_,_,n+1,.cons r t=> .cons r (Vals.take n t)
theorem Vals.drop:∀{xs:List V} {us:List Value} (n:Nat),Vals xs us->Vals (xs.drop n) (us.drop n)
 |_,_,0,r=>r
 |_,_,_+1,.nil=> .nil
 |_,_,n+1,.cons _ t=>Vals.drop n t
def J8:Option V->Option Value->Prop
 |some v,some u=>RelV v u
 |none,none=>True
 |_,_=>False
def KV{κ:Type}:List (κ×V)->List (κ×Value)->Prop:=Paired fun(p:κ×V) (q:κ×Value)=>p.1=q.1/\RelV p.2 q.2
def kV:Key->V
 |.inl i=> .int i
 |.inr x=> .str x
inductive HO where
 /-- a list -/
 |lst (xs:List V)
 /-- a tuple (never changes) -/
 |tup (xs:List V)
 /-- a dict whose keys are ints and texts;one whose keys are tuples of ints and texts (the empty one is both) -/
 |dK (kvs:List (Key×V))|dT (kvs:List (List Key×V))
 /-- a set of ints: its members,its size -/
 |set (S:Int->Bool) (n:Nat)
 /-- an instance of the class at C,its dict at dx,its attributes -/
 |ins (C dx:Addr) (fs:List (Str×V))
 /-- the dict of the instance at x -/
 |own (x:Addr)
 /-- the dict of an exception -/
 |xd (fs:List (Str×V))
 /-- a bound method,f of x -/
 |met (f x:Addr)
 /-- a range object lo,lo+1,.. below hi -/
 |rng (lo hi:Int)
 /-- a thing that is known to the object (the script;a dict while a loop walks it): read,never written while it is so -/
 |frz (o:Obj) (u:HO)
 /-- a code object's table -/
 |tbl (ps:Array Value)
 /-- any other thing,by what is true of its one object (a def of abW own: adJ a S n:=HO.ext fun h=> ..) -/
 |ext (φ:Heap->Prop)
abbrev Hp:=Addr->Option HO
def upd(H:Hp)(a:Addr)(o:HO):Hp:=fun b=>if b=a then some o else H b
theorem aB{H:Hp}{a:Addr}{o:HO}:upd H a o a=some o:=by unfold upd;rw[if_pos rfl]
theorem cM{H:Hp}{a b:Addr}{o:HO}(h:b≠a):upd H a o b=H b:=by unfold upd;rw[if_neg h]
theorem Nm{H:Hp}{a:Addr}{o u:HO}:upd (upd H a o) a u=upd H a u:=by
 funext b;unfold upd;split<;>rfl
theorem fO{H:Hp}{a b:Addr}{o:HO}(h:H a=some o)(h':H b=none):a≠b:=by
 intro e;subst e;rw[h]at h';cases h'
section
variable (P:Program) (w:World)
def qm(H:Hp)(h:Heap)(a:Addr):HO->Prop
 |.lst xs=>xs.length<=sizeLine/\∃(its:List Value) (n:Nat),Vals xs its/\h.get? a=some { cls:= .type "list",data:= .seq its.toArray n }
 |.tup xs=>xs.length<=sizeLine/\∃its:List Value,Vals xs its/\IsTup h a its.toArray
 |.dK kvs=>kvs.length<=sizeLine/\(a==sysModules)=false/\∃vs,KV kvs vs/\h.DictOf (rJ P w) a vs
 |.dT kvs=>kvs.length<=sizeLine/\(a==sysModules)=false/\∃xs:List (List Key×Addr×Value),
   Paired (fun(p:List Key×V) (q:List Key×Addr×Value)=>p.1=q.1/\H q.2.1=some (.tup (p.1.map kV))/\RelV p.2 q.2.2) kvs xs/\
   ∃o es ep,h.get? a=some o/\o.ExactDict/\o.data = .dict es ep/\es.toList=xs.map (entryOfKey (tupleKind (rJ P w)))/\(xs.map (·.1)).Nodup
 |.set S n=>h.SetOf (intKind P w) a S n
 |.ins C dx fs=>H dx=some (.own a)/\fs.length<=1000/\dx≠a/\h.get? a=some (W.instObj C dx)/\
   ∃mA,h.Ns1 dx mA/\(∀f,J8 (fs.lookup f) (mA f))/\PySem.Within mA (fs.map (·.1))
 |.own _=>∃o,h.get? a=some o
 |.xd fs=>∃mA,h.Ns1 a mA/\∀f,J8 (fs.lookup f) (mA f)
 |.rng lo hi=>∃t u v,h.get? a=some { cls:= .type "range",data:= .fields #[.int lo t,.int hi u,.int 1 v] }
 |.frz o u=>h.get? a=some o/\qm H h a u
 |.tbl ps=>h.get? a=some { cls:= .none,data:= .fields ps }
 |.met f x=>h.get? a=some (W.methodObj (.ref f) (.ref x))
 |.ext φ=>φ h/\(∃o,h.get? a=some o)/\∀h1 h2:Heap,φ h1->(∀o,h1.get? a=some o->h2.get? a=some o)->φ h2
def HOk(H:Hp)(h:Heap):Prop:=∀a o,H a=some o->qm P w H h a o
end
section
variable {P:Program} {w:World} {H H':Hp} {h h':Heap} {a:Addr} {o:HO}
theorem qm.lt(x:qm P w H h a o):a<h.objs.size:=by
 cases o with
 |lst xs=>obtain⟨_,_,_,_,e⟩:=x;exact Heap.lt_size e
 |tup xs=>obtain⟨_,_,_,p⟩:=x;exact p.lt
 |dK kvs=>obtain⟨_,_,_,_,o,_,_,e,_⟩:=x;exact Heap.lt_size e
 |dT kvs=>obtain⟨_,_,_,_,o,_,_,e,_⟩:=x;exact Heap.lt_size e
 |set S n=>obtain⟨o,_,_,_,e,_⟩:=x;exact Heap.lt_size e
 |ins C dx fs=>obtain⟨_,_,_,e,_⟩:=x;exact Heap.lt_size e
 |own y=>obtain⟨_,e⟩:=x;exact Heap.lt_size e
 |xd fs=>obtain⟨_,⟨_,_,_,e,_⟩,_⟩:=x;exact Heap.lt_size e
 |rng lo hi=>obtain⟨_,_,_,e⟩:=x;exact Heap.lt_size e
 |frz ob u=>obtain⟨e,_⟩:=x;exact Heap.lt_size e
 |tbl ps=>exact Heap.lt_size (show h.get? a=some _ from x)
 |met f y=>exact Heap.lt_size (show h.get? a=some _ from x)
 |ext φ=>obtain⟨_,⟨_,e⟩,_⟩:=x;exact Heap.lt_size e
theorem Paired.aaX{α β:Type}{F G:α->β->Prop}:∀{l₁:List α} {l₂:List β},Paired F l₁ l₂->(∀a b,F a b->G a b)->Paired G l₁ l₂
 |_,_,.nil,_=> .nil
 |_,_,.cons r t,f=> .cons (f _ _ r) (Paired.aaX t f)
theorem qm.stay(x:qm P w H h a o)(k:∀b u,(b=a∨H b=some (.own a))->h.get? b=some u->h'.get? b=some u)
  (ho:∀b,H b=some (.own a)->H' b=some (.own a)) (ht:∀b xs,H b=some (.tup xs)->H' b=some (.tup xs)):qm P w H' h' a o:=by
 induction o with
 |lst xs=>obtain⟨z,its,n,r,e⟩:=x;exact⟨z,its,n,r,k _ _ (.inl rfl) e⟩
 |tup xs=>obtain⟨z,its,r,ob,e,c⟩:=x;exact⟨z,its,r,ob,k _ _ (.inl rfl) e,c⟩
 |dK kvs=>obtain⟨z,y,vs,r,ob,es,ep,e,c⟩:=x;exact⟨z,y,vs,r,ob,es,ep,k _ _ (.inl rfl) e,c⟩
 |dT kvs=>
  obtain⟨z,y,xs,r,ob,es,ep,e,c⟩:=x;exact⟨z,y,xs,Paired.aaX r fun p q z=>⟨z.1,ht _ _ z.2.1,z.2.2⟩,ob,es,ep,k _ _ (.inl rfl) e,c⟩
 |set S n=>obtain⟨ob,es,ep,t,e,c⟩:=x;exact⟨ob,es,ep,t,k _ _ (.inl rfl) e,c⟩
 |ins C dx fs=>
  obtain⟨d,z,ne,e,mA,⟨od,es,ep,e2,c⟩,r⟩:=x;exact⟨ho _ d,z,ne,k _ _ (.inl rfl) e,mA,⟨od,es,ep,k _ _ (.inr d) e2,c⟩,r⟩
 |own y=>obtain⟨ob,e⟩:=x;exact⟨ob,k _ _ (.inl rfl) e⟩
 |xd fs=>obtain⟨mA,⟨od,es,ep,e,c⟩,r⟩:=x;exact⟨mA,⟨od,es,ep,k _ _ (.inl rfl) e,c⟩,r⟩
 |rng lo hi=>obtain⟨t,u,v,e⟩:=x;exact⟨t,u,v,k _ _ (.inl rfl) e⟩
 |frz ob u ih=>obtain⟨e,q⟩:=x;exact⟨k _ _ (.inl rfl) e,ih q⟩
 |tbl ps=>
  have e:h.get? a=some { cls:= .none,data:= .fields ps }:=x;show h'.get? a=some { cls:= .none,data:= .fields ps };exact k a _ (.inl rfl) e
 |met f y=>
  have e:h.get? a=some (W.methodObj (.ref f) (.ref y)):=x;show h'.get? a=some (W.methodObj (.ref f) (.ref y));exact k a _ (.inl rfl) e
 |ext φ=>obtain⟨p,⟨o,e⟩,st⟩:=x;exact⟨st _ _ p fun o q=>k _ _ (.inl rfl) q,⟨o,k _ _ (.inl rfl) e⟩,st⟩
theorem HOk.lt(x:HOk P w H h)(e:H a=some o):a<h.objs.size:=(x a o e).lt
theorem HOk.fresh(x:HOk P w H h)(e:h.objs.size<=a):H a=none:=by
 cases q:H a with
 |none=>rfl
 |some u=>exact absurd (Nat.lt_of_lt_of_le (x.lt q) e) (Nat.lt_irrefl _)
theorem HOk.kept(x:HOk P w H h)(k:∀b u,h.get? b=some u->h'.get? b=some u):HOk P w H h':=fun a o e=>
 (x a o e).stay (fun b u _ q=>k b u q) (fun _ q=>q) fun _ _ q=>q
theorem HOk.laid(x:HOk P w H h)(k:∀b u,h.get? b=some u->h'.get? b=some u)(hp:h.objs.size<=a)(new:qm P w (upd H a o) h' a o):HOk P w (upd H a o) h':=fun b u e=>by
 have hn:=x.fresh hp;by_cases hb:b=a
 ·subst hb;rw[aB]at e;cases e;exact new
 ·rw[cM hb]at e;exact(x b u e).stay (fun c v _ q=>k c v q) (fun c q=>by rw[cM (fO q hn)];exact q) fun c xs q=>by rw[cM (fO q hn)];exact q
end
def Rd(H:Hp)(a:Addr)(u:HO):Prop:=H a=some u∨∃o,H a=some (.frz o u)
theorem Rd.ok{P:Program}{w:World}{H:Hp}{h:Heap}{a:Addr}{u:HO}(r:Rd H a u)(x:HOk P w H h):qm P w H h a u:=by
 rcases r with r|⟨o,r⟩
 ·exact x a u r
 ·obtain⟨_,q⟩:=x a _ r;exact q
def Mut:Option HO->Prop
 |some (.lst _)=>True
 |some (.dK _)=>True
 |some (.dT _)=>True
 |some (.set _ _)=>True
 |some (.ins _ _ _)=>True
 |some (.ext _)=>True
 |_=>False
section
variable {P:Program} {w:World} {H:Hp} {h h':Heap} {x e:Addr} {o':HO}
theorem HOk.write(ok:HOk P w H h)(mu:Mut (H x))(he:e=x∨H e=some (.own x))(k:∀b u,b≠e->h.get? b=some u->h'.get? b=some u)(heo:∃u,h'.get? e=some u)
  (new:qm P w (upd H x o') h' x o'):HOk P w (upd H x o') h':=fun b u q=>by
 have aaT:∀c y,H c=some (.own y)->c≠x:=fun c y r z=>by subst z;rw[r]at mu;exact mu
 have abO:∀c xs,H c=some (.tup xs)->c≠x:=fun c xs r z=>by subst z;rw[r]at mu;exact mu
 by_cases hb:b=x
 ·subst hb;rw[aB]at q;cases q;exact new
 ·rw[cM hb]at q;by_cases hbe:b=e
  ·have q':H b=some (.own x):=by
    rcases he with z|z
    ·exact absurd (hbe.trans z) hb
    ·rw[hbe];exact z
   rw[q]at q';cases q';obtain⟨v,hv⟩:=heo;exact⟨v,by rw[hbe];exact hv⟩
  ·refine(ok b u q).stay (fun c v hc r=>k c v ?_ r) (fun c r=>by rw[cM (aaT c b r)];exact r) fun c xs r=>by rw[cM (abO c xs r)];exact r
   rcases hc with rfl|hc
   ·exact hbe
   ·rintro rfl;rcases he with z|z
    ·exact aaT c b hc z
    ·rw[hc]at z;cases z;exact hb rfl
end
structure Un(fs ex:List Addr)(H H':Hp)(h h':Heap):Prop where
 keep:∀b o,h.get? b=some o->H b=none->b∉fs->b∉ex->h'.get? b=some o
 slot:∀b o,h.get? b=some o->H b=none->b∈fs->b∉ex->∃sl,h'.get? b=some { o with slots:=sl }
 free:∀b o,h.get? b=some o->H b=none->b∉ex->H' b=none
 there:∀b o,h.get? b=some o->b∉ex->∃o',h'.get? b=some o'
 tups:∀b xs,H b=some (.tup xs)->H' b=some (.tup xs)
 Am:∀b o u,H b=some (.frz o u)->H' b=some (.frz o u)
 Bv:∀b ps,H b=some (.tbl ps)->∃more,H' b=some (.tbl (ps++more))
section
variable {fs fs' ex ex':List Addr} {H H1 H2:Hp} {h h1 h2 h':Heap} {a x e:Addr} {o:HO}
theorem Un.any(u:Un fs ex H H1 h h1){b:Addr}{ob:Obj}(q:h.get? b=some ob)(n:H b=none)(hx:b∉ex):∃sl,h1.get? b=some { ob with slots:=sl }:=by
 by_cases hb:b∈fs
 ·exact u.slot b ob q n hb hx
 ·exact⟨ob.slots,u.keep b ob q n hb hx⟩
theorem Un.kept(k:∀b u,h.get? b=some u->h'.get? b=some u):Un fs ex H H h h':=
 ⟨fun b ob q _ _ _=>k b ob q,fun b ob q _ _ _=>⟨ob.slots,k b ob q⟩,fun _ _ _ n _=>n,fun b ob q _=>⟨ob,k b ob q⟩,fun _ _ q=>q,fun _ _ _ q=>q,fun _ ps q=>⟨#[],by rw[q];simp⟩⟩
theorem Un.refl:Un fs ex H H h h:=Un.kept fun _ _ q=>q
theorem Un.laid(k:∀b u,h.get? b=some u->h'.get? b=some u)(hp:h.objs.size<=a)(hn:H a=none):Un fs ex H (upd H a o) h h' where
 keep:=fun b u q _ _ _=>k b u q
 slot:=fun b u q _ _ _=>⟨u.slots,k b u q⟩
 free:=fun b u q n _=>by rw[cM (Nat.ne_of_lt (Nat.lt_of_lt_of_le (Heap.lt_size q) hp))];exact n
 there:=fun b u q _=>⟨u,k b u q⟩
 tups:=fun b xs q=>by rw[cM (fO q hn)];exact q
 Am:=fun b u xs q=>by rw[cM (fO q hn)];exact q
 Bv:=fun b ps q=>⟨#[],by rw[cM (fO q hn),q];simp⟩
theorem Un.write(mu:Mut (H x))(he:e=x∨H e=some (.own x))(k:∀b u,b≠e->h.get? b=some u->h'.get? b=some u)(heo:∃u,h'.get? e=some u):Un fs ex H (upd H x o) h h':=by
 have hx:∀b,H b=none->b≠x:=fun b n z=>by subst z;rw[n]at mu;exact mu
 have hb:∀b,H b=none->b≠e:=fun b n z=>by
  subst z;rcases he with r|r
  ·exact hx b n r
  ·rw[n]at r;cases r
 have hm:∀b u,H b=some u->¬Mut (some u)->b≠x:=fun b u q nm z=>by subst z;rw[q]at mu;exact nm mu
 refine⟨fun b u q n _ _=>k b u (hb b n) q,fun b u q n _ _=>⟨u.slots,k b u (hb b n) q⟩,fun b u q n _=>by rw[cM (hx b n)];exact n,fun b u q _=>?_,
  fun b xs q=>by rw[cM (hm b _ q fun z=>z)];exact q,fun b u xs q=>by rw[cM (hm b _ q fun z=>z)];exact q,fun b ps q=>⟨#[],by rw[cM (hm b _ q fun z=>z),q];simp⟩⟩
 by_cases hbe:b=e
 ·subst hbe;exact heo
 ·exact⟨u,k b u hbe q⟩
end
def trk(h:Heap)(H:Hp):List Addr:=(List.range h.objs.size).filter fun a=>(H a).isSome
def Jl(h:Heap)(H:Hp):Heap:=W.hideAll h (trk h H)
theorem Fi(h:Heap)(H:Hp):(Jl h H).objs.size=h.objs.size:=W.hideAll_size _ _
theorem Ks{h:Heap}{H:Hp}{b:Addr}{o:Obj}(e:h.get? b=some o)(n:H b=none):(Jl h H).get? b=some o:=
 W.hideAll_get _ e fun hm=>by
  have q:(H b).isSome=true:=(List.mem_filter.mp hm).2;rw[n]at q;simp at q
theorem M7{h:Heap}{H:Hp}{b:Addr}{o:Obj}(e:(Jl h H).get? b=some o):h.get? b=some o/\H b=none:=by
 have e':h.get? b=some o:=W.of_hideAll (trk h H) e;refine⟨e',?_⟩;cases q:H b with
 |none=>rfl
 |some x=>
  have hm:b∈trk h H:=List.mem_filter.mpr ⟨List.mem_range.mpr (Heap.lt_size e'),by simp[q]⟩;have z:(Jl h H).get? b=none:=W.hideAll_none (trk h H) hm;rw[z]at e;cases e
structure Mod(K:W.Frag)(mg:Str->Option Value)(base:Heap):Prop where
 kin:K.In base
 glob:base.Ns mainGlobals mg
 blt:∃mb,base.Ns builtinsNs mb/\∀x:Str,x≠ "__name__" -> mb x=bootBuiltins x
 nolimit:base.NoLimit
 digits:base.NoDigits
structure Cx where
 prog:Program
 w:World
 K:W.Frag
 mg:Str->Option Value
 base:Heap
 A:Around
 N:List Str
 s₀:Shared
 H₀:Hp
 env:Env
 outer:List Env
 stack:List Env
 ex:List Addr
 fn:Str->Bool
 calm:Bool
 pn:List (Addr×Obj)
 xe:Value->Shared->Prop
def frs(l:List Env):List Addr:=l.filterMap (·.frame)
abbrev Cx.fs(X:Cx):List Addr:=frs X.outer
def Vis(sc:Scope)(x:Str):Prop:=sc.names.lookup x=some .local∨sc.names.lookup x=some .cell∨sc.names.lookup x=some .free
def Loc(sc:Scope)(x:Str):Prop:=sc.names.lookup x=some .local∨sc.names.lookup x=some .cell
def Look(env:Env)(h:Heap)(m:Str->Option Value)(x:Str)(u:Value):Prop:=
 (env.kindOf x=some .local/\m x=some u)∨((env.kindOf x=some .cell∨env.kindOf x=some .free)/\∃c,env.cells.lookup x=some c/\h.IsCell c (some u))
structure Cx.Ok(X:Cx):Prop where
 mod:Mod X.K X.mg X.base
 kind:X.env.scope.kind = .function
 glob:X.env.globals=mainGlobals
 blt:X.env.builtins=builtinsNs
 above:X.s₀.heap.objs.size<=X.env.locals
 inj:∀x y c,X.env.cells.lookup x=some c->X.env.cells.lookup y=some c->x=y
 has:∀x,(X.env.kindOf x=some .cell∨X.env.kindOf x=some .free)->∃c,X.env.cells.lookup x=some c
 cab:∀x c,X.fn x=true->X.env.cells.lookup x=some c->X.s₀.heap.objs.size<=c
 hd:X.calm=true->X.A.handled=none
 frames:X.A.frames=some X.stack
 stk:X.stack=X.outer∨(X.stack=X.env::X.outer/\X.env.frame=some X.env.locals)
 exf:∀b∈X.ex,b≠X.env.locals/\∀x c,X.env.cells.lookup x=some c->c≠b
 bs:∀b o,X.base.get? b=some o->X.s₀.heap.get? b=some o/\X.H₀ b=none
 bsz:X.base.objs.size<=X.s₀.heap.objs.size
 Qh:∀b o,X.base.get? b=some o->b∉X.ex
 Qf:∀b∈X.ex,b∉X.fs
 DL:X.s₀.heap.FunFrames X.base X.outer
 frf:∀b∈X.fs,X.H₀ b=none
structure Inv(X:Cx)(pins:List (Addr×Obj))(σ:List (Option V))(H:Hp)(s:Shared):Prop where
 ok:X.Ok
 os:s.os=X.s₀.os
 bare:AllBare s.gens
 base:Un X.fs X.ex X.H₀ H X.s₀.heap s.heap
 loc:∃m,s.heap.Ns X.env.locals m/\∀(i:Nat) (x:Str) (v:V),X.N[i]?=some x->σ[i]?=some (some v)->Vis X.env.scope x->∃u,RelV v u/\Look X.env s.heap m x u
 cell:∀x c,X.env.cells.lookup x=some c->∃v,s.heap.IsCell c v
 free:H X.env.locals=none
 pK:∀x c,X.env.cells.lookup x=some c->H c=none
 pin:∀p∈X.pn++pins,s.heap.get? p.1=some p.2/\H p.1=none/\p.1≠X.env.locals/\p.1∉X.fs/\∀v,p.2.data≠ .cell v
 hok:HOk X.prog X.w H s.heap
 len:σ.length=X.N.length
section
variable {X:Cx} {pins:List (Addr×Obj)} {σ:List (Option V)} {H H':Hp} {s:Shared} {h':Heap}
theorem Cx.Ok.ac7(ok:X.Ok){b:Addr}{o:Obj}(e:X.base.get? b=some o):b∉X.fs:=fun hb=>by
 have:=(ok.DL.mem hb).1;rw[e]at this;cases this
theorem Inv.bs(I:Inv X pins σ H s):∀b o,X.base.get? b=some o->s.heap.get? b=some o/\H b=none:=fun b o e=>
 ⟨I.base.keep b o (I.ok.bs b o e).1 (I.ok.bs b o e).2 (I.ok.ac7 e) (I.ok.Qh b o e),I.base.free b o (I.ok.bs b o e).1 (I.ok.bs b o e).2 (I.ok.Qh b o e)⟩
theorem Inv.bk(I:Inv X pins σ H s):∀b o,X.base.get? b=some o->s.heap.get? b=some o:=fun b o e=>(I.bs b o e).1
theorem Inv.mod(I:Inv X pins σ H s):Mod X.K X.mg X.base:=I.ok.mod
theorem Inv.kIn(I:Inv X pins σ H s):X.K.In s.heap:=I.ok.mod.kin.keeps I.bk
theorem Inv.lt(I:Inv X pins σ H s):X.env.locals<s.heap.objs.size:=let⟨_,hn,_⟩:=I.loc;hn.lt
theorem Inv.sz(I:Inv X pins σ H s):X.s₀.heap.objs.size<=s.heap.objs.size:=Nat.le_trans I.ok.above (Nat.le_of_lt I.lt)
theorem Inv.aav(I:Inv X pins σ H s){a:Addr}(h:s.heap.objs.size<=a):a∉X.fs:=fun hb=>by
 obtain⟨_,o,ho,_⟩:=I.ok.DL.mem hb;exact absurd (Nat.lt_of_lt_of_le (Heap.lt_size ho) (Nat.le_trans I.sz h)) (Nat.lt_irrefl _)
theorem Inv.cne(I:Inv X pins σ H s):∀x c,X.env.cells.lookup x=some c->c≠X.env.locals:=fun x c e z=>by
 obtain⟨v,o,ho,hd⟩:=I.cell x c e;obtain⟨m,⟨o',es,ep,ho',hd',_⟩,_⟩:=I.loc;rw[z,ho']at ho;cases ho;rw[hd']at hd;cases hd
theorem Inv.DL(I:Inv X pins σ H s):s.heap.FunFrames X.base X.outer:=by
 have all:∀(l:List Env),(∀b∈frs l,b∈X.fs)->X.s₀.heap.FunFrames X.base l->s.heap.FunFrames X.base l:=by
  intro l;induction l with
  |nil=>intro _ _;trivial
  |cons env r ih=>
   intro hs hl;obtain⟨hk,⟨L,o,hf,hn,ho,hd⟩,hr⟩:=hl;have hL:L∈X.fs:=hs L (by unfold frs;rw[List.filterMap_cons,hf];exact List.mem_cons_self);obtain⟨sl,e⟩:=I.base.slot L o ho (I.ok.frf L hL) hL fun z=>I.ok.Qf L z hL;exact⟨hk,⟨L,_,hf,hn,e,hd⟩,ih (fun b hb=>hs b (by unfold frs;rw[List.filterMap_cons,hf];exact List.mem_cons_of_mem _ hb)) hr⟩
 exact all X.outer (fun _ hb=>hb) I.ok.DL
theorem Inv.stack(I:Inv X pins σ H s):s.heap.FunFrames X.base X.stack:=by
 rcases I.ok.stk with e|⟨e,hf⟩
 ·rw[e];exact I.DL
 ·rw[e];obtain⟨m,hn,_⟩:=I.loc;refine .cons (by rw[I.ok.kind];decide) hf hn ?_ I.DL;exact Heap.get?_none_of_le (Nat.le_trans I.ok.bsz I.ok.above)
theorem Inv.C6(I:Inv X pins σ H s):∀b∈frs X.stack,b∈X.env.locals::X.fs:=fun b hb=>by
 rcases I.ok.stk with e|⟨e,hf⟩
 ·rw[e]at hb;exact List.mem_cons_of_mem _ hb
 ·rw[e]at hb;unfold frs at hb;rw[List.filterMap_cons,hf]at hb;exact hb
theorem Inv.Bm(I:Inv X pins σ H s):∀b∈frs X.stack,H b=none:=fun b hb=>by
 rcases List.mem_cons.mp (I.C6 b hb)with e|hb
 ·rw[e];exact I.free
 ·obtain⟨_,o,ho,_⟩:=I.ok.DL.mem hb;exact I.base.free b o ho (I.ok.frf b hb) fun z=>I.ok.Qf b z hb
theorem Inv.step{g':Array GenState}{t':Nat}{d':Drawn}{ch:List Addr}(I:Inv X pins σ H s)
  (hch:∀b∈ch,(b∈X.ex∨X.s₀.heap.objs.size<=b)/\b≠X.env.locals/\(∀x c,X.env.cells.lookup x=some c->c≠b)/\∀p∈X.pn++pins,p.1≠b)
  (keep:∀b o,b≠X.env.locals->b∉X.fs->b∉ch->s.heap.get? b=some o->H b=none->h'.get? b=some o)
  (slot:∀b o,b≠X.env.locals->b∈X.fs->b∉ch->s.heap.get? b=some o->H b=none->∃sl,h'.get? b=some { o with slots:=sl }) (free:∀b o,b∉ch->s.heap.get? b=some o->H b=none->H' b=none)
  (there:∀b o,b∉ch->s.heap.get? b=some o->∃o',h'.get? b=some o')
  (tups:∀b xs,H b=some (.tup xs)->H' b=some (.tup xs)) (Am:∀b o u,H b=some (.frz o u)->H' b=some (.frz o u)) (Bv:∀b ps,H b=some (.tbl ps)->∃more,H' b=some (.tbl (ps++more)))
  (ns:∀m,s.heap.Ns X.env.locals m->h'.Ns X.env.locals m) (hok:HOk X.prog X.w H' h') (hg:AllBare g'):
  Inv X pins σ H' { s with heap:=h',gens:=g',drawn:=d',toks:=t' }:=by
 have neL:∀b o,X.s₀.heap.get? b=some o->b≠X.env.locals:=fun b o e=>Nat.ne_of_lt (Nat.lt_of_lt_of_le (Heap.lt_size e) I.ok.above);have neC:∀b o,X.s₀.heap.get? b=some o->b∉X.ex->b∉ch:=fun b o e hx hb=>by
  rcases(hch b hb).1 with z|z
  ·exact hx z
  ·exact absurd (Nat.lt_of_lt_of_le (Heap.lt_size e) z) (Nat.lt_irrefl _)
 have cellK:∀x c,X.env.cells.lookup x=some c->∀v,s.heap.IsCell c v->h'.IsCell c v:=fun x c e v ⟨o,ho,hd⟩=>by
  have nch:c∉ch:=fun z=>(hch c z).2.2.1 x c e rfl;by_cases hc:c∈X.fs
  ·obtain⟨sl,q⟩:=slot c o (I.cne x c e) hc nch ho (I.pK x c e);exact⟨_,q,hd⟩
  ·exact⟨o,keep c o (I.cne x c e) hc nch ho (I.pK x c e),hd⟩
 refine⟨I.ok,I.os,hg,⟨fun b o e n hb hx=>?_,fun b o e n hb hx=>?_,fun b o e n hx=>?_,fun b o e hx=>?_,fun b xs e=>tups b xs (I.base.tups b xs e),fun b o xs e=>Am b o xs (I.base.Am b o xs e),fun b ps e=>?_⟩,?_,fun x c e=>?_,?_,fun x c e=>?_,fun p hp=>?_,hok,I.len⟩
 ·exact keep b o (neL b o e) hb (neC b o e hx) (I.base.keep b o e n hb hx) (I.base.free b o e n hx)
 ·obtain⟨sl,e1⟩:=I.base.slot b o e n hb hx;obtain⟨sl',e2⟩:=slot b _ (neL b o e) hb (neC b o e hx) e1 (I.base.free b o e n hx);exact⟨sl',e2⟩
 ·obtain⟨o',e1⟩:=I.base.there b o e hx;exact free b o' (neC b o e hx) e1 (I.base.free b o e n hx)
 ·obtain⟨o',e1⟩:=I.base.there b o e hx;exact there b o' (neC b o e hx) e1
 ·obtain⟨m1,e1⟩:=I.base.Bv b ps e;obtain⟨m2,e2⟩:=Bv b _ e1;exact⟨m1++m2,by rw[e2,Array.append_assoc]⟩
 ·obtain⟨m,hn,hl⟩:=I.loc;refine⟨m,ns m hn,fun i x v e1 e2 e3=>?_⟩;obtain⟨u,r,l⟩:=hl i x v e1 e2 e3;refine⟨u,r,?_⟩;rcases l with l|⟨k,c,e,z⟩
  ·exact .inl l
  ·exact .inr ⟨k,c,e,cellK x c e _ z⟩
 ·obtain⟨v,z⟩:=I.cell x c e;exact⟨v,cellK x c e v z⟩
 ·obtain⟨m,⟨o,_,_,ho,_⟩,_⟩:=I.loc;exact free _ o (fun z=>(hch _ z).2.1 rfl) ho I.free
 ·obtain⟨v,o,ho,hd⟩:=I.cell x c e;exact free c o (fun z=>(hch c z).2.2.1 x c e rfl) ho (I.pK x c e)
 ·obtain⟨e,n,ne,nf,d⟩:=I.pin p hp;have nch:p.1∉ch:=fun z=>(hch p.1 z).2.2.2 p hp rfl;exact⟨keep p.1 p.2 ne nf nch e n,free p.1 p.2 nch e n,ne,nf,d⟩
theorem Inv.un{t':Nat}(I:Inv X pins σ H s)(u:Un X.fs [] H H' s.heap h')(hok:HOk X.prog X.w H' h'):Inv X pins σ H' { s with heap:=h',toks:=t' }:=by
 obtain⟨m,⟨o,es,ep,ho,r⟩,_⟩:=id I.loc;obtain⟨sl,hL⟩:=u.any ho I.free (by simp);exact I.step (g':=s.gens) (d':=s.drawn) (ch:=[]) (fun _ z=>nomatch z) (fun b o _ hb _ e n=>u.keep b o e n hb (by simp)) (fun b o _ hb _ e n=>u.slot b o e n hb (by simp)) (fun b o _ e n=>u.free b o e n (by simp)) (fun b o _ e=>u.there b o e (by simp)) u.tups u.Am u.Bv (fun m' hm=>by
  obtain⟨o',es',ep',ho',r'⟩:=hm;rw[ho]at ho';cases ho';exact⟨_,es',ep',hL,r'⟩) hok I.bare
theorem Inv.call{g':Array GenState}{t':Nat}{d':Drawn}{ch:List Addr}(I:Inv X pins σ H s)(u:Un (frs X.stack) ch H H' s.heap h')(hok:HOk X.prog X.w H' h')(hg:AllBare g')
  (hch:∀b∈ch,(b∈X.ex∨X.s₀.heap.objs.size<=b)/\b≠X.env.locals/\(∀x c,X.env.cells.lookup x=some c->c≠b)/\∀p∈X.pn++pins,p.1≠b):
  Inv X pins σ H' { s with heap:=h',gens:=g',drawn:=d',toks:=t' }:=by
 obtain⟨m,⟨o,es,ep,ho,r⟩,_⟩:=id I.loc;obtain⟨sl,hL⟩:=u.any ho I.free fun z=>(hch _ z).2.1 rfl;exact I.step (ch:=ch) hch (fun b o hL hb hc e n=>u.keep b o e n (fun z=>(List.mem_cons.mp (I.C6 b z)).elim hL hb) hc) (fun b o _ _ hc e n=>u.any e n hc) (fun b o hc e n=>u.free b o e n hc) (fun b o hc e=>u.there b o e hc) u.tups u.Am u.Bv (fun m' hm=>by
  obtain⟨o',es',ep',ho',r'⟩:=hm;rw[ho]at ho';cases ho';exact⟨_,es',ep',hL,r'⟩) hok hg
theorem Inv.turned{t':Nat}{it:Addr}(I:Inv X pins σ H s)(k:∀b o,b≠it->s.heap.get? b=some o->h'.get? b=some o)(hn:H it=none)(hL:it≠X.env.locals)
  (h1:it∈X.ex∨X.s₀.heap.objs.size<=it) (h2:∀x c,X.env.cells.lookup x=some c->c≠it) (h3:∀p∈X.pn++pins,p.1≠it):Inv X pins σ H { s with heap:=h',toks:=t' }:=by
 have nit:∀b u,H b=some u->b≠it:=fun b u e z=>by rw[z,hn]at e;cases e
 refine I.step (g':=s.gens) (d':=s.drawn) (ch:=[it]) (fun b hb=>?_) (fun b o _ _ hc e _=>k b o (fun z=>hc (by simp[z])) e) (fun b o _ _ hc e _=>⟨o.slots,k b o (fun z=>hc (by simp[z])) e⟩) (fun _ _ _ _ n=>n)
  (fun b o hc e=>⟨o,k b o (fun z=>hc (by simp[z])) e⟩) (fun _ _ e=>e) (fun _ _ _ e=>e) (fun b ps e=>⟨#[],by rw[e];simp⟩) (fun m hm=>?_) (fun b u e=>?_) I.bare
 ·have e:b=it:=by simpa using hb
  subst e;exact⟨h1,hL,h2,h3⟩
 ·obtain⟨o,es,ep,ho,r⟩:=hm;exact⟨o,es,ep,k _ o (Ne.symm hL) ho,r⟩
 ·refine(I.hok b u e).stay (fun c v hc q=>k c v ?_ q) (fun _ q=>q) fun _ _ q=>q;rcases hc with z|z
  ·rw[z];exact nit b u e
  ·exact nit c _ z
theorem Inv.tok(I:Inv X pins σ H s)(t:Nat):Inv X pins σ H { s with toks:=t }:=I.un (h':=s.heap) (t':=t) Un.refl I.hok
theorem Inv.kept{t':Nat}(I:Inv X pins σ H s)(k:∀b u,s.heap.get? b=some u->h'.get? b=some u):Inv X pins σ H { s with heap:=h',toks:=t' }:=I.un (Un.kept k) (I.hok.kept k)
theorem Inv.laid{a:Addr}{o:HO}{t':Nat}(I:Inv X pins σ H s)(k:∀b u,s.heap.get? b=some u->h'.get? b=some u)(hp:s.heap.objs.size<=a)(new:qm X.prog X.w (upd H a o) h' a o):
  Inv X pins σ (upd H a o) { s with heap:=h',toks:=t' }:=I.un (Un.laid k hp (I.hok.fresh hp)) (I.hok.laid k hp new)
theorem Inv.write{x e:Addr}{o:HO}{t':Nat}(I:Inv X pins σ H s)(mu:Mut (H x))(he:e=x∨H e=some (.own x))(k:∀b u,b≠e->s.heap.get? b=some u->h'.get? b=some u)(heo:∃u,h'.get? e=some u)
  (new:qm X.prog X.w (upd H x o) h' x o):Inv X pins σ (upd H x o) { s with heap:=h',toks:=t' }:=I.un (Un.write mu he k heo) (I.hok.write mu he k heo new)
theorem Inv.Fw{RW:List (Addr×Obj)}(I:Inv X pins σ H s)(h:∀p∈RW,s.heap.get? p.1=some p.2/\H p.1=none/\p.1≠X.env.locals/\p.1∉X.fs/\∀v,p.2.data≠ .cell v):Inv X RW σ H s:=
 ⟨I.ok,I.os,I.bare,I.base,I.loc,I.cell,I.free,I.pK,fun p hp=>(List.mem_append.mp hp).elim (fun z=>I.pin p (List.mem_append_left _ z)) (h p),I.hok,I.len⟩
theorem Df{N:List Str}(hN:N.Nodup){i j:Nat}{x:Str}(a:N[i]?=some x)(b:N[j]?=some x):i=j:=by
 obtain⟨h1,e1⟩:=List.getElem?_eq_some_iff.mp a;obtain⟨h2,e2⟩:=List.getElem?_eq_some_iff.mp b;exact(List.getElem_inj hN).mp (e1.trans e2.symm)
theorem G4{M:Model}{A:Around}{E:Value->Shared->Prop}{i:Nat}{x:Str}{v:V}{u:Value}{Q:Unit->Shared->Prop}(I:Inv X pins σ H s)(hN:X.N.Nodup)(hi:X.N[i]?=some x)(hx:Loc X.env.scope x)(r:RelV v u)
  (h:∀s',Inv X pins (σ.set i (some v)) H s'->(∃a,Heap.SameBut a s.heap s'.heap/\(a=X.env.locals∨X.env.cells.lookup x=some a))->Q () s') (hf:X.fn x=true∨X.env.scope.names.lookup x=some .local:=by first|exact .inl rfl|exact .inr rfl|assumption):wpAny M A (storeName X.env x u) Q E s:=by
 obtain⟨m,hn,hl⟩:=id I.loc;have hcls:(X.env.scope.kind== .class||(X.env.scope.kind== .module&&X.env.locals != X.env.globals))=false:=by rw[I.ok.kind];rfl
 have hiσ:i < σ.length:=by rw[I.len];exact(List.getElem?_eq_some_iff.mp hi).1
 have cne:=I.cne;have tracked:∀{a:Addr} {h':Heap},(∃o,s.heap.get? a=some o/\H a=none)->Heap.SameBut a s.heap h'->HOk X.prog X.w H h':=fun {a h'} ha hs b ob e=>by
  obtain⟨_,_,hfree⟩:=ha;refine(I.hok b ob e).stay (fun c w' hc q=>(hs.2 c ?_).trans q) (fun _ q=>q) fun _ _ q=>q;rintro rfl;rcases hc with rfl|hc
  ·rw[hfree]at e;cases e
  ·rw[hfree]at hc;cases hc
 rcases hx with hk|hk
 ·refine wpAny_storeName_local hk hn (fun h' hn' hs=>?_) hcls;obtain⟨oL,_,_,hoL,_⟩:=id hn;refine h _ ⟨I.ok,I.os,I.bare,⟨fun b o e n hb hx=>?_,fun b o e n hb hx=>?_,I.base.free,fun b o e hx=>?_,I.base.tups,I.base.Am,I.base.Bv⟩,⟨_,hn',fun j y v' e1 e2 e3=>?_⟩,fun y c e=>?_,I.free,I.pK,fun p hp=>?_,tracked ⟨oL,hoL,I.free⟩ hs,by simpa using I.len⟩ ⟨_,hs,.inl rfl⟩
  ·exact(hs.2 b (Nat.ne_of_lt (Nat.lt_of_lt_of_le (Heap.lt_size e) I.ok.above))).trans (I.base.keep b o e n hb hx)
  ·obtain⟨sl,e1⟩:=I.base.slot b o e n hb hx;exact⟨sl,(hs.2 b (Nat.ne_of_lt (Nat.lt_of_lt_of_le (Heap.lt_size e) I.ok.above))).trans e1⟩
  ·obtain⟨o',e1⟩:=I.base.there b o e hx;exact⟨o',(hs.2 b (Nat.ne_of_lt (Nat.lt_of_lt_of_le (Heap.lt_size e) I.ok.above))).trans e1⟩
  ·by_cases hj:j=i
   ·subst hj;rw[hi]at e1;cases e1;rw[List.getElem?_set_self hiσ]at e2;cases e2;exact⟨u,r,.inl ⟨hk,by simp⟩⟩
   ·rw[List.getElem?_set_ne (Ne.symm hj)]at e2;obtain⟨u',r',q⟩:=hl j y v' e1 e2 e3;refine⟨u',r',?_⟩;rcases q with⟨k,e⟩|⟨k,c,e,z⟩
    ·refine .inl ⟨k,?_⟩;have:y≠x:=fun e=>hj (Df hN e1 (e▸hi));simp[this,e]
    ·exact .inr ⟨k,c,e,z.sameBut hs (cne y c e)⟩
  ·obtain⟨w',z⟩:=I.cell y c e;exact⟨w',z.sameBut hs (cne y c e)⟩
  ·obtain⟨e,n,ne,nf,d⟩:=I.pin p hp;exact⟨(hs.2 p.1 ne).trans e,n,ne,nf,d⟩
 ·have hfn:X.fn x=true:=by
   rcases hf with z|z
   ·exact z
   ·rw[z]at hk;cases hk
  obtain⟨c,hc⟩:=I.ok.has x (.inl hk);obtain⟨w',z⟩:=I.cell x c hc;refine wpAny_storeName_cell I.ok.kind hk hc z (fun h' hc' hs=>?_);obtain⟨oc,hoc,acI⟩:=id z;refine h { s with heap:=h' } ⟨I.ok,I.os,I.bare,⟨fun b o e n hb hx=>?_,fun b o e n hb hx=>?_,I.base.free,fun b o e hx=>?_,I.base.tups,I.base.Am,I.base.Bv⟩,⟨m,hn.sameBut hs (Ne.symm (cne x c hc)),fun j y v' e1 e2 e3=>?_⟩,fun y c' e=>?_,I.free,I.pK,fun p hp=>?_,tracked ⟨oc,hoc,I.pK x c hc⟩ hs,by simpa using I.len⟩ ⟨c,hs,.inr hc⟩
  ·exact(hs.2 b (Nat.ne_of_lt (Nat.lt_of_lt_of_le (Heap.lt_size e) (I.ok.cab x c hfn hc)))).trans (I.base.keep b o e n hb hx)
  ·obtain⟨sl,e1⟩:=I.base.slot b o e n hb hx;exact⟨sl,(hs.2 b (Nat.ne_of_lt (Nat.lt_of_lt_of_le (Heap.lt_size e) (I.ok.cab x c hfn hc)))).trans e1⟩
  ·obtain⟨o',e1⟩:=I.base.there b o e hx;exact⟨o',(hs.2 b (Nat.ne_of_lt (Nat.lt_of_lt_of_le (Heap.lt_size e) (I.ok.cab x c hfn hc)))).trans e1⟩
  ·by_cases hj:j=i
   ·subst hj;rw[hi]at e1;cases e1;rw[List.getElem?_set_self hiσ]at e2;cases e2;exact⟨u,r,.inr ⟨.inl hk,c,hc,hc'⟩⟩
   ·rw[List.getElem?_set_ne (Ne.symm hj)]at e2;obtain⟨u',r',q⟩:=hl j y v' e1 e2 e3;refine⟨u',r',?_⟩;rcases q with q|⟨k,c',e,z'⟩
    ·exact .inl q
    ·refine .inr ⟨k,c',e,z'.sameBut hs ?_⟩;rintro rfl;exact hj (Df hN e1 (I.ok.inj _ _ _ e hc▸hi))
  ·by_cases hcc:c'=c
   ·subst hcc;exact⟨_,hc'⟩
   ·obtain⟨w2,z2⟩:=I.cell y c' e;exact⟨w2,z2.sameBut hs hcc⟩
  ·obtain⟨e,n,ne,nf,d⟩:=I.pin p hp;refine⟨(hs.2 p.1 ?_).trans e,n,ne,nf,d⟩;intro q;rw[q,hoc]at e;have q':oc=p.2:=Option.some.inj e;exact d w' (by rw[<-q'];exact acI)
theorem tU{M:Model}{A:Around}{E:Value->Shared->Prop}{i:Nat}{x:Str}{v:V}{u:Value}{Q:Unit->Shared->Prop}(I:Inv X pins σ H s)(hN:X.N.Nodup)(hi:X.N[i]?=some x)(hx:Loc X.env.scope x)(r:RelV v u)
  (h:∀s',Inv X pins (σ.set i (some v)) H s'->Q () s') (hf:X.fn x=true∨X.env.scope.names.lookup x=some .local:=by first|exact .inl rfl|exact .inr rfl|assumption):wpAny M A (storeName X.env x u) Q E s:=
 G4 I hN hi hx r (fun s' I' _=>h s' I') hf
theorem Inv.TV{s':Shared}{ch:List Addr}(I:Inv X pins σ H s)(ho:s'.os=s.os)(u:Un (frs X.stack) ch H H' s.heap s'.heap)(hok:HOk X.prog X.w H' s'.heap)(hg:AllBare s'.gens)
  (hch:∀b∈ch,(b∈X.ex∨X.s₀.heap.objs.size<=b)/\b≠X.env.locals/\(∀x c,X.env.cells.lookup x=some c->c≠b)/\∀p∈X.pn++pins,p.1≠b):Inv X pins σ H' s':=by
 obtain⟨h',g',d',t',o'⟩:=s';have e:o'=s.os:=ho;subst e;exact I.call (g':=g') (t':=t') (d':=d') u hok hg hch
end
abbrev XK:=Value->Option Addr->Hp->Prop
abbrev St:=List (Option V)
abbrev VK:=V->Hp->Prop
abbrev TE:=St->Hp->VK->Prop
abbrev TT:=St->Hp->(Bool->Hp->Prop)->Prop
abbrev TA:=St->Hp->(List V->Hp->Prop)->Prop
structure Ends where
 nx:St->Hp->Prop
 rt:VK
 bk:St->Hp->Prop:=fun _ _=>False
 ct:St->Hp->Prop:=fun _ _=>False
abbrev TS:=Ends->St->Hp->Prop
def EP(X:Cx)(pins:List (Addr×Obj))(σ:St)(Q:VK)(u:Value)(s':Shared):Prop:=∃v H',Inv X pins σ H' s'/\RelV v u/\Q v H'
def TP(X:Cx)(pins:List (Addr×Obj))(σ:St)(Q:Bool->Hp->Prop)(b:Bool)(s':Shared):Prop:=∃H',Inv X pins σ H' s'/\Q b H'
def AP(X:Cx)(pins:List (Addr×Obj))(σ:St)(Q:List V->Hp->Prop)(us:List Value)(s':Shared):Prop:=∃vs H',Inv X pins σ H' s'/\Vals vs us/\Q vs H'
def SP(X:Cx)(pins:List (Addr×Obj))(D:Ends)(f:Flow)(s':Shared):Prop:=
 match f with
 |.next=>∃σ' H',Inv X pins σ' H' s'/\D.nx σ' H'
 |.brk=>∃σ' H',Inv X pins σ' H' s'/\D.bk σ' H'
 |.cont=>∃σ' H',Inv X pins σ' H' s'/\D.ct σ' H'
 |.ret u=>∃v σ' H',Inv X pins σ' H' s'/\RelV v u/\D.rt v H'
def PE(X:Cx)(e:Expr)(t:TE):Prop:=
 ∀(pins:List (Addr×Obj)) (s:Shared) (σ:St) (H:Hp) (Q:VK),Inv X pins σ H s->t σ H Q->wpAny (model X.prog X.w) X.A (eval e X.env) (EP X pins σ Q) X.xe s
def PT(X:Cx)(e:Expr)(t:TT):Prop:=
 ∀(pins:List (Addr×Obj)) (s:Shared) (σ:St) (H:Hp) (Q:Bool->Hp->Prop),Inv X pins σ H s->t σ H Q->wpAny (model X.prog X.w) X.A (isTrue e X.env (eval e X.env)) (TP X pins σ Q) X.xe s
def PW(X:Cx)(e:Expr)(t:TT):Prop:=
 ∀(whole:Sem Value) (pins:List (Addr×Obj)) (s:Shared) (σ:St) (H:Hp) (Q:Bool->Hp->Prop),Inv X pins σ H s->t σ H Q->wpAny (model X.prog X.w) X.A (isTrue e X.env whole) (TP X pins σ Q) X.xe s
theorem PW.pt{X:Cx}{e:Expr}{t:TT}(h:PW X e t):PT X e t:=h _
def PA(X:Cx)(es:List Expr)(t:TA):Prop:=
 ∀(pos:Pos) (pins:List (Addr×Obj)) (s:Shared) (σ:St) (H:Hp) (Q:List V->Hp->Prop),Inv X pins σ H s->t σ H Q->wpAny (model X.prog X.w) X.A (spliced (backTo pos (starEach es X.env))) (AP X pins σ Q) X.xe s
def PS(X:Cx)(st:Stmt)(t:TS):Prop:=
 ∀(pins:List (Addr×Obj)) (s:Shared) (σ:St) (H:Hp) (D:Ends),Inv X pins σ H s->t D σ H->wpAny (model X.prog X.w) X.A (exec st X.env) (SP X pins D) X.xe s
def PSs(X:Cx)(st:List Stmt)(t:TS):Prop:=
 ∀(pins:List (Addr×Obj)) (s:Shared) (σ:St) (H:Hp) (D:Ends),Inv X pins σ H s->t D σ H->wpAny (model X.prog X.w) X.A (execs st X.env) (SP X pins D) X.xe s
theorem thn{α:Type}{t:Sem α}{Q Q':α->Shared->Prop}{M:Model}{A:Around}{E:Value->Shared->Prop}{s:Shared}(h:wpAny M A t Q E s)(hQ:∀a s,Q a s->Q' a s):wpAny M A t Q' E s:=wpAny_mono h hQ fun _ _ x=>x
section
variable {X:Cx}
inductive adu(i:Nat)(σ:St)(H:Hp)(Q:VK):Prop|mk (v:V) (h:σ[i]?=some (some v)) (q:Q v H)
def aaJ(i:Nat):TE:=fun σ H Q=>adu i σ H Q
def tC(v:V):TE:=fun _ H Q=>Q v H
theorem Mx{i:Nat}{x:Str}{pos:Pos}(hN:X.N[i]?=some x)(hv:Vis X.env.scope x)(hd:(x==("__debug__" : Str))=false:=by decide)(hcd:(x==("__classdict__" : Str))=false:=by decide):PE X (.Name x pos) (aaJ i):=by
 intro pins s σ H Q I h;obtain⟨v,e,h⟩:=h;obtain⟨m,hn,hl⟩:=I.loc;obtain⟨u,r,l⟩:=hl i x v hN e hv;have fin:EP X pins σ Q u s:=⟨v,H,I,r,h⟩;rcases l with⟨hk,hm⟩|⟨hk,c,hc,hcell⟩
 ·exact wpAny_Name (wpAny_loadName_local I.ok.kind hk hn hm fin) hd
 ·rcases hk with hk|hk
  ·exact wpAny_Name (wpAny_loadName_cell I.ok.kind hk hc hcell fin) hd
  ·exact wpAny_Name (wpAny_loadName_free I.ok.kind hk hc hcell fin hcd) hd
theorem au{i j pos}:PE X (.Constant (.int i) j pos) (tC (.int i)):=fun _ _ _ H _ I h=>wpAny_Constant_int ⟨.int i,H,I.tok _,⟨_,rfl⟩,h⟩
theorem rN{b j pos}:PE X (.Constant (.bool b) j pos) (tC (.bl b)):=fun _ _ _ H _ I h=>Constant_bool ⟨.bl b,H,I,rfl,h⟩
theorem Lq{j pos}:PE X (.Constant .none j pos) (tC .non):=fun _ _ _ H _ I h=>Constant_none ⟨.non,H,I,rfl,h⟩
theorem Qu{x j pos}:PE X (.Constant (.str x) j pos) (tC (.str x)):=fun _ _ _ H _ I h=>Calls.Constant_str ⟨.str x,H,I.tok _,⟨_,rfl⟩,h⟩
def Gl(X:Cx)(x:Str):Prop:=X.env.kindOf x=some .globalImplicit
theorem uX{E:Value->Shared->Prop}{pins:List (Addr×Obj)}{s:Shared}{σ:St}{H:Hp}{x:Str}{u:Value}{pos:Pos}{Q:Value->Shared->Prop}(I:Inv X pins σ H s)(hg:Gl X x)(hm:X.mg x=some u)(h:Q u s)
  (hd:(x==("__debug__" : Str))=false:=by decide):wpAny (model X.prog X.w) X.A (eval (.Name x pos) X.env) Q E s:=
 Calls.Name_function_global I.ok.kind hg (Calls.loadGlobal_global (by rw[I.ok.glob];exact I.mod.glob.keeps I.bk) hm h) hd
theorem zq{E:Value->Shared->Prop}{pins:List (Addr×Obj)}{s:Shared}{σ:St}{H:Hp}{x:Str}{u:Value}{pos:Pos}{Q:Value->Shared->Prop}(I:Inv X pins σ H s)(hg:Gl X x)(hm:X.mg x=none)(hv:bootBuiltins x=some u)(h:Q u s)
  (hn:x≠ "__name__" := by decide) (hd:(x==("__debug__" : Str))=false:=by decide):wpAny (model X.prog X.w) X.A (eval (.Name x pos) X.env) Q E s:=by
 obtain⟨mb,h1,h2⟩:=I.mod.blt;exact Calls.Name_function_global I.ok.kind hg (Calls.loadGlobal_builtin (by rw[I.ok.glob];exact I.mod.glob.keeps I.bk) hm (by rw[I.ok.blt];exact h1.keeps I.bk) ((h2 x hn).trans hv) h) hd
theorem FJ{x:Str}{v:V}{u:Value}{pos:Pos}(hg:Gl X x)(hm:X.mg x=some u)(r:RelV v u)(hd:(x==("__debug__" : Str))=false:=by decide):PE X (.Name x pos) (tC v):=
 fun _ _ _ H _ I h=>uX I hg hm ⟨v,H,I,r,h⟩ hd
variable {a b:Expr} {ta tb:TE} {pos:Pos}
def PC(X:Cx)(op:CmpOp)(a b:Expr)(t:TE):Prop:=
 ∀(pins:List (Addr×Obj)) (s:Shared) (σ:St) (H:Hp) (Q:VK),Inv X pins σ H s->t σ H Q->
  wpAny (model X.prog X.w) X.A (eval a X.env) (fun v s₁=>wpAny (model X.prog X.w) X.A (eval b X.env) (fun u s₂=>wpAny (model X.prog X.w) X.A (compareOp op v u) (EP X pins σ Q) X.xe s₂) X.xe s₁) X.xe s
theorem KR(b:Expr){op:CmpOp}(h:op≠ .In)(h2:op≠ .NotIn):behindInMarks op b=false:=by
 have e1:(op==CmpOp.In)=false:=by cases op<;>first|rfl|exact absurd rfl h
 have e2:(op==CmpOp.NotIn)=false:=by cases op<;>first|rfl|exact absurd rfl h2
 cases b<;>simp[behindInMarks,e1,e2]
def ab6(ta:TE):TE:=fun σ H Q=>ta σ H fun x H1=>Q (.bl (decide (x = .non))) H1
theorem RelV.JX{x:V}{v:Value}(r:RelV x v):(v==Value.none)=decide (x = .non):=by
 cases x with
 |non=>cases r;rfl
 |bl _=>cases r;rfl
 |int _=>obtain⟨t,rfl⟩:=r;rfl
 |str _=>obtain⟨t,rfl⟩:=r;rfl
 |byt _=>obtain⟨t,rfl⟩:=r;rfl
 |flt _=>obtain⟨t,rfl⟩:=r;rfl
 |ref _=>cases r;rfl
 |ty _=>cases r;rfl
theorem Mu{j pos'}(ha:PE X a ta):PC X .Is a (.Constant .none j pos') (ab6 ta):=by
 intro pins s σ H Q I h;refine thn (ha pins s σ H _ I h) fun v s1 ⟨x,H1,I1,r1,q1⟩=>?_;exact Constant_none (is_none_gen ⟨.bl _,H1,I1,by rw[r1.JX];rfl,q1⟩)
def tB(t:TE):TT:=fun σ H Q=>t σ H fun x H1=>∃c,x = .bl c/\Q c H1
theorem Lr{op:CmpOp}{t:TE}(h:PC X op a b t)(h1:behindInMarks op b=false:=by first|exact KR _ (by decide) (by decide)|rfl):PE X (.Compare a [op] [b] pos) t:=fun pins s σ H Q I hw=>wpAny_Compare1 (h pins s σ H Q I hw) h1
theorem mj{e:Expr}{t:TE}(h:PE X e t)(he:∀whole,isTrue e X.env whole=(do let v<-whole;standAt e.pos;holding [v] (truthy v)):=by intro _;rfl):PT X e (tB t):=by
 intro pins s σ H Q I hw;refine isTrue_plain (thn (h pins s σ H _ I hw) fun v s1 ⟨x,H1,I1,r1,q1⟩=>?_) (he _);obtain⟨d,rfl,q⟩:=q1;cases r1;exact wpAny_truthy_bool ⟨H1,I1,q⟩
variable {tA tB':TT} {rest:List Expr}
def acu(t u:TT):TT:=fun σ H Q=>t σ H fun c H1=>if c=true then u σ H1 Q else Q false H1
def tOr(t u:TT):TT:=fun σ H Q=>t σ H fun c H1=>if c=true then Q true H1 else u σ H1 Q
def acw(t:TT):TT:=fun σ H Q=>t σ H fun c H1=>Q (!c) H1
theorem O5(ha:PT X a tA):PW X (.BoolOp .And [a] pos) tA:=by
 intro wh pins s σ H Q I h;refine isTrue_and (thn (ha pins s σ H Q I h) fun c s1 e=>?_);cases c with
 |true=>exact isTrue_and_nil e
 |false=>exact e
theorem MG(ha:PT X a tA):PW X (.BoolOp .Or [a] pos) tA:=by
 intro wh pins s σ H Q I h;refine isTrue_or (thn (ha pins s σ H Q I h) fun c s1 e=>?_);cases c with
 |false=>exact isTrue_or_nil e
 |true=>exact e
theorem Qq(ha:PT X a tA)(hb:PW X (.BoolOp .And (b::rest) pos) tB'):PW X (.BoolOp .And (a::b::rest) pos) (acu tA tB'):=by
 intro wh pins s σ H Q I h;refine isTrue_and (thn (ha pins s σ H _ I h) fun c s1 ⟨H1,I1,q1⟩=>?_);cases c with
 |true=>exact hb wh pins s1 σ H1 Q I1 q1
 |false=>exact⟨H1,I1,q1⟩
theorem Hw(ha:PT X a tA)(hb:PW X (.BoolOp .Or (b::rest) pos) tB'):PW X (.BoolOp .Or (a::b::rest) pos) (tOr tA tB'):=by
 intro wh pins s σ H Q I h;refine isTrue_or (thn (ha pins s σ H _ I h) fun c s1 ⟨H1,I1,q1⟩=>?_);cases c with
 |true=>exact⟨H1,I1,q1⟩
 |false=>exact hb wh pins s1 σ H1 Q I1 q1
theorem mC(ha:PT X a tA):PT X (.UnaryOp .Not a pos) (acw tA):=by
 intro pins s σ H Q I h;exact isTrue_not (ha pins s σ H (fun c H1=>Q (!c) H1) I h)
def Uy(ta tb:TE):TE:=fun σ H Q=>ta σ H fun x H1=>∃c,x = .bl c/\if c=true then tb σ H1 Q else Q (.bl false) H1
def ab8(ta tb:TE):TE:=fun σ H Q=>ta σ H fun x H1=>∃c,x = .bl c/\if c=true then Q (.bl true) H1 else tb σ H1 Q
theorem CD{op}{t:TE}(h:PE X a t):PE X (.BoolOp op [a] pos) t:=fun pins s σ H Q I hw=>BoolOp_one (h pins s σ H Q I hw)
theorem Ln(ha:PE X a ta)(hb:PE X (.BoolOp .And (b::rest) pos) tb):PE X (.BoolOp .And (a::b::rest) pos) (Uy ta tb):=by
 intro pins s σ H Q I h;refine BoolOp_and (thn (ha pins s σ H _ I h) fun v s1 ⟨x,H1,I1,r1,q1⟩=>?_);obtain⟨c,rfl,q1⟩:=q1;cases r1;refine wpAny_truthy_bool ?_;cases c with
 |true=>exact hb pins s1 σ H1 Q I1 q1
 |false=>exact⟨.bl false,H1,I1,rfl,q1⟩
theorem Nz(ha:PE X a ta)(hb:PE X (.BoolOp .Or (b::rest) pos) tb):PE X (.BoolOp .Or (a::b::rest) pos) (ab8 ta tb):=by
 intro pins s σ H Q I h;refine BoolOp_or (thn (ha pins s σ H _ I h) fun v s1 ⟨x,H1,I1,r1,q1⟩=>?_);obtain⟨c,rfl,q1⟩:=q1;cases r1;refine wpAny_truthy_bool ?_;cases c with
 |false=>exact hb pins s1 σ H1 Q I1 q1
 |true=>exact⟨.bl true,H1,I1,rfl,q1⟩
def tIf(t:TT)(ta tb:TE):TE:=fun σ H Q=>t σ H fun c H1=>if c=true then ta σ H1 Q else tb σ H1 Q
theorem wX{c:Expr}(hc:PT X c tA)(ha:PE X a ta)(hb:PE X b tb):PE X (.IfExp c a b pos) (tIf tA ta tb):=by
 intro pins s σ H Q I h;refine wpAny_IfExp (thn (hc pins s σ H _ I h) fun d s1 ⟨H1,I1,q1⟩=>?_);cases d with
 |true=>exact ha pins s1 σ H1 Q I1 q1
 |false=>exact hb pins s1 σ H1 Q I1 q1
end
def SqL(K:W.Frag)(H:Hp)(a:Addr)(xs:List V):Prop:=
 Rd H a (.lst xs)∨
  ∃(o:Obj) (its:Array Value) (n:Nat),K.lookup a=some o/\o.cls = .type "list" /\ o.dict=none/\o.data = .seq its n/\its.size<=sizeLine/\Vals xs its.toList
def SqT(K:W.Frag)(H:Hp)(a:Addr)(xs:List V):Prop:=
 Rd H a (.tup xs)∨
  ∃(o:Obj) (its:Array Value) (n:Nat),K.lookup a=some o/\o.cls = .type "tuple" /\ o.data = .seq its n/\its.size<=sizeLine/\Vals xs its.toList
def acW:Value->Option V
 |.none=>some .non
 |.bool b=>some (.bl b)
 |.int i _=>some (.int i)
 |.str x _=>some (.str x)
 |.bytes b _=>some (.byt b)
 |.float b _=>some (.flt b)
 |.ref a=>some (.ref a)
 |.type n=>some (.ty n)
 |_=>none
theorem RelV.abs{x:V}{u:Value}(r:RelV x u):acW u=some x:=by
 cases x with
 |non=>cases r;rfl
 |bl _=>cases r;rfl
 |int _=>obtain⟨t,rfl⟩:=r;rfl
 |str _=>obtain⟨t,rfl⟩:=r;rfl
 |byt _=>obtain⟨t,rfl⟩:=r;rfl
 |flt _=>obtain⟨t,rfl⟩:=r;rfl
 |ref _=>cases r;rfl
 |ty _=>cases r;rfl
theorem RelV.inj{x y:V}{u:Value}(r:RelV x u)(q:RelV y u):x=y:=Option.some.inj (r.abs.symm.trans q.abs)
theorem Vals.inj{xs ys:List V}{us:List Value}(h:Vals xs us)(h':Vals ys us):xs=ys:=by
 induction h generalizing ys with
 |nil=>cases h';rfl
 |cons r t ih=>
  cases h' with
  |cons r' t'=>rw[r.inj r',ih t']
section
variable {X:Cx} {pins:List (Addr×Obj)} {σ:St} {H:Hp} {s:Shared} {a:Addr} {xs ys:List V}
theorem SqL.of{K:W.Frag}(h:H a=some (.lst xs)):SqL K H a xs:= .inl (.inl h)
theorem SqT.of{K:W.Frag}(h:H a=some (.tup xs)):SqT K H a xs:= .inl (.inl h)
theorem Inv.list(I:Inv X pins σ H s)(h:SqL X.K H a xs):∃its:List Value,Vals xs its/\PlainL s.heap a its.toArray/\xs.length<=sizeLine:=by
 rcases h with h|⟨o,its,n,hk,hc,hd,hs,hz,r⟩
 ·obtain⟨z,its,n,r,e⟩:=h.ok I.hok;exact⟨its,r,⟨_,n,e,rfl,rfl,rfl⟩,z⟩
 ·refine⟨its.toList,r,⟨o,n,I.kIn a o hk,hc,hd,by simpa using hs⟩,?_⟩;have e:=r.length;simp only[Array.length_toList]at e;omega
theorem Inv.tuple(I:Inv X pins σ H s)(h:SqT X.K H a xs):∃its:List Value,Vals xs its/\IsTup s.heap a its.toArray/\xs.length<=sizeLine:=by
 rcases h with h|⟨o,its,n,hk,hc,hs,hz,r⟩
 ·obtain⟨z,its,r,p⟩:=h.ok I.hok;exact⟨its,r,p,z⟩
 ·refine⟨its.toList,r,⟨o,I.kIn a o hk,hc,n,by simpa using hs⟩,?_⟩;have e:=r.length;simp only[Array.length_toList]at e;omega
theorem Inv.Kc(I:Inv X pins σ H s)(h:SqL X.K H a xs)(h':SqL X.K H a ys):xs=ys:=by
 obtain⟨its,r,⟨o,n,e,_,_,d⟩,_⟩:=I.list h;obtain⟨its',r',⟨o',n',e',_,_,d'⟩,_⟩:=I.list h';rw[e]at e';cases e';rw[d]at d';injection d' with d1 _;have:its=its':=by simpa using congrArg Array.toList d1
 subst this;exact r.inj r'
theorem Inv.IK(I:Inv X pins σ H s)(h:SqT X.K H a xs)(h':SqT X.K H a ys):xs=ys:=by
 obtain⟨its,r,⟨o,e,_,n,d⟩,_⟩:=I.tuple h;obtain⟨its',r',⟨o',e',_,n',d'⟩,_⟩:=I.tuple h';rw[e]at e';cases e';rw[d]at d';injection d' with d1 _;have:its=its':=by simpa using congrArg Array.toList d1
 subst this;exact r.inj r'
end
abbrev Cx.wish(X:Cx)(E:Value->Shared->Prop):Cx:={ X with xe:=E }
abbrev Cx.nox(X:Cx):Cx:=X.wish fun _ _=>False
theorem Cx.Ok.wish{X:Cx}(ok:X.Ok)(E:Value->Shared->Prop):(X.wish E).Ok:=
 ⟨ok.mod,ok.kind,ok.glob,ok.blt,ok.above,ok.inj,ok.has,ok.cab,ok.hd,ok.frames,ok.stk,ok.exf,ok.bs,ok.bsz,ok.Qh,ok.Qf,ok.DL,ok.frf⟩
theorem Cx.Ok.pq{X:Cx}{E:Value->Shared->Prop}(ok:(X.wish E).Ok):X.Ok:=
 ⟨ok.mod,ok.kind,ok.glob,ok.blt,ok.above,ok.inj,ok.has,ok.cab,ok.hd,ok.frames,ok.stk,ok.exf,ok.bs,ok.bsz,ok.Qh,ok.Qf,ok.DL,ok.frf⟩
section
variable {X:Cx} {pins:List (Addr×Obj)} {σ:St} {H:Hp} {s:Shared} {E:Value->Shared->Prop}
theorem Inv.wish(I:Inv X pins σ H s)(E:Value->Shared->Prop):Inv (X.wish E) pins σ H s:=⟨I.ok.wish E,I.os,I.bare,I.base,I.loc,I.cell,I.free,I.pK,I.pin,I.hok,I.len⟩
theorem Inv.pq(I:Inv (X.wish E) pins σ H s):Inv X pins σ H s:=⟨I.ok.pq,I.os,I.bare,I.base,I.loc,I.cell,I.free,I.pK,I.pin,I.hok,I.len⟩
theorem SP.pq{D:Ends}{f:Flow}{s':Shared}(h:SP (X.wish E) pins D f s'):SP X pins D f s':=by
 cases f with
 |next=>obtain⟨σ',H',I,q⟩:=h;exact⟨σ',H',I.pq,q⟩
 |brk=>obtain⟨σ',H',I,q⟩:=h;exact⟨σ',H',I.pq,q⟩
 |cont=>obtain⟨σ',H',I,q⟩:=h;exact⟨σ',H',I.pq,q⟩
 |ret u=>obtain⟨v,σ',H',I,r,q⟩:=h;exact⟨v,σ',H',I.pq,r,q⟩
theorem PSs.nox{st:List Stmt}{t:TS}(h:PSs X.nox st t):PSs X st t:=fun pins s σ H D I hw=>
 wpAny_mono (h pins s σ H D (I.wish _) hw) (fun _ _ q=>q.pq) fun _ _ z=>False.elim z
end
section
variable {X:Cx} {st:Stmt} {rest:List Stmt} {t u:TS} {e:Expr} {te:TE} {pos:Pos}
def Xq:TS:=fun D σ H=>D.nx σ H
def abV(t u:TS):TS:=fun D σ H=>t { D with nx:=u D } σ H
theorem cW:PSs X [] Xq:=fun _ _ σ H _ I h=>wpAny_execs_nil ⟨σ,H,I,h⟩
theorem ao(h1:PS X st t)(h2:PSs X rest u):PSs X (st::rest) (abV t u):=by
 intro pins s σ H D I h;refine wpAny_execs_cons (thn (h1 pins s σ H { D with nx:=u D } I h) fun f s1 q=>?_);cases f with
 |next=>
  obtain⟨σ',H',I',q⟩:=q;exact h2 pins s1 σ' H' D I' q
 |ret v=>exact q
 |brk=>exact q
 |cont=>exact q
theorem aH(h1:PS X st t):PSs X [st] t:=by
 intro pins s σ H D I h;refine wpAny_execs_cons (thn (h1 pins s σ H D I h) fun f s1 q=>?_);cases f with
 |next=>exact wpAny_execs_nil q
 |ret v=>exact q
 |brk=>exact q
 |cont=>exact q
theorem Inv.quiet{pins:List (Addr×Obj)}{σ:St}{H:Hp}{s:Shared}(I:Inv X pins σ H s):interactive X.env=false:=by simp[interactive,I.ok.kind]
def VH(te:TE):TS:=fun D σ H=>te σ H fun _ H1=>D.nx σ H1
theorem jx(he:PE X e te)(hs:swapsWith e none pos.line X.env=pure false:=by rfl):PS X (.Expr e pos) (VH te):=by
 intro pins s σ H D I h;exact wpAny_Expr_any (thn (he pins s σ H _ I h) fun v s1 ⟨x,H1,I1,r1,q1⟩=>⟨σ,H1,I1,q1⟩) I.quiet hs
def adt(te:TE):TS:=fun D σ H=>te σ H D.rt
theorem aU(he:PE X e te):PS X (.Return (some e) pos) (adt te):=by
 intro pins s σ H D I h;exact wpAny_Return_some (thn (he pins s σ H _ I h) fun v s1 ⟨x,H1,I1,r1,q1⟩=>⟨x,σ,H1,I1,r1,q1⟩)
def ab9(c:TT)(t u:TS):TS:=fun D σ H=>c σ H fun b H1=>if b=true then t D σ H1 else u D σ H1
theorem jq{c:Expr}{a b:List Stmt}{tc:TT}(hc:PT X c tc)(ha:PSs X a t)(hb:PSs X b u):PS X (.If c a b pos) (ab9 tc t u):=by
 intro pins s σ H D I h;refine wpAny_If (thn (hc pins s σ H _ I h) fun d s1 ⟨H1,I1,q1⟩=>?_);cases d with
 |true=>exact ha pins s1 σ H1 D I1 q1
 |false=>exact hb pins s1 σ H1 D I1 q1
def Sy:TS:=fun _ _ _=>False
theorem tY:PS X st Sy:=fun _ _ _ _ _ _ h=>h.elim
end
abbrev TG:=V->St->Hp->(St->Hp->Prop)->Prop
abbrev TGs:=List V->St->Hp->(St->Hp->Prop)->Prop
def PG(X:Cx)(target:Expr)(t:TG):Prop:=
 ∀(pins:List (Addr×Obj)) (s:Shared) (σ:St) (H:Hp) (v:V) (u:Value) (Q:St->Hp->Prop),Inv X pins σ H s->RelV v u->t v σ H Q->
  wpAny (model X.prog X.w) X.A (assign target X.env u) (fun _ s'=>∃σ' H',Inv X pins σ' H' s'/\Q σ' H') X.xe s
def PGs(X:Cx)(ts:List Expr)(t:TGs):Prop:=
 ∀(pins:List (Addr×Obj)) (s:Shared) (σ:St) (H:Hp) (vs:List V) (us:List Value) (Q:St->Hp->Prop),Inv X pins σ H s->Vals vs us->t vs σ H Q->
  wpAny (model X.prog X.w) X.A (assignInOrder ((assignEach ts X.env).map (·.2)) us) (fun _ s'=>∃σ' H',Inv X pins σ' H' s'/\Q σ' H') X.xe s
abbrev Zk:=V->V->V->Hp->(Hp->Prop)->Prop
def abm(X:Cx)(t:Zk):Prop:=
 ∀(pins:List (Addr×Obj)) (s:Shared) (σ:St) (H:Hp) (o i v:V) (ov iv u:Value) (Q:Hp->Prop),Inv X pins σ H s->RelV o ov->RelV i iv->RelV v u->t o i v H Q->
  wpAny (model X.prog X.w) X.A (setItem ov iv u) (fun _ s'=>∃H',Inv X pins σ H' s'/\Q H') X.xe s
section
variable {X:Cx} {pos:Pos}
def pO(i:Nat):TG:=fun v σ H Q=>Q (σ.set i (some v)) H
theorem bw{i:Nat}{x:Str}(hN:X.N.Nodup)(hi:X.N[i]?=some x)(hx:Loc X.env.scope x)(hf:X.fn x=true∨X.env.scope.names.lookup x=some .local:=by first|exact .inl rfl|exact .inr rfl|assumption):PG X (.Name x pos) (pO i):=by
 intro pins s σ H v u Q I r h;exact wpAny_assign_Name (tU I hN hi hx r (fun s' I'=>⟨_,H,I',h⟩) hf)
def adw:TGs:=fun vs σ H Q=>vs=[]/\Q σ H
inductive ZQ(t:TG)(u:TGs)(vs:List V)(σ:St)(H:Hp)(Q:St->Hp->Prop):Prop|mk (v:V) (r:List V) (h:vs=v::r) (q:t v σ H fun σ' H'=>u r σ' H' Q)
def Zy(t:TG)(u:TGs):TGs:=fun vs σ H Q=>ZQ t u vs σ H Q
theorem IL:PGs X [] adw:=by
 intro pins s σ H vs us Q I r h;obtain⟨e,h⟩:=h;subst e;cases r;exact assignInOrder_nil ⟨σ,H,I,h⟩
theorem nU{e:Expr}{es:List Expr}{t:TG}{u:TGs}(h1:PG X e t)(h2:PGs X es u)
  (hs:(assignEach (e::es) X.env).map (·.2)=assign e X.env::(assignEach es X.env).map (·.2):=by rfl):PGs X (e::es) (Zy t u):=by
 intro pins s σ H vs us Q I r h;obtain⟨v,vr,e1,h⟩:=h;subst e1;cases r with
 |cons r rr=>
  rw[hs];refine assignInOrder_cons (thn (h1 pins s σ H _ _ _ I r h) fun _ s1 ⟨σ1,H1,I1,q1⟩=>?_);exact h2 pins s1 σ1 H1 _ _ Q I1 rr q1
def abv(K:W.Frag)(n:Nat)(t:TGs):TG:=fun v σ H Q=>∃a xs,v = .ref a/\SqT K H a xs/\xs.length=n/\t xs σ H Q
theorem Tv{es:List Expr}{k:Nat}{t:TGs}{n:Nat}(hc:X.calm=true)(h:PGs X es t)
  (hn:(assignEach es X.env).length=n:=by rfl) (hst:(assignEach es X.env).findIdx? (·.1)=none:=by rfl):PG X (.Tuple es k pos) (abv X.K n t):=by
 intro pins s σ H v u Q I r hw;obtain⟨a,xs,e1,hq,hl,hw⟩:=hw;subst e1;cases r;obtain⟨its,rv,ht,hz⟩:=I.tuple hq;refine assign_Tuple_tuple (I.ok.hd hc) ht (by simp[hn,<-hl,rv.length]) hst fun h' hx=>?_;have I1:Inv X pins σ H { s with heap:=h' }:=I.kept (t':=s.toks) fun b o e=>hx b o (Nat.ne_of_lt (Heap.lt_size e)) e;exact h pins _ σ H xs _ Q I1 (by simpa using rv) hw
def acO(to ti:TE)(t:Zk):TG:=fun v σ H Q=>to σ H fun o H1=>ti σ H1 fun i H2=>t o i v H2 fun H3=>Q σ H3
theorem zf{o i:Expr}{to ti:TE}{t:Zk}(ho:PE X o to)(hi:PE X i ti)(hs:abm X t)
  (ha:∀v,assign (.Subscript o i pos) X.env v=(do
   let ov<-holding [v] (eval o X.env)
   let iv<-holding [v,ov] (eval i X.env)
   standAt pos
   holding [v,ov,iv] (setItem ov iv v)
   release [v,ov,iv] []):=by intro _;rfl):PG X (.Subscript o i pos) (acO to ti t):=by
 intro pins s σ H v u Q I r h;rw[ha];refine wpAny_bind (wpAny_holding (thn (ho pins s σ H _ I h) fun ov s1 ⟨x,H1,I1,r1,q1⟩=>?_));refine wpAny_bind (wpAny_holding (thn (hi pins s1 σ H1 _ I1 q1) fun iv s2 ⟨y,H2,I2,r2,q2⟩=>?_));refine wpAny_bind (wpAny_standAt (wpAny_bind (wpAny_holding (thn (hs pins s2 σ H2 x y v ov iv u _ I2 r1 r2 r q2) fun _ s3 ⟨H3,I3,q3⟩=>?_))));exact wpAny_release ⟨σ,H3,I3,q3⟩
def Vq(te:TE)(g:TG):TS:=fun D σ H=>te σ H fun x H1=>g x σ H1 D.nx
theorem vq{tg e:Expr}{te:TE}{g:TG}(he:PE X e te)(hg:PG X tg g)(hs:swapsWithSole [tg] e pos.line X.env=pure false:=by rfl)(hw:swappedStores [tg] e X.env=pure none:=by rfl)
  (h1:(assignEach [tg] X.env).map (·.2)=[assign tg X.env]:=by rfl):PS X (.Assign [tg] e pos) (Vq te g):=by
 intro pins s σ H D I h;refine wpAny_Assign_stores (thn (he pins s σ H _ I h) fun v s1 ⟨x,H1,I1,r1,q1⟩=>?_) hs hw;rw[h1];exact thn (hg pins s1 σ H1 x v _ I1 r1 q1) fun _ s2 q=>q
theorem aJ{i:Nat}{x:Str}{e:Expr}{te:TE}{pos':Pos}(hN:X.N.Nodup)(hi:X.N[i]?=some x)(hx:Loc X.env.scope x)(he:PE X e te)(hs:swapsWith e (some (.Name x pos')) pos.line X.env=pure false:=by rfl)(hf:X.fn x=true∨X.env.scope.names.lookup x=some .local:=by first|exact .inl rfl|exact .inr rfl|assumption):
  PS X (.Assign [.Name x pos'] e pos) (Vq te (pO i)):=by
 intro pins s σ H D I h;refine wpAny_Assign_Name (thn (he pins s σ H _ I h) fun v s1 ⟨y,H1,I1,r1,q1⟩=>?_) hs;exact tU I1 hN hi hx r1 (fun s2 I2=>⟨_,H1,I2,q1⟩) hf
end
section
variable {X:Cx} {pos:Pos}
def Sq(c:TT)(tb:TS):TS:=fun D σ H=>∃W:Nat->St->Hp->Prop,(∃m,W m σ H)/\∀m σ H,W m σ H->
 c σ H fun b H1=>if b=true then ∃N:St->Hp->Prop,(∀σ' H',N σ' H'->∃m',m'<m/\W m' σ' H')/\tb { D with nx:=N,ct:=N,bk:=D.nx } σ H1 else D.nx σ H1
theorem jF{c:Expr}{body:List Stmt}{tc:TT}{tb:TS}(hp:PassesOwn (model X.prog X.w) X.A X.env X.xe)(hc:PT X c tc)(hb:PSs X body tb):PS X (.While c body [] pos) (Sq tc tb):=by
 intro pins s σ H D I h;obtain⟨W,⟨m0,w0⟩,turn⟩:=h;refine wpAny_While (codeAny_whileLoop (fun n s'=>∃σ' H',Inv X pins σ' H' s'/\W n σ' H') ?_ m0 ⟨σ,H,I,w0⟩);rintro n s1 ⟨σ1,H1,I1,w1⟩;refine wpAny_passesOwn hp (thn (hc pins s1 σ1 H1 _ I1 (turn n σ1 H1 w1)) fun b s2 ⟨H2,I2,q2⟩=>?_);cases b with
 |true=>
  obtain⟨N,hN,q2⟩:=q2;rw[if_pos rfl];refine wpAny_passesOwn hp (thn (hb pins s2 σ1 H2 _ I2 q2) fun f s3 q3=>?_);cases f with
  |next=>
   obtain⟨σ3,H3,I3,n3⟩:=q3;obtain⟨m',hm,w3⟩:=hN σ3 H3 n3;exact⟨m',hm,σ3,H3,I3,w3⟩
  |cont=>
   obtain⟨σ3,H3,I3,n3⟩:=q3;obtain⟨m',hm,w3⟩:=hN σ3 H3 n3;exact⟨m',hm,σ3,H3,I3,w3⟩
  |brk=>exact q3
  |ret v=>exact q3
 |false=>
  rw[if_neg Bool.false_ne_true];exact wpAny_execs_nil ⟨σ1,H2,I2,q2⟩
end
structure It where
 go:Nat->Hp->Prop
 yld:Nat->Hp->V->Hp->Prop
 stop:Nat->Hp->Prop
def K1(X:Cx)(pins:List (Addr×Obj))(H:Hp)(b:Addr):Prop:=
 H b=none/\b≠X.env.locals/\b∉X.fs/\(b∈X.ex∨X.s₀.heap.objs.size<=b)/\(∀x c,X.env.cells.lookup x=some c->c≠b)/\∀p∈X.pn++pins,p.1≠b
theorem Inv.Rj{X:Cx}{pins:List (Addr×Obj)}{σ:St}{H H':Hp}{s:Shared}{b:Addr}(I:Inv X pins σ H s)(hb:s.heap.objs.size<=b)(hn:H' b=none):K1 X pins H' b:=by
 refine⟨hn,Nat.ne_of_gt (Nat.lt_of_lt_of_le I.lt hb),I.aav hb,.inr (Nat.le_trans I.sz hb),fun x c e z=>?_,fun p hp z=>?_⟩
 ·obtain⟨v,q⟩:=I.cell x c e;exact absurd (Nat.lt_of_lt_of_le q.lt (by rw[z];exact hb)) (Nat.lt_irrefl _)
 ·exact absurd (Nat.lt_of_lt_of_le (Heap.lt_size (I.pin p hp).1) (by rw[z];exact hb)) (Nat.lt_irrefl _)
structure Turn(P:Program)(w:World)(K:W.Frag)(tg:Expr)(J:It)(fp:List Addr)(it:Addr)(tn:Nat->Heap->Prop):Prop where
 mem:it∈fp
 obj:∀i h,tn i h->∀b∈fp,∃o,h.get? b=some o/\∀v,o.data≠ .cell v
 keep:∀i h h',tn i h->(∀b∈fp,∀o,h.get? b=some o->h'.get? b=some o)->tn i h'
 item:∀(X:Cx),X.prog=P->X.w=w->X.K=K->X.calm=true->∀(i:Nat) (pins:List (Addr×Obj)) (s:Shared) (σ:St) (H:Hp) (E:Value->Shared->Prop),Inv X pins σ H s->(∀b∈fp,K1 X pins H b)->tn i s.heap->J.go i H->
  wpAny (model P w) X.A (pyNext (.ref it)) (fun r s1=>∃u,r=some u/\
   wpAny (model P w) X.A (letOwnedTupleGo tg (.ref it) u) (fun _ s2=>∃x H',Inv X pins σ H' s2/\RelV x u/\J.yld i H x H'/\tn (i+1) s2.heap/\∀b∈fp,H' b=none) E s1) E s
 done:∀(X:Cx),X.prog=P->X.w=w->X.K=K->X.calm=true->∀(i:Nat) (pins:List (Addr×Obj)) (s:Shared) (σ:St) (H:Hp) (E:Value->Shared->Prop),Inv X pins σ H s->(∀b∈fp,K1 X pins H b)->tn i s.heap->J.stop i H->
  wpAny (model P w) X.A (pyNext (.ref it)) (fun r s1=>r=none/\Inv X pins σ H s1) E s
 self:∀(A:Around) (i:Nat) (s:Shared) (Q:Value->Shared->Prop) (E:Value->Shared->Prop),tn i s.heap->Q (.ref it) s->wpAny (model P w) A (pyIter (.ref it)) Q E s
abbrev TI:=St->Hp->(It->Hp->Prop)->Prop
def PIE(X:Cx)(pins:List (Addr×Obj))(σ:St)(tg:Expr)(R:It->Hp->Prop)(itv:Value)(s2:Shared):Prop:=
 ∃(it:Addr) (fp:List Addr) (tn:Nat->Heap->Prop) (J:It) (H':Hp),itv = .ref it/\Inv X pins σ H' s2/\Turn X.prog X.w X.K tg J fp it tn/\tn 0 s2.heap/\(∀b∈fp,K1 X pins H' b)/\R J H'
def PI(X:Cx)(tg iter:Expr)(wi:TI):Prop:=
 ∀(pins:List (Addr×Obj)) (s:Shared) (σ:St) (H:Hp) (R:It->Hp->Prop),Inv X pins σ H s->wi σ H R->
  wpAny (model X.prog X.w) X.A (eval iter X.env) (fun v s1=>wpAny (model X.prog X.w) X.A (pyIter v) (PIE X pins σ tg R) X.xe s1) X.xe s
theorem Ku{M:Model}{A:Around}{E:Value->Shared->Prop}{s:Shared}{tg:Expr}{it:Addr}{u:Value}{o:Obj}{n:String}{vs:Array Value}{Q:Unit->Shared->Prop}(ho:s.heap.get? it=some o)(hc:o.cls = .type n)(hd:o.data = .fields vs)
  (hn:["enumerate","zip","dict_itemiterator","dict_reverseitemiterator","odict_iterator","itertools.zip_longest","itertools.pairwise"].contains n=false) (hQ:Q () s):wpAny M A (letOwnedTupleGo tg (.ref it) u) Q E s:=by
 unfold letOwnedTupleGo;cases tg<;>first
  |exact wpAny_pure hQ
  |(cases u<;>first
    |exact wpAny_pure hQ
    |(refine wpAny_bind (wpAny_load ho ?_);rw[hc,hd];show wpAny M A (if(["enumerate","zip","dict_itemiterator","dict_reverseitemiterator","odict_iterator","itertools.zip_longest","itertools.pairwise"].contains n&&vs[0]?==some (rawInt _))=true then _ else _) Q E s;rw[if_neg (by intro h;rw[hn,Bool.false_and]at h;cases h)];exact wpAny_pure hQ))
def Itl(K:W.Frag)(a:Addr):It:=
 ⟨fun i H=>∃xs x,SqL K H a xs/\xs[i]?=some x,fun i H x H'=>H'=H/\∀xs,SqL K H a xs->xs[i]?=some x,fun i H=>∃xs,SqL K H a xs/\xs.length<=i⟩
def Itt(K:W.Frag)(a:Addr):It:=
 ⟨fun i H=>∃xs x,SqT K H a xs/\xs[i]?=some x,fun i H x H'=>H'=H/\∀xs,SqT K H a xs->xs[i]?=some x,fun i H=>∃xs,SqT K H a xs/\xs.length<=i⟩
def Itr(lo:Int)(n:Nat):It:=⟨fun i _=>i<n,fun i H x H'=>H'=H/\x = .int (lo+i),fun i _=>n<=i⟩
theorem Ia{P:Program}{w:World}{K:W.Frag}{tg:Expr}(a it:Addr):Turn P w K tg (Itl K a) [it] it (fun i h=>h.IsListIter it a i) where
 mem:=by simp
 obj:=fun i h st b hb=>by
  have e:b=it:=by simpa using hb
  subst e;obtain⟨o,e,c,d⟩:=st;exact⟨o,e,fun v z=>by rw[d]at z;cases z⟩
 keep:=fun i h h' st k=>st.at fun o e=>k it (by simp) o e
 item:=by
  intro X hP hw hK hc i pins s σ H E I hf st hg;subst hP hw hK;obtain⟨xs,x,hq,hx⟩:=hg;obtain⟨its,rv,p,hz⟩:=I.list hq;obtain⟨u,hu,ru⟩:=rv.get hx;obtain⟨f0,f1,f2,f3,f4,f5⟩:=hf it (by simp);refine wpAny_pyNext_list_item st p.isList (x:=u) (by simpa using hu) fun h' st' sb=>?_;have I1:Inv X pins σ H { s with heap:=h' }:=I.turned (t':=s.toks) (fun b o hb e=>(sb.2 b hb).trans e) f0 f1 f3 f4 f5;obtain⟨o,e,c,d⟩:=id st';exact⟨u,rfl,Ku (s:={ s with heap:=h' }) e c d (by decide) ⟨x,H,I1,ru,⟨rfl,fun ys hy=>by rw[I.Kc hy hq];exact hx⟩,st',fun b hb=>(hf b hb).1⟩⟩
 done:=by
  intro X hP hw hK hc i pins s σ H E I hf st hg;subst hP hw hK;obtain⟨xs,hq,hx⟩:=hg;obtain⟨its,rv,p,hz⟩:=I.list hq;obtain⟨f0,f1,f2,f3,f4,f5⟩:=hf it (by simp);have hl:=rv.length;exact wpAny_pyNext_list_end (I.ok.hd hc) st p.isList (by simp;omega) fun h' eb=>⟨rfl,I.turned (t':=s.toks) (fun b o hb e=>eb b o hb e) f0 f1 f3 f4 f5⟩
 self:=fun _ _ _ _ _ st h=>wpAny_pyIter_listiter st h
theorem DG{P:Program}{w:World}{K:W.Frag}{tg:Expr}(a it:Addr):Turn P w K tg (Itt K a) [it] it (fun i h=>h.IsTupleIter it a i) where
 mem:=by simp
 obj:=fun i h st b hb=>by
  have e:b=it:=by simpa using hb
  subst e;obtain⟨o,e,c,d⟩:=st;exact⟨o,e,fun v z=>by rw[d]at z;cases z⟩
 keep:=fun i h h' st k=>st.at fun o e=>k it (by simp) o e
 item:=by
  intro X hP hw hK hc i pins s σ H E I hf st hg;subst hP hw hK;obtain⟨xs,x,hq,hx⟩:=hg;obtain⟨its,rv,p,hz⟩:=I.tuple hq;obtain⟨u,hu,ru⟩:=rv.get hx;obtain⟨f0,f1,f2,f3,f4,f5⟩:=hf it (by simp);refine wpAny_pyNext_tuple_item st (show s.heap.IsTuple a its.toArray from p) (x:=u) (by simpa using hu) fun h' st' sb=>?_;have I1:Inv X pins σ H { s with heap:=h' }:=I.turned (t':=s.toks) (fun b o hb e=>(sb.2 b hb).trans e) f0 f1 f3 f4 f5;obtain⟨o,e,c,d⟩:=id st';exact⟨u,rfl,Ku (s:={ s with heap:=h' }) e c d (by decide) ⟨x,H,I1,ru,⟨rfl,fun ys hy=>by rw[I.IK hy hq];exact hx⟩,st',fun b hb=>(hf b hb).1⟩⟩
 done:=by
  intro X hP hw hK hc i pins s σ H E I hf st hg;subst hP hw hK;obtain⟨xs,hq,hx⟩:=hg;obtain⟨its,rv,p,hz⟩:=I.tuple hq;obtain⟨f0,f1,f2,f3,f4,f5⟩:=hf it (by simp);have hl:=rv.length;exact wpAny_pyNext_tuple_end (I.ok.hd hc) st (show s.heap.IsTuple a its.toArray from p) (by simp;omega) fun h' eb=>⟨rfl,I.turned (t':=s.toks) (fun b o hb e=>eb b o hb e) f0 f1 f3 f4 f5⟩
 self:=fun _ _ _ _ _ st h=>wpAny_pyIter_tupleiter st h
theorem DW{P:Program}{w:World}{K:W.Frag}{tg:Expr}(it:Addr)(lo:Int)(n:Nat):Turn P w K tg (Itr lo n) [it] it (fun i h=>IsRangeIter h it (lo+(i:Nat)*1) ((n:Int)-(i:Nat)) 1) where
 mem:=by simp
 obj:=fun i h st b hb=>by
  have e:b=it:=by simpa using hb
  subst e;exact⟨_,st,fun v z=>by
   have z':Data.fields _=Data.cell v:=z;cases z'⟩
 keep:=fun i h h' st k=>k it (by simp) _ st
 item:=by
  intro X hP hw hK hc i pins s σ H E I hf st hg;subst hP hw hK;obtain⟨f0,f1,f2,f3,f4,f5⟩:=hf it (by simp);have W:=Walks.range (prog:=X.prog) (w:=X.w) (I.ok.hd hc) it lo 1 n;refine W.item i s _ _ hg st fun v h' tk hv st' kk=>?_;obtain⟨t,rfl⟩:=hv;have I1:Inv X pins σ H { s with heap:=h',toks:=tk }:=I.turned (fun b o hb e=>kk b o (by simpa using hb) e) f0 f1 f3 f4 f5;refine⟨_,rfl,Ku (s:={ s with heap:=h',toks:=tk }) (n:= "range_iterator") st' rfl rfl (by decide) ⟨.int (lo+i),H,I1,⟨t,?_⟩,⟨rfl,rfl⟩,st',fun b hb=>(hf b hb).1⟩⟩;rw[Int.mul_one]
 done:=by
  intro X hP hw hK hc i pins s σ H E I hf st hg;subst hP hw hK;obtain⟨f0,f1,f2,f3,f4,f5⟩:=hf it (by simp);exact wpAny_pyNext_range_end (I.ok.hd hc) st (by have:n<=i:=hg;omega) fun h' eb=>⟨rfl,I.turned (t':=s.toks) (fun b o hb e=>eb b o hb e) f0 f1 f3 f4 f5⟩
 self:=fun _ _ _ _ _ st h=>wpAny_pyIter_rangeiter st h
section
variable {X:Cx} {tg:Expr}
def aax(K:W.Frag)(tl:TE):TI:=fun σ H R=>tl σ H fun x H1=>∃a,x = .ref a/\(∃xs,SqL K H1 a xs)/\R (Itl K a) H1
theorem C5{pins:List (Addr×Obj)}{σ:St}{H:Hp}{s:Shared}{R:It->Hp->Prop}{E:Value->Shared->Prop}{lo hi:Int}{t u v:Tok}{tk:Nat}(I:Inv X pins σ H s)(h1:-(2^62)<=lo)(h2:lo<2^62)(h3:-(2^62)<=hi)(h4:hi<2^62)
  (q:R (Itr lo (hi-lo).toNat) H):wpAny (model X.prog X.w) X.A (pyIter (.ref s.heap.objs.size)) (PIE X pins σ tg R) E { s with heap:=s.heap.push { cls:= .type "range",data:= .fields #[.int lo t,.int hi u,.int 1 v] },toks:=tk }:=by
 refine wpAny_pyIter_range (IsRange.new ..) (small_one h1 h2 h3 h4) ?_;have I1:Inv X pins σ H { s with heap:=s.heap.push { cls:= .type "range",data:= .fields #[.int lo t,.int hi u,.int 1 v] },toks:=tk }:=I.kept fun b o e=>Heap.get?_push_of_some _ e;refine⟨(s.heap.push { cls:= .type "range",data:= .fields #[.int lo t,.int hi u,.int 1 v] }).objs.size,[(s.heap.push { cls:= .type "range",data:= .fields #[.int lo t,.int hi u,.int 1 v] }).objs.size],_,_,H,rfl,
  I1.kept (t':=tk) fun b o e=>Heap.get?_push_of_some _ e,DW _ lo (hi-lo).toNat,?_,fun b hb=>?_,q⟩
 ·have e1:lo+((0:Nat):Int)*1=lo:=by simp
  have e2:(((hi-lo).toNat:Nat):Int)-((0:Nat):Int)=Builtin.Range.rangeSize lo hi 1:=by rw[rangeSize_one];split<;>omega
  show IsRangeIter _ _ (lo+((0:Nat):Int)*1) ((((hi-lo).toNat:Nat):Int)-((0:Nat):Int)) 1;rw[e1,e2];exact Heap.get?_push_size _ rfl
 ·have e:b=(s.heap.push { cls:= .type "range",data:= .fields #[.int lo t,.int hi u,.int 1 v] }).objs.size:=by simpa using hb
  subst e;exact I1.Rj (Nat.le_refl _) (I1.hok.fresh (Nat.le_refl _))
inductive Y4(vs:List V)(H:Hp)(R:It->Hp->Prop):Prop|mk (j:Int) (h:vs=[.int j]) (h1:-(2^62)<=j) (h2:j<2^62) (q:R (Itr 0 j.toNat) H)
def Yl(ta:TA):TI:=fun σ H R=>ta σ H fun vs H1=>Y4 vs H1 R
def W8(ta:TA):TI:=fun σ H R=>ta σ H fun vs H1=>∃i j:Int,vs=[.int i,.int j]/\(-(2^62)<=i/\i<2^62/\-(2^62)<=j/\j<2^62)/\R (Itr i (j-i).toNat) H1
theorem bW{a:Expr}{ta:TA}{p pos:Pos}(hg:Gl X "range")(hm:X.mg "range" = none)(ha:PA X [a] ta)(hs:starEach [a] X.env=[(false,eval a X.env)]:=by rfl):PI X tg (.Call (.Name "range" p) [a] [] pos) (Yl ta):=by
 intro pins s σ H R I h;refine Call_ (zq I hg hm boot_range (PyProof.Rows.callWith_type1 (thn (ha pos pins s σ H _ I h) fun us s1 ⟨vs,H1,I1,r1,q1⟩=>?_) hs rfl));obtain⟨j,e,q1,q2,q⟩:=q1;subst e;cases r1 with
 |cons r rr=>
  cases rr;obtain⟨t,rfl⟩:=r;exact call_range_1 (C5 I1 (by omega) (by omega) q1 q2 (by simpa using q))
theorem pJ{a b:Expr}{ta:TA}{p pos:Pos}(hg:Gl X "range")(hm:X.mg "range" = none)(ha:PA X [a,b] ta)(hs:starEach [a,b] X.env=[(false,eval a X.env),(false,eval b X.env)]:=by rfl)(hs2:starEach [b] X.env=[(false,eval b X.env)]:=by rfl):
  PI X tg (.Call (.Name "range" p) [a,b] [] pos) (W8 ta):=by
 intro pins s σ H R I h;refine Call_ (zq I hg hm boot_range (PyProof.Rows.callWith_type1 (thn (ha pos pins s σ H _ I h) fun us s1 ⟨vs,H1,I1,r1,q1⟩=>?_) (by rw[hs,hs2]) (by rw[hs2];rfl)));obtain⟨i,j,e,⟨q1,q2,q3,q4⟩,q⟩:=q1;subst e;cases r1 with
 |cons r rr=>
  cases rr with
  |cons r' rr=>
   cases rr;obtain⟨t,rfl⟩:=r;obtain⟨t',rfl⟩:=r';exact call_range_2 (C5 I1 q1 q2 q3 q4 q)
def abU(wi:TI)(g:TG)(tb:TS):TS:=fun D σ H=>wi σ H fun J H1=>∃W:Nat->Nat->St->Hp->Prop,(∃m,W 0 m σ H1)/\∀i m σ H,W i m σ H->
 (J.stop i H/\D.nx σ H)∨(J.go i H/\∃N:St->Hp->Prop,(∀σ' H',N σ' H'->∃m',m'<m/\W (i+1) m' σ' H')/\∀x H',J.yld i H x H'->g x σ H' fun σ2 H2=>tb { D with nx:=N,ct:=N,bk:=D.nx } σ2 H2)
def zU(fp:List Addr)(h:Heap):List (Addr×Obj):=fp.filterMap fun b=>(h.get? b).map fun o=>(b,o)
theorem j4{fp:List Addr}{h:Heap}{b:Addr}{o:Obj}(hb:b∈fp)(e:h.get? b=some o):(b,o)∈zU fp h:=List.mem_filterMap.mpr ⟨b,hb,by rw[e];rfl⟩
theorem Gw{fp:List Addr}{h:Heap}{p:Addr×Obj}(hp:p∈zU fp h):p.1∈fp/\h.get? p.1=some p.2:=by
 obtain⟨b,hb,e⟩:=List.mem_filterMap.mp hp;cases q:h.get? b with
 |none=>rw[q]at e;cases e
 |some o=>
  rw[q]at e;have e':(b,o)=p:=Option.some.inj e;subst e';exact⟨hb,q⟩
theorem Inv.pinned{pins:List (Addr×Obj)}{σ:St}{H:Hp}{s:Shared}{fp:List Addr}(I:Inv X pins σ H s)(hf:∀b∈fp,K1 X pins H b)(ho:∀b∈fp,∃o,s.heap.get? b=some o/\∀v,o.data≠ .cell v):Inv X (pins++zU fp s.heap) σ H s:=
 I.Fw fun p hp=>(List.mem_append.mp hp).elim (fun z=>I.pin p (List.mem_append_right _ z)) fun z=>by
  obtain⟨hb,e⟩:=Gw z;obtain⟨f0,f1,f2,_⟩:=hf p.1 hb;obtain⟨o,e',d⟩:=ho p.1 hb;rw[e]at e';cases e';exact⟨e,f0,f1,f2,d⟩
theorem Inv.pL{pins pl:List (Addr×Obj)}{σ:St}{H:Hp}{s:Shared}(I:Inv X (pins++pl) σ H s):Inv X pins σ H s:=I.Fw fun p hp=>I.pin p (List.mem_append_right _ (List.mem_append_left _ hp))
theorem n8{iter:Expr}{body:List Stmt}{wi:TI}{g:TG}{tb:TS}{pos:Pos}(hp:PassesOwn (model X.prog X.w) X.A X.env X.xe)(hc:X.calm=true)(hi:PI X tg iter wi)(hg:PG X tg g)(hb:PSs X body tb)
  (hs:∀x,foldedSetIterable iter X.env x=pure x:=by intro _;rfl):PS X (.For tg iter body [] pos) (abU wi g tb):=by
 intro pins s σ H D I h;refine wpAny_For (thn (hi pins s σ H _ I h) fun v s1 h1=>thn h1 fun itv s2 h2=>?_) hs;obtain⟨it,fp,tn,J,H2,e,I2,T,st2,f2,W,⟨m0,w0⟩,turn⟩:=h2;subst e;have stat:∀{H':Hp},(∀b∈fp,H' b=none)->∀b∈fp,K1 X pins H' b:=fun hn b hb=>⟨hn b hb,(f2 b hb).2⟩;refine codeAny_forLoop_any (fun n s'=>∃i σ' H',Inv X pins σ' H' s'/\tn i s'.heap/\(∀b∈fp,H' b=none)/\W i n σ' H') ?_ m0 ⟨0,σ,H2,I2,st2,fun b hb=>(f2 b hb).1,w0⟩;rintro n s3 ⟨i,σ3,H3,I3,st3,fr3,w3⟩;rcases turn i n σ3 H3 w3 with⟨stop,qn⟩|⟨go,N,hN,step⟩
 ·refine wpAny_passesOwn hp (thn (T.done X rfl rfl rfl hc i pins s3 σ3 H3 X.xe I3 (stat fr3) st3 stop) fun r s4 ⟨hr,I4⟩=>?_);subst hr;exact wpAny_execs_nil ⟨σ3,H3,I4,qn⟩
 ·refine wpAny_passesOwn hp (thn (T.item X rfl rfl rfl hc i pins s3 σ3 H3 X.xe I3 (stat fr3) st3 go) fun r s4 ⟨u,hr,h4⟩=>?_);subst hr;refine wpAny_passesOwn hp (thn h4 fun _ s5 ⟨x,H5,I5,r5,y5,st5,fr5⟩=>?_);have I5':=I5.pinned (stat fr5) (T.obj _ _ st5);refine wpAny_passesOwn hp (thn (hg _ s5 σ3 H5 x u _ I5' r5 (step x H5 y5)) fun _ s6 ⟨σ6,H6,I6,q6⟩=>?_);refine wpAny_passesOwn hp (thn (hb _ s6 σ6 H6 _ I6 q6) fun f s7 q7=>?_);have again:∀{σ7:St} {H7:Hp},Inv X (pins++zU fp s5.heap) σ7 H7 s7->N σ7 H7->∃m,m<n/\∃i σ' H',Inv X pins σ' H' s7/\tn i s7.heap/\(∀b∈fp,H' b=none)/\W i m σ' H':=fun {σ7 H7} I7 n7=>by
   obtain⟨m',hm,w7⟩:=hN σ7 H7 n7;refine⟨m',hm,i+1,σ7,H7,I7.pL,T.keep _ _ _ st5 fun b hb o e=>(I7.pin (b,o) (List.mem_append_right _ (List.mem_append_right _ (j4 hb e)))).1,fun b hb=>?_,w7⟩;obtain⟨o,e,d⟩:=T.obj _ _ st5 b hb;exact(I7.pin (b,o) (List.mem_append_right _ (List.mem_append_right _ (j4 hb e)))).2.1
  cases f with
  |next=>obtain⟨σ7,H7,I7,n7⟩:=q7;exact again I7 n7
  |cont=>obtain⟨σ7,H7,I7,n7⟩:=q7;exact again I7 n7
  |brk=>obtain⟨σ7,H7,I7,q7⟩:=q7;exact⟨σ7,H7,I7.pL,q7⟩
  |ret v=>obtain⟨x7,σ7,H7,I7,r7,q7⟩:=q7;exact⟨x7,σ7,H7,I7.pL,r7,q7⟩
end
theorem gw{lo:Int}{n:Nat}{g:TG}{tb:TS}{D:Ends}{σ:St}{H:Hp}(Pv:Nat->St->Hp->Prop)(h0:Pv 0 σ H)
  (hs:∀i σ H,i<n->Pv i σ H->g (.int (lo+i)) σ H fun σ2 H2=>tb { D with nx:=Pv (i+1),ct:=Pv (i+1),bk:=D.nx } σ2 H2) (hd:∀σ H,Pv n σ H->D.nx σ H):
  ∃W:Nat->Nat->St->Hp->Prop,(∃m,W 0 m σ H)/\∀i m σ H,W i m σ H->
   ((Itr lo n).stop i H/\D.nx σ H)∨((Itr lo n).go i H/\∃N:St->Hp->Prop,(∀σ' H',N σ' H'->∃m',m'<m/\W (i+1) m' σ' H')/\∀x H',(Itr lo n).yld i H x H'->g x σ H' fun σ2 H2=>tb { D with nx:=N,ct:=N,bk:=D.nx } σ2 H2):=by
 refine⟨fun i m σ H=>m=n-i/\i<=n/\Pv i σ H,⟨n,by simp,Nat.zero_le _,h0⟩,?_⟩;rintro i m σ H ⟨rfl,hi,p⟩;by_cases hlt:i<n
 ·refine .inr ⟨hlt,Pv (i+1),fun σ' H' p'=>⟨n-(i+1),by omega,rfl,hlt,p'⟩,fun x H' y=>?_⟩;obtain⟨e,y⟩:=y;subst e y;exact hs i σ _ hlt p
 ·have e:i=n:=by omega
  subst e;exact .inl ⟨Nat.le_refl _,hd σ H p⟩
abbrev R2:=V->V->Hp->VK->Prop
def OpR(X:Cx)(f:Value->Value->Sem Value)(r:R2):Prop:=
 ∀(pins:List (Addr×Obj)) (s:Shared) (σ:St) (H:Hp) (x y:V) (v u:Value) (Q:VK),Inv X pins σ H s->RelV x v->RelV y u->r x y H Q->
  wpAny (model X.prog X.w) X.A (f v u) (EP X pins σ Q) X.xe s
def UnR(X:Cx)(f:Value->Sem Value)(r:V->Hp->VK->Prop):Prop:=
 ∀(pins:List (Addr×Obj)) (s:Shared) (σ:St) (H:Hp) (x:V) (v:Value) (Q:VK),Inv X pins σ H s->RelV x v->r x H Q->
  wpAny (model X.prog X.w) X.A (f v) (EP X pins σ Q) X.xe s
def rm(X:Cx)(f:Value)(r:List V->Hp->VK->Prop):Prop:=
 ∀(pins:List (Addr×Obj)) (s:Shared) (σ:St) (H:Hp) (xs:List V) (us:List Value) (Q:VK),Inv X pins σ H s->Vals xs us->r xs H Q->
  wpAny (model X.prog X.w) X.A (call f us) (EP X pins σ Q) X.xe s
def tOp(r:R2)(ta tb:TE):TE:=fun σ H Q=>ta σ H fun x H1=>tb σ H1 fun y H2=>r x y H2 Q
def tUn(r:V->Hp->VK->Prop)(ta:TE):TE:=fun σ H Q=>ta σ H fun x H1=>r x H1 Q
inductive SII(C:Int->Int->Prop)(g:Int->Int->V)(x y:V)(H:Hp)(Q:VK):Prop|mk (i j:Int) (hx:x = .int i) (hy:y = .int j) (c:C i j) (q:Q (g i j) H)
def rI(C:Int->Int->Prop)(g:Int->Int->V):R2:=fun x y H Q=>SII C g x y H Q
inductive SI0(g:Int->Int->V)(x y:V)(H:Hp)(Q:VK):Prop|mk (i j:Int) (hx:x = .int i) (hy:y = .int j) (q:Q (g i j) H)
def rI0(g:Int->Int->V):R2:=fun x y H Q=>SI0 g x y H Q
inductive SU(g:Int->V)(x:V)(H:Hp)(Q:VK):Prop|mk (i:Int) (hx:x = .int i) (q:Q (g i) H)
def rU(g:Int->V):V->Hp->VK->Prop:=fun x H Q=>SU g x H Q
section
variable {X:Cx} {a b c:Expr} {ta tb tc:TE} {pos:Pos}
theorem VN(ha:PE X a ta)(hb:PE X b tb){pins:List (Addr×Obj)}{s:Shared}{σ:St}{H:Hp}{R:V->V->Hp->Prop}(I:Inv X pins σ H s)
  (h:ta σ H fun x H1=>tb σ H1 fun y H2=>R x y H2) {Q:Value->Shared->Prop} {f:Value->Value->Sem Value}
  (hf:∀v u s2 x y H2,Inv X pins σ H2 s2->RelV x v->RelV y u->R x y H2->wpAny (model X.prog X.w) X.A (f v u) Q X.xe s2):
  wpAny (model X.prog X.w) X.A (eval a X.env) (fun v s₁=>wpAny (model X.prog X.w) X.A (eval b X.env) (fun u s₂=>wpAny (model X.prog X.w) X.A (f v u) Q X.xe s₂) X.xe s₁) X.xe s:=by
 refine thn (ha pins s σ H _ I h) fun v s1 ⟨x,H1,I1,r1,q1⟩=>?_;refine thn (hb pins s1 σ H1 _ I1 q1) fun u s2 ⟨y,H2,I2,r2,q2⟩=>?_;exact hf v u s2 x y H2 I2 r1 r2 q2
theorem aL{op:Operator}{r:R2}(ho:OpR X (binaryOp op) r)(ha:PE X a ta)(hb:PE X b tb):PE X (.BinOp a op b pos) (tOp r ta tb):=by
 intro pins s σ H Q I h;exact wpAny_BinOp (VN ha hb I h fun v u s2 x y H2 I2 rx ry q=>ho pins s2 σ H2 x y v u Q I2 rx ry q)
theorem Ab{op:UnaryOp}{r:V->Hp->VK->Prop}(ho:UnR X (unaryOp op) r)(ha:PE X a ta):PE X (.UnaryOp op a pos) (tUn r ta):=by
 intro pins s σ H Q I h;exact UnaryOp_ (thn (ha pins s σ H _ I h) fun v s1 ⟨x,H1,I1,r1,q1⟩=>ho pins s1 σ H1 x v Q I1 r1 q1)
theorem opI{f:Value->Value->Sem Value}{C:Int->Int->Prop}{g:Int->Int->Int}
  (rule:∀(i j:Int) (t u:Tok) (s:Shared) (Q:Value->Shared->Prop) (E:Value->Shared->Prop),C i j->Q (.int (g i j) s.toks) { s with toks:=s.toks+1 }->wpAny (model X.prog X.w) X.A (f (.int i t) (.int j u)) Q E s):
  OpR X f (rI C fun i j=> .int (g i j)):=by
 intro pins s σ H x y v u Q I rx ry h;obtain⟨i,j,rfl,rfl,hc,q⟩:=h;obtain⟨t,rfl⟩:=rx;obtain⟨t',rfl⟩:=ry;exact rule i j t t' s _ _ hc ⟨.int (g i j),H,I.tok _,⟨_,rfl⟩,q⟩
theorem abn{f:Value->Value->Sem Value}{g:Int->Int->Int}
  (rule:∀(i j:Int) (t u:Tok) (s:Shared) (Q:Value->Shared->Prop) (E:Value->Shared->Prop),Q (.int (g i j) s.toks) { s with toks:=s.toks+1 }->wpAny (model X.prog X.w) X.A (f (.int i t) (.int j u)) Q E s):
  OpR X f (rI0 fun i j=> .int (g i j)):=by
 intro pins s σ H x y v u Q I rx ry h;obtain⟨i,j,rfl,rfl,q⟩:=h;obtain⟨t,rfl⟩:=rx;obtain⟨t',rfl⟩:=ry;exact rule i j t t' s _ _ ⟨.int (g i j),H,I.tok _,⟨_,rfl⟩,q⟩
theorem aad{f:Value->Value->Sem Value}{g:Int->Int->Bool}
  (rule:∀(i j:Int) (t u:Tok) (s:Shared) (Q:Value->Shared->Prop) (E:Value->Shared->Prop),Q (.bool (g i j)) s->wpAny (model X.prog X.w) X.A (f (.int i t) (.int j u)) Q E s):
  OpR X f (rI0 fun i j=> .bl (g i j)):=by
 intro pins s σ H x y v u Q I rx ry h;obtain⟨i,j,rfl,rfl,q⟩:=h;obtain⟨t,rfl⟩:=rx;obtain⟨t',rfl⟩:=ry;exact rule i j t t' s _ _ ⟨.bl (g i j),H,I,rfl,q⟩
def ac0(i j:Int):Prop:=0<j/\j<1073741824
def acD(i j:Int):Prop:=0<=j/\j<=1000000/\i.natAbs<2^64
theorem RJ:OpR X (binaryOp .Add) (rI0 fun i j=> .int (i+j)):=abn fun _ _ _ _ _ _ _ q=>add_int q
theorem cD:OpR X (binaryOp .Sub) (rI0 fun i j=> .int (i-j)):=abn fun _ _ _ _ _ _ _ q=>sub_int q
theorem Cq:OpR X (binaryOp .FloorDiv) (rI ac0 fun i j=> .int (i/j)):=opI fun i j _ _ _ _ _ hc q=>by
 have h1:(0:Int)<j:=hc.1;have h2:j<1073741824:=hc.2;exact floordiv_int (by omega) (by rw[Int.fdiv_eq_ediv_of_nonneg i (by omega)];exact q) (.inl (PyProof.noPylong_small (by omega)))
theorem fW:OpR X (binaryOp .Mod) (rI (fun _ j=>0<j) fun i j=> .int (i%j)):=opI fun i j _ _ _ _ _ hc q=>by
 have h1:(0:Int)<j:=hc;exact mod_int' (by omega) (by rw[Int.fmod_eq_emod_of_nonneg i (by omega)];exact q)
theorem E4:OpR X (binaryOp .Pow) (rI acD fun i j=> .int (i^j.toNat)):=opI fun _ _ _ _ _ _ _ hc q=>pow_int_small hc.1 hc.2.1 hc.2.2 q
theorem unI{f:Value->Sem Value}{g:Int->Int}
  (rule:∀(i:Int) (t:Tok) (s:Shared) (Q:Value->Shared->Prop) (E:Value->Shared->Prop),Q (.int (g i) s.toks) { s with toks:=s.toks+1 }->wpAny (model X.prog X.w) X.A (f (.int i t)) Q E s):
  UnR X f (rU fun i=> .int (g i)):=by
 intro pins s σ H x v Q I rx h;obtain⟨i,rfl,q⟩:=h;obtain⟨t,rfl⟩:=rx;exact rule i t s _ _ ⟨.int (g i),H,I.tok _,⟨_,rfl⟩,q⟩
theorem sS:UnR X (unaryOp .USub) (rU fun i=> .int (-i)):=unI fun _ _ _ _ _ q=>neg_int q
end
def YD:V->V->Bool
 |.non,.non=>true | .non,.int _=>true | .int _,.non=>true | .non,.bl _=>true | .bl _,.non=>true | .non,.str _=>true | .str _,.non=>true
 |.int _,.int _=>true | .bl _,.bl _=>true | .str _,.str _=>true | .byt _,.byt _=>true
 |.int _,.str _=>true | .str _,.int _=>true | .bl _,.str _=>true | .str _,.bl _=>true
 |_,_=>false
def rEq:R2:=fun x y H Q=>YD x y=true/\Q (.bl (decide (x=y))) H
def rNe:R2:=fun x y H Q=>YD x y=true/\Q (.bl (!decide (x=y))) H
theorem GX{i j:Int}:decide (V.int i=V.int j)=(i==j):=by
 rw[Bool.eq_iff_iff];simp
theorem Mq{i j:Bool}:decide (V.bl i=V.bl j)=(i==j):=by
 rw[Bool.eq_iff_iff];simp
theorem Ht{i j:Str}:decide (V.str i=V.str j)=(i==j):=by
 rw[Bool.eq_iff_iff];simp
theorem HX{i j:Array UInt8}:decide (V.byt i=V.byt j)=(i.toList==j.toList):=by
 rw[Bool.eq_iff_iff];cases i;cases j;simp
section
variable {X:Cx} {a b c:Expr} {ta tb tc:TE} {pos:Pos}
theorem cR{pins:List (Addr×Obj)}{σ:St}{H:Hp}{s:Shared}{Q:VK}{k k':Bool}(I:Inv X pins σ H s)(q:Q (.bl k) H)(e:k=k'):EP X pins σ Q (.bool k') s:=by
 subst e;exact⟨.bl k,H,I,rfl,q⟩
theorem WB:OpR X (compareOp .Eq) rEq:=by
 intro pins s σ H x y v u Q I rx ry h;obtain⟨hs,q⟩:=h;cases x with
 |non=>
  cases rx;cases y with
  |non=>cases ry;exact PySem.EqNone.eq_none_none (cR I q (by simp))
  |bl j=>cases ry;exact PySem.EqNone.eq_none_bool (cR I q (by simp))
  |int j=>obtain⟨t',rfl⟩:=ry;exact PySem.EqNone.eq_none_int (cR I q (by simp))
  |str j=>obtain⟨t',rfl⟩:=ry;exact PySem.EqNone.eq_none_str (cR I q (by simp))
  |_=>exact absurd (show false=true from hs) Bool.false_ne_true
 |bl i=>
  cases rx;cases y with
  |non=>cases ry;exact PySem.EqNone.eq_bool_none (cR I q (by simp))
  |bl j=>cases ry;exact eq_bool (cR I q Mq)
  |str j=>obtain⟨t',rfl⟩:=ry;exact PySem.EqMixed.eq_bool_str (cR I q (by simp))
  |_=>exact absurd (show false=true from hs) Bool.false_ne_true
 |int i=>
  obtain⟨t,rfl⟩:=rx;cases y with
  |non=>cases ry;exact PySem.EqNone.eq_int_none (cR I q (by simp))
  |int j=>obtain⟨t',rfl⟩:=ry;exact eq_int (cR I q GX)
  |str j=>obtain⟨t',rfl⟩:=ry;exact PySem.EqMixed.eq_int_str (cR I q (by simp))
  |_=>exact absurd (show false=true from hs) Bool.false_ne_true
 |str i=>
  obtain⟨t,rfl⟩:=rx;cases y with
  |non=>cases ry;exact PySem.EqNone.eq_str_none (cR I q (by simp))
  |bl j=>cases ry;exact PySem.EqMixed.eq_str_bool (cR I q (by simp))
  |int j=>obtain⟨t',rfl⟩:=ry;exact PySem.EqMixed.eq_str_int (cR I q (by simp))
  |str j=>obtain⟨t',rfl⟩:=ry;exact eq_str (cR I q Ht)
  |_=>exact absurd (show false=true from hs) Bool.false_ne_true
 |byt i=>
  obtain⟨t,rfl⟩:=rx;cases y with
  |byt j=>obtain⟨t',rfl⟩:=ry;exact W.eq_bytes (cR I q HX)
  |_=>exact absurd (show false=true from hs) Bool.false_ne_true
 |_=>cases y<;>exact absurd (show false=true from hs) Bool.false_ne_true
theorem Wx:OpR X (compareOp .NotEq) rNe:=by
 intro pins s σ H x y v u Q I rx ry h;obtain⟨hs,q⟩:=h;cases x with
 |non=>
  cases rx;cases y with
  |non=>cases ry;exact PySem.EqNone.ne_none_none (cR I q (by simp))
  |bl j=>cases ry;exact PySem.EqNone.ne_none_bool (cR I q (by simp))
  |int j=>obtain⟨t',rfl⟩:=ry;exact PySem.EqNone.ne_none_int (cR I q (by simp))
  |str j=>obtain⟨t',rfl⟩:=ry;exact PySem.EqNone.ne_none_str (cR I q (by simp))
  |_=>exact absurd (show false=true from hs) Bool.false_ne_true
 |bl i=>
  cases rx;cases y with
  |non=>cases ry;exact PySem.EqNone.ne_bool_none (cR I q (by simp))
  |bl j=>cases ry;exact ne_bool (cR I q (congrArg not Mq))
  |str j=>obtain⟨t',rfl⟩:=ry;exact PySem.EqMixed.ne_bool_str (cR I q (by simp))
  |_=>exact absurd (show false=true from hs) Bool.false_ne_true
 |int i=>
  obtain⟨t,rfl⟩:=rx;cases y with
  |non=>cases ry;exact PySem.EqNone.ne_int_none (cR I q (by simp))
  |int j=>obtain⟨t',rfl⟩:=ry;exact ne_int (cR I q (congrArg not GX))
  |str j=>obtain⟨t',rfl⟩:=ry;exact PySem.EqMixed.ne_int_str (cR I q (by simp))
  |_=>exact absurd (show false=true from hs) Bool.false_ne_true
 |str i=>
  obtain⟨t,rfl⟩:=rx;cases y with
  |non=>cases ry;exact PySem.EqNone.ne_str_none (cR I q (by simp))
  |bl j=>cases ry;exact PySem.EqMixed.ne_str_bool (cR I q (by simp))
  |int j=>obtain⟨t',rfl⟩:=ry;exact PySem.EqMixed.ne_str_int (cR I q (by simp))
  |str j=>obtain⟨t',rfl⟩:=ry;exact ne_str (cR I q (congrArg not Ht))
  |_=>exact absurd (show false=true from hs) Bool.false_ne_true
 |byt i=>
  obtain⟨t,rfl⟩:=rx;cases y with
  |byt j=>obtain⟨t',rfl⟩:=ry;exact W.ne_bytes (cR I q (congrArg not HX))
  |_=>exact absurd (show false=true from hs) Bool.false_ne_true
 |_=>cases y<;>exact absurd (show false=true from hs) Bool.false_ne_true
theorem zx:OpR X (compareOp .Lt) (rI0 fun i j=> .bl (decide (i<j))):=aad fun _ _ _ _ _ _ _ q=>lt_int q
theorem QF:OpR X (compareOp .LtE) (rI0 fun i j=> .bl (decide (i<=j))):=aad fun _ _ _ _ _ _ _ q=>le_int q
theorem wM:OpR X (compareOp .Gt) (rI0 fun i j=> .bl (decide (j<i))):=aad fun _ _ _ _ _ _ _ q=>gt_int q
theorem OpR.or{f:Value->Value->Sem Value}{r r':R2}(h:OpR X f r)(h':OpR X f r'):OpR X f (fun x y H Q=>r x y H Q∨r' x y H Q):=by
 intro pins s σ H x y v u Q I rx ry q;rcases q with q|q
 ·exact h pins s σ H x y v u Q I rx ry q
 ·exact h' pins s σ H x y v u Q I rx ry q
theorem cB(b:Expr){op:CmpOp}(h:op≠ .In:=by decide)(h2:op≠ .NotIn:=by decide):behindInMarks op b=false:=by
 have e1:(op==CmpOp.In)=false:=by cases op<;>first|rfl|exact absurd rfl h
 have e2:(op==CmpOp.NotIn)=false:=by cases op<;>first|rfl|exact absurd rfl h2
 cases b<;>simp[behindInMarks,e1,e2]
theorem mW{op:CmpOp}{r:R2}(ho:OpR X (compareOp op) r)(ha:PE X a ta)(hb:PE X b tb)(hm:behindInMarks op b=false):PE X (.Compare a [op] [b] pos) (tOp r ta tb):=by
 intro pins s σ H Q I h;exact wpAny_Compare1 (VN ha hb I h fun v u s2 x y H2 I2 rx ry q=>ho pins s2 σ H2 x y v u Q I2 rx ry q) hm
inductive acB(x:V)(H:Hp)(Q:Bool->Hp->Prop):Prop|mk (k:Bool) (hx:x = .bl k) (q:Q k H)
def Zf(t:TE):TT:=fun σ H Q=>t σ H fun x H'=>acB x H' Q
theorem cg{op:CmpOp}{r:R2}(ho:OpR X (compareOp op) r)(ha:PE X a ta)(hb:PE X b tb)(hm:behindInMarks op b=false):PT X (.Compare a [op] [b] pos) (Zf (tOp r ta tb)):=by
 intro pins s σ H Q I h;refine wpAny_isTrue_Compare1 (thn (ha pins s σ H _ I h) fun v s1 ⟨x,H1,I1,r1,q1⟩=>thn (hb pins s1 σ H1 _ I1 q1) fun u s2 ⟨y,H2,I2,r2,q2⟩=>
  thn (ho pins s2 σ H2 x y v u _ I2 r1 r2 q2) fun c s3 ⟨z,H3,I3,r3,k,e,q3⟩=>?_) hm
 subst e;cases r3;exact wpAny_truthy_bool ⟨H3,I3,q3⟩
theorem Qi{κ:Type}{kvs:List (κ×V)}{vs:List (κ×Value)}(r:KV kvs vs):(!vs.isEmpty)=!kvs.isEmpty:=by
 cases r<;>rfl
theorem Qd{xs:List V}{its:List Value}(r:Vals xs its):(!its.toArray.isEmpty)=!xs.isEmpty:=by
 cases r<;>simp
theorem yL:(sizeLine:Nat)<2^63:=by rw[sizeLine_eq];decide
theorem DQ:OpR X (binaryOp .Add) (fun x y H Q=>∃i j,x = .str i/\y = .str j/\i.length+j.length<=sizeLine/\Q (.str (i++j)) H):=by
 intro pins s σ H x y v u Q I rx ry h;obtain⟨i,j,rfl,rfl,hz,q⟩:=h;obtain⟨t,rfl⟩:=rx;obtain⟨t',rfl⟩:=ry;exact add_str (fun t' tk=>⟨.str (i++j),H,I.tok _,⟨_,rfl⟩,q⟩) hz
theorem vals1{x:V}{us:List Value}(r:Vals [x] us):∃u,us=[u]/\RelV x u:=by
 cases r with
 |cons r1 r2=>cases r2;exact⟨_,rfl,r1⟩
theorem vals2{x y:V}{us:List Value}(r:Vals [x,y] us):∃u w',us=[u,w']/\RelV x u/\RelV y w':=by
 cases r with
 |cons r1 r2=>
  cases r2 with
  |cons r3 r4=>cases r4;exact⟨_,_,rfl,r1,r3⟩
theorem Ge(hc:X.calm=true):rm X (.builtin "max") (fun xs H Q=>∃i j,xs=[.int i,.int j]/\Q (.int (if j>i then j else i)) H):=by
 intro pins s σ H xs us Q I r h;obtain⟨i,j,rfl,q⟩:=h;obtain⟨u,w',rfl,⟨t,rfl⟩,⟨t',rfl⟩⟩:=vals2 r;refine max_two_ints (I.ok.hd hc) fun h' tk k=>⟨_,H,I.kept k,?_,q⟩;by_cases hj:j>i
 ·rw[if_pos hj,if_pos hj];exact⟨_,rfl⟩
 ·rw[if_neg hj,if_neg hj];exact⟨_,rfl⟩
theorem E6(hc:X.calm=true):rm X (.builtin "min") (fun xs H Q=>∃i j,xs=[.int i,.int j]/\Q (.int (if j<i then j else i)) H):=by
 intro pins s σ H xs us Q I r h;obtain⟨i,j,rfl,q⟩:=h;obtain⟨u,w',rfl,⟨t,rfl⟩,⟨t',rfl⟩⟩:=vals2 r;refine min_two_ints (I.ok.hd hc) fun h' tk k=>⟨_,H,I.kept k,?_,q⟩;by_cases hj:j<i
 ·rw[if_pos hj,if_pos hj];exact⟨_,rfl⟩
 ·rw[if_neg hj,if_neg hj];exact⟨_,rfl⟩
theorem Fo:rm X (.type "int") (fun xs H Q=>(∃i,xs=[.int i]/\Q (.int i) H)∨∃k,xs=[.bl k]/\Q (.int (if k then 1 else 0)) H):=by
 intro pins s σ H xs us Q I r h;rcases h with⟨i,rfl,q⟩|⟨k,rfl,q⟩
 ·obtain⟨u,rfl,t,rfl⟩:=vals1 r;exact call_int_int ⟨.int i,H,I,⟨_,rfl⟩,q⟩
 ·obtain⟨u,rfl,r1⟩:=vals1 r;cases r1;exact call_int_bool ⟨.int (if k then 1 else 0),H,I.tok _,⟨_,rfl⟩,q⟩
def aaY(K:W.Frag)(x:V)(H:Hp)(n:Nat):Prop:=
 match x with
 |.str y=>y.length<=sizeLine/\n=y.length
 |.byt y=>y.size<=sizeLine/\n=y.size
 |.ref p=>(∃xs,SqL K H p xs/\n=xs.length)∨∃xs,SqT K H p xs/\n=xs.length
 |_=>False
theorem Ka:rm X (.builtin "len") (fun xs H Q=>∃x n,xs=[x]/\aaY X.K x H n/\Q (.int n) H):=by
 intro pins s σ H xs us Q I r h;obtain⟨x,n,rfl,e,q⟩:=h;obtain⟨u,rfl,rx⟩:=vals1 r;have hl:=yL;have hs:sizeLine=16777216:=sizeLine_eq;cases x with
 |str y=>
  obtain⟨t,rfl⟩:=rx;obtain⟨hy,e'⟩:y.length<=sizeLine/\n=y.length:=e;subst e';exact len_str (by omega) ⟨.int _,H,I.tok _,⟨_,rfl⟩,q⟩
 |byt y=>
  obtain⟨t,rfl⟩:=rx;obtain⟨hy,e'⟩:y.size<=sizeLine/\n=y.size:=e;subst e';exact W.len_bytes (by omega) ⟨.int _,H,I.tok _,⟨_,rfl⟩,q⟩
 |ref p=>
  cases rx;have e':(∃xs,SqL X.K H p xs/\n=xs.length)∨∃xs,SqT X.K H p xs/\n=xs.length:=e;rcases e' with⟨xs,hx,e'⟩|⟨xs,hx,e'⟩
  ·subst e';obtain⟨its,r',pl,hz⟩:=I.list hx;have hlen:=r'.length;exact Calls.call_len_list pl.isList (by simp only[List.size_toArray];omega) ⟨.int xs.length,H,I.tok _,⟨_,by simp only[List.size_toArray];rw[hlen]⟩,q⟩
  ·subst e';obtain⟨its,r',pl,hz⟩:=I.tuple hx;have hlen:=r'.length;exact len_tuple pl (by simp only[List.size_toArray];omega) ⟨.int xs.length,H,I.tok _,⟨_,by simp only[List.size_toArray];rw[hlen]⟩,q⟩
 |_=>exact(show False from e).elim
end
section
variable {prog:Program} {w:World} {A:Around} {E:Value->Shared->Prop} {s:Shared} {K:W.Frag} {x dx C f:Addr} {mA:Str->Option Value} {name:Str} {v:Value}
end
theorem J8.some_of{v:V}{o:Option Value}(r:J8 (some v) o):∃u,o=some u/\RelV v u:=by
 cases o with
 |none=>exact(show False from r).elim
 |some u=>exact⟨u,rfl,r⟩
theorem J8.none_of{o:Option Value}(r:J8 none o):o=none:=by
 cases o with
 |none=>rfl
 |some u=>exact(show False from r).elim
section
variable {P:Program} {w:World} {H H':Hp} {h h':Heap} {a C dx:Addr} {fs fs':List (Str×V)}
end
section
variable {X:Cx} {pins:List (Addr×Obj)} {σ:St} {H:Hp} {s:Shared} {a C dx:Addr} {fs:List (Str×V)} {f:Str} {v:V} {A:Around} {E:Value->Shared->Prop}
end
section
variable {X:Cx} {o e value:Expr} {f:Str} {pos pos' tpos:Pos} {ta tv:TE}
end
section
variable {X:Cx} {pins:List (Addr×Obj)} {σ:St} {H:Hp} {s:Shared} {A:Around} {E:Value->Shared->Prop} {Q:Value->Shared->Prop} {c:Value} {b:Bool}
end
structure jA(k:Nat)(A:Around):Prop where
 hd:A.handled=none
 dp:A.depth+3*k+5<recursionLimit
 un:A.units+16*k+200<cLine
theorem jA.mono{j k:Nat}{A:Around}(r:jA k A)(h:j<=k):jA j A:=⟨r.hd,by have:=r.dp;omega,by have:=r.un;omega⟩
theorem jA.deeper{k:Nat}{A:Around}(r:jA (k+1) A)(env:Env):jA k (A.deeper env):=
 ⟨r.hd,by have:=r.dp;show A.depth+1+3*k+5<_;omega,by have:=r.un;show A.units+3+16*k+200<_;omega⟩
theorem jA.depth{k:Nat}{A:Around}(r:jA k A):A.depth<recursionLimit:=by have:=r.dp;omega
theorem jA.units{k:Nat}{A:Around}(r:jA k A):A.units+64<cLine:=by have:=r.un;omega
theorem jA.Mj{k:Nat}{A:Around}(r:jA k A):A.units<cLine:=by have:=r.un;omega
def abe:TA:=fun _ H Q=>Q [] H
def Aw(ta:TE)(tr:TA):TA:=fun σ H Q=>ta σ H fun x H1=>tr σ H1 fun xs H2=>Q (x::xs) H2
section
variable {X:Cx} {e:Expr} {es:List Expr} {te:TE} {t:TA} {pos:Pos}
theorem ak:PA X [] abe:=fun _ _ _ _ H Q I h=>Calls.spliced_nil ⟨[],H,I,.nil,h⟩
theorem aF(ha:PE X e te)(hr:PA X es t)(hs:starEach (e::es) X.env=(false,eval e X.env)::starEach es X.env:=by rfl):PA X (e::es) (Aw te t):=by
 intro pos pins s σ H Q I h;rw[hs];show wpAny _ _ (spliced ((false,eval e X.env)::backTo pos (starEach es X.env))) _ _ s;refine Calls.spliced_cons (thn (ha pins s σ H _ I h) fun u s1 ⟨x,H1,I1,r1,q1⟩=>?_);exact thn (hr pos pins s1 σ H1 _ I1 q1) fun us s2 ⟨xs,H2,I2,r2,q2⟩=>⟨x::xs,H2,I2,.cons r1 r2,q2⟩
inductive aaU(xs:List V)(o:HO)(H:Hp)(Q:VK):Prop|mk (hz:xs.length<=sizeLine) (q:∀p,H p=none->Q (.ref p) (upd H p o))
def acN(t:TA):TE:=fun σ H Q=>t σ H fun xs H1=>aaU xs (.tup xs) H1 Q
def acG(t:TA):TE:=fun σ H Q=>t σ H fun xs H1=>aaU xs (.lst xs) H1 Q
theorem jH{x1}(h:PA X es t):PE X (.Tuple es x1 pos) (acN t):=by
 intro pins s σ H Q I hq;refine wpAny_Tuple_spliced (thn (h pos pins s σ H _ I hq) fun us s1 ⟨xs,H1,I1,r,z,q⟩=>⟨by rw[<-r.length];exact z,?_⟩);have hf:H1 s1.heap.objs.size=none:=I1.hok.fresh (Nat.le_refl _);refine⟨.ref s1.heap.objs.size,upd H1 s1.heap.objs.size (.tup xs),I1.laid (t':=s1.toks) (fun b u e=>Heap.get?_push_of_some _ e) (Nat.le_refl _) ?_,rfl,q _ hf⟩;exact⟨z,us,r,⟨_,Heap.get?_push_size _ rfl,rfl,_,rfl⟩⟩
theorem jE(h:PA X es t):PE X (.List es pos) (acG t):=by
 intro pins s σ H Q I hq;refine wpAny_List_spliced (thn (h pos pins s σ H _ I hq) fun us s1 ⟨xs,H1,I1,r,z,q⟩=>⟨by rw[<-r.length];exact z,?_⟩);have hf:H1 s1.heap.objs.size=none:=I1.hok.fresh (Nat.le_refl _);refine⟨.ref s1.heap.objs.size,upd H1 s1.heap.objs.size (.lst xs),I1.laid (t':=s1.toks) (fun b u e=>Heap.get?_push_of_some _ e) (Nat.le_refl _) ?_,rfl,q _ hf⟩;exact⟨z,us,0,r,Heap.get?_push_size _ rfl⟩
end
abbrev Sp:=List V->Hp->VK->XK->Prop
abbrev CXT:=List Env->Hp->Shared->XK->Value->Shared->Prop
structure Nk(P:Program)(w:World)(K:W.Frag)(mg:Str->Option Value)(base:Heap)(A:Around)(outer:List Env)(s:Shared)(H:Hp):Prop where
 frames:A.frames=some outer
 mod:Mod K mg base
 bs:∀b o,base.get? b=some o->s.heap.get? b=some o/\H b=none
 bsz:base.objs.size<=s.heap.objs.size
 DL:s.heap.FunFrames base outer
 frf:∀b∈frs outer,H b=none
 hok:HOk P w H s.heap
 bare:AllBare s.gens
def CE(outer:List Env)(P:Program)(w:World)(H:Hp)(s:Shared)(Q:VK)(u:Value)(s':Shared):Prop:=
 ∃v H',s'.os=s.os/\AllBare s'.gens/\Un (frs outer) [] H H' s.heap s'.heap/\HOk P w H' s'.heap/\RelV v u/\Q v H'
def CR(CX:CXT)(outer:List Env)(P:Program)(w:World)(H:Hp)(s:Shared)(Q:VK)(E:XK)(r:Result)(s':Shared):Prop:=
 match r with
 |.ok (.ret u)=>CE outer P w H s Q u s'
 |.ok _=>False
 |.error e=>CX outer H s E e s'
structure E9(P:Program)(w:World)(K:W.Frag)(mg:Str->Option Value)(base:Heap)(CX:CXT)(k:Nat)(f:Addr)(fd:FuncData)(ps:List Str)(sp:Sp):Prop where
 len:∀vs H Q E,sp vs H Q E->vs.length=ps.length
 run:∀(A:Around) (outer:List Env) (s:Shared) (H:Hp) (args:Args) (us:List Value) (vs:List V) (Q:VK) (E:XK),jA k A->Nk P w K mg base A outer s H->BindsTo s fd args (ps.zip us)->Vals vs us->sp vs H Q E->
  codeAny (model P w) A (.call (.ref f) args) (CR CX outer P w H s Q E) s
section
variable {X:Cx} {pins:List (Addr×Obj)} {σ:St} {H:Hp} {s s':Shared}
theorem Inv.env0(I:Inv X pins σ H s):Nk X.prog X.w X.K X.mg X.base X.A X.stack s H:=
 ⟨I.ok.frames,I.ok.mod,I.bs,Nat.le_trans I.ok.bsz I.sz,I.stack,I.Bm,I.hok,I.bare⟩
theorem Inv.after{Q:VK}{u:Value}(I:Inv X pins σ H s)(h:CE X.stack X.prog X.w H s Q u s'):EP X pins σ Q u s':=by
 obtain⟨v,H',os,bare,un,hok,r,q⟩:=h;obtain⟨hh,g,d,t,os'⟩:=s';obtain rfl:os'=s.os:=os;exact⟨v,H',I.call (h':=hh) (g':=g) (d':=d) (t':=t) (ch:=[]) un hok bare (fun b z=>absurd z (by simp)),r,q⟩
end
def K7(sp:Sp)(dvs:List V)(E:XK)(t:TA):TE:=fun σ H Q=>t σ H fun vs H1=>sp (vs++dvs) H1 Q E
def Binds(K:W.Frag)(fd:FuncData)(ps:List Str)(ds:List Value):Prop:=
 ∀(s:Shared) (us:List Value),K.In s.heap->(us++ds).length=ps.length->BindsTo s fd ⟨us,[]⟩ (ps.zip (us++ds))
theorem Binds.all{K:W.Frag}{fd:FuncData}{ps:List Str}(h:∀us:List Value,us.length=ps.length->bindArgs fd ⟨us,[]⟩=pure (ps.zip us)):Binds K fd ps []:=fun s us _ hl=>by
 rw[List.append_nil]at hl⊢;exact .of_eq (h us hl)
def Passes(CX:CXT)(X:Cx)(E:XK):Prop:=∀(pins:List (Addr×Obj)) (σ:St) (H:Hp) (s:Shared) (e:Value) (s':Shared),Inv X pins σ H s->CX X.stack H s E e s'->X.xe e s'
section
variable {X:Cx} {CX:CXT} {k:Nat} {f C:Addr} {fd:FuncData} {ps:List Str} {sp:Sp} {dvs:List V} {ds:List Value} {E:XK} {x m:Str} {p pos apos:Pos} {e o:Expr} {es:List Expr} {ta:TE} {t:TA}
theorem Li{pins:List (Addr×Obj)}{σ:St}{H:Hp}{s:Shared}{Q:VK}{us:List Value}{vs:List V}(F:E9 X.prog X.w X.K X.mg X.base CX k f fd ps sp)(hr:jA k X.A)(hb:Binds X.K fd ps ds)(hd:Vals dvs ds)(hx:Passes CX X E)
  (I:Inv X pins σ H s) (r:Vals vs us) (h:sp (vs++dvs) H Q E):wpAny (model X.prog X.w) X.A (call (.ref f) us) (EP X pins σ Q) X.xe s:=by
 have r2:Vals (vs++dvs) (us++ds):=r.append hd;have hl:(us++ds).length=ps.length:=by rw[<-r2.length];exact F.len _ _ _ _ h
 refine wpAny_call (codeAny_mono (F.run X.A X.stack s H ⟨us,[]⟩ (us++ds) (vs++dvs) Q E hr I.env0 (hb s us I.kIn hl) r2 h) fun r s' hq=>?_);cases r with
 |error e=>exact hx pins σ H s e s' I hq
 |ok fl=>
  cases fl with
  |ret u=>exact I.after hq
  |next=>exact False.elim hq
  |brk=>exact False.elim hq
  |cont=>exact False.elim hq
theorem AF(F:E9 X.prog X.w X.K X.mg X.base CX k f fd ps sp)(hr:jA k X.A)(hg:Gl X x)(hm:X.mg x=some (.ref f))(hk:W.keepIn X.K (.ref f)=true)(hb:Binds X.K fd ps ds)(hd:Vals dvs ds)(hx:Passes CX X E)
  (ha:PA X (e::es) t) (hdb:(x==("__debug__" : Str))=false:=by decide) (he:starEach (e::es) X.env=(false,eval e X.env)::starEach es X.env:=by rfl) (hpl:(backTo pos (starEach es X.env)).any (·.1)=false:=by rfl):
  PE X (.Call (.Name x p) (e::es) [] pos) (K7 sp dvs E t):=by
 intro pins s σ H Q I h;refine wpAny_Call_Name_kw (uX I hg hm ?_ hdb);refine W.callWith_K (h₀:=X.base) I.ok.mod.kin hk (thn (ha pos pins s σ H _ I h) fun us s1 ⟨vs,H1,I1,r,q⟩=>⟨I1.kIn,?_⟩) he hpl;exact Li F hr hb hd hx I1 r q
end
section
variable {X:Cx} {CX:CXT} {k:Nat} {f C:Addr} {fd:FuncData} {ps ks:List Str} {sp:Sp} {E:XK} {x m:Str} {p pos apos kpos:Pos} {e o:Expr} {es:List Expr} {kws:List Keyword} {te ta:TE} {t tk:TA} {nm:Option Str}
variable {g:List Value->List Value->List Value} {gV:List V->List V->List V}
end
structure aO(N P:List Str)(sc:Scope):Prop where
 kind:sc.kind = .function
 co:sc.isCoroutine=false
 gen:sc.isGenerator=false
 nd:N.Nodup
 pre:N.take P.length=P
 par:∀x∈P,sc.names.lookup x=some .local∨sc.names.lookup x=some .cell
 EW:∀y∈sc.names,y.2≠ .free
theorem yU{kindOf:Str->Option NameKind}{x:Str}:∀{binds:List (Str×Value)} {m:Str->Option Value},(∀v,(x,v)∉binds)->bindL kindOf binds m x=m x
 |[],_,_=>rfl
 |(n,v)::r,m,h=>by
  unfold bindL;rw[yU fun w hw=>h w (List.mem_cons_of_mem _ hw)];split
  ·have:x≠n:=by rintro rfl;exact h v List.mem_cons_self
   simp[this]
  ·rfl
theorem Aj{kindOf:Str->Option NameKind}{x:Str}:∀{binds:List (Str×Value)} {m:Str->Option Value},(∀v,(x,v)∉binds)->bindC kindOf binds m x=m x
 |[],_,_=>rfl
 |(n,v)::r,m,h=>by
  unfold bindC;rw[Aj fun w hw=>h w (List.mem_cons_of_mem _ hw)];split
  ·rfl
  ·have:x≠n:=by rintro rfl;exact h v List.mem_cons_self
   simp[this]
theorem yD{kindOf:Str->Option NameKind}{x:Str}{v:Value}:∀{P:List Str} {vs:List Value} {i:Nat} {m:Str->Option Value},P.Nodup->P[i]?=some x->vs[i]?=some v->kindOf x=some .local->
  bindL kindOf (P.zip vs) m x=some v
 |[],_,_,_,_,h,_,_=>by simp at h
 |_::_,[],_,_,_,_,h,_=>by simp at h
 |p::P,w::vs,0,m,nd,h1,h2,hk=>by
  simp at h1 h2;subst h1;subst h2;show bindL kindOf ((p,w)::P.zip vs) m p=_;unfold bindL;rw[yU fun v hv=>(List.nodup_cons.mp nd).1 (List.of_mem_zip hv).1,if_pos hk];simp
 |p::P,w::vs,i+1,m,nd,h1,h2,hk=>by
  show bindL kindOf ((p,w)::P.zip vs) m x=_;unfold bindL;exact yD (i:=i) (List.nodup_cons.mp nd).2 (by simpa using h1) (by simpa using h2) hk
theorem yN{kindOf:Str->Option NameKind}{x:Str}{v:Value}:∀{P:List Str} {vs:List Value} {i:Nat} {m:Str->Option Value},P.Nodup->P[i]?=some x->vs[i]?=some v->kindOf x≠some .local->
  bindC kindOf (P.zip vs) m x=some v
 |[],_,_,_,_,h,_,_=>by simp at h
 |_::_,[],_,_,_,_,h,_=>by simp at h
 |p::P,w::vs,0,m,nd,h1,h2,hk=>by
  simp at h1 h2;subst h1;subst h2;show bindC kindOf ((p,w)::P.zip vs) m p=_;unfold bindC;rw[Aj fun v hv=>(List.nodup_cons.mp nd).1 (List.of_mem_zip hv).1,if_neg hk];simp
 |p::P,w::vs,i+1,m,nd,h1,h2,hk=>by
  show bindC kindOf ((p,w)::P.zip vs) m x=_;unfold bindC;exact yN (i:=i) (List.nodup_cons.mp nd).2 (by simpa using h1) (by simpa using h2) hk
def start(N:List Str)(vs:List V):St:=vs.map some++List.replicate (N.length-vs.length) none
def Kl(CX:CXT)(P:Program)(w:World)(K:W.Frag)(mg:Str->Option Value)(base:Heap)(N:List Str)(qual:Str)(scope:Scope)(f:Addr)(cd:Value)(A:Around)(outer:List Env)(s:Shared)(H:Hp)(E:XK):Cx where
 prog:=P
 w:=w
 K:=K
 mg:=mg
 base:=base
 A:=A.deeper (envOfC qual scope s.heap.objs.size f cd)
 N:=N
 s₀:=s
 H₀:=H
 env:=envOfC qual scope s.heap.objs.size f cd
 outer:=outer
 stack:=envOfC qual scope s.heap.objs.size f cd::outer
 ex:=[]
 calm:=true
 fn:=fun _=>true
 pn:=[]
 xe:=fun e s'=>wpAny (model P w) (A.deeper (envOfC qual scope s.heap.objs.size f cd)) (leaving (envOfC qual scope s.heap.objs.size f cd) e) (fun _ s''=>CX outer H s E e s'') (fun e' s''=>CX outer H s E e' s'') s'
theorem Dg{sc:Scope}{n:Nat}{x:Str}(h:sc.names.lookup x=some .cell):∃c,(cellsFrom n sc.names []).lookup x=some c:=by
 have q:=W.cellsFrom_some sc.names n [] (.inl h);exact Option.isSome_iff_exists.mp q
theorem zW{CX:CXT}{P:Program}{w:World}{K:W.Frag}{mg:Str->Option Value}{base:Heap}{N ps:List Str}{qual:Str}{scope:Scope}{f:Addr}{cd:Value}{A:Around}{outer:List Env}{s s1:Shared}{H:Hp}{E:XK}{us:List Value}{vs:List V}
  (S:aO N ps scope) (hd:A.handled=none) (e0:Nk P w K mg base A outer s H) (hl:vs.length=ps.length) (r:Vals vs us)
  (x:InCallC s s.heap.objs.size (bindL (envOfC qual scope s.heap.objs.size f cd).kindOf (ps.zip us) fun _=>none) (cellsFrom (s.heap.objs.size+1) scope.names []) (bindC (envOfC qual scope s.heap.objs.size f cd).kindOf (ps.zip us) fun _=>none) s1):
  Inv (Kl CX P w K mg base N qual scope f cd A outer s H E) [] (start N vs) H s1:=by
 have hpl:ps.length<=N.length:=by have:=congrArg List.length S.pre;rw[List.length_take]at this;omega
 obtain⟨h1,tk,rfl,hk⟩:=x.done;have noA:∀b:Addr,b∉(Kl CX P w K mg base N qual scope f cd A outer s H E).ex:=fun b z=>absurd (show b∈([]:List Addr)from z) (by simp);refine⟨⟨e0.mod,S.kind,rfl,rfl,Nat.le_refl _,fun y z c h1 h2=>?_,fun y hy=>?_,fun y c _ h=>?_,fun _=>hd,Around.frames_deeper e0.frames,.inr ⟨rfl,rfl⟩,fun b z=>absurd z (noA b),e0.bs,e0.bsz,fun b _ _=>noA b,fun b z=>absurd z (noA b),e0.DL,e0.frf⟩,
  rfl,e0.bare,Un.kept hk,⟨_,x.toInCall.ns,fun i y v h1 h2 h3=>?_⟩,fun y c h=>⟨_,x.cell y c h⟩,e0.hok.fresh (Nat.le_refl _),fun y c h=>?_,fun p hp=>absurd (show p∈([]:List (Addr×Obj))from hp) (by simp),e0.hok.kept hk,?_⟩
 ·exact name_of_addr x.apart (PySem.mem_of_lookup h1) (PySem.mem_of_lookup h2)
 ·have hy:scope.names.lookup y=some .cell∨scope.names.lookup y=some .free:=hy;rcases hy with hy|hy
  ·exact Dg hy
  ·exact absurd rfl (S.EW _ (PySem.mem_of_lookup hy))
 ·exact Nat.le_of_lt (x.above y c (PySem.mem_of_lookup h))
 ·have hi:i<vs.length:=by
   unfold start at h2;by_cases hi:i<vs.length
   ·exact hi
   ·rw[List.getElem?_append_right (by simpa using hi)]at h2;rw[List.getElem?_replicate]at h2;split at h2<;>cases h2
  have ha:vs[i]?=some v:=by
   unfold start at h2;rw[List.getElem?_append_left (by simpa using hi),List.getElem?_map]at h2;cases e:vs[i]? with
   |none=>rw[e]at h2;cases h2
   |some a=>rw[e]at h2;cases h2;rfl
  obtain⟨u,hu,rv⟩:=r.get ha;have hp:ps[i]?=some y:=by
   rw[<-S.pre,List.getElem?_take_of_lt (by omega)];exact h1
  have ndP:ps.Nodup:=by rw[<-S.pre];exact S.nd.sublist (List.take_sublist _ _)
  refine⟨u,rv,?_⟩;rcases S.par y (List.mem_of_getElem? hp)with k|k
  ·exact .inl ⟨k,yD ndP hp hu k⟩
  ·obtain⟨c,e⟩:=Dg (n:=s.heap.objs.size+1) k;refine .inr ⟨.inl k,c,e,?_⟩;have q:=x.cell y c e;rw[yN ndP hp hu (by show scope.names.lookup y≠_;rw[k];decide)]at q;exact q
 ·exact e0.hok.fresh (Nat.le_of_lt (x.above y c (PySem.mem_of_lookup h)))
 ·unfold start;show _=N.length;rw[List.length_append,List.length_map,List.length_replicate];omega
theorem QX{CX:CXT}{P:Program}{w:World}{K:W.Frag}{mg:Str->Option Value}{base:Heap}{k:Nat}{f:Addr}{name qual:Str}{params:Arguments}{body:List Stmt}{scope:Scope}{dV kV doc pm cdv ct oc:Value}{an od:Option Addr}
  {osl:Array (Option Value)} {N ps:List Str} {sp:Sp} (lk:K.lookup f=some ⟨oc,od,.func (W.fnOf name qual params body scope dV kV doc pm an cdv ct),osl⟩) (hcd:W.codeIn K cdv qual=true) (S:aO N ps scope)
  (len:∀vs H Q E,sp vs H Q E->vs.length=ps.length)
  (hbody:∀(A:Around) (outer:List Env) (s:Shared) (H:Hp) (vs:List V) (Q:VK) (E:XK),jA k (A.deeper (envOfC qual scope s.heap.objs.size f cdv))->sp vs H Q E->
   ∃t,PSs (Kl CX P w K mg base N qual scope f cdv A outer s H E) body t/\t { nx:=fun _ H'=>Q .non H',rt:=Q } (start N vs) H):
  E9 P w K mg base CX (k+1) f (W.fnOf name qual params body scope dV kV doc pm an cdv ct) ps sp:=by
 refine⟨len,fun A outer s H args us vs Q E hr e0 hb r hsp=>?_⟩;have hl:=len _ _ _ _ hsp;have KX:K.In s.heap:=e0.mod.kin.keeps fun b o e=>(e0.bs b o e).1;have lim:s.heap.NoLimit:=e0.mod.nolimit.keeps fun b o e=>(e0.bs b o e).1;have hkind:∀y∈ps.zip us,scope.names.lookup y.1=some .local∨(scope.names.lookup y.1=some .cell/\((cellsFrom (s.heap.objs.size+1) scope.names []).lookup y.1).isSome=true):=fun⟨n,v⟩ hy=>by
  rcases S.par n (List.of_mem_zip hy).1 with q|q
  ·exact .inl q
  ·exact .inr ⟨q,W.cellsFrom_some _ _ _ (.inl q)⟩
 refine codeAny_call_function hr.depth (KX _ _ lk) rfl S.co S.gen rfl (W.codeRec_of KX hcd) (hb _ _ _ _ ?_);refine wpAny_newFunctionEnv_cells S.kind hkind fun env he s1 x=>?_;subst he;refine⟨lim.keeps x.toInCall.keep,codeAny_func ?_⟩;obtain⟨t,ht,hq⟩:=hbody A outer s H vs Q E (hr.deeper _) hsp;have I:Inv (Kl CX P w K mg base N qual scope f cdv A outer s H E) [] (start N vs) H s1:=zW S hr.hd e0 hl r x;refine wpAny_mono (ht [] s1 (start N vs) H _ I hq) (fun fl s' hs=>?_) fun e s' hs=>hs;have fin:∀{σ':St} {H':Hp} {v:V} {u:Value},Inv (Kl CX P w K mg base N qual scope f cdv A outer s H E) [] σ' H' s'->RelV v u->Q v H'->CE outer P w H s Q u s':=
  fun {σ' H' v u} J rv q=>⟨v,H',J.os,J.bare,J.base,J.hok,rv,q⟩
 cases fl with
 |ret u=>
  obtain⟨v,σ',H',J,rv,q⟩:=hs;exact fin J rv q
 |next=>
  obtain⟨σ',H',J,q⟩:=hs;exact fin (v:=V.non) (u:=Value.none) J rfl q
 |brk=>
  obtain⟨_,_,_,q⟩:=hs;exact False.elim q
 |cont=>
  obtain⟨_,_,_,q⟩:=hs;exact False.elim q
section
variable {X:Cx} {x:Str} {p pos:Pos} {e:Expr} {es:List Expr} {t:TA} {id T:String} {r:List V->Hp->VK->Prop}
def tCB(r:List V->Hp->VK->Prop)(t:TA):TE:=fun σ H Q=>t σ H fun vs H1=>r vs H1 Q
theorem aN(hc:rm X (.builtin id) r)(hg:Gl X x)(hm:X.mg x=none)(hv:bootBuiltins x=some (.builtin id))(ha:PA X (e::es) t)(hn:x≠ "__name__" := by decide)(hdb:(x==("__debug__" : Str))=false:=by decide)
  (he:starEach (e::es) X.env=(false,eval e X.env)::starEach es X.env:=by rfl) (hpl:(backTo pos (starEach es X.env)).any (·.1)=false:=by rfl):PE X (.Call (.Name x p) (e::es) [] pos) (tCB r t):=by
 intro pins s σ H Q I h;refine wpAny_Call_Name_kw (zq I hg hm hv ?_ hn hdb);exact PyProof.Rows.callWith_builtin1 (thn (ha pos pins s σ H _ I h) fun us s1 ⟨vs,H1,I1,r1,q1⟩=>hc pins s1 σ H1 vs us Q I1 r1 q1) he hpl
theorem bV(hc:rm X (.type T) r)(hg:Gl X x)(hm:X.mg x=none)(hv:bootBuiltins x=some (.type T))(ha:PA X (e::es) t)(hn:x≠ "__name__" := by decide)(hdb:(x==("__debug__" : Str))=false:=by decide)
  (he:starEach (e::es) X.env=(false,eval e X.env)::starEach es X.env:=by rfl) (hpl:(backTo pos (starEach es X.env)).any (·.1)=false:=by rfl):PE X (.Call (.Name x p) (e::es) [] pos) (tCB r t):=by
 intro pins s σ H Q I h;refine wpAny_Call_Name_kw (zq I hg hm hv ?_ hn hdb);exact PyProof.Rows.callWith_type1 (thn (ha pos pins s σ H _ I h) fun us s1 ⟨vs,H1,I1,r1,q1⟩=>hc pins s1 σ H1 vs us Q I1 r1 q1) he hpl
end
end L2
namespace HT
open PySem PyProof.Rows
section
open PySem.SeqAt
open PySem.AutoSeq1 (wpAny_loadPart')
open PySem.MeetsSeq PySem.MeetsSeq2 PySem.MeetsSeq3
end
section
variable {prog:Program} {w:World} {A:Around} {E:Value->Shared->Prop} {s:Shared}
theorem MN{t b:Addr}{vs ws:List Value}{Q:Value->Shared->Prop}(ht:IsTup s.heap t vs.toArray)(hb:IsTup s.heap b ws.toArray)(hv:vs≠[])
  (h1:ws=[]->Q (.ref t) s) (h2:ws≠[]->Q (.ref s.heap.objs.size) { s with heap:=s.heap.push { cls:= .type "tuple",data:= .seq (vs++ws).toArray } })
  (hsz:vs.length+ws.length<=sizeLine):wpAny (model prog w) A (binaryOp .Add (.ref t) (.ref b)) Q E s:=by
 obtain⟨⟨cls,dd,data,sl⟩,ho,hc,n,hd⟩:=id ht;obtain⟨⟨cls2,dd2,data2,sl2⟩,ho2,hc2,n2,hd2⟩:=id hb;simp only at hc hd hc2 hd2;subst hc hd hc2 hd2;have e:vs.toArray++ws.toArray=(vs++ws).toArray:=by simp
 by_cases hw:ws=[]
 ·exact concat_meets ⟨_,ho,rfl⟩ ⟨_,ho2,rfl⟩ noFill_tuple_add seq_tuple_add PySem.F.slot_tuple_add PySem.F.entry_tuple_add (PySem.F.args_tuple_add_2 _ _)
   (tuple_addW1 t b vs.toArray ws.toArray n n2 dd dd2 sl sl2 (by simpa using hv) (by simp[hw])) ⟨ho,ho2,h1 hw⟩
 ·refine concat_meets ⟨_,ho,rfl⟩ ⟨_,ho2,rfl⟩ noFill_tuple_add seq_tuple_add PySem.F.slot_tuple_add PySem.F.entry_tuple_add (PySem.F.args_tuple_add_2 _ _)
   (tuple_addW2 t b vs.toArray ws.toArray n n2 dd dd2 sl sl2 (by simpa using hv) (by simpa using hw) (by rw[List.size_toArray,List.size_toArray];exact hsz)) ⟨ho,ho2,?_⟩
  rw[e];exact h2 hw
def sIx(n d:Nat):Option Int->Nat
 |none=>d
 |some v=>if v<0 then(v+(n:Int)).toNat else min v.toNat n
theorem iW(n d:Nat):sIx n d none=d:=rfl
theorem kZ(n d k:Nat):sIx n d (some (k:Int))=min k n:=by
 show(if(k:Int)<0 then((k:Int)+(n:Int)).toNat else min (k:Int).toNat n)=min k n;rw[if_neg (by omega),Int.toNat_natCast]
theorem Tz(n d:Nat)(hd:d<=n)(o:Option Int):sIx n d o<=n:=by
 cases o with
 |none=>exact hd
 |some v=>
  show(if v<0 then(v+(n:Int)).toNat else min v.toNat n)<=n;by_cases hv:v<0
  ·rw[if_pos hv];omega
  ·rw[if_neg hv];exact Nat.min_le_right _ _
theorem Jg(v:Int)(n d:Nat):(if v<0 then max (v+(n:Int)) 0 else min v (n:Int))=((sIx n d (some v):Nat):Int):=by
 show(if v<0 then max (v+(n:Int)) 0 else min v (n:Int))=(((if v<0 then(v+(n:Int)).toNat else min v.toNat n):Nat):Int);by_cases hv:v<0
 ·simp only[if_pos hv];omega
 ·simp only[if_neg hv];omega
theorem DM(lo hi:Option Int)(n:Nat):Builtin.Slice.sliceAdjust lo hi 1 (n:Int)=(((sIx n 0 lo:Nat):Int),((sIx n n hi:Nat):Int)):=by
 have h1:¬((1:Int)<0):=by omega
 unfold Builtin.Slice.sliceAdjust;simp only[h1,if_false];refine Prod.ext ?_ ?_
 ·cases lo with
  |none=>rfl
  |some v=>exact Jg v n 0
 ·cases hi with
  |none=>rfl
  |some v=>exact Jg v n n
theorem DC(i j:Nat):Builtin.Slice.slicePlaces (i:Int) (j:Int) 1=j-i:=by
 unfold Builtin.Slice.slicePlaces;have h1:(1:Int)>0:=by omega
 simp only[h1,if_true,Int.ediv_one];split<;>omega
theorem wz{v:Value}{o:Option Int}{Q:Option Int->Shared->Prop}(p:IsPart v o)(h:Q o s):wpAny (model prog w) A (Builtin.Slice.slicePartIndex v) Q E s:=by
 cases p with
 |none=>exact slicePart_none h
 |int i t=>exact slicePart_int h
theorem mq{sl:Addr}{vl vu:Value}{lo hi:Option Int}{n:Nat}{Q:Int×Int×Nat->Shared->Prop}(hs:s.heap.IsSliceOf sl vl vu .none)(pl:IsPart vl lo)(pu:IsPart vu hi)
  (h:Q (((sIx n 0 lo:Nat):Int),1,sIx n n hi-sIx n 0 lo) s):wpAny (model prog w) A (Builtin.Slice.sliceApplied (.ref sl) (pure (n:Int))) Q E s:=by
 obtain⟨os,hos,hcs,hds⟩:=id hs;unfold Builtin.Slice.sliceApplied Builtin.Slice.sliceFields;refine wpAny_bind (wpAny_bind (wpAny_field hos hds (x:=vl) rfl (wpAny_bind (wpAny_field hos hds (x:=vu) rfl (wpAny_bind (wpAny_field hos hds (x:= .none) rfl (wpAny_pure ?_)))))));refine wpAny_bind (slicePart_none ?_);show wpAny _ _ (if((1:Int)==0)=true then _ else _) _ _ s;rw[if_neg (by decide)];refine wpAny_bind (wz pl (wpAny_bind (wz pu (wpAny_bind (wpAny_pure ?_)))));show wpAny _ _ (match Builtin.Slice.sliceAdjust lo hi 1 (n:Int)with|(lo,hi)=>pure (lo,(1:Int),Builtin.Slice.slicePlaces lo hi 1)) _ _ s
 rw[DM lo hi n];show wpAny _ _ (pure (((sIx n 0 lo:Nat):Int),(1:Int),Builtin.Slice.slicePlaces ((sIx n 0 lo:Nat):Int) ((sIx n n hi:Nat):Int) 1)) _ _ s;rw[DC];exact wpAny_pure h
theorem JQ(xs:Array Value)(i k:Nat):((List.range k).filterMap fun(m:Nat)=>xs[((i:Int)+(m:Int)*1).toNat]?).toArray=((xs.toList.drop i).take k).toArray:=by
 have e:(fun(m:Nat)=>xs[((i:Int)+(m:Int)*1).toNat]?)=fun m=>xs[i+m]?:=by
  funext m
  have:((i:Int)+(m:Int)*1).toNat=i+m:=by omega
  rw[this]
 rw[e];have:=pick_run xs i k;rw[List.filterMap_map]at this;have e2:((fun x=>xs[x]?)∘fun x=>i+x)=fun m=>xs[i+m]?:=rfl;rw[e2]at this;rw[this]
theorem rT{t sl:Addr}{items:Array Value}{vl vu:Value}{lo hi:Option Int}{Q:Value->Shared->Prop}(ht:IsTup s.heap t items)(hs:s.heap.IsSliceOf sl vl vu .none)(pl:IsPart vl lo)(pu:IsPart vu hi)
  (hw:¬(sIx items.size 0 lo=0/\sIx items.size items.size hi=items.size))
  (h:Q (.ref s.heap.objs.size) { s with heap:=s.heap.push { cls:= .type "tuple",data:= .seq ((items.toList.drop (sIx items.size 0 lo)).take (sIx items.size items.size hi-sIx items.size 0 lo)).toArray } })
  (hsz:items.size<=sizeLine):wpAny (model prog w) A (getItem (.ref t) (.ref sl)) Q E s:=by
 have Kg:sizeOk (.seq ((items.toList.drop (sIx items.size 0 lo)).take (sIx items.size items.size hi-sIx items.size 0 lo)).toArray):=by
  show((items.toList.drop (sIx items.size 0 lo)).take (sIx items.size items.size hi-sIx items.size 0 lo)).toArray.size<=sizeLine;rw[List.size_toArray,List.length_take,List.length_drop,Array.length_toList];omega
 have hj:sIx items.size items.size hi<=items.size:=Tz _ _ (Nat.le_refl _) hi;obtain⟨os,hos,hcs,hds⟩:=id hs;have hTs:s.TypeIs (.ref sl) "slice" := ⟨os,hos,hcs⟩;unfold getItem;try with_reducible refine wpAny_holding ?_
 first|refine wpAny_bind (wpAny_pure ?_)|skip
 refine wpAny_bind (wpAny_sequenceKey ht.typeIs (by decide) ?_);refine wpAny_bind (wpAny_callSpecial?_slot (name:=Str.ofString "__getitem__") ht.typeIs PyProof.Rows.slot_tuple_getitem
  (wpAny_call_entry PyProof.Rows.slot_tuple_getitem ht.typeIs entry_tuple_getitem ?_ (args_tuple_getitem _ _)))
 show wpAny _ _ (Builtin.Tuple.tupleItemsOf (.ref t)>>=_) _ _ s;refine wpAny_bind (tupleItemsOf_ ht ?_);refine wpAny_bind (wpAny_typeOf hTs ?_);rw[if_pos (by decide)];refine wpAny_bind (mq hs pl pu ?_);have hno:¬((((sIx items.size 0 lo:Nat):Int)==0&&(1:Int)==1&&(sIx items.size items.size hi-sIx items.size 0 lo)==items.size)=true):=by
  intro q;rw[Bool.and_eq_true,Bool.and_eq_true]at q;have q1:((sIx items.size 0 lo:Nat):Int)=0:=eq_of_beq q.1.1;have q2:sIx items.size items.size hi-sIx items.size 0 lo=items.size:=eq_of_beq q.2;exact hw ⟨by omega,by omega⟩
 show wpAny _ _ (if(((sIx items.size 0 lo:Nat):Int)==0&&(1:Int)==1&&(sIx items.size items.size hi-sIx items.size 0 lo)==items.size)=true then _ else _) _ _ s;rw[if_neg hno,JQ];first
  |exact wpAny_bind (m:=Builtin.Tuple.tupleExact _) (wpAny_newObj_type (wpAny_pure ⟨_,rfl,wpAny_pure h⟩) Kg)
  |exact wpAny_bind (m:=Builtin.Tuple.tupleExact _) (wpAny_newObj_type (wpAny_bind (wpAny_pure (wpAny_pure ⟨_,rfl,wpAny_pure h⟩))) Kg)
  |exact wpAny_bind (wpAny_bind (m:=Builtin.Tuple.tupleExact _) (wpAny_newObj_type (wpAny_pure (wpAny_pure ⟨_,rfl,wpAny_pure h⟩)) Kg))
  |exact wpAny_bind (wpAny_bind (m:=Builtin.Tuple.tupleExact _) (wpAny_newObj_type (wpAny_pure ⟨_,rfl,wpAny_pure h⟩) Kg))
end
end HT
namespace L2
open PySem PySem.Spec PyProof.Rows
abbrev TO:=St->Hp->(Option Int->Hp->Prop)->Prop
def PO(X:Cx)(e:Option Expr)(t:TO):Prop:=
 ∀(pins:List (Addr×Obj)) (s:Shared) (σ:St) (H:Hp) (Q:Option Int->Hp->Prop),Inv X pins σ H s->t σ H Q->
  wpAny (model X.prog X.w) X.A (evalPart e X.env) (fun u s'=>∃o H',Inv X pins σ H' s'/\IsPart u o/\Q o H') X.xe s
def MQ:TO:=fun _ H Q=>Q none H
inductive XE(x:V)(H:Hp)(Q:Option Int->Hp->Prop):Prop|mk (i:Int) (hx:x = .int i) (q:Q (some i) H)
def V3(t:TE):TO:=fun σ H Q=>t σ H fun x H1=>XE x H1 Q
theorem intsAre_of{ns:List Int}:∀{us:List Value},Vals (ns.map V.int) us->IntsAre us ns:=by
 induction ns with
 |nil=>intro us r;rw[List.map_nil]at r;cases r;exact .nil
 |cons n ns ih=>
  intro us r;rw[List.map_cons]at r;cases r with
  |cons r1 r2=>
   obtain⟨t,e⟩:=r1;subst e;exact .cons n t (ih r2)
section
variable {X:Cx} {e:Expr} {te:TE} {lo hi:Option Expr} {tl th:TO} {pos p2:Pos}
theorem uI:PO X none MQ:=by
 intro pins s σ H Q I h;rw[evalPart_none];exact wpAny_pure ⟨none,H,I,.none,h⟩
theorem uG(h:PE X e te):PO X (some e) (V3 te):=by
 intro pins s σ H Q I hw;rw[evalPart_some];refine thn (h pins s σ H _ I hw) fun u s1 ⟨x,H1,I1,r1,q1⟩=>?_;obtain⟨i,rfl,q⟩:=q1;obtain⟨t,rfl⟩:=r1;exact⟨some i,H1,I1,.int i t,q⟩
def SlR(X:Cx)(r:V->Option Int->Option Int->Hp->VK->Prop):Prop:=
 ∀(pins:List (Addr×Obj)) (s:Shared) (σ:St) (H:Hp) (x:V) (v vl vu:Value) (lo hi:Option Int) (sl:Addr) (Q:VK),Inv X pins σ H s->RelV x v->s.heap.IsSliceOf sl vl vu .none->IsPart vl lo->IsPart vu hi->r x lo hi H Q->
  ∃T id,typeLookup (.type T) "__getitem__" = pure (some (.builtin id))/\s.TypeIs v T/\wpAny (model X.prog X.w) X.A (getItem v (.ref sl)) (EP X pins σ Q) X.xe s
theorem SlR.or{r r':V->Option Int->Option Int->Hp->VK->Prop}(h:SlR X r)(h':SlR X r'):SlR X (fun x lo hi H Q=>r x lo hi H Q∨r' x lo hi H Q):=by
 intro pins s σ H x v vl vu lo hi sl Q I rx hs pl pu q;rcases q with q|q
 ·exact h pins s σ H x v vl vu lo hi sl Q I rx hs pl pu q
 ·exact h' pins s σ H x v vl vu lo hi sl Q I rx hs pl pu q
def tSl(r:V->Option Int->Option Int->Hp->VK->Prop)(te:TE)(tl th:TO):TE:=fun σ H Q=>te σ H fun x H1=>tl σ H1 fun l H2=>th σ H2 fun u H3=>r x l u H3 Q
theorem pF{r:V->Option Int->Option Int->Hp->VK->Prop}(hr:SlR X r)(he:PE X e te)(hl:PO X lo tl)(hu:PO X hi th):PE X (.Subscript e (.Slice lo hi none p2) pos) (tSl r te tl th):=by
 intro pins s σ H Q I h;refine Subscript_ (thn (he pins s σ H _ I h) fun v s1 ⟨x,H1,I1,r1,q1⟩=>?_);refine wpAny_Slice (thn (hl pins s1 σ H1 _ I1 q1) fun vl s2 ⟨l,H2,I2,pl,q2⟩=>thn (hu pins s2 σ H2 _ I2 q2) fun vu s3 ⟨u,H3,I3,pu,q3⟩=>?_);rw[evalPart_none];refine wpAny_pure ?_;have I4:Inv X pins σ H3 { s3 with heap:=s3.heap.push { cls:= .type "slice",data:= .fields #[vl,vu,.none] } }:=I3.kept (t':=s3.toks) fun b ob q=>Heap.get?_push_of_some _ q;obtain⟨T,id,hT,ht,hg⟩:=hr pins { s3 with heap:=s3.heap.push { cls:= .type "slice",data:= .fields #[vl,vu,.none] } } σ H3 x v vl vu l u s3.heap.objs.size Q I4 r1 (Heap.IsSliceOf.new ..) pl pu q3;show wpAny (model X.prog X.w) X.A (subscriptTail e (.Slice lo hi none p2) v (.ref s3.heap.objs.size)) (EP X pins σ Q) X.xe { s3 with heap:=s3.heap.push { cls:= .type "slice",data:= .fields #[vl,vu,.none] } };exact tail_any (ops:=[.ref s3.heap.objs.size,v]) ht hT hg (by with_unfolding_all rfl)
def yC(xs:List V)(lo hi:Option Int):List V:=(xs.drop (HT.sIx xs.length 0 lo)).take (HT.sIx xs.length xs.length hi-HT.sIx xs.length 0 lo)
theorem uw(xs:List V)(lo hi:Option Int):(yC xs lo hi).length<=xs.length:=by
 unfold yC;rw[List.length_take,List.length_drop];omega
def ac6(K:W.Frag):V->Option Int->Option Int->Hp->VK->Prop:=fun x lo hi H Q=>∃a xs,x = .ref a/\SqT K H a xs/\
 ¬(HT.sIx xs.length 0 lo=0/\HT.sIx xs.length xs.length hi=xs.length)/\∀p,H p=none->Q (.ref p) (upd H p (.tup (yC xs lo hi)))
theorem Qv:SlR X (ac6 X.K):=by
 intro pins s σ H x v vl vu lo hi sl Q I rx hs pl pu h;obtain⟨a,xs,rfl,hx,hw,q⟩:=h;cases rx;obtain⟨its,r,ht,hz⟩:=I.tuple hx;have hlen:its.toArray.size=xs.length:=by rw[List.size_toArray];exact r.length.symm
 refine⟨"tuple",_,PyProof.Rows.slot_tuple_getitem.lookup,ht.typeIs,?_⟩;refine HT.rT ht hs pl pu (by rw[hlen];exact hw) ?_ (by rw[hlen];exact hz);rw[hlen];refine⟨.ref s.heap.objs.size,_,I.laid (t':=s.toks) (o:= .tup (yC xs lo hi)) (fun b ob q=>Heap.get?_push_of_some _ q) (Nat.le_refl _) ?_,rfl,q _ (I.hok.fresh (Nat.le_refl _))⟩;exact⟨Nat.le_trans (uw xs lo hi) hz,_,(r.drop (HT.sIx xs.length 0 lo)).take (HT.sIx xs.length xs.length hi-HT.sIx xs.length 0 lo),IsTup.new _ _⟩
def UZ(K:W.Frag):R2:=fun x y H Q=>∃a b xs ys,x = .ref a/\y = .ref b/\SqT K H a xs/\SqT K H b ys/\xs≠[]/\xs.length+ys.length<=sizeLine/\
 (ys=[]->Q (.ref a) H)/\(ys≠[]->∀p,H p=none->Q (.ref p) (upd H p (.tup (xs++ys))))
theorem Vals.wO{xs:List V}{us:List Value}(r:Vals xs us):us=[]↔xs=[]:=by
 cases r with
 |nil=>simp
 |cons _ _=>simp
theorem Pj:OpR X (binaryOp .Add) (UZ X.K):=by
 intro pins s σ H x y v u Q I rx ry h;obtain⟨a,b,xs,ys,rfl,rfl,ha,hb,hx,hz,q1,q2⟩:=h;cases rx;cases ry;obtain⟨its,r1,p1,_⟩:=I.tuple ha;obtain⟨its2,r2,p2,_⟩:=I.tuple hb;refine HT.MN p1 p2 (fun z=>hx (r1.wO.mp z)) (fun z=>⟨.ref a,H,I,rfl,q1 (r2.wO.mp z)⟩) (fun z=>?_) (by rw[<-r1.length,<-r2.length];exact hz);refine⟨.ref s.heap.objs.size,_,I.laid (t':=s.toks) (o:= .tup (xs++ys)) (fun b ob q=>Heap.get?_push_of_some _ q) (Nat.le_refl _) ?_,rfl,q2 (fun w=>z (r2.wO.mpr w)) _ (I.hok.fresh (Nat.le_refl _))⟩;exact⟨by rw[List.length_append];exact hz,_,r1.append r2,IsTup.new _ _⟩
end
def ixN(n:Nat)(i:Int):Option Nat:=if 0<=i then(if i<n then some i.toNat else none)else if -(n:Int)<=i then some (i+n).toNat else none
def atI{α:Type}(xs:List α)(i:Int):Option α:=(ixN xs.length i).bind fun j=>xs[j]?
theorem Ga{n:Nat}{i:Int}{j:Nat}(h:ixN n i=some j):seqIndex? i n=some j/\j<n/\-(n:Int)<=i/\i<n:=by
 unfold ixN at h;by_cases h0:0<=i
 ·rw[if_pos h0]at h;by_cases h1:i<n
  ·rw[if_pos h1]at h;have e:i.toNat=j:=Option.some.inj h;exact⟨by rw[seqIndex_of h0 h1,e],by omega,by omega,h1⟩
  ·rw[if_neg h1]at h;cases h
 ·rw[if_neg h0]at h;by_cases h1:-(n:Int)<=i
  ·rw[if_pos h1]at h;have e:(i+n).toNat=j:=Option.some.inj h;exact⟨by rw[seqIndex_neg (by omega) h1,e],by omega,h1,by omega⟩
  ·rw[if_neg h1]at h;cases h
theorem BF{α:Type}{xs:List α}{i:Int}{v:α}(h:atI xs i=some v):∃j,seqIndex? i xs.length=some j/\xs[j]?=some v/\j<xs.length/\-(xs.length:Int)<=i/\i<xs.length:=by
 unfold atI at h;cases e:ixN xs.length i with
 |none=>rw[e]at h;cases h
 |some j=>
  rw[e]at h;obtain⟨h1,h2,h3,h4⟩:=Ga e;exact⟨j,h1,h,h2,h3,h4⟩
theorem Nh{α:Type}{xs:List α}{j:Nat}{v:α}(h:xs[j]?=some v):atI xs (j:Int)=some v:=by
 have hj:j<xs.length:=(List.getElem?_eq_some_iff.mp h).1;have e:ixN xs.length (j:Int)=some j:=by
  unfold ixN;rw[if_pos (by omega),if_pos (by omega)];simp
 unfold atI;rw[e];exact h
def Pn(b:Expr):Prop:=∀o i,subscripted b false o i=operate [o,i] (getItem o i)
def IxR(X:Cx)(r:R2):Prop:=
 ∀(value slice:Expr) (pins:List (Addr×Obj)) (s:Shared) (σ:St) (H:Hp) (x y:V) (v u:Value) (Q:VK),Inv X pins σ H s->RelV x v->RelV y u->r x y H Q->
  subscripted slice false v u=operate [v,u] (getItem v u)->wpAny (model X.prog X.w) X.A (subscriptTail value slice v u) (EP X pins σ Q) X.xe s
def MtR(X:Cx)(id:String)(r:V->List V->Hp->VK->Prop):Prop:=
 ∀(pins:List (Addr×Obj)) (s:Shared) (σ:St) (H:Hp) (x:V) (xs:List V) (v:Value) (us:List Value) (Q:VK),Inv X pins σ H s->RelV x v->Vals xs us->r x xs H Q->
  wpAny (model X.prog X.w) X.A (call (.builtin id) (v::us)) (EP X pins σ Q) X.xe s
section
variable {X:Cx} {a b:Expr} {ta tb:TE} {pos:Pos}
theorem IxR.or{r r':R2}(h:IxR X r)(h':IxR X r'):IxR X (fun x y H Q=>r x y H Q∨r' x y H Q):=by
 intro value slice pins s σ H x y v u Q I rx ry q hs;rcases q with q|q
 ·exact h value slice pins s σ H x y v u Q I rx ry q hs
 ·exact h' value slice pins s σ H x y v u Q I rx ry q hs
theorem bf{r:R2}(hr:IxR X r)(ha:PE X a ta)(hb:PE X b tb)(hs:Pn b):PE X (.Subscript a b pos) (tOp r ta tb):=by
 intro pins s σ H Q I h;exact Subscript_ (VN ha hb I h fun v u s2 x y H2 I2 rx ry q=>hr a b pins s2 σ H2 x y v u Q I2 rx ry q (hs _ _))
def abG(K:W.Frag):R2:=fun x y H Q=>∃p xs i v,x = .ref p/\y = .int i/\SqL K H p xs/\atI xs i=some v/\Q v H
def aaI(K:W.Frag):R2:=fun x y H Q=>∃p xs i v,x = .ref p/\y = .int i/\SqT K H p xs/\atI xs i=some v/\Q v H
def abg:R2:=fun x y H Q=>∃z i c,x = .str z/\y = .int i/\z.length<=sizeLine/\atI z.cps.toList i=some c/\Q (.str ⟨#[c]⟩) H
theorem Oz:IxR X (abG X.K):=by
 intro value slice pins s σ H x y v u Q I rx ry h hs;obtain⟨p,xs,i,z,rfl,rfl,hq,he,q⟩:=h;cases rx;obtain⟨t,rfl⟩:=ry;obtain⟨its,r,pl,hz⟩:=I.list hq;obtain⟨j,h1,h2,h3,h4,h5⟩:=BF he;obtain⟨w,ew,rw'⟩:=r.get h2;have hl:=r.length;have hn:=yL;have fin:EP X pins σ Q w s:=⟨z,H,I,rw',q⟩;by_cases h0:0<=i
 ·have hj:i.toNat=j:=by
   rw[seqIndex_of h0 h5]at h1;exact Option.some.inj h1
  exact item_listR pl.isList h0 (by omega) (by rw[hj];simpa using ew) fin hs
 ·have hj:(i+(its.toArray.size:Int)).toNat=j:=by
   rw[seqIndex_neg (by omega) h4]at h1;rw[List.size_toArray,<-hl];exact Option.some.inj h1
  exact subscriptTail_builtinR (x:=w) pl.isList.typeIs slot_list_getitem.lookup
   (wpAny_getItem_list_neg (Q:=fun r s'=>r=w/\EP X pins σ Q r s') pl.isList (by omega) (by rw[List.size_toArray]<;>omega) (by omega) (by rw[hj];simpa using ew) ⟨rfl,fin⟩) hs
theorem TJ:IxR X (aaI X.K):=by
 intro value slice pins s σ H x y v u Q I rx ry h hs;obtain⟨p,xs,i,z,rfl,rfl,hq,he,q⟩:=h;cases rx;obtain⟨t,rfl⟩:=ry;obtain⟨its,r,pl,hz⟩:=I.tuple hq;obtain⟨j,h1,h2,h3,h4,h5⟩:=BF he;obtain⟨w,ew,rw'⟩:=r.get h2;have hl:=r.length;have hn:=yL;have fin:EP X pins σ Q w s:=⟨z,H,I,rw',q⟩;exact subscriptTail_builtinR (x:=w) pl.typeIs slot_tuple_getitem.lookup
  (getItem_tuple (j:=j) (Q:=fun r s'=>r=w/\EP X pins σ Q r s') pl (by omega) (by omega) (by rw[List.size_toArray,<-hl];exact h1) (by simpa using ew) ⟨rfl,fin⟩) hs
theorem QV:IxR X abg:=by
 intro value slice pins s σ H x y v u Q I rx ry h hs;obtain⟨z,i,c,rfl,rfl,hz,he,q⟩:=h;obtain⟨t,rfl⟩:=rx;obtain⟨t',rfl⟩:=ry;obtain⟨j,h1,h2,h3,h4,h5⟩:=BF he;have hl:z.cps.toList.length=z.length:=by simp[Str.length]
 rw[hl]at h1 h4 h5;have hn:=yL;exact tail_any (typeIs_str s z t) slot_str_getitem.lookup (getItem_str (c:=c) (by
  have e1:decide (i < -(2^63:Int))=false:=decide_eq_false (by omega);have e2:decide (i≥2^63)=false:=decide_eq_false (by omega);rw[e1,e2,Bool.or_false]) (by rw[h1];simpa using h2) ⟨.str ⟨#[c]⟩,H,I.tok _,⟨_,rfl⟩,q⟩) hs
def rIx(K:W.Frag):R2:=fun x y H Q=>abG K x y H Q∨aaI K x y H Q∨abg x y H Q
theorem Ti:IxR X (rIx X.K):=Oz.or (TJ.or QV)
theorem DP(its:List Value)(n j:Nat)(u:Value):Obj.mapSeq (·.setIfInBounds j u) { cls:= .type "list",data:= .seq its.toArray n }={ cls:= .type "list",data:= .seq (its.set j u).toArray n }:=by
 simp[Obj.mapSeq]
theorem Inv.lst{pins:List (Addr×Obj)}{σ:St}{H:Hp}{s:Shared}{p:Addr}{xs:List V}(I:Inv X pins σ H s)(h:H p=some (.lst xs)):
  ∃(its:List Value) (n:Nat),Vals xs its/\s.heap.get? p=some { cls:= .type "list",data:= .seq its.toArray n }/\xs.length<=sizeLine:=by
 obtain⟨z,its,n,r,e⟩:=I.hok p _ h;exact⟨its,n,r,e,z⟩
theorem Inv.Ry{pins:List (Addr×Obj)}{σ:St}{H:Hp}{s:Shared}{p:Addr}{xs ys:List V}{its its':List Value}{n n':Nat}{f:Obj->Obj}(I:Inv X pins σ H s)(h:H p=some (.lst xs))
  (ho:s.heap.get? p=some { cls:= .type "list",data:= .seq its.toArray n }) (hf:f { cls:= .type "list",data:= .seq its.toArray n }={ cls:= .type "list",data:= .seq its'.toArray n' }) (r:Vals ys its') (hz:ys.length<=sizeLine) (t:Nat):
  Inv X pins σ (upd H p (.lst ys)) { s with heap:=s.heap.update p f,toks:=t }:=by
 have e:(s.heap.update p f).get? p=some { cls:= .type "list",data:= .seq its'.toArray n' }:=by
  rw[Heap.get?_update_self f ho (by rw[hf]<;>rfl),hf]
 refine I.write (x:=p) (e:=p) (by rw[h];trivial) (.inl rfl) (fun b u hb q=>(Heap.get?_update_other _ _ (Ne.symm hb)).trans q) ⟨_,e⟩ ?_;exact⟨hz,its',n',r,e⟩
inductive SSet(o i v:V)(H:Hp)(Q:Hp->Prop):Prop|mk (p:Addr) (xs:List V) (k:Int) (j:Nat) (ho:o = .ref p) (hi:i = .int k) (hp:H p=some (.lst xs)) (hj:ixN xs.length k=some j) (q:Q (upd H p (.lst (xs.set j v))))
def Xn:V->V->V->Hp->(Hp->Prop)->Prop:=fun o i v H Q=>SSet o i v H Q
theorem set_list:abm X Xn:=by
 intro pins s σ H o i v ov iv u Q I ro ri rv h;obtain⟨p,xs,k,j,rfl,rfl,hp,hj,q⟩:=h;cases ro;obtain⟨t,rfl⟩:=ri;obtain⟨its,n,r,ho,hz⟩:=I.lst hp;obtain⟨h1,h2,h3,h4⟩:=Ga hj;have hl:=r.length;have hn:=yL;have I':Inv X pins σ (upd H p (.lst (xs.set j v))) { s with heap:=s.heap.update p (Obj.mapSeq (·.setIfInBounds j u)) }:=
  I.Ry hp ho (DP its n j u) (r.set rv j) (by rw[List.length_set];exact hz) s.toks
 by_cases h0:0<=k
 ·have hk:k.toNat=j:=by
   rw[seqIndex_of h0 h4]at h1;exact Option.some.inj h1
  exact W.ki_setAt ho h0 (by omega) (by rw[List.size_toArray,<-hl];exact h4) (by rw[hk];exact⟨_,I',q⟩)
 ·have hk:(k+(its.toArray.size:Int)).toNat=j:=by
   rw[seqIndex_neg (by omega) h3]at h1;rw[List.size_toArray,<-hl];exact Option.some.inj h1
  exact W.ki_setBack ho (by omega) (by rw[List.size_toArray,<-hl];exact h3) (by omega) (by rw[hk];exact⟨_,I',q⟩)
theorem zJ(lo hi:Option Int)(n:Nat):(sliceBounds lo hi none n).1=((HT.sIx n 0 lo:Nat):Int)/\(sliceBounds lo hi none n).2.1=((HT.sIx n n hi:Nat):Int)/\(sliceBounds lo hi none n).2.2=1:=by
 refine⟨?_,?_,rfl⟩
 ·cases lo with
  |none=>simp[sliceBounds,HT.sIx]
  |some i=>
   simp only[sliceBounds,HT.sIx,Option.getD_none,show(1:Int)>0 by decide,if_true];by_cases h:i<0
   ·simp only[h,if_true]<;>omega
   ·simp only[h,if_false]<;>omega
 ·cases hi with
  |none=>simp[sliceBounds,HT.sIx]
  |some i=>
   simp only[sliceBounds,HT.sIx,Option.getD_none,show(1:Int)>0 by decide,if_true];by_cases h:i<0
   ·simp only[h,if_true]<;>omega
   ·simp only[h,if_false]<;>omega
theorem yh(its:List Value)(lo hi:Option Int):slicePick its.toArray lo hi none=((its.drop (HT.sIx its.length 0 lo)).take (HT.sIx its.length its.length hi-HT.sIx its.length 0 lo)).toArray:=by
 obtain⟨h1,h2,h3⟩:=zJ lo hi its.toArray.size;unfold slicePick;rw[h1,h2,h3];simp only[sliceRange_one,pick_run,List.size_toArray]<;>rfl
def ada(K:W.Frag):V->Option Int->Option Int->Hp->VK->Prop:=fun x lo hi H Q=>∃a xs,x = .ref a/\SqL K H a xs/\∀p,H p=none->Q (.ref p) (upd H p (.lst (yC xs lo hi)))
theorem MR:SlR X (ada X.K):=by
 intro pins s σ H x v vl vu lo hi sl Q I rx hs pl pu h;obtain⟨a,xs,rfl,hx,q⟩:=h;cases rx;obtain⟨its,r,ht,hz⟩:=I.list hx;have hlen:=r.length;refine⟨"list",_,slot_list_getitem.lookup,ht.isList.typeIs,?_⟩;refine wpAny_getItem_list_slice ht.isList hs pl pu .none (by simp) ?_ (by rw[List.size_toArray]<;>omega);rw[yh,<-hlen];refine⟨.ref s.heap.objs.size,_,I.laid (t':=s.toks) (o:= .lst (yC xs lo hi)) (fun b ob q=>Heap.get?_push_of_some _ q) (Nat.le_refl _) ?_,rfl,q _ (I.hok.fresh (Nat.le_refl _))⟩;exact⟨Nat.le_trans (uw xs lo hi) hz,_,0,(r.drop (HT.sIx xs.length 0 lo)).take (HT.sIx xs.length xs.length hi-HT.sIx xs.length 0 lo),Heap.get?_push_size _ rfl⟩
def ux:V->Bool
 |.non=>true
 |.bl _=>true
 |.int _=>true
 |.str _=>true
 |_=>false
def eqV:V->V->Bool
 |.non,.non=>true
 |.bl a,.bl b=>a==b
 |.bl a,.int b=>(if a then 1 else 0)==b
 |.int a,.bl b=>a==(if b then 1 else 0)
 |.int a,.int b=>a==b
 |.str a,.str b=>a==b
 |_,_=>false
theorem Te{A:Around}{s:Shared}{y x:V}{u v:Value}(ry:RelV y u)(rx:RelV x v)(fy:ux y=true)(fx:ux x=true):SeqAt.EqAt A s u v (eqV y x):=by
 cases y with
 |non=>
  cases ry;cases x with
  |non=>cases rx;exact SeqAt.EqAt.same _
  |bl b=>cases rx;exact SeqAt.EqAt.none_bool b
  |int b=>obtain⟨t,rfl⟩:=rx;exact SeqAt.EqAt.none_int b t
  |str b=>obtain⟨t,rfl⟩:=rx;exact SeqAt.EqAt.none_str b t
  |_=>exact absurd (show false=true from fx) Bool.false_ne_true
 |bl a=>
  cases ry;cases x with
  |non=>cases rx;exact SeqAt.EqAt.bool_none a
  |bl b=>cases rx;exact SeqAt.EqAt.bool_bool a b
  |int b=>obtain⟨t,rfl⟩:=rx;exact SeqAt.EqAt.bool_int a b t
  |str b=>obtain⟨t,rfl⟩:=rx;exact SeqAt.EqAt.bool_str a b t
  |_=>exact absurd (show false=true from fx) Bool.false_ne_true
 |int a=>
  obtain⟨t',rfl⟩:=ry;cases x with
  |non=>cases rx;exact SeqAt.EqAt.int_none a t'
  |bl b=>cases rx;exact SeqAt.EqAt.int_bool a t' b
  |int b=>obtain⟨t,rfl⟩:=rx;exact SeqAt.EqAt.int_int a t' b t
  |str b=>obtain⟨t,rfl⟩:=rx;exact SeqAt.EqAt.int_str a t' b t
  |_=>exact absurd (show false=true from fx) Bool.false_ne_true
 |str a=>
  obtain⟨t',rfl⟩:=ry;cases x with
  |non=>cases rx;exact SeqAt.EqAt.str_none a t'
  |bl b=>cases rx;exact SeqAt.EqAt.str_bool a t' b
  |int b=>obtain⟨t,rfl⟩:=rx;exact SeqAt.EqAt.str_int a t' b t
  |str b=>obtain⟨t,rfl⟩:=rx;exact SeqAt.EqAt.str_str a t' b t
  |_=>exact absurd (show false=true from fx) Bool.false_ne_true
 |_=>exact absurd (show false=true from fy) Bool.false_ne_true
theorem zR:rm X (.type "list") (fun xs H Q=>∃p ys,xs=[.ref p]/\(SqL X.K H p ys∨SqT X.K H p ys)/\∀l,H l=none->Q (.ref l) (upd H l (.lst ys))):=by
 intro pins s σ H xs us Q I r h;obtain⟨p,ys,rfl,hq,q⟩:=h;obtain⟨u,rfl,rx⟩:=vals1 r;cases rx;have fin:∀(its:List Value),Vals ys its->ys.length<=sizeLine->∀(h':Heap) (c':Nat),(∀b o',s.heap.get? b=some o'->h'.get? b=some o')->
   h'.get? s.heap.objs.size=some { cls:= .type "list",dict:=none,data:= .seq its.toArray c',slots:=#[] }->EP X pins σ Q (.ref s.heap.objs.size) { s with heap:=h' }:=fun its r' hz h' c' kp e=>
  ⟨.ref s.heap.objs.size,_,I.laid (t':=s.toks) kp (Nat.le_refl _) (show qm X.prog X.w _ h' _ (.lst ys)from⟨hz,its,c',r',e⟩),rfl,q _ (I.hok.fresh (Nat.le_refl _))⟩
 rcases hq with hq|hq
 ·obtain⟨its,r',pl,hz⟩:=I.list hq;have hlen:=r'.length;obtain⟨o,ho,hc,n,hd⟩:=pl.isList;exact call_list_seq p (.inl rfl) ho hc hd (fun h' c' kp e=>fin its r' hz h' c' kp e) (by simp only[List.size_toArray]<;>omega)
 ·obtain⟨its,r',pl,hz⟩:=I.tuple hq;have hlen:=r'.length;obtain⟨o,ho,hc,n,hd⟩:=pl;exact call_list_seq p (.inr rfl) ho hc hd (fun h' c' kp e=>fin its r' hz h' c' kp e) (by simp only[List.size_toArray]<;>omega)
theorem yd:rm X (.type "tuple") (fun xs H Q=>∃p ys,xs=[.ref p]/\((SqL X.K H p ys/\∀l,H l=none->Q (.ref l) (upd H l (.tup ys)))∨(SqT X.K H p ys/\Q (.ref p) H))):=by
 intro pins s σ H xs us Q I r h;obtain⟨p,ys,rfl,h⟩:=h;obtain⟨u,rfl,rx⟩:=vals1 r;cases rx;rcases h with⟨hq,q⟩|⟨hq,q⟩
 ·obtain⟨its,r',pl,hz⟩:=I.list hq;have hlen:=r'.length;refine call_tuple_list pl.isList (fun h' kp=>?_) (by simp only[List.size_toArray]<;>omega);have I1:Inv X pins σ H { s with heap:=h' }:=I.kept (t':=s.toks) kp;have I2:Inv X pins σ (upd H h'.objs.size (.tup ys)) { s with heap:=h'.push { cls:= .type "tuple",data:= .seq its.toArray } }:=
   I1.laid (t':=s.toks) (fun b o e=>Heap.get?_push_of_some _ e) (Nat.le_refl _) (show qm X.prog X.w _ _ _ (.tup ys)from⟨hz,its,r',IsTup.new _ _⟩)
  exact⟨.ref h'.objs.size,_,I2,rfl,q _ (I1.hok.fresh (Nat.le_refl _))⟩
 ·obtain⟨its,r',pl,hz⟩:=I.tuple hq;exact call_tuple_same pl ⟨.ref p,H,I,rfl,q⟩
def tyV(K:W.Frag)(T:String)(x:V)(H:Hp):Prop:=match x with
 |.str _=>T = "str"
 |.int _=>T = "int"
 |.ref p=>(T = "list" /\ ∃xs,SqL K H p xs)∨(T = "tuple" /\ ∃o,K.lookup p=some o/\o.cls = .type "tuple" /\ o.dict=none)∨
   (T = "dict" /\ ((∃kvs,H p=some (.dK kvs))∨∃kvs,H p=some (.dT kvs)))∨(T = "set" /\ ∃S n,H p=some (.set S n))
 |_=>False
theorem Qm{pins:List (Addr×Obj)}{σ:St}{H:Hp}{s:Shared}{T:String}{x:V}{v:Value}(I:Inv X pins σ H s)(r:RelV x v)(ty:tyV X.K T x H):
  s.TypeIs v T/\∀a,v = .ref a->∃ob,s.heap.get? a=some ob/\ob.dict=none:=by
 cases x with
 |str z=>
  obtain⟨t,rfl⟩:=r;cases (show T = "str" from ty);exact⟨typeIs_str s z t,fun _ e=>nomatch e⟩
 |int i=>
  obtain⟨t,rfl⟩:=r;cases (show T = "int" from ty);exact⟨typeIs_int s i t,fun _ e=>nomatch e⟩
 |ref p=>
  cases r;rcases ty with⟨rfl,xs,hq⟩|⟨rfl,o,hk,hc,hd⟩|⟨rfl,hk⟩|⟨rfl,S,n,hk⟩
  ·obtain⟨its,_,pl,_⟩:=I.list hq;refine⟨pl.isList.typeIs,fun a e=>?_⟩;cases e;obtain⟨o,n,e,c,hd,_⟩:=pl;exact⟨o,e,hd⟩
  ·refine⟨⟨o,I.kIn p o hk,hc⟩,fun a e=>?_⟩;cases e;exact⟨o,I.kIn _ o hk,hd⟩
  ·have z:∃o,s.heap.get? p=some o/\o.ExactDict:=by
    rcases hk with⟨kvs,hk⟩|⟨kvs,hk⟩
    ·obtain⟨_,_,_,_,o,_,_,e,ex,_⟩:=I.hok p _ hk;exact⟨o,e,ex⟩
    ·obtain⟨_,_,_,_,o,_,_,e,ex,_⟩:=I.hok p _ hk;exact⟨o,e,ex⟩
   obtain⟨o,e,ex⟩:=z;refine⟨⟨o,e,ex.1⟩,fun a e2=>?_⟩;cases e2;exact⟨o,e,ex.2.1⟩
  ·obtain⟨o,_,_,_,e,ex,_⟩:=I.hok p _ hk;refine⟨⟨o,e,ex.1⟩,fun a e2=>?_⟩;cases e2;exact⟨o,e,ex.2.1⟩
 |_=>exact False.elim ty
def tBM(K:W.Frag)(T:String)(r:V->List V->Hp->VK->Prop)(to:TE)(t:TA):TE:=fun σ H Q=>to σ H fun x H1=>tyV K T x H1/\t σ H1 fun xs H2=>r x xs H2 Q
variable {o e:Expr} {es:List Expr} {to:TE} {t:TA} {name:Str} {apos cpos:Pos} {T id:String} {r:V->List V->Hp->VK->Prop}
theorem Vm(pa:PlainAttrs T)(slot:Slot T name id)(hty:typeOf (.builtin id)=pure (.type "method_descriptor"))(hm:MtR X id r)(ho:PE X o to)(ha:PA X (e::es) t)
  (hbase:attributeBase o name X.env (eval o X.env)=eval o X.env:=by rfl)
  (hfew:((backTo cpos (starEach (e::es) X.env)).all (fun x=>!x.1)&&(backToKw cpos (keywordEach [] X.env)).all (fun x=>x.1.isSome)
   && decide ((e::es).length+([]:List Keyword).length+(if([]:List Keyword).isEmpty then 0 else 1)<30))=true:=by rfl)
  (hline:(apos.endLine==cpos.line)=true:=by rfl) (hs:starEach (e::es) X.env=(false,eval e X.env)::starEach es X.env:=by rfl) (hplain:(backTo cpos (starEach es X.env)).any (·.1)=false:=by rfl):
  PE X (.Call (.Attribute o name apos) (e::es) [] cpos) (tBM X.K T r to t):=by
 intro pins s σ H Q I h;refine wpAny_Call_method_late hbase hfew hline rfl (thn (ho pins s σ H _ I h) fun v s1 ⟨x,H1,I1,r1,ty,q1⟩=>?_);obtain⟨h1,h2⟩:=Qm I1 r1 ty;refine⟨T,id,pa,slot,hty,h1,h2,?_⟩;have hA:=ha cpos pins s1 σ H1 _ I1 q1;rw[hs]at hA⊢;refine Calls.callWith_builtin (by show(false||(backTo cpos (starEach es X.env)).any (·.1))=false;rw[hplain]<;>rfl) (Calls.evalArgs_plain ?_);exact thn hA fun us s2 ⟨vs,H2,I2,r2,q2⟩=>hm pins s2 σ H2 x vs v us Q I2 r1 r2 q2
end
def MtM(X:Cx)(id:String)(r:V->List V->Hp->VK->Prop):Prop:=
 ∀(pins:List (Addr×Obj)) (s:Shared) (σ:St) (H:Hp) (x:V) (xs:List V) (v:Value) (us:List Value) (Q:VK),Inv X pins σ H s->RelV x v->Vals xs us->r x xs H Q->
  wpAny (model X.prog X.w) X.A (call (.builtin id) (v::us)) (EP X pins σ Q) X.xe s
theorem Vals.one{x:V}{us:List Value}(h:Vals [x] us):∃u,us=[u]/\RelV x u:=by
 cases h with
 |cons r h=>cases h;exact⟨_,rfl,r⟩
theorem Vals.rep{xs:List V}{us:List Value}(h:Vals xs us):∀k:Nat,Vals (List.replicate k xs).flatten (List.replicate k us).flatten
 |0=> .nil
 |k+1=>by
  rw[List.replicate_succ,List.replicate_succ,List.flatten_cons,List.flatten_cons];exact Vals.append h (Vals.rep h k)
theorem foldl_rep(its:List Value):∀(k:Nat) (acc:List Value),
  List.foldl (fun x1 x2=>x1++x2) acc.toArray (List.replicate k its.toArray)=(acc++(List.replicate k its).flatten).toArray
 |0,acc=>by simp
 |k+1,acc=>by
  have e:acc.toArray++its.toArray=(acc++its).toArray:=by simp
  have e2:(acc++its)++(List.replicate k its).flatten=acc++(List.replicate (k+1) its).flatten:=by
   rw[List.replicate_succ,List.flatten_cons,List.append_assoc]
  rw[<-e2,<-foldl_rep its k (acc++its),<-e,List.replicate_succ,List.foldl_cons]
section
variable {X:Cx} {pins:List (Addr×Obj)} {σ:St} {H:Hp} {s:Shared} {l b:Addr} {xs ys zs:List V}
theorem Inv.acj{its its':List Value}{n:Nat}{f:Array Value->Array Value}{t':Nat}(I:Inv X pins σ H s)(hH:H l=some (.lst xs))
  (e:s.heap.get? l=some { cls:= .type "list",data:= .seq its.toArray n }) (hf:f its.toArray=its'.toArray) (hv:Vals ys its') (hz:ys.length<=sizeLine):
  Inv X pins σ (upd H l (.lst ys)) { s with heap:=s.heap.update l (Obj.mapSeq f),toks:=t' }:=by
 have q:=PySem.IsL.update e f;rw[hf]at q;refine I.write (x:=l) (e:=l) (by rw[hH];exact trivial) (.inl rfl) (fun b' u hb hu=>(Heap.get?_update_other s.heap (Obj.mapSeq f) (Ne.symm hb)).trans hu) ⟨_,q⟩ ?_;exact⟨hz,its',_,hv,q⟩
theorem Inv.Va{its:List Value}{t':Nat}(I:Inv X pins σ H s)(hv:Vals ys its)(hz:ys.length<=sizeLine):
  Inv X pins σ (upd H s.heap.objs.size (.lst ys)) { s with heap:=s.heap.push { cls:= .type "list",data:= .seq its.toArray },toks:=t' }:=
 I.laid (fun _ _ q=>Heap.get?_push_of_some _ q) (Nat.le_refl _) ⟨hz,its,0,hv,Heap.get?_push_size _ rfl⟩
theorem Inv.fresh(I:Inv X pins σ H s):H s.heap.objs.size=none:=I.hok.fresh (Nat.le_refl _)
theorem Inv.Uq(I:Inv X pins σ H s)(hH:H l=some (.lst xs)):xs.length<=sizeLine/\∃(its:List Value) (n:Nat),Vals xs its/\xs.length=its.length/\s.heap.get? l=some { cls:= .type "list",data:= .seq its.toArray n }:=by
 obtain⟨z,its,n,r,e⟩:=I.hok l _ hH;exact⟨z,its,n,r,r.length,e⟩
theorem JZ{n:Nat}(h:n<=sizeLine):Builtin.List.listTooLong n=false:=by
 unfold Builtin.List.listTooLong;exact decide_eq_false (by omega)
end
section
variable {X:Cx}
inductive adE(x:V)(vs:List V)(H:Hp)(Q:VK):Prop|mk (l:Addr) (xs:List V) (y:V) (hx:x = .ref l) (hv:vs=[y]) (hl:H l=some (.lst xs)) (hz:xs.length<sizeLine) (q:Q .non (upd H l (.lst (xs++[y]))))
def EG:V->List V->Hp->VK->Prop:=fun x vs H Q=>adE x vs H Q
theorem zy:MtM X "list.append" EG:=by
 intro pins s σ H x vs v us Q I rx rv h;obtain⟨l,xs,y,rfl,rfl,hH,hz,q⟩:=h;cases rx;obtain⟨u,rfl,ru⟩:=rv.one;obtain⟨z,its,n,r,hl,e⟩:=I.Uq hH;refine call_meets F.slot_list_append ⟨_,e,rfl⟩ F.entry_list_append (F.args_list_append_2 _ _) (PySem.list_append l its.toArray n u (by rw[List.size_toArray];omega)) ⟨e,?_⟩;refine⟨.non,_,I.acj (its':=its++[u]) hH e (by simp) (r.append (.cons ru .nil)) ?_,rfl,q⟩;rw[List.length_append,List.length_singleton];omega
def ab1:R2:=fun x y H Q=>∃l b xs zs,x = .ref l/\y = .ref b/\H l=some (.lst xs)/\H b=some (.lst zs)/\xs.length+zs.length<=sizeLine/\∀p,H p=none->Q (.ref p) (upd H p (.lst (xs++zs)))
theorem Qn:OpR X (binaryOp .Add) ab1:=by
 intro pins s σ H x y v u Q I rx ry h;obtain⟨l,b,xs,zs,rfl,rfl,hH,hB,hz,q⟩:=h;cases rx;cases ry;obtain⟨z,its,n,r,hl,e⟩:=I.Uq hH;obtain⟨z2,its2,n2,r2,hl2,e2⟩:=I.Uq hB;refine PySem.P.add_list e e2 ?_ (by rw[List.size_toArray,List.size_toArray];omega);have ea:its.toArray++its2.toArray=(its++its2).toArray:=by simp
 rw[ea];exact⟨.ref _,_,I.Va (t':=s.toks) (r.append r2) (by rw[List.length_append];omega),rfl,q _ I.fresh⟩
def aco:R2:=fun x y H Q=>∃l k xs,x = .ref l/\y = .int k/\H l=some (.lst xs)/\-(2^63)<=k/\k<2^63/\xs.length*k.toNat<=sizeLine/\
 ∀p,H p=none->Q (.ref p) (upd H p (.lst (List.replicate k.toNat xs).flatten))
theorem len_rep{α:Type}(xs:List α)(k:Nat):(List.replicate k xs).flatten.length=k*xs.length:=by
 induction k with
 |zero=>simp
 |succ k ih=>rw[List.replicate_succ,List.flatten_cons,List.length_append,ih,Nat.succ_mul,Nat.add_comm]
theorem Ui:OpR X (binaryOp .Mult) aco:=by
 intro pins s σ H x y v u Q I rx ry h;obtain⟨l,k,xs,rfl,rfl,hH,h1,h2,hz,q⟩:=h;cases rx;obtain⟨t,rfl⟩:=ry;obtain⟨z,its,n,r,hl,e⟩:=I.Uq hH;have hlen:its.toArray.size*k.toNat<=sizeLine:=by rw[List.size_toArray,<-hl];exact hz
 have hcap:¬its.toArray.size*k.toNat>(2^63-1)/8:=by
  have:(sizeLine:Nat)<=(2^63-1)/8:=by decide
  omega
 have hfit:¬(!Builtin.List.listFitsIndex k)=true:=by
  rw[fitsIndex_both h1 h2];exact Bool.false_ne_true
 have Yh:¬Builtin.List.listTooLong (its.toArray.size*k.toNat)=true:=by
  rw[JZ hlen];exact Bool.false_ne_true
 have hnew:List.foldl (fun x1 x2=>x1++x2) #[] (List.replicate (if its.toArray.isEmpty=true then 0 else k.toNat) its.toArray)=(List.replicate k.toNat its).flatten.toArray:=by
  have f0:∀m:Nat,List.foldl (fun x1 x2=>x1++x2) #[] (List.replicate m its.toArray)=(List.replicate m its).flatten.toArray:=fun m=>by
   have:=foldl_rep its m [];rw[List.nil_append]at this;exact this
  rw[f0];cases its with
  |nil=>simp
  |cons a r'=>rw[if_neg (by simp)]
 refine wpAny_binaryOp_repeat_ref (T:= "list") (U:= "int") (by decide) ⟨_,e,rfl⟩ (fun s'=>typeIs_int s' k t) noFill_list_mul F.fills_int_mul F.slot_int_rmul repeat_list F.slot_int_index.lookup
  (call_meets F.slot_int_rmul (typeIs_int s k t) F.entry_int_rmul (F.args_int_rmul_2 _ _) (int___rmul___int_list k t l its.toArray n)
   ⟨e,rfl,⟨_,e,rfl⟩,call_meets F.slot_list_mul ⟨_,e,rfl⟩ F.entry_list_mul (F.args_list_mul_2 _ _) (AutoListH.list___mul___list_int_3 l its.toArray n k t hfit hcap Yh) ⟨e,?_⟩⟩)
 rw[hnew];exact⟨.ref _,_,I.Va (t':=s.toks) (r.rep k.toNat) (by rw[len_rep,Nat.mul_comm];exact hz),rfl,q _ I.fresh⟩
end
section
variable {prog:Program} {w:World} {A:Around} {E:Value->Shared->Prop} {s:Shared}
end
section
variable {X:Cx}
end
section
variable {κ:Type} [DecidableEq κ]
def Jx(kvs:List (κ×V))(k:κ):Option V:=(kvs.find? fun kv=>decide (kv.1=k)).map (·.2)
theorem J5{p:κ×V}{r:List (κ×V)}{k:κ}(e:p.1=k):Jx (p::r) k=some p.2:=by simp[Jx,List.find?_cons,e]
theorem Kq{p:κ×V}{r:List (κ×V)}{k:κ}(e:¬p.1=k):Jx (p::r) k=Jx r k:=by simp[Jx,List.find?_cons,e]
theorem KV.val{kvs:List (κ×V)}{vs:List (κ×Value)}(r:KV kvs vs)(k:κ):J8 (Jx kvs k) (valueAt vs k):=by
 unfold KV at r;induction r with
 |nil=>exact True.intro
 |@cons p q ps qs h t ih=>
  obtain⟨h1,h2⟩:=h;by_cases e:p.1=k
  ·have e':q.1=k:=h1.symm.trans e;have b:valueAt (q::qs) k=some q.2:=by simp[valueAt,List.find?_cons,e']
   rw[J5 e,b];exact h2
  ·have e':¬q.1=k:=fun z=>e (h1.trans z);have b:valueAt (q::qs) k=valueAt qs k:=by simp[valueAt,List.find?_cons,e']
   rw[Kq e,b];exact ih
end
section
variable {P:Program} {w:World} {H:Hp} {h:Heap} {a:Addr}
end
section
variable {X:Cx} {pins:List (Addr×Obj)} {σ:St} {H:Hp} {s:Shared} {a:Addr} {y v:V} {u r:Value} {o:Option V} {A:Around} {E:Value->Shared->Prop}
end
section
variable {X:Cx} {pins:List (Addr×Obj)} {σ:St} {H:Hp} {s:Shared} {a:Addr} {kvs:List (Key×V)} {k:Key} {u:Value} {A:Around} {E:Value->Shared->Prop}
end
section
variable {X:Cx} {o i e value:Expr} {pos pos' tpos:Pos} {td ty tv:TE}
end
section
variable {X:Cx} {pos:Pos}
end
section
variable {X:Cx} {pins:List (Addr×Obj)} {σ:St} {H:Hp} {s:Shared} {a:Addr} {y d:V} {u r:Value} {o:Option V} {A:Around} {E:Value->Shared->Prop}
end
section
variable {X:Cx} {o e f:Expr} {apos cpos:Pos} {td ty tx:TE}
end
section
variable {X:Cx} {pins:List (Addr×Obj)} {σ:St} {H:Hp} {s:Shared} {a:Addr} {kvs:List (Key×V)} {A:Around} {E:Value->Shared->Prop}
end
section
variable {X:Cx} {pins:List (Addr×Obj)} {σ:St} {H:Hp} {s:Shared} {a:Addr} {y:V} {u:Value} {A:Around} {E:Value->Shared->Prop}
end
end L2
namespace Att
open PySem PySem.W PySem.Calls PyProof.Rows
theorem vf{P:Params}{h:Heap}:∀(ns:List Int) (vs:List Value),WellAll P h vs (ns.map WData.int)->IntsAre vs ns:=by
 intro ns;induction ns with
 |nil=>
  intro vs w;rw[List.map_nil]at w;cases w;exact .nil
 |cons n ns ih=>
  intro vs w;rw[List.map_cons]at w;cases w with
  |cons a b=>
   cases a;exact .cons _ _ (ih _ b)
theorem E3{l:OpenLaw}{n:Nat}(hn:l.most=some n){P:Params}{h:Heap}{args:List WData}{vals:List Value}
  (hpre:l.row.toRowW.claim.pre args=true) (hwl:WellAll P h vals args):
  ∃a vs ns,vals=[Value.ref a]/\args=[WData.list (ns.map WData.int)]/\h.get? a=some { cls:= .type "list",data:= .seq vs.toArray }/\IntsAre vs ns/\ns.length<=n:=by
 have hsh:WShape.hasAll [] args [.list .int]=true:=(pre_splitW hpre).1;have hc:l.pre.holds [] { args:=args }=true:=(pre_splitW hpre).2;obtain⟨d,r,rfl,h1,h2⟩:=hasAllW_cons hsh;obtain rfl:=hasAllW_nil h2;obtain⟨xs,rfl,h3⟩:=hasW_list h1;obtain⟨ns,rfl⟩:=items_int h3;have hlen:ns.length<=n:=by
  unfold OpenLaw.pre at hc;have h4:(WTm.not (.lt (.lit (.int (n:Int))) (.len (.arg 0)))).holds [] { args:=[.list (ns.map .int)] }=true:=by
   have h4:=(holds_andW hc).1;rw[hn]at h4;exact h4
  have h5:=condW_of h4 (w_not (w_lt w_lit (w_len_list (w_arg rfl))));rw[List.length_map]at h5;refine Nat.le_of_not_lt fun q=>?_;have q':(n:Int)<((ns.length:Nat):Int):=by omega
  first
   |(rw[decide_eq_true q']at h5;exact absurd h5 (by decide))
   |(simp at h5;omega)
 cases hwl with
 |cons w1 w2=>
  cases w2;cases w1 with
  |list ho hall=>exact⟨_,_,ns,rfl,rfl,ho,vf ns _ hall,hlen⟩
theorem Im(l:OpenLaw)(args:List WData):l.row.toRowW.claim.post args (.bool true) args=true:=
 postW_of (r:=l.row.toRowW) (X:=(true==true))
  (show WShape.has [] (.bool true) .bool=true by first|rfl|decide|simp[WShape.has,WShape.arms,WShape.armsAll])
  (show(WTm.eq .res (.lit (.bool true))).value [] { args:=args,res:=some (.bool true),after:=args }=some (.bool (true==true))from w_eq_bool (w_res rfl) w_lit) rfl
section
variable {prog:Program} {w:World} {A:Around} {E:Value->Shared->Prop} {s:Shared} {K:Frag}
end
end Att
namespace L2
open PySem PySem.Spec PyProof.Rows
theorem GB{vs:List Value}{ns:List Int}(h:IntsAre vs ns):Vals (ns.map V.int) vs:=by
 induction h with
 |nil=>exact .nil
 |cons n t h ih=>exact .cons ⟨t,rfl⟩ ih
def aD(s:Stmt):Arguments:=match s with
 |.FunctionDef _ a _ _ _ _ _ _ _ _=>a
 |_=>{ posonlyargs:=[],args:=[],vararg:=none,kwonlyargs:=[],kw_defaults:=[],kwarg:=none,defaults:=[] }
def aC(s:Stmt):List Stmt:=match s with
 |.FunctionDef _ _ b _ _ _ _ _ _ _=>b
 |_=>[]
def aj(s:Stmt):Scope:=match s with
 |.FunctionDef _ _ _ _ _ _ sc _ _ _=>sc
 |_=>{ kind:= .function,names:=[],isGenerator:=false,isCoroutine:=false }
abbrev E0:XK:=fun _ _ _=>False
structure Fun(K:W.Frag)(x qual:Str)(st:Stmt)(f:Addr)(fd:FuncData):Prop where
 ex:∃(oc:Value) (od:Option Addr) (kV doc pm:Value) (an:Option Addr) (cdv ct:Value) (osl:Array (Option Value)),
  fd=W.fnOf x qual (aD st) (aC st) (aj st) .none kV doc pm an cdv ct/\K.lookup f=some ⟨oc,od,.func fd,osl⟩/\W.codeIn K cdv qual=true
 kp:W.keepIn K (.ref f)=true
section
variable {P:Program} {w:World} {K:W.Frag} {mg:Str->Option Value} {base:Heap}
theorem Fun.binds{x qual:Str}{st:Stmt}{f:Addr}{fd:FuncData}{ps:List Str}(F:Fun K x qual st f fd)
  (h:∀(kV doc pm:Value) (an:Option Addr) (cdv ct:Value) (us:List Value),us.length=ps.length->bindArgs (W.fnOf x qual (aD st) (aC st) (aj st) .none kV doc pm an cdv ct) ⟨us,[]⟩=pure (ps.zip us)):Binds K fd ps []:=by
 obtain⟨oc,od,kV,doc,pm,an,cdv,ct,osl,rfl,lk,hcd⟩:=F.ex;exact .all (h kV doc pm an cdv ct)
theorem LK{x qual:Str}{st:Stmt}{f:Addr}{oc:Value}{od an:Option Addr}{osl:Array (Option Value)}{kV doc pm cdv ct:Value}(l:K.lookup f=some ⟨oc,od,.func (W.fnOf x qual (aD st) (aC st) (aj st) .none kV doc pm an cdv ct),osl⟩)
  (c:W.codeIn K cdv qual=true) (k:W.keepIn K (.ref f)=true):Fun K x qual st f (W.fnOf x qual (aD st) (aC st) (aj st) .none kV doc pm an cdv ct):=⟨⟨oc,od,kV,doc,pm,an,cdv,ct,osl,rfl,l,c⟩,k⟩
end
theorem bK{n:Nat}(h:n<=1000):n<sizeLine:=Nat.lt_of_le_of_lt h (by decide)
section
variable {X:Cx}
theorem pv(i:Nat){x:Str}{pos:Pos}(hN:X.N[i]?=some x:=by rfl)(hv:Vis X.env.scope x:=by first|exact Or.inl rfl|exact Or.inr (Or.inl rfl)|exact Or.inr (Or.inr rfl))(hd:(x==("__debug__" : Str))=false:=by decide)
  (hcd:(x==("__classdict__" : Str))=false:=by decide):PE X (.Name x pos) (aaJ i):=Mx hN hv hd hcd
end
theorem Ao{A B:Prop}(h:B):if false=true then A else B:=by
 rw[if_neg Bool.false_ne_true];exact h
theorem WD{A B:Prop}(h:A):if true=true then A else B:=by
 rw[if_pos rfl];exact h
theorem qJ{c A B:Prop}[Decidable c](h1:c->A)(h2:¬c->B):if c then A else B:=by
 by_cases h:c
 ·rw[if_pos h];exact h1 h
 ·rw[if_neg h];exact h2 h
def Same(H H':Hp):Prop:=∀b o,H b=some o->H' b=some o
theorem Same.refl(H:Hp):Same H H:=fun _ _ h=>h
theorem Same.trans{H H1 H2:Hp}(a:Same H H1)(b:Same H1 H2):Same H H2:=fun c o h=>b c o (a c o h)
theorem Same.free{H H':Hp}(e:Same H H'){l:Addr}(h:H' l=Option.none):H l=Option.none:=by
 cases q:H l with
 |none=>rfl
 |some o=>
  rw[e l o q]at h;cases h
theorem Same.seq{K:W.Frag}{H H':Hp}{a:Addr}{xs:List V}(e:Same H H')(h:SqL K H a xs):SqL K H' a xs:=by
 rcases h with(h|⟨o,h⟩)|h
 ·exact .inl (.inl (e _ _ h))
 ·exact .inl (.inr ⟨o,e _ _ h⟩)
 ·exact .inr h
section
variable {κ:Type} [DecidableEq κ]
end
theorem us0{us:List Value}(h:us.length=0):us=[]:=List.eq_nil_of_length_eq_zero h
theorem usS{us:List Value}{n:Nat}(h:us.length=n+1):∃a r,us=a::r/\r.length=n:=by
 cases us with
 |nil=>cases h
 |cons a r=>exact⟨a,r,rfl,Nat.succ.inj h⟩
theorem us1{us:List Value}(h:us.length=1):∃a,us=[a]:=by
 obtain⟨a,r,rfl,k⟩:=usS h;obtain rfl:=us0 k;exact⟨a,rfl⟩
theorem us2{us:List Value}(h:us.length=2):∃a b,us=[a,b]:=by
 obtain⟨a,r,rfl,k⟩:=usS h;obtain⟨b,rfl⟩:=us1 k;exact⟨a,b,rfl⟩
theorem us3{us:List Value}(h:us.length=3):∃a b c,us=[a,b,c]:=by
 obtain⟨a,r,rfl,k⟩:=usS h;obtain⟨b,c,rfl⟩:=us2 k;exact⟨a,b,c,rfl⟩
theorem us4{us:List Value}(h:us.length=4):∃a b c d,us=[a,b,c,d]:=by
 obtain⟨a,r,rfl,k⟩:=usS h;obtain⟨b,c,d,rfl⟩:=us3 k;exact⟨a,b,c,d,rfl⟩
structure lJ(P:Program)(w:World)(outer:List Env)(H:Hp)(s:Shared)(E:XK)(e:Value)(s':Shared):Prop where
 ex:∃(ea C:Addr) (a0:Value) (B:Heap) (H':Hp),e = .ref ea/\s'.os=s.os/\AllBare s'.gens/\Heap.FlyingW B outer ea (.ref C) a0 s'.heap/\HOk P w H' B/\Un (frs outer) [] H H' s.heap s'.heap/\
  (∀b o,s.heap.get? b=some o->b∈frs outer∨∃o',B.get? b=some o')/\E (.ref C) none H'
theorem rZ{P:Program}{w:World}{outer:List Env}{H:Hp}{s s':Shared}{e:Value}(h:lJ P w outer H s E0 e s'):False:=by
 obtain⟨_,_,_,_,_,_,_,_,_,_,_,_,q⟩:=h.ex;exact q
theorem LR{X:Cx}:Passes (lJ X.prog X.w) X E0:=fun _ _ _ _ _ _ _ h=>(rZ h).elim
section
variable {X:Cx} {pins:List (Addr×Obj)} {σ:St} {H:Hp} {s:Shared}
theorem Inv.CJ(I:Inv X pins σ H s){b:Addr}{o:Obj}(e:X.s₀.heap.get? b=some o)(hb:b∉X.fs):b∉frs X.stack:=fun z=>by
 rcases List.mem_cons.mp (I.C6 b z)with q|q
 ·exact absurd (Nat.lt_of_lt_of_le (Heap.lt_size e) I.ok.above) (by rw[<-q];exact Nat.lt_irrefl _)
 ·exact hb q
theorem wJ(I:Inv X pins σ H s){b:Addr}{o:Obj}(e:s.heap.get? b=some o)(hb:b∉frs X.stack):(W.hideAll s.heap (frs X.stack)).get? b=some o:=W.hideAll_get _ e hb
theorem Inv.Ug(I:Inv X pins σ H s):HOk X.prog X.w H (W.hideAll s.heap (frs X.stack)):=fun b o e=>
 (I.hok b o e).stay (fun c u hc q=>wJ I q fun z=>by
  have n:=I.Bm c z;rcases hc with rfl|hc
  ·rw[n]at e;cases e
  ·rw[n]at hc;cases hc) (fun _ q=>q) fun _ _ q=>q
theorem Inv.Z4(I:Inv X pins σ H s)(hex:X.ex=[]){H':Hp}{h':Heap}(keep:∀b o,s.heap.get? b=some o->H b=none->b∉frs X.stack->h'.get? b=some o)
  (slot:∀b o,s.heap.get? b=some o->H b=none->b∈X.fs->∃sl,h'.get? b=some { o with slots:=sl }) (free:∀b o,s.heap.get? b=some o->H b=none->H' b=none) (there:∀b o,s.heap.get? b=some o->∃o',h'.get? b=some o')
  (tups:∀b xs,H b=some (.tup xs)->H' b=some (.tup xs)) (Am:∀b o u,H b=some (.frz o u)->H' b=some (.frz o u)) (Bv:∀b ps,H b=some (.tbl ps)->∃more,H' b=some (.tbl (ps++more))):
  Un (frs X.outer) [] X.H₀ H' X.s₀.heap h':=by
 have nx:∀b:Addr,b∉X.ex:=fun b=>by rw[hex];simp
 refine⟨fun b o e n hb _=>?_,fun b o e n hb _=>?_,fun b o e n _=>?_,fun b o e _=>?_,fun b xs e=>tups b xs (I.base.tups b xs e),fun b o u e=>Am b o u (I.base.Am b o u e),fun b ps e=>?_⟩
 ·exact keep b o (I.base.keep b o e n hb (nx b)) (I.base.free b o e n (nx b)) (I.CJ e hb)
 ·obtain⟨sl,e1⟩:=I.base.slot b o e n hb (nx b);obtain⟨sl',e2⟩:=slot b _ e1 (I.base.free b o e n (nx b)) hb;exact⟨sl',e2⟩
 ·obtain⟨o',e1⟩:=I.base.there b o e (nx b);exact free b o' e1 (I.base.free b o e n (nx b))
 ·obtain⟨o',e1⟩:=I.base.there b o e (nx b);exact there b o' e1
 ·obtain⟨m1,e1⟩:=I.base.Bv b ps e;obtain⟨m2,e2⟩:=Bv b _ e1;exact⟨m1++m2,by rw[e2,Array.append_assoc]⟩
end
abbrev cxF(P:Program)(w:World)(K:W.Frag)(mg:Str->Option Value)(base:Heap)(N:List Str)(qual:Str)(scope:Scope)(f:Addr)(cdv:Value)(A:Around)(outer:List Env)(s:Shared)(H:Hp)(E:XK):Cx:=
 Kl (lJ P w) P w K mg base N qual scope f cdv A outer s H E
section
variable {P:Program} {w:World} {K:W.Frag} {mg:Str->Option Value} {base:Heap} {N:List Str} {qual:Str} {scope:Scope} {f:Addr} {cdv:Value} {A:Around} {outer:List Env} {s₀:Shared} {H₀:Hp} {E:XK}
theorem BZ{pins:List (Addr×Obj)}{σ:St}{H:Hp}{s:Shared}{h1:Heap}{e C:Addr}{vs:List Value}(I:Inv (cxF P w K mg base N qual scope f cdv A outer s₀ H₀ E) pins σ H s)(hx:Heap.MadeExcOf s.heap h1 e (.ref C) vs)(q:E (.ref C) none H):
  (cxF P w K mg base N qual scope f cdv A outer s₀ H₀ E).xe (.ref e) { s with heap:=h1 }:=by
 have hin:∀env∈envOfC qual scope s₀.heap.objs.size f cdv::outer,∀a,env.frame=some a->a∈frs (envOfC qual scope s₀.heap.objs.size f cdv::outer):=fun env he a ha=>List.mem_filterMap.mpr ⟨env,he,ha⟩;refine wpAny_leaves_madeW (base:=W.hideAll s.heap (frs (envOfC qual scope s₀.heap.objs.size f cdv::outer))) (h:=s.heap) (L:=s₀.heap.objs.size) I.ok.frames rfl (fun b o q=>W.of_hideAll _ q) (W.funFrames_hide I.stack hin) hx fun h' t x1 x2 x3 x4=>?_;have up:∀b o,s.heap.get? b=some o->b∈frs (envOfC qual scope s₀.heap.objs.size f cdv::outer)->∃sl,h'.get? b=some { o with slots:=sl }:=fun b o e hb=>by
  obtain⟨_,o',ho',hd⟩:=I.stack.mem hb;rw[e]at ho';cases ho';exact x4 b o (hx.keeps b o e) hd
 refine⟨e,C,.ref t,_,H,rfl,I.os,I.bare,x1,I.Ug,I.Z4 rfl (fun b o e _ hb=>x1.1 b o (wJ I e hb)) (fun b o e _ hb=>up b o e (List.mem_cons_of_mem _ hb)) (fun _ _ _ n=>n) (fun b o e=>?_) (fun _ _ z=>z) (fun _ _ _ z=>z) (fun b ps z=>⟨#[],by rw[z];simp⟩),fun b o e=>?_,q⟩
 ·by_cases hb:b∈frs (envOfC qual scope s₀.heap.objs.size f cdv::outer)
  ·obtain⟨sl,z⟩:=up b o e hb;exact⟨_,z⟩
  ·exact⟨o,x1.1 b o (wJ I e hb)⟩
 ·by_cases hb:b∈frs outer
  ·exact .inl hb
  ·obtain⟨o',e1⟩:=I.base.there b o e (by intro z;cases z);exact .inr ⟨o',wJ I e1 (I.CJ e hb)⟩
theorem NQ:Passes (lJ P w) (cxF P w K mg base N qual scope f cdv A outer s₀ H₀ E) E:=by
 intro pins σ H s e s' I h;obtain⟨ea,C,a0,B,H',rfl,os,bare,fl,hok,un,old,q⟩:=h.ex;refine wpAny_leaves_onW (L:=s₀.heap.objs.size) I.ok.frames rfl fl fun h' x1 x2=>?_;have inB:∀b o,s.heap.get? b=some o->b∉frs (envOfC qual scope s₀.heap.objs.size f cdv::outer)->∃o',B.get? b=some o'/\s'.heap.get? b=some o':=fun b o e hb=>by
  rcases old b o e with z|⟨o',z⟩
  ·exact absurd z hb
  ·exact⟨o',z,fl.1 b o' z⟩
 have up:∀b o,s'.heap.get? b=some o->b∈frs (envOfC qual scope s₀.heap.objs.size f cdv::outer)->∃sl,h'.get? b=some { o with slots:=sl }:=fun b o e hb=>by
  obtain⟨_,o',ho',hd⟩:=fl.2.2.1.mem hb;rw[e]at ho';cases ho';exact x2 b o e hd
 refine⟨ea,C,a0,B,H',rfl,os.trans I.os,bare,x1,hok,I.Z4 rfl (fun b o e n hb=>?_) (fun b o e n hb=>?_) (fun b o e n=>un.free b o e n (by simp)) (fun b o e=>?_) un.tups un.Am un.Bv,fun b o e=>?_,q⟩
 ·obtain⟨o',e1,e2⟩:=inB b o e hb;have e3:=un.keep b o e n hb (by simp);rw[e2]at e3;cases e3;exact x1.1 b _ e1
 ·obtain⟨sl,e1⟩:=un.slot b o e n (List.mem_cons_of_mem _ hb) (by simp);obtain⟨sl',e2⟩:=up b _ e1 (List.mem_cons_of_mem _ hb);exact⟨sl',e2⟩
 ·by_cases hb:b∈frs (envOfC qual scope s₀.heap.objs.size f cdv::outer)
  ·obtain⟨o',e1⟩:=un.there b o e (by simp);obtain⟨sl,e2⟩:=up b o' e1 hb;exact⟨_,e2⟩
  ·obtain⟨o',e1,_⟩:=inB b o e hb;exact⟨o',x1.1 b o' e1⟩
 ·by_cases hb:b∈frs outer
  ·exact .inl hb
  ·obtain⟨o',e1⟩:=I.base.there b o e (by intro z;cases z);obtain⟨o2,e2,_⟩:=inB b o' e1 (I.CJ e hb);exact .inr ⟨o2,e2⟩
end
def SQ(C:Addr)(E:XK)(t:TA):TS:=fun _ σ H=>t σ H fun vs H1=>vs.length<=sizeLine/\E (.ref C) none H1
structure ExC(mg:Str->Option Value)(base:Heap)(x:Str)(C:Addr):Prop where
 ex:∃bm newId,OwnCls x C bm newId mg base/\∃(Bn inN:String) (bmN:List Value) (B nid initId:String),ExcBaseFacts Bn newId inN bmN/\bm.contains (.type Bn)=true/\ExcBaseFacts B nid initId bm
theorem J0{P:Program}{w:World}{K:W.Frag}{mg:Str->Option Value}{base:Heap}{N:List Str}{qual:Str}{scope:Scope}{f:Addr}{cdv:Value}{A:Around}{outer:List Env}{s₀:Shared}{H₀:Hp}{E:XK}
  {x:Str} {C:Addr} {np cpos pos:Pos} {e:Expr} {es:List Expr} {t:TA} (O:ExC mg base x C) (hg:Gl (cxF P w K mg base N qual scope f cdv A outer s₀ H₀ E) x) (ha:PA (cxF P w K mg base N qual scope f cdv A outer s₀ H₀ E) (e::es) t)
  (hdb:(x==("__debug__" : Str))=false:=by decide)
  (he:starEach (e::es) (cxF P w K mg base N qual scope f cdv A outer s₀ H₀ E).env=(false,eval e (cxF P w K mg base N qual scope f cdv A outer s₀ H₀ E).env)::starEach es (cxF P w K mg base N qual scope f cdv A outer s₀ H₀ E).env:=by rfl)
  (hpl:(backTo cpos (starEach es (cxF P w K mg base N qual scope f cdv A outer s₀ H₀ E).env)).any (·.1)=false:=by rfl):
  PS (cxF P w K mg base N qual scope f cdv A outer s₀ H₀ E) (.Raise (some (.Call (.Name x np) (e::es) [] cpos)) none pos) (SQ C E t):=by
 intro pins s σ H D I h;obtain⟨bm,newId,O,Bn,inN,bmN,B,nid,initId,Fn,hBn,FB⟩:=O.ex;obtain⟨tl,Nn,nm,q,bs,hdct,sn,sub,ab,col,dd,k0,k1,k2,k3,k5,mN,hC,hN,hni,T⟩:=O.obj;refine wpAny_Raise_call_subU (C:=C) (nm:=nm) (q:=q) (N:=Nn) (bs:=bs) (bm:=tl) (hdct:=hdct) (sn:=sn) (sub:=sub) (ab:=ab) (col:=col) (dd:=dd) (k0:=k0) (k1:=k1) (k2:=k2) (k3:=k3) (k5:=k5)
  Fn hBn FB (mN:=mN) (T.hasType FB.hasBase) (I.ok.hd rfl) (by rw[he];show(false||(backTo cpos (starEach es (cxF P w K mg base N qual scope f cdv A outer s₀ H₀ E).env)).any (·.1))=false;rw[hpl];rfl) hni (uX I hg O.bound ⟨rfl,?_⟩ hdb)
 have h2:=ha cpos pins s σ H _ I h;rw[he]at h2⊢;refine Calls.evalArgs_plain (wpAny_mono h2 (fun us s2 ⟨vs,H2,I2,r,z,q⟩=>⟨rfl,by rw[<-r.length];exact z,I2.bk _ _ hC,hN.keeps I2.bk,T.keeps I2.bk,fun h' e hm=>BZ I2 hm q⟩) fun _ _ y=>y)
theorem Fun.okF{P:Program}{w:World}{K:W.Frag}{mg:Str->Option Value}{base:Heap}{x qual:Str}{st:Stmt}{f:Addr}{fd:FuncData}{N ps:List Str}{k:Nat}{sp:Sp}(F:Fun K x qual st f fd)(S:aO N ps (aj st))(len:∀vs H Q E,sp vs H Q E->vs.length=ps.length)
  (hbody:∀(cdv:Value) (A:Around) (outer:List Env) (s:Shared) (H:Hp) (vs:List V) (Q:VK) (E:XK),jA k (A.deeper (envOfC qual (aj st) s.heap.objs.size f cdv))->sp vs H Q E->
   ∃t,PSs (cxF P w K mg base N qual (aj st) f cdv A outer s H E) (aC st) t/\t { nx:=fun _ H'=>Q .non H',rt:=Q } (start N vs) H):E9 P w K mg base (lJ P w) (k+1) f fd ps sp:=by
 obtain⟨oc,od,kV,doc,pm,an,cdv,ct,osl,rfl,lk,hcd⟩:=F.ex;exact QX lk hcd S len fun A outer s H vs Q E hr hsp=>hbody cdv A outer s H vs Q E hr hsp
theorem Fun.okN{P:Program}{w:World}{K:W.Frag}{mg:Str->Option Value}{base:Heap}{x qual:Str}{st:Stmt}{f:Addr}{fd:FuncData}{N ps:List Str}{k:Nat}{sp:Sp}(F:Fun K x qual st f fd)(S:aO N ps (aj st))(len:∀vs H Q E,sp vs H Q E->vs.length=ps.length)
  (hbody:∀(cdv:Value) (A:Around) (outer:List Env) (s:Shared) (H:Hp) (vs:List V) (Q:VK) (E:XK),jA k (A.deeper (envOfC qual (aj st) s.heap.objs.size f cdv))->sp vs H Q E->
   ∃t,PSs (cxF P w K mg base N qual (aj st) f cdv A outer s H E).nox (aC st) t/\t { nx:=fun _ H'=>Q .non H',rt:=Q } (start N vs) H):E9 P w K mg base (lJ P w) (k+1) f fd ps sp:=
 F.okF S len fun cdv A outer s H vs Q E hr h=>let⟨t,a,b⟩:=hbody cdv A outer s H vs Q E hr h;⟨t,a.nox,b⟩
section
variable {X:Cx}
theorem OpR.imp{f:Value->Value->Sem Value}{r r':R2}(h:OpR X f r)(i:∀x y H Q,r' x y H Q->r x y H Q):OpR X f r':=fun pins s σ H x y v u Q I rx ry q=>h pins s σ H x y v u Q I rx ry (i _ _ _ _ q)
theorem IxR.imp{r r':R2}(h:IxR X r)(i:∀x y H Q,r' x y H Q->r x y H Q):IxR X r':=fun value slice pins s σ H x y v u Q I rx ry q hs=>h value slice pins s σ H x y v u Q I rx ry (i _ _ _ _ q) hs
theorem tW{x:Str}{i:Int}{pos:Pos}(hg:Gl X x)(hm:∃t,X.mg x=some (.int i t))(hd:(x==("__debug__" : Str))=false:=by decide):PE X (.Name x pos) (tC (.int i)):=by
 obtain⟨t,e⟩:=hm;exact FJ hg e ⟨t,rfl⟩ hd
structure Cal(P:Program)(w:World)(K:W.Frag)(mg:Str->Option Value)(base:Heap)(x:Str)(k:Nat)(ps:List Str)(sp:Sp):Prop where
 ex:∃(g:Addr) (gd:FuncData),mg x=some (.ref g)/\W.keepIn K (.ref g)=true/\Binds K gd ps []/\E9 P w K mg base (lJ P w) k g gd ps sp
theorem aq{x:Str}{k k':Nat}{ps:List Str}{sp:Sp}{p pos:Pos}{e:Expr}{es:List Expr}{t:TA}(C:Cal X.prog X.w X.K X.mg X.base x k ps sp)(hr:jA k' X.A)(hg:Gl X x)(ha:PA X (e::es) t)
  (hk:k<=k':=by decide) (hd:(x==("__debug__" : Str))=false:=by decide)
  (he:starEach (e::es) X.env=(false,eval e X.env)::starEach es X.env:=by rfl) (hpl:(backTo pos (starEach es X.env)).any (·.1)=false:=by rfl):PE X (.Call (.Name x p) (e::es) [] pos) (K7 sp [] E0 t):=by
 obtain⟨g,gd,hm,hkp,hb,F⟩:=C.ex;exact AF F (hr.mono hk) hg hm hkp hb .nil LR ha hd he hpl
theorem kE{P:Program}{w:World}{K:W.Frag}{mg:Str->Option Value}{base:Heap}{N:List Str}{qual:Str}{scope:Scope}{f:Addr}{cdv:Value}{A:Around}{outer:List Env}{s₀:Shared}{H₀:Hp}{E:XK}
  {x:Str} {k k':Nat} {ps:List Str} {sp:Sp} {p pos:Pos} {e:Expr} {es:List Expr} {t:TA} (C:Cal P w K mg base x k ps sp) (hr:jA k' (cxF P w K mg base N qual scope f cdv A outer s₀ H₀ E).A) (hg:Gl (cxF P w K mg base N qual scope f cdv A outer s₀ H₀ E) x)
  (ha:PA (cxF P w K mg base N qual scope f cdv A outer s₀ H₀ E) (e::es) t) (hk:k<=k':=by decide) (hd:(x==("__debug__" : Str))=false:=by decide)
  (he:starEach (e::es) (cxF P w K mg base N qual scope f cdv A outer s₀ H₀ E).env=(false,eval e (cxF P w K mg base N qual scope f cdv A outer s₀ H₀ E).env)::starEach es (cxF P w K mg base N qual scope f cdv A outer s₀ H₀ E).env:=by rfl)
  (hpl:(backTo pos (starEach es (cxF P w K mg base N qual scope f cdv A outer s₀ H₀ E).env)).any (·.1)=false:=by rfl):
  PE (cxF P w K mg base N qual scope f cdv A outer s₀ H₀ E) (.Call (.Name x p) (e::es) [] pos) (K7 sp [] E t):=by
 obtain⟨g,gd,hm,hkp,hb,F⟩:=C.ex;exact AF (X:=cxF P w K mg base N qual scope f cdv A outer s₀ H₀ E) F (hr.mono hk) hg hm hkp hb .nil NQ ha hd he hpl
theorem KH{prog:Program}{w:World}{A:Around}{E:Value->Shared->Prop}{s:Shared}{t b:Addr}{vs ws:List Value}{Q:Value->Shared->Prop}(ht:IsTup s.heap t vs.toArray)(hb:IsTup s.heap b ws.toArray)(hv:vs=[])
  (h1:Q (.ref b) s):wpAny (model prog w) A (binaryOp .Add (.ref t) (.ref b)) Q E s:=by
 obtain⟨⟨cls,dd,data,sl⟩,ho,hc,n,hd⟩:=id ht;obtain⟨⟨cls2,dd2,data2,sl2⟩,ho2,hc2,n2,hd2⟩:=id hb;simp only at hc hd hc2 hd2;subst hc hd hc2 hd2;exact concat_meets ⟨_,ho,rfl⟩ ⟨_,ho2,rfl⟩ noFill_tuple_add seq_tuple_add PySem.F.slot_tuple_add PySem.F.entry_tuple_add (PySem.F.args_tuple_add_2 _ _)
   (tuple_addW0 t b vs.toArray ws.toArray n n2 dd dd2 sl sl2 (by simp[hv])) ⟨ho,ho2,h1⟩
def Xc(K:W.Frag):R2:=fun x y H Q=>∃a b ys,x = .ref a/\y = .ref b/\SqT K H a []/\SqT K H b ys/\Q (.ref b) H
theorem NW:OpR X (binaryOp .Add) (Xc X.K):=by
 intro pins s σ H x y v u Q I rx ry h;obtain⟨a,b,ys,rfl,rfl,ha,hb,q⟩:=h;cases rx;cases ry;obtain⟨its,r1,p1,_⟩:=I.tuple ha;obtain⟨its2,r2,p2,_⟩:=I.tuple hb;exact KH p1 p2 (r1.wO.mpr rfl) ⟨.ref b,H,I,rfl,q⟩
def J7(K:W.Frag):R2:=fun x y H Q=>match x,y with
 |.int i,.int j=>Q (.int (i+j)) H
 |.str i,.str j=>i.length+j.length<=sizeLine/\Q (.str (i++j)) H
 |.ref a,.ref b=>(∃xs ys,H a=some (.lst xs)/\H b=some (.lst ys)/\xs.length+ys.length<=sizeLine/\∀p,H p=none->Q (.ref p) (upd H p (.lst (xs++ys))))∨
   (∃xs ys,SqT K H a xs/\SqT K H b ys/\xs.length+ys.length<=sizeLine/\(xs=[]->Q (.ref b) H)/\(xs≠[]->ys=[]->Q (.ref a) H)/\(xs≠[]->ys≠[]->∀p,H p=none->Q (.ref p) (upd H p (.tup (xs++ys)))))
 |_,_=>False
theorem v_add:OpR X (binaryOp .Add) (J7 X.K):=by
 refine((RJ.or DQ).or (Qn.or (Pj.or NW))).imp fun x y H Q h=>?_;unfold J7 at h;split at h
 ·exact .inl (.inl ⟨_,_,rfl,rfl,h⟩)
 ·exact .inl (.inr ⟨_,_,rfl,rfl,h⟩)
 ·rcases h with⟨xs,ys,h1,h2,h3,h4⟩|⟨xs,ys,h1,h2,h3,h4,h5,h6⟩
  ·exact .inr (.inl ⟨_,_,xs,ys,rfl,rfl,h1,h2,h3,h4⟩)
  ·by_cases hx:xs=[]
   ·subst hx;exact .inr (.inr (.inr ⟨_,_,ys,rfl,rfl,h1,h2,h4 rfl⟩))
   ·exact .inr (.inr (.inl ⟨_,_,xs,ys,rfl,rfl,h1,h2,hx,h3,h5 hx,h6 hx⟩))
 ·exact h.elim
def RZ:R2:=fun x y H Q=>match x,y with
 |.int i,.int j=>IntMulOk i j/\Q (.int (i*j)) H
 |.ref l,.int k=>∃xs,H l=some (.lst xs)/\-(2^63)<=k/\k<2^63/\xs.length*k.toNat<=sizeLine/\∀p,H p=none->Q (.ref p) (upd H p (.lst (List.replicate k.toNat xs).flatten))
 |_,_=>False
theorem Nq:OpR X (binaryOp .Mult) (rI IntMulOk fun i j=> .int (i*j)):=opI fun _ _ _ _ _ _ _ hc q=>mul_int q hc
theorem v_mul:OpR X (binaryOp .Mult) RZ:=by
 refine(Nq.or Ui).imp fun x y H Q h=>?_;unfold RZ at h;split at h
 ·exact .inl ⟨_,_,rfl,rfl,h.1,h.2⟩
 ·obtain⟨xs,h1,h2,h3,h4,h5⟩:=h;exact .inr ⟨_,_,xs,rfl,rfl,h1,h2,h3,h4,h5⟩
 ·exact h.elim
inductive SIx(K:W.Frag)(p:Addr)(i:Int)(H:Hp)(Q:VK):Prop|mk (xs:List V) (v:V) (hs:SqL K H p xs∨SqT K H p xs) (ha:atI xs i=some v) (q:Q v H)
def WM(K:W.Frag):R2:=fun x y H Q=>match x,y with
 |.ref p,.int i=>SIx K p i H Q
 |.str z,.int i=>∃c,z.length<=sizeLine/\atI z.cps.toList i=some c/\Q (.str ⟨#[c]⟩) H
 |_,_=>False
theorem acf:IxR X (WM X.K):=by
 refine Ti.imp fun x y H Q h=>?_;unfold WM at h;split at h
 ·obtain⟨xs,v,h1|h1,h2,h3⟩:=h
  ·exact .inl ⟨_,xs,_,v,rfl,rfl,h1,h2,h3⟩
  ·exact .inr (.inl ⟨_,xs,_,v,rfl,rfl,h1,h2,h3⟩)
 ·obtain⟨c,h1,h2,h3⟩:=h;exact .inr (.inr ⟨_,_,c,rfl,rfl,h1,h2,h3⟩)
 ·exact h.elim
def adQ(H:Hp):V->Option String
 |.non=>some "NoneType"
 |.bl _=>some "bool"
 |.int _=>some "int"
 |.str _=>some "str"
 |.ref a=>match H a with
  |some (.lst _)=>some "list"
  |some (.frz _ (.lst _))=>some "list"
  |some (.tup _)=>some "tuple"
  |some (.dK _)=>some "dict"
  |_=>none
 |_=>none
theorem v_sum(hc:X.calm=true):rm X (.builtin "sum") (fun xs H Q=>∃(l:Addr) (ns:List Int),xs=[.ref l]/\SqL X.K H l (ns.map V.int)/\Q (.int ns.sum) H):=by
 intro pins s σ H xs us Q I r h;obtain⟨l,ns,rfl,hl,q⟩:=h;obtain⟨u,rfl,ru⟩:=r.one;cases ru;obtain⟨its,rv,pl,hz⟩:=I.list hl;have hi:=intsAre_of rv;obtain⟨xs,hx⟩:=hi.allInts.items;have hl':s.heap.IsList l (intItems xs):=hx▸pl.isList;refine sum_intListG (I.ok.hd hc) hl' fun h' tk t' hk=>?_;have e1:ns=xs.toList.map (·.1):=by
  rw[<-nums_intItems,<-hx];exact(show numsOf its.toArray.toList=ns from hi.numsOf).symm
 have e2:preSum (numAt xs) xs.size=ns.sum:=by
  rw[preSum_eq,List.take_of_length_le (by simp),e1]
 rw[e2];exact⟨.int _,H,I.kept hk,⟨_,rfl⟩,q⟩
def aa0(K:W.Frag)(tl:TE):TI:=fun σ H R=>tl σ H fun x H1=>∃a,x = .ref a/\(((∃xs,SqL K H1 a xs)/\R (Itl K a) H1)∨((∃xs,SqT K H1 a xs)/\R (Itt K a) H1))
theorem SW{tg l:Expr}{tl:TE}(hl:PE X l tl):PI X tg l (aa0 X.K tl):=by
 intro pins s σ H R I h;refine thn (hl pins s σ H _ I h) fun v s1 ⟨x,H1,I1,r1,a,e,q⟩=>?_;subst e;cases r1;rcases q with⟨⟨xs,hq⟩,q⟩|⟨⟨xs,hq⟩,q⟩
 ·have hh:PI X tg l (aax X.K fun σ' H' Q=>Q (.ref a) H')->True:=fun _=>trivial;obtain⟨its,rv,p,hz⟩:=I1.list hq;refine wpAny_pyIter_list p.isList ?_;refine⟨s1.heap.objs.size,[s1.heap.objs.size],_,_,H1,rfl,I1.kept (t':=s1.toks) fun b o e=>Heap.get?_push_of_some _ e,Ia a _,⟨_,Heap.get?_push_size _ rfl,rfl,rfl⟩,fun b hb=>?_,q⟩;have e:b=s1.heap.objs.size:=by simpa using hb
  subst e;exact I1.Rj (Nat.le_refl _) (I1.hok.fresh (Nat.le_refl _))
 ·obtain⟨its,rv,p,hz⟩:=I1.tuple hq;refine wpAny_pyIter_tuple (show s1.heap.IsTuple a its.toArray from p) ?_;refine⟨s1.heap.objs.size,[s1.heap.objs.size],_,_,H1,rfl,I1.kept (t':=s1.toks) fun b o e=>Heap.get?_push_of_some _ e,DG a _,⟨_,Heap.get?_push_size _ rfl,rfl,rfl⟩,fun b hb=>?_,q⟩;have e:b=s1.heap.objs.size:=by simpa using hb
  subst e;exact I1.Rj (Nat.le_refl _) (I1.hok.fresh (Nat.le_refl _))
end
theorem rY{env:Env}:∀(names:List (Str×NameKind)) (acc:List (Str×Addr)),(∀y∈names,y.2 = .free->∃c,env.cells.lookup y.1=some c)->(∀p∈acc,env.cells.lookup p.1=some p.2)->
 ∃cl,(forIn names acc fun(y:Str×NameKind) (cs:List (Str×Addr))=>match y with|(name,kind)=>if(kind== .free)=true then do let a<-cellOf env name;pure (ForInStep.yield ((name,a)::cs))else pure (ForInStep.yield cs))=(pure cl:Sem _)/\(∀p∈cl,env.cells.lookup p.1=some p.2)/\(∀p∈acc,p∈cl)/\∀y∈names,y.2 = .free->∃c,(y.1,c)∈cl
 |[],acc,_,ha=>⟨acc,rfl,ha,fun _ h=>h,fun _ h=>nomatch h⟩
 |(n,k)::r,acc,hf,ha=>by
  have hr:∀y∈r,y.2 = .free->∃c,env.cells.lookup y.1=some c:=fun y hy=>hf y (List.mem_cons_of_mem _ hy);by_cases hk:k = .free
  ·subst hk;obtain⟨c,hc⟩:=hf (n,.free) List.mem_cons_self rfl;obtain⟨cl,e,h1,h2,h3⟩:=rY r ((n,c)::acc) hr (fun p hp=>by
    rcases List.mem_cons.mp hp with rfl|hp
    ·exact hc
    ·exact ha p hp)
   refine⟨cl,?_,h1,fun p hp=>h2 p (List.mem_cons_of_mem _ hp),fun y hy hyf=>?_⟩
   ·rw[List.forIn_cons];simp only[beq_self_eq_true,if_true,cellOf,hc,pure_bind];exact e
   ·rcases List.mem_cons.mp hy with rfl|hy
    ·exact⟨c,h2 _ List.mem_cons_self⟩
    ·exact h3 y hy hyf
  ·have hb:(k==NameKind.free)=false:=by simpa using hk
   obtain⟨cl,e,h1,h2,h3⟩:=rY r acc hr ha;refine⟨cl,?_,h1,h2,fun y hy hyf=>?_⟩
   ·rw[List.forIn_cons];simp only[hb,Bool.false_eq_true,if_false,pure_bind];exact e
   ·rcases List.mem_cons.mp hy with rfl|hy
    ·exact absurd hyf hk
    ·exact h3 y hy hyf
theorem vX{env:Env}{scope:Scope}(hf:∀y∈scope.names,y.2 = .free->∃c,env.cells.lookup y.1=some c):
  ∃cl,closureFor scope env=pure cl/\(∀x c,cl.lookup x=some c->env.cells.lookup x=some c)/\∀y∈scope.names,y.2 = .free->∃c,cl.lookup y.1=some c:=by
 obtain⟨cl,e,h1,_,h3⟩:=rY (env:=env) scope.names [] hf (fun _ h=>nomatch h);refine⟨cl,?_,fun x c h=>h1 (x,c) (PySem.mem_of_lookup h),fun y hy hyf=>?_⟩
 ·unfold closureFor;simp only[bind_pure_comp]at e⊢;rw[e];rfl
 ·obtain⟨c,hc⟩:=h3 y hy hyf;cases q:cl.lookup y.1 with
  |some d=>exact⟨d,rfl⟩
  |none=>
   have z:=List.lookup_eq_none_iff.mp q (y.1,c) hc;simp at z
def VD(sc:Scope)(cl:List (Str×Addr))(C:Addr)(env:Env):Env:=
 { scope:=sc,locals:=C,globals:=env.globals,cells:=cl,qual:=env.qual,func:=none,code:=env.code,frame:=env.frame,builtins:=env.builtins }
def cCx(X:Cx)(sc:Scope)(N:List Str)(cl:List (Str×Addr))(C:Addr)(s₀:Shared)(H₀:Hp)(ex:List Addr):Cx:=
 { X with env:=VD sc cl C X.env,N:=N,s₀:=s₀,H₀:=H₀,outer:=X.stack,ex:=ex,fn:=fun _=>false,pn:=[],xe:=fun _ _=>False }
def cst(ix:List (Option Nat))(σ:St):St:=ix.map fun o=>match o with
 |none=>none
 |some i=>match σ[i]? with
  |some v=>v
  |none=>none
def PIf(X:Cx)(ifs:List Expr)(t:TT):Prop:=
 ∀(pins:List (Addr×Obj)) (s:Shared) (σ:St) (H:Hp) (Q:Bool->Hp->Prop),Inv X pins σ H s->t σ H Q->
  wpAny (model X.prog X.w) X.A (forIn ifs true fun c r=>if r=true then do let ok<-isTrue c X.env (eval c X.env);pure (ForInStep.yield ok)else pure (ForInStep.yield r)) (TP X pins σ Q) X.xe s
def Gf:TT:=fun _ H Q=>Q true H
theorem cV{X:Cx}:PIf X [] Gf:=fun _ _ _ H _ I h=>wpAny_tests_nil ⟨H,I,h⟩
theorem nW{prog:Program}{w:World}{A:Around}{R:Result->Shared->Prop}{s:Shared}{elt target iter:Expr}{ifs:List Expr}{scope:Scope}{pos:Pos}{it acc:Value}{env:Env}(I:Nat->Shared->Prop)
  (turn:∀n s,I n s->wpAny (model prog w) A (pyNext it) (fun r s₁=>match r with
   |none=>R (.ok .next) s₁
   |some v=>wpAny (model prog w) A (letOwnedTupleGo target it v) (fun _ s₀=>wpAny (model prog w) A (assign target env v) (fun _ s₂=>
     wpAny (model prog w) A (forIn ifs true fun c r=>if r=true then do let ok<-isTrue c env (eval c env);pure (ForInStep.yield ok)else pure (ForInStep.yield r)) (fun ok s₃=>
      if ok=true then wpAny (model prog w) A (eval elt env) (fun x s₄=>
       wpAny (model prog w) A (call (.builtin "list.append") [acc,x]) (fun _ s₅=>∃m,m<n/\I m s₅) (fun _ _=>False) s₄) (fun _ _=>False) s₃
      else ∃m,m<n/\I m s₃) (fun _ _=>False) s₂) (fun _ _=>False) s₀) (fun _ _=>False) s₁) (fun _ _=>False) s)
  (n:Nat) (h:I n s):
  codeAny (model prog w) A (.compLoop (.ListComp elt [⟨target,iter,ifs,0⟩] scope pos) 0 it acc env) R s:=by
 refine codeAny_loop rfl I (fun n s hI=>?_) n h;show wpAny _ A ((compTurn (.ListComp elt [⟨target,iter,ifs,0⟩] scope pos) 0 it acc env).onRaise (fun x=>do noteFrame x env;theTreesLotGoes x)) _ _ s
 refine wpAny_noted ?_;rw[compTurn_list];refine wpAny_bind (wpAny_standAt (wpAny_bind (wpAny_mono (turn n s hI) (fun r s₁ h₁=>?_) fun _ _ h'=>h'.elim)));cases r with
 |none=>exact wpAny_pure h₁
 |some v=>
  refine wpAny_bind (wpAny_mono h₁ (fun _ s₀ h₀=>?_) fun _ _ h'=>h'.elim);refine wpAny_bind (wpAny_mono h₀ (fun _ s₂ h₂=>wpAny_bind (wpAny_mono h₂ (fun ok s₃ h₃=>?_) fun _ _ h'=>h'.elim)) fun _ _ h'=>h'.elim);cases ok with
  |false=>exact wpAny_pure ⟨rfl,h₃⟩
  |true=>
   exact wpAny_bind (wpAny_bind (wpAny_mono h₃ (fun x s₄ h₄=>wpAny_bind (wpAny_mono h₄ (fun _ s₅ h₅=>wpAny_pure (wpAny_pure ⟨rfl,h₅⟩)) fun _ _ h'=>h'.elim)) fun _ _ h'=>h'.elim))
structure tD(ix:List (Option Nat))(g:TG)(tc:TT)(te:TE)(σ:St)(Q:VK)(J:It)(H1:Hp):Prop where
 go:∀D,H1 D=none->∃W:Nat->Nat->St->Hp->Prop,(∃m,W 0 m (cst ix σ) (upd H1 D (.lst [])))/\
  ∀i m σ' H',W i m σ' H'->(J.stop i H'/\Q (.ref D) H')∨(J.go i H'/\∀x H2,J.yld i H' x H2->g x σ' H2 fun σ3 H3=>tc σ3 H3 fun b H4=>
   if b=true then te σ3 H4 fun y H5=>∃ys,H5 D=some (.lst ys)/\ys.length<sizeLine/\∃m',m'<m/\W (i+1) m' σ3 (upd H5 D (.lst (ys++[y])))
   else ∃m',m'<m/\W (i+1) m' σ3 H4)
def OG(ix:List (Option Nat))(wi:TI)(g:TG)(tc:TT)(te:TE):TE:=fun σ H Q=>wi σ H fun J H1=>tD ix g tc te σ Q J H1
structure Dq(X:Cx)(scope sc:Scope)(N:List Str)(ix:List (Option Nat)):Prop where
 rel:relabel scope X.env=sc
 kind:scope.kind = .function
 cell:∀y∈scope.names,y.2≠ .cell
 names:∀x∈scope.names,x.2 = .local->scope.names.lookup x.1=some .local
 free:∀y∈scope.names,y.2 = .free->X.env.kindOf y.1=some .cell∨X.env.kindOf y.1=some .free
 len:N.length=ix.length
 ix:∀(j:Nat) (x:Str) (i:Nat),N[j]?=some x->ix[j]?=some (some i)->X.N[i]?=some x/\(x,NameKind.free)∈scope.names/\(sc.names.lookup x=some .cell∨sc.names.lookup x=some .free)
 has:∀x,(sc.names.lookup x=some .cell∨sc.names.lookup x=some .free)->(x,NameKind.free)∈scope.names
theorem zj{X:Cx}{tg iter elt:Expr}{ifs:List Expr}{scope sc:Scope}{pos ip:Pos}{wi:TI}{g:TG}{tc:TT}{te:TE}{N:List Str}{ix:List (Option Nat)}(O:Dq X scope sc N ix)(hc:X.calm=true)(hi:PI X tg iter wi)
  (hb:∀cl C s₀ H₀ ex,PG (cCx X sc N cl C s₀ H₀ ex) tg g/\PIf (cCx X sc N cl C s₀ H₀ ex) ifs tc/\PE (cCx X sc N cl C s₀ H₀ ex) elt te) (hs:∀x,foldedSetIterable iter X.env x=pure x)
  {use:Option (Value->Sem Unit)} {QQ:Value->Shared->Prop} {pins:List (Addr×Obj)} {s:Shared} {σ:St} {H:Hp} {Q:VK} (I:Inv X pins σ H s) (h:OG ix wi g tc te σ H Q)
  (fin:∀(D C:Addr) (s6:Shared) (H5:Hp) (m:Str->Option Value),Inv X pins σ H5 s6->s6.heap.Ns C m->K1 X pins H5 C->Q (.ref D) H5->compPost (model X.prog X.w) X.A X.xe use QQ (.ref D) C (.ok .next) s6):
  wpAny (model X.prog X.w) X.A (comprehension (.ListComp elt [⟨tg,iter,ifs,0⟩] scope pos) scope X.env ip (newList []) false (eval iter X.env) use) QQ X.xe s:=by
 have hcl:∃cl,closureFor scope X.env=pure cl/\(∀x c,cl.lookup x=some c->X.env.cells.lookup x=some c)/\∀y∈scope.names,y.2 = .free->∃c,cl.lookup y.1=some c:=
  vX fun y hy hf=>I.ok.has y.1 (O.free y hy hf)
 obtain⟨cl,ecl,C7,Tr⟩:=hcl;refine wpAny_comprehension_free (use:=use) rfl hs ecl O.kind O.names (thn (hi pins s σ H _ I h) fun v s1 h1=>thn h1 fun itv s2 h2=>?_);obtain⟨it,fp,tn,J,H2,e,I2,T,st2,f2,q2⟩:=h2;subst e;obtain⟨W,⟨m0,w0⟩,turn⟩:=q2.go s2.heap.objs.size I2.fresh;refine wpAny_newObj_type ?_;have I3:=I2.Va (its:=[]) (t':=s2.toks) (ys:=[]) .nil (Nat.zero_le _);generalize eH3:upd H2 s2.heap.objs.size (.lst [])=H3 at I3 w0;have eD:H3 s2.heap.objs.size=some (.lst []):=by rw[<-eH3];exact aB
 have acA:∀b∈fp,b≠s2.heap.objs.size:=fun b hb z=>by
  obtain⟨o,ho,_⟩:=T.obj _ _ st2 b hb;exact absurd (Heap.lt_size ho) (by rw[z];exact Nat.lt_irrefl _)
 have st3:tn 0 (s2.heap.push { cls:= .type "list",dict:=none,data:= .seq ([]:List Value).toArray }):=T.keep _ _ _ st2 fun b _ o e=>Heap.get?_push_of_some _ e;have f3:∀b∈fp,K1 X pins H3 b:=fun b hb=>⟨by rw[<-eH3,cM (acA b hb)];exact(f2 b hb).1,(f2 b hb).2⟩;generalize es3:({ s2 with heap:=s2.heap.push { cls:= .type "list",dict:=none,data:= .seq ([]:List Value).toArray },toks:=s2.toks }:Shared)=s3 at I3;have aaQ:tn 0 s3.heap:=by rw[<-es3];exact st3
 refine wpAny_newFunctionEnv O.cell (fun y hy=>nomatch hy) (fun h4 adx ady=>?_) O.kind;have Nx:∀b o,s3.heap.get? b=some o->h4.get? b=some o:=fun b o e=>(ady.2 b (Nat.ne_of_lt (Heap.lt_size e))).trans (Heap.get?_push_of_some _ e);have I4:Inv X pins σ H3 { s3 with heap:=h4,toks:=s3.toks+([]:List (Str×Value)).length }:=I3.kept Nx;have ac4:({ newEnv scope s3.heap.objs.size X.env.globals cl X.env.qual none .none (some X.env) builtinsNs with scope:=relabel scope X.env }:Env)=VD sc cl s3.heap.objs.size X.env:=by rw[O.rel];rfl
 rw[ac4];show codeAny _ _ _ (compPost (model X.prog X.w) X.A X.xe use QQ (.ref s2.heap.objs.size) s3.heap.objs.size) _;generalize eC:s3.heap.objs.size=C;generalize es4:({ s3 with heap:=h4,toks:=s3.toks+([]:List (Str×Value)).length }:Shared)=s4 at I4;have h4s:s4.heap=h4:=by rw[<-es4]
 have o4s:s4.os=s3.os:=by rw[<-es4]
 have fC:∀b∈fp,b≠C:=fun b hb z=>by
  obtain⟨o,ho,_⟩:=T.obj _ _ aaQ b hb;exact absurd (Heap.lt_size ho) (by rw[z,eC];exact Nat.lt_irrefl _)
 have okC:(cCx X sc N cl C s3 H3 fp).Ok:=by
  refine⟨I3.ok.mod,?_,I3.ok.glob,I3.ok.blt,Nat.le_of_eq eC,fun x y c h1 h2=>I3.ok.inj x y c (C7 x c h1) (C7 y c h2),fun x hx=>?_,fun x c z _=>(nomatch z),I3.ok.hd,I3.ok.frames,.inl rfl,fun b hb=>⟨fC b hb,fun x c e=>(f3 b hb).2.2.2.2.1 x c (C7 x c e)⟩,
   I3.bs,Nat.le_trans I3.ok.bsz I3.sz,fun b o e hb=>?_,fun b hb z=>?_,I3.stack,I3.Bm⟩
  ·show sc.kind = .function;rw[<-O.rel];exact O.kind
  ·exact Tr (x,.free) (O.has x hx) rfl
  ·rcases(f3 b hb).2.2.2.1 with z|z
   ·exact I3.ok.Qh b o e z
   ·exact absurd (Nat.lt_of_lt_of_le (Heap.lt_size e) (Nat.le_trans I3.ok.bsz z)) (Nat.lt_irrefl _)
  ·rcases List.mem_cons.mp (I3.C6 b z)with z|z
   ·exact(f3 b hb).2.1 z
   ·exact(f3 b hb).2.2.1 z
 have IC:Inv (cCx X sc N cl C s3 H3 fp) [] (cst ix σ) H3 s4:=by
  refine⟨okC,o4s,I4.bare,?_,?_,fun x c e=>I4.cell x c (C7 x c e),?_,fun x c e=>I4.pK x c (C7 x c e),fun p hp=>(nomatch hp),I4.hok,?_⟩
  ·rw[h4s];exact Un.kept Nx
  ·refine⟨_,by rw[h4s,<-eC];exact adx,fun j x v e1 e2 e3=>?_⟩;have e2':(cst ix σ)[j]?=some (some v):=e2;unfold cst at e2';rw[List.getElem?_map]at e2';cases q:ix[j]? with
   |none=>rw[q]at e2';cases e2'
   |some o=>
    rw[q]at e2';cases o with
    |none=>cases e2'
    |some i=>
     obtain⟨hx,hm,hsc⟩:=O.ix j x i e1 q;cases q2:σ[i]? with
     |none=>simp[q2]at e2'
     |some w'=>
      simp[q2]at e2';subst e2';obtain⟨m,hn,hl⟩:=I4.loc;have kf:=O.free (x,.free) hm rfl;have vis:Vis X.env.scope x:=by
       rcases kf with k|k
       ·exact .inr (.inl k)
       ·exact .inr (.inr k)
      obtain⟨u,r,l⟩:=hl i x v hx q2 vis;refine⟨u,r,?_⟩;rcases l with⟨k,_⟩|⟨_,c,e,z⟩
      ·rcases kf with k'|k'
       ·rw[k]at k';cases k'
       ·rw[k]at k';cases k'
      ·obtain⟨c',e'⟩:=Tr (x,.free) hm rfl;have:=C7 x c' e';rw[e]at this;cases this;exact .inr ⟨hsc,c,e',z⟩
  ·rw[<-eC];exact I3.fresh
  ·show(cst ix σ).length=N.length;rw[O.len];simp[cst]
 have st4:tn 0 s4.heap:=T.keep _ _ _ aaQ fun b _ o e=>by rw[h4s];exact Nx b o e
 have stat:∀{H':Hp},(∀b∈fp,H' b=none)->∀b∈fp,K1 (cCx X sc N cl C s3 H3 fp) [] H' b:=fun hn b hb=>
  ⟨hn b hb,fC b hb,okC.Qf b hb,.inl hb,fun x c e=>(f3 b hb).2.2.2.2.1 x c (C7 x c e),fun p hp=>(nomatch hp)⟩
 obtain⟨hg,ht,he⟩:=hb cl C s3 H3 fp;have loop:codeAny (model X.prog X.w) X.A (.compLoop (.ListComp elt [⟨tg,iter,ifs,0⟩] scope pos) 0 (.ref it) (.ref s2.heap.objs.size) (VD sc cl C X.env))
   (compPost (model X.prog X.w) X.A X.xe use QQ (.ref s2.heap.objs.size) C) s4:=by
  refine nW (fun n s'=>∃i σ' H',Inv (cCx X sc N cl C s3 H3 fp) [] σ' H' s'/\tn i s'.heap/\(∀b∈fp,H' b=none)/\W i n σ' H') ?_ m0 ⟨0,cst ix σ,H3,IC,st4,fun b hb=>(f3 b hb).1,w0⟩;rintro n s5 ⟨i,σ5,H5,I5,st5,fr5,w5⟩;rcases turn i n σ5 H5 w5 with⟨stop,qn⟩|⟨go,step⟩
  ·refine thn (T.done (cCx X sc N cl C s3 H3 fp) rfl rfl rfl hc i [] s5 σ5 H5 (fun _ _=>False) I5 (stat fr5) st5 stop) fun r s6 ⟨hr,I6⟩=>?_;subst hr;obtain⟨m,hn,_⟩:=id I6.loc;have I7:Inv X pins σ H5 s6:=I3.TV (ch:=fp) I6.os I6.base I6.hok I6.bare fun b hb=>⟨(f3 b hb).2.2.2.1,(f3 b hb).2.1,(f3 b hb).2.2.2.2.1,(f3 b hb).2.2.2.2.2⟩;exact fin _ C s6 H5 m I7 hn (I3.Rj (Nat.le_of_eq eC) I6.free) qn
  ·refine thn (T.item (cCx X sc N cl C s3 H3 fp) rfl rfl rfl hc i [] s5 σ5 H5 (fun _ _=>False) I5 (stat fr5) st5 go) fun r s6 ⟨u,hr,h6⟩=>?_;subst hr;refine thn h6 fun _ s7 ⟨x,H7,I7,r7,y7,st7,fr7⟩=>?_;have I7':=I7.pinned (stat fr7) (T.obj _ _ st7);have again:∀{σ9:St} {H9:Hp} {s9:Shared} {m':Nat},Inv (cCx X sc N cl C s3 H3 fp) ([]++zU fp s7.heap) σ9 H9 s9->m'<n->W (i+1) m' σ9 H9->
     ∃m,m<n/\∃i σ' H',Inv (cCx X sc N cl C s3 H3 fp) [] σ' H' s9/\tn i s9.heap/\(∀b∈fp,H' b=none)/\W i m σ' H':=fun {σ9 H9 s9 m'} I9 hm w9=>by
    refine⟨m',hm,i+1,σ9,H9,I9.pL,T.keep _ _ _ st7 fun b hb o e=>(I9.pin (b,o) (List.mem_append_right _ (List.mem_append_right _ (j4 hb e)))).1,fun b hb=>?_,w9⟩;obtain⟨o,e,d⟩:=T.obj _ _ st7 b hb;exact(I9.pin (b,o) (List.mem_append_right _ (List.mem_append_right _ (j4 hb e)))).2.1
   refine thn (hg _ s7 σ5 H7 x u _ I7' r7 (step x H7 y7)) fun _ s8 ⟨σ8,H8,I8,q8⟩=>?_;refine thn (ht _ s8 σ8 H8 _ I8 q8) fun b s9 ⟨H9,I9,q9⟩=>?_;cases b with
   |false=>
    rw[if_neg Bool.false_ne_true]at q9;obtain⟨m',hm,w9⟩:=q9;rw[if_neg Bool.false_ne_true];exact again I9 hm w9
   |true=>
    rw[if_pos rfl]at q9;rw[if_pos rfl];refine thn (he _ s9 σ8 H9 _ I9 q9) fun y s10 ⟨yv,H10,I10,r10,ys,e10,z10,m',hm,w10⟩=>?_;refine thn (zy _ s10 σ8 H10 (.ref s2.heap.objs.size) [yv] (.ref s2.heap.objs.size) [y] (fun _ H'=>W (i+1) m' σ8 H') I10 rfl (.cons r10 .nil) ⟨_,ys,yv,rfl,rfl,e10,z10,w10⟩) fun _ s11 ⟨_,H11,I11,_,w11⟩=>?_;exact again I11 hm w11
 exact codeAny_compStart_list loop (T.self _ _ _ _ _ st4 loop)
theorem dz{X:Cx}{tg iter elt:Expr}{ifs:List Expr}{scope sc:Scope}{pos:Pos}{wi:TI}{g:TG}{tc:TT}{te:TE}{N:List Str}{ix:List (Option Nat)}(O:Dq X scope sc N ix)(hc:X.calm=true)(hi:PI X tg iter wi)
  (hb:∀cl C s₀ H₀ ex,PG (cCx X sc N cl C s₀ H₀ ex) tg g/\PIf (cCx X sc N cl C s₀ H₀ ex) ifs tc/\PE (cCx X sc N cl C s₀ H₀ ex) elt te)
  (hs:∀x,foldedSetIterable iter X.env x=pure x:=by intro _;rfl):PE X (.ListComp elt [⟨tg,iter,ifs,0⟩] scope pos) (OG ix wi g tc te):=by
 intro pins s σ H Q I h;rw[eval_ListComp];exact zj (use:=none) (QQ:=EP X pins σ Q) O hc hi hb hs I h fun D C s6 H5 m I7 hn f q=>⟨m,hn,fun h' hs'=>⟨.ref D,H5,I7.turned (it:=C) (t':=s6.toks) (fun b o hb e=>(hs'.2 b hb).trans e) f.1 f.2.1 f.2.2.2.1 f.2.2.2.2.1 f.2.2.2.2.2,rfl,q⟩⟩
theorem IZ{X:Cx}{i:Nat}{y:Str}{py spos:Pos}{tg iter elt:Expr}{ifs:List Expr}{scope sc:Scope}{pos:Pos}{wi:TI}{g:TG}{tc:TT}{te:TE}{N:List Str}{ix:List (Option Nat)}(hN:X.N.Nodup)(hi':X.N[i]?=some y)(hx:Loc X.env.scope y)
  (O:Dq X scope sc N ix) (hc:X.calm=true) (hi:PI X tg iter wi)
  (hb:∀cl C s₀ H₀ ex,PG (cCx X sc N cl C s₀ H₀ ex) tg g/\PIf (cCx X sc N cl C s₀ H₀ ex) ifs tc/\PE (cCx X sc N cl C s₀ H₀ ex) elt te)
  (hs:∀x,foldedSetIterable iter X.env x=pure x:=by intro _;rfl) (hsw:swapsWith (.ListComp elt [⟨tg,iter,ifs,0⟩] scope pos) (some (.Name y py)) spos.line X.env=pure true:=by rfl)
  (hf:X.fn y=true∨X.env.scope.names.lookup y=some .local:=by first|exact .inl rfl|exact .inr rfl|assumption):
  PS X (.Assign [.Name y py] (.ListComp elt [⟨tg,iter,ifs,0⟩] scope pos) spos) (Vq (OG ix wi g tc te) (pO i)):=by
 intro pins s σ H D I h;rw[exec_Assign_Name_used _ _ _ _ hsw];refine wpAny_bind (wpAny_standAt (wpAny_bind ?_));show wpAny _ X.A (do let _<-comprehension (.ListComp elt [⟨tg,iter,ifs,0⟩] scope pos) scope X.env _ (newList []) false (eval iter X.env) (some (assign (.Name y py) X.env))) _ _ s
 refine wpAny_bind (wpAny_mono (zj (use:=some (assign (.Name y py) X.env)) (QQ:=fun _ s'=>∃σ' H',Inv X pins σ' H' s'/\D.nx σ' H') O hc hi hb hs I h fun D1 C s6 H5 m I7 hn f q=>?_) (fun _ s' ⟨σ',H',I',q'⟩=>wpAny_pure (wpAny_pure ⟨σ',H',I',q'⟩)) fun _ _ e=>e);obtain⟨o,es,ep,ho,hc1,hc2⟩:=id hn;have I8:=I7.pinned (fp:=[C]) (fun b hb=>by
  have e:b=C:=by simpa using hb
  subst e;exact f) (fun b hb=>by
  have e:b=C:=by simpa using hb
  subst e;exact⟨o,ho,fun v z=>by first|(rw[hc1.2]at z;cases z)|(rw[hc2.1]at z;cases z)|(rw[hc1]at z;cases z)|(simp_all)⟩)
 show wpAny _ X.A (assign (.Name y py) X.env (.ref D1)) _ _ _;refine wpAny_assign_Name (tU I8 hN hi' hx (v:= .ref D1) rfl (fun s7 I9=>?_) hf);have hC:=(I9.pin (C,o) (List.mem_append_right _ (List.mem_append_right _ (j4 (by simp) ho)))).1;refine⟨m,⟨o,es,ep,hC,hc1,hc2⟩,fun h' hs'=>⟨_,H5,I9.pL.turned (it:=C) (t':=s7.toks) (fun b o hb e=>(hs'.2 b hb).trans e) f.1 f.2.1 f.2.2.2.1 f.2.2.2.2.1 f.2.2.2.2.2,q⟩⟩
mutual
inductive RdD(K:W.Frag)(H:Hp):V->PyData->Prop
 |non:RdD K H .non .none
 |bl (b:Bool):RdD K H (.bl b) (.bool b)
 |int (i:Int):RdD K H (.int i) (.int i)
 |str (x:Str):RdD K H (.str x) (.str x)
 |lst {a:Addr} {xs:List V} {ds:List PyData}:SqL K H a xs->BJ K H xs ds->RdD K H (.ref a) (.list ds)
 |tup {a:Addr} {xs:List V} {ds:List PyData}:SqT K H a xs->BJ K H xs ds->RdD K H (.ref a) (.tuple ds)
inductive BJ(K:W.Frag)(H:Hp):List V->List PyData->Prop
 |nil:BJ K H [] []
 |cons {x:V} {d:PyData} {xs:List V} {ds:List PyData}:RdD K H x d->BJ K H xs ds->BJ K H (x::xs) (d::ds)
end
section
variable {X:Cx} {pins:List (Addr×Obj)} {σ:St} {H:Hp} {s:Shared}
mutual
theorem Inv.reads(I:Inv X pins σ H s):∀{x:V} {d:PyData} {u:Value},RdD X.K H x d->RelV x u->∃as,Reads s.heap u d as
 |_,_,_,.non,r=>by cases r;exact⟨_,.none⟩
 |_,_,_,.bl b,r=>by cases r;exact⟨_,.bool b⟩
 |_,_,_,.int i,r=>by obtain⟨t,rfl⟩:=r;exact⟨_,.int i t⟩
 |_,_,_,.str x,r=>by obtain⟨t,rfl⟩:=r;exact⟨_,.str x t⟩
 |_,_,_,.lst hq hs,r=>by
  cases r;obtain⟨its,rv,pl,_⟩:=I.list hq;obtain⟨as,ra⟩:=Inv.readsAll I hs rv;obtain⟨o,ho,hc,n,hd⟩:=pl.isList;exact⟨_,.list ho hc hd (by simpa using ra)⟩
 |_,_,_,.tup hq hs,r=>by
  cases r;obtain⟨its,rv,pl,_⟩:=I.tuple hq;obtain⟨as,ra⟩:=Inv.readsAll I hs rv;obtain⟨o,ho,hc,n,hd⟩:=pl;exact⟨_,.tuple ho hc hd (by simpa using ra)⟩
theorem Inv.readsAll(I:Inv X pins σ H s):∀{xs:List V} {ds:List PyData} {us:List Value},BJ X.K H xs ds->Vals xs us->∃as,ReadsAll s.heap us ds as
 |_,_,_,.nil,.nil=>⟨_,.nil⟩
 |_,_,_,.cons h1 h2,.cons r1 r2=>by
  obtain⟨as,a⟩:=Inv.reads I h1 r1;obtain⟨bs,b⟩:=Inv.readsAll I h2 r2;exact⟨_,.cons a b⟩
end
theorem BJ.ints{K:W.Frag}{H:Hp}:∀ns:List Int,BJ K H (ns.map V.int) (ns.map PyData.int)
 |[]=> .nil
 |n::r=> .cons (.int n) (BJ.ints r)
def iw(kb:List (Key×V)):List (Key×V)->Bool
 |[]=>true
 |(k,v)::r=>match Jx kb k with
  |none=>false
  |some y=>eqV v y&&iw kb r
theorem Cj{A:Around}{kb:List (Key×V)}{vb:List (Key×Value)}(hb:KV kb vb)(fb:kb.all (fun p=>ux p.2)=true):∀{ka:List (Key×V)} {va:List (Key×Value)},KV ka va->ka.all (fun p=>ux p.2)=true->
  W.KeqHits A s vb va (iw kb ka)
 |[],_,.nil,_=> .nil
 |(k,v)::r,(k',v')::r',.cons ⟨e,rv⟩ t,f=>by
  cases (show k=k' from e);rw[List.all_cons,Bool.and_eq_true]at f;have hv:=KV.val hb k;cases q:Jx kb k with
  |none=>
   have hn:valueAt vb k=none:=J8.none_of (by rw[q]at hv;exact hv);have e2:iw kb ((k,v)::r)=false:=by simp[iw,q]
   rw[e2];exact .miss hn
  |some y=>
   rw[q]at hv;obtain⟨u,hu,ru⟩:=J8.some_of hv;have fy:ux y=true:=by
    unfold Jx at q;cases q2:kb.find? (fun kv=>decide (kv.1=k))with
    |none=>rw[q2]at q;cases q
    |some p=>
     rw[q2]at q;cases q;exact List.all_eq_true.mp fb p (List.mem_of_find?_eq_some q2)
   have e2:iw kb ((k,v)::r)=(eqV v y&&iw kb r):=by simp[iw,q]
   rw[e2];exact .hit hu (Te rv ru f.1 fy) (Cj hb fb t f.2)
end
section
variable {X:Cx}
def Mw(K:W.Frag)(g:Bool->Bool):R2:=fun x y H Q=>match x,y with
 |.int i,.int j=>Q (.bl (g (decide (i=j)))) H
 |.bl i,.bl j=>Q (.bl (g (decide (i=j)))) H
 |.str i,.str j=>Q (.bl (g (decide (i=j)))) H
 |.non,.non=>Q (.bl (g true)) H
 |.ref a,.ref b=>(∃d e,RdD K H (.ref a) d/\RdD K H (.ref b) e/\SeqAt.shaped d=true/\SeqAt.shaped e=true/\Q (.bl (g (PyData.eqv d e))) H)∨
   (∃ka kb,H a=some (.dK ka)/\H b=some (.dK kb)/\ka.all (fun p=>ux p.2)=true/\kb.all (fun p=>ux p.2)=true/\Q (.bl (g (ka.length==kb.length&&iw kb ka))) H)
 |.non,.ref _=>False
 |.ref _,.non=>False
 |x,y=>YD x y=true/\Q (.bl (g (decide (x=y)))) H
theorem Tq{k:Nat}(hr:jA k X.A):OpR X (compareOp .Eq) (fun x y H Q=>∃d e,RdD X.K H x d/\RdD X.K H y e/\SeqAt.shaped d=true/\SeqAt.shaped e=true/\Q (.bl (PyData.eqv d e)) H):=by
 intro pins s σ H x y v u Q I rx ry h;obtain⟨d,e,h1,h2,h3,h4,q⟩:=h;obtain⟨as,ra⟩:=I.reads h1 rx;obtain⟨bs,rb⟩:=I.reads h2 ry;exact eq_dataH ra rb h3 h4 hr.units ⟨.bl _,H,I,rfl,q⟩
theorem RH{k:Nat}(hr:jA k X.A):OpR X (compareOp .NotEq) (fun x y H Q=>∃d e,RdD X.K H x d/\RdD X.K H y e/\SeqAt.shaped d=true/\SeqAt.shaped e=true/\Q (.bl (!PyData.eqv d e)) H):=by
 intro pins s σ H x y v u Q I rx ry h;obtain⟨d,e,h1,h2,h3,h4,q⟩:=h;obtain⟨as,ra⟩:=I.reads h1 rx;obtain⟨bs,rb⟩:=I.reads h2 ry;exact ne_dataH ra rb h3 h4 hr.units ⟨.bl _,H,I,rfl,q⟩
theorem Ql{k:Nat}(hr:jA k X.A):OpR X (compareOp .Eq) (fun x y H Q=>∃a b ka kb,x = .ref a/\y = .ref b/\H a=some (.dK ka)/\H b=some (.dK kb)/\ka.all (fun p=>ux p.2)=true/\kb.all (fun p=>ux p.2)=true/\Q (.bl (ka.length==kb.length&&iw kb ka)) H):=by
 intro pins s σ H x y v u Q I rx ry h;obtain⟨a,b,ka,kb,rfl,rfl,h1,h2,h3,h4,q⟩:=h;cases rx;cases ry;obtain⟨_,ea,va,ra,da⟩:ka.length<=sizeLine/\(a==sysModules)=false/\∃vs,KV ka vs/\s.heap.DictOf (rJ X.prog X.w) a vs:=I.hok a _ h1;obtain⟨_,eb,vb,rb,db⟩:kb.length<=sizeLine/\(b==sysModules)=false/\∃vs,KV kb vs/\s.heap.DictOf (rJ X.prog X.w) b vs:=I.hok b _ h2;refine W.keq_eq ea eb da db hr.Mj (fun _=>Cj rb h4 ra h3) ⟨.bl _,H,I,?_,q⟩;show _=Value.bool _;rw[Paired.length ra,Paired.length rb]
theorem Rk{k:Nat}(hr:jA k X.A):OpR X (compareOp .NotEq) (fun x y H Q=>∃a b ka kb,x = .ref a/\y = .ref b/\H a=some (.dK ka)/\H b=some (.dK kb)/\ka.all (fun p=>ux p.2)=true/\kb.all (fun p=>ux p.2)=true/\Q (.bl (!(ka.length==kb.length&&iw kb ka))) H):=by
 intro pins s σ H x y v u Q I rx ry h;obtain⟨a,b,ka,kb,rfl,rfl,h1,h2,h3,h4,q⟩:=h;cases rx;cases ry;obtain⟨_,ea,va,ra,da⟩:ka.length<=sizeLine/\(a==sysModules)=false/\∃vs,KV ka vs/\s.heap.DictOf (rJ X.prog X.w) a vs:=I.hok a _ h1;obtain⟨_,eb,vb,rb,db⟩:kb.length<=sizeLine/\(b==sysModules)=false/\∃vs,KV kb vs/\s.heap.DictOf (rJ X.prog X.w) b vs:=I.hok b _ h2;refine W.keq_ne ea eb da db hr.Mj (fun _=>Cj rb h4 ra h3) ⟨.bl _,H,I,?_,q⟩;show _=Value.bool _;rw[Paired.length ra,Paired.length rb]
theorem QD{i j:Int}:decide (V.int i=V.int j)=decide (i=j):=by simp
theorem QJ{i j:Bool}:decide (V.bl i=V.bl j)=decide (i=j):=by simp
theorem RX{i j:Str}:decide (V.str i=V.str j)=decide (i=j):=by simp
theorem v_eq{k:Nat}(hr:jA k X.A):OpR X (compareOp .Eq) (Mw X.K id):=by
 refine(WB.or ((Tq hr).or (Ql hr))).imp fun x y H Q h=>?_;unfold Mw at h;split at h
 ·exact .inl ⟨rfl,by rw[QD];exact h⟩
 ·exact .inl ⟨rfl,by rw[QJ];exact h⟩
 ·exact .inl ⟨rfl,by rw[RX];exact h⟩
 ·exact .inl ⟨rfl,by rw[decide_eq_true rfl];exact h⟩
 ·rcases h with⟨d,e,h⟩|⟨ka,kb,h⟩
  ·exact .inr (.inl ⟨d,e,h⟩)
  ·exact .inr (.inr ⟨_,_,ka,kb,rfl,rfl,h⟩)
 ·exact h.elim
 ·exact h.elim
 ·exact .inl h
theorem ace{k:Nat}(hr:jA k X.A):OpR X (compareOp .NotEq) (Mw X.K not):=by
 refine(Wx.or ((RH hr).or (Rk hr))).imp fun x y H Q h=>?_;unfold Mw at h;split at h
 ·exact .inl ⟨rfl,by rw[QD];exact h⟩
 ·exact .inl ⟨rfl,by rw[QJ];exact h⟩
 ·exact .inl ⟨rfl,by rw[RX];exact h⟩
 ·exact .inl ⟨rfl,by rw[decide_eq_true rfl];exact h⟩
 ·rcases h with⟨d,e,h⟩|⟨ka,kb,h⟩
  ·exact .inr (.inl ⟨d,e,h⟩)
  ·exact .inr (.inr ⟨_,_,ka,kb,rfl,rfl,h⟩)
 ·exact h.elim
 ·exact h.elim
 ·exact .inl h
end
end L2
namespace PySem.SeqAt
open AutoSeq1 (wpAny_loadPart')
open MeetsSeq MeetsSeq2 MeetsSeq3 SeqRoads2
section
variable {A:Around} {s:Shared}
end
end PySem.SeqAt
namespace L2
open PySem PySem.Spec PyProof.Rows
section
variable {X:Cx}
end
theorem boot_sum:bootBuiltins "sum" = some (.builtin "sum"):=by decide +kernel
theorem boot_max:bootBuiltins "max" = some (.builtin "max"):=by decide +kernel
theorem boot_int:bootBuiltins "int" = some (.type "int"):=by decide +kernel
theorem boot_tuple:bootBuiltins "tuple" = some (.type "tuple"):=by decide +kernel
theorem boot_list:bootBuiltins "list" = some (.type "list"):=by decide +kernel
structure Fn(K:W.Frag)(mg:Str->Option Value)(x:Str)(st:Stmt)(ps:List Str):Prop where
 ex:∃(f:Addr) (fd:FuncData),Fun K x x st f fd/\mg x=some (.ref f)/\Binds K fd ps []
theorem Fn.cal{P:Program}{w:World}{K:W.Frag}{mg:Str->Option Value}{base:Heap}{x:Str}{st:Stmt}{N ps:List Str}{k:Nat}{sp:Sp}(F:Fn K mg x st ps)(S:aO N ps (aj st))(len:∀vs H Q E,sp vs H Q E->vs.length=ps.length)
  (hbody:∀(f:Addr) (cdv:Value) (A:Around) (outer:List Env) (s:Shared) (H:Hp) (vs:List V) (Q:VK) (E:XK),jA k (A.deeper (envOfC x (aj st) s.heap.objs.size f cdv))->sp vs H Q E->
   ∃t,PSs (cxF P w K mg base N x (aj st) f cdv A outer s H E).nox (aC st) t/\t { nx:=fun _ H'=>Q .non H',rt:=Q } (start N vs) H):Cal P w K mg base x (k+1) ps sp:=by
 obtain⟨f,fd,F,m,b⟩:=F.ex;exact⟨f,fd,m,F.kp,b,F.okN S len fun cdv A outer s H vs Q E hr h=>hbody f cdv A outer s H vs Q E hr h⟩
theorem Fn.MP{P:Program}{w:World}{K:W.Frag}{mg:Str->Option Value}{base:Heap}{x:Str}{st:Stmt}{N ps:List Str}{k:Nat}{sp:Sp}(F:Fn K mg x st ps)(S:aO N ps (aj st))(len:∀vs H Q E,sp vs H Q E->vs.length=ps.length)
  (hbody:∀(f:Addr) (cdv:Value) (A:Around) (outer:List Env) (s:Shared) (H:Hp) (vs:List V) (Q:VK) (E:XK),jA k (A.deeper (envOfC x (aj st) s.heap.objs.size f cdv))->sp vs H Q E->
   ∃t,PSs (cxF P w K mg base N x (aj st) f cdv A outer s H E) (aC st) t/\t { nx:=fun _ H'=>Q .non H',rt:=Q } (start N vs) H):Cal P w K mg base x (k+1) ps sp:=by
 obtain⟨f,fd,F,m,b⟩:=F.ex;exact⟨f,fd,m,F.kp,b,F.okF S len fun cdv A outer s H vs Q E hr h=>hbody f cdv A outer s H vs Q E hr h⟩
theorem Same.new{H:Hp}{p:Addr}(h:H p=none)(o:HO):Same H (upd H p o):=fun b u q=>by rw[cM (fO q h)];exact q
theorem Same.upd{H H':Hp}{p:Addr}(g:Same H H')(h:H p=none)(o:HO):Same H (L2.upd H' p o):=fun b u q=>by rw[cM (fO q h)];exact g b u q
theorem Same.Vb{K:W.Frag}{H H':Hp}{a:Addr}{xs:List V}(e:Same H H')(h:SqT K H a xs):SqT K H' a xs:=by
 rcases h with(h|⟨o,h⟩)|h
 ·exact .inl (.inl (e _ _ h))
 ·exact .inl (.inr ⟨o,e _ _ h⟩)
 ·exact .inr h
theorem mulL{i j:Int}(h1:-(2^64)<i)(h2:i<2^64):IntMulOk i j:= .of_left (intBits_le_64 h1 h2)
theorem mulR{i j:Int}(h1:-(2^64)<j)(h2:j<2^64):IntMulOk i j:= .of_right (intBits_le_64 h1 h2)
theorem jB{N:List Str}(h:decide N.Nodup=true:=by kernel_rfl):N.Nodup:=of_decide_eq_true h
abbrev csF(l:List (Str×NameKind)):Scope:={ kind:= .function,names:=l,isGenerator:=false,isCoroutine:=false }
theorem cT{X:Cx}{scope sc:Scope}{N:List Str}{ix:List (Option Nat)}(sc':relabel scope X.env=sc:=by kernel_rfl)(kind:scope.kind = .function:=by kernel_rfl)(cell:scope.names.all (fun y=>y.2 != .cell)=true:=by kernel_rfl)
  (names:scope.names.all (fun x=>x.2 != .local||scope.names.lookup x.1==some .local)=true:=by kernel_rfl)
  (free:scope.names.all (fun y=>y.2 != .free||(X.env.scope.names.lookup y.1==some .cell||X.env.scope.names.lookup y.1==some .free))=true:=by kernel_rfl)
  (len:N.length=ix.length:=by kernel_rfl)
  (hix:(N.zip ix).all (fun p=>match p.2 with
   |none=>true
   |some i=>X.N[i]?==some p.1&&scope.names.any (fun y=>y.1==p.1&&y.2== .free)&&(sc.names.lookup p.1==some .cell||sc.names.lookup p.1==some .free))=true:=by kernel_rfl)
  (has:sc.names.all (fun y=>(y.2 != .cell&&y.2 != .free)||scope.names.any (fun z=>z.1==y.1&&z.2== .free))=true:=by kernel_rfl):Dq X scope sc N ix:=by
 have mem:∀x:Str,scope.names.any (fun y=>y.1==x&&y.2== .free)=true->(x,NameKind.free)∈scope.names:=fun x h=>by
  obtain⟨y,hy,e⟩:=List.any_eq_true.mp h;rw[Bool.and_eq_true]at e;obtain⟨a,b⟩:=y;have e1:a=x:=eq_of_beq e.1;have e2:b = .free:=eq_of_beq e.2;subst e1;subst e2;exact hy
 refine⟨sc',kind,fun y hy e=>?_,fun x hx e=>?_,fun y hy e=>?_,len,fun j x i h1 h2=>?_,fun x hx=>?_⟩
 ·have:=List.all_eq_true.mp cell y hy;rw[e]at this;cases this
 ·have:=List.all_eq_true.mp names x hx;rw[e]at this;simpa using this
 ·have:=List.all_eq_true.mp free y hy;rw[e]at this;simpa[Env.kindOf]using this
 ·have hm:(x,some i)∈N.zip ix:=by
   have:(N.zip ix)[j]?=some (x,some i):=by
    rw[List.getElem?_zip_eq_some];exact⟨h1,h2⟩
   exact List.mem_of_getElem? this
  have:=List.all_eq_true.mp hix _ hm;simp only[Bool.and_eq_true]at this;obtain⟨⟨a1,a2⟩,a3⟩:=this;refine⟨eq_of_beq a1,mem x a2,?_⟩;rw[Bool.or_eq_true]at a3;rcases a3 with z|z
  ·exact .inl (eq_of_beq z)
  ·exact .inr (eq_of_beq z)
 ·have hm:∃k,(x,k)∈sc.names/\(k = .cell∨k = .free):=by
   rcases hx with z|z
   ·exact⟨_,PySem.mem_of_lookup z,.inl rfl⟩
   ·exact⟨_,PySem.mem_of_lookup z,.inr rfl⟩
  obtain⟨k,hk,e⟩:=hm;have:=List.all_eq_true.mp has _ hk;rw[Bool.or_eq_true]at this;rcases this with z|z
  ·rcases e with e|e<;>(subst e;simp at z)
  ·exact mem x z
structure fP(K:W.Frag)(x:Str)(st:Stmt):Prop where
 ex:∃(f:Addr) (oc:Value) (od:Option Addr) (kV doc pm:Value) (an:Option Addr) (cdv ct:Value) (sl:Array (Option Value)),W.nsIn K mainGlobals x=some (some (.ref f))/\
  K.lookup f=some ⟨oc,od,.func (W.fnOf x x (aD st) (aC st) (aj st) .none kV doc pm an cdv ct),sl⟩/\W.codeIn K cdv x=true/\W.keepIn K (.ref f)=true
theorem PN{K:W.Frag}{x:Str}{st:Stmt}{f:Addr}{oc:Value}{od:Option Addr}{kV doc pm:Value}{an:Option Addr}{cdv ct:Value}{sl:Array (Option Value)}(a:W.nsIn K mainGlobals x=some (some (.ref f)))
  (l:K.lookup f=some ⟨oc,od,.func (W.fnOf x x (aD st) (aC st) (aj st) .none kV doc pm an cdv ct),sl⟩) (c:W.codeIn K cdv x=true) (k:W.keepIn K (.ref f)=true):fP K x st:=
 ⟨f,oc,od,kV,doc,pm,an,cdv,ct,sl,a,l,c,k⟩
theorem fP.fn{K:W.Frag}{h:Heap}{mg:Str->Option Value}{x:Str}{st:Stmt}{ps:List Str}(F:fP K x st)(X:K.In h)(G:h.Ns mainGlobals mg)
  (hb:∀(kV doc pm:Value) (an:Option Addr) (cdv ct:Value) (us:List Value),us.length=ps.length->bindArgs (W.fnOf x x (aD st) (aC st) (aj st) .none kV doc pm an cdv ct) ⟨us,[]⟩=pure (ps.zip us)):Fn K mg x st ps:=by
 obtain⟨f,oc,od,kV,doc,pm,an,cdv,ct,sl,a,l,c,k⟩:=F.ex;have FF:=LK (st:=st) l c k;exact⟨f,_,FF,W.mg_of X G a,FF.binds hb⟩
theorem fP.fnA{K:W.Frag}{h:Heap}{mg:Str->Option Value}{x:Str}{st:Stmt}{ps:List Str}(F:fP K x st)(X:K.In h)(G:h.Ns mainGlobals mg)
  (hb:∀(kV doc pm:Value) (an:Option Addr) (cdv ct:Value) (us:List Value),us.length=ps.length->bindArgs (W.fnOf x x (aD st) (aC st) (aj st) .none kV doc pm an cdv ct) ⟨us,[]⟩=pure (ps.zip us):=by
   intro _ _ _ _ _ _ us hl;first
    |(obtain⟨_,rfl⟩:=L2.us1 hl;rfl)
    |(obtain⟨_,_,rfl⟩:=L2.us2 hl;rfl)
    |(obtain⟨_,_,_,rfl⟩:=L2.us3 hl;rfl)
    |(obtain⟨_,_,_,_,rfl⟩:=L2.us4 hl;rfl)
    |(obtain rfl:=L2.us0 hl;rfl)
    |(obtain⟨_,_,_,_,_,rfl⟩:=L2.us5 hl;rfl)
    |(obtain⟨_,_,_,_,_,_,rfl⟩:=L2.us6 hl;rfl)):Fn K mg x st ps:=F.fn X G hb
theorem cu{N P:List Str}{sc:Scope}(kind:sc.kind = .function:=by rfl)(co:sc.isCoroutine=false:=by rfl)(gen:sc.isGenerator=false:=by rfl)(nd:N.Nodup:=by decide +kernel)(pre:N.take P.length=P:=by rfl)
  (par:∀x∈P,sc.names.lookup x=some .local∨sc.names.lookup x=some .cell:=by decide +kernel) (EW:∀y∈sc.names,y.2≠ .free:=by decide +kernel):aO N P sc:=⟨kind,co,gen,nd,pre,par,EW⟩
structure ItS(J:It)(xs:List V)(H1:Hp):Prop where
 go:∀i H',Same H1 H'->i<xs.length->J.go i H'
 yld:∀i H' x H2,Same H1 H'->J.yld i H' x H2->H2=H'/\(i<xs.length->xs[i]?=some x)
 stop:∀i H',Same H1 H'->xs.length<=i->J.stop i H'
theorem Dk{K:W.Frag}{a:Addr}{xs:List V}{H1:Hp}(hq:SqL K H1 a xs):ItS (Itl K a) xs H1:=
 ⟨fun i H' g h=>⟨xs,xs[i],g.seq hq,by simp[h]⟩,fun i H' x H2 g y=>⟨y.1,fun _=>y.2 xs (g.seq hq)⟩,fun i H' g h=>⟨xs,g.seq hq,h⟩⟩
theorem A9{K:W.Frag}{a:Addr}{xs:List V}{H1:Hp}(hq:SqT K H1 a xs):ItS (Itt K a) xs H1:=
 ⟨fun i H' g h=>⟨xs,xs[i],g.Vb hq,by simp[h]⟩,fun i H' x H2 g y=>⟨y.1,fun _=>y.2 xs (g.Vb hq)⟩,fun i H' g h=>⟨xs,g.Vb hq,h⟩⟩
theorem pI{lo:Int}{n:Nat}{H1:Hp}:ItS (Itr lo n) ((List.range n).map fun i=>V.int (lo+(i:Nat))) H1:=
 ⟨fun i H' g h=>show i<n by simpa using h,fun i H' x H2 g y=>⟨y.1,fun h=>by
  have h':i<n:=by simpa using h
  rw[List.getElem?_map,List.getElem?_range h',y.2];rfl⟩,fun i H' g h=>show n<=i by simpa using h⟩
theorem nj{J:It}{xs:List V}{ix:List (Option Nat)}{tc:TT}{te:TE}{σ:St}{H1:Hp}{Q:VK}(I:ItS J xs H1)(hz:xs.length<=sizeLine){rest:St}(hst:cst ix σ=none::rest)(p:V->Bool)(F:V->V)
  (ht:∀H' x,Same H1 H'->x∈xs->∀k:Bool->Hp->Prop,k (p x) H'->tc (some x::rest) H' k)
  (he:∀H' x,Same H1 H'->x∈xs->p x=true->∀k:VK,k (F x) H'->te (some x::rest) H' k)
  (hQ:∀D,H1 D=none->Q (.ref D) (upd H1 D (.lst ((xs.filter p).map F)))):
  tD ix (pO 0) tc te σ Q J H1:=by
 constructor;intro D hD;refine⟨fun i m σ' H'=>m=xs.length-i/\i<=xs.length/\(∃o,σ'=o::rest)/\H'=upd H1 D (.lst (((xs.take i).filter p).map F)),⟨xs.length,by simp,Nat.zero_le _,⟨none,hst⟩,by simp⟩,?_⟩;rintro i m σ' H' ⟨rfl,hi,⟨o,rfl⟩,rfl⟩;have g:Same H1 (upd H1 D (.lst (((xs.take i).filter p).map F))):=Same.new hD _;by_cases hlt:i<xs.length
 ·refine .inr ⟨I.go i _ g hlt,fun x H2 y=>?_⟩;obtain⟨rfl,hx⟩:=I.yld i _ x H2 g y;have hx:=hx hlt;have hm:x∈xs:=List.mem_of_getElem? hx;have et:xs.take (i+1)=xs.take i++[x]:=by
   rw[List.take_add_one,hx];rfl
  show tc (some x::rest) _ _;refine ht _ x g hm _ ?_;cases hp:p x with
  |true=>
   rw[if_pos rfl];refine he _ x g hm hp _ ⟨_,aB,?_,xs.length-(i+1),by omega,rfl,hlt,⟨_,rfl⟩,?_⟩
   ·have h1:(((xs.take i).filter p).map F).length<=i:=by
     rw[List.length_map];exact Nat.le_trans (List.length_filter_le _ _) (by rw[List.length_take];omega)
    omega
   ·rw[Nm,et,List.filter_append,List.map_append];simp[hp]
  |false=>
   rw[if_neg Bool.false_ne_true];refine⟨xs.length-(i+1),by omega,rfl,hlt,⟨_,rfl⟩,?_⟩;rw[et,List.filter_append];simp[hp]
 ·have e:i=xs.length:=by omega
  subst e;refine .inl ⟨I.stop _ _ g (Nat.le_refl _),?_⟩;rw[List.take_length];exact hQ D hD
structure Bar(t:TE)(σ:St)(H:Hp)(Q:VK):Prop where
 go:t σ H Q
def adD(t:TE):TE:=fun σ H Q=>Bar t σ H Q
theorem Bar.by{t:TE}{σ:St}{H:Hp}{Q:VK}(R:V->Hp->Prop)(h:∀k:VK,(∀v H1,R v H1->k v H1)->t σ H k)(q:∀v H1,R v H1->Q v H1):Bar t σ H Q:=⟨h Q q⟩
theorem Ir{X:Cx}{e:Expr}{t:TE}(h:PE X e t):PE X e (adD t):=fun pins s σ H Q I q=>h pins s σ H Q I q.go
structure Lh(t:TS)(D:Ends)(σ:St)(H:Hp):Prop where
 go:t D σ H
def Yc(t:TS):TS:=fun D σ H=>Lh t D σ H
theorem zZ{X:Cx}{st:Stmt}{t:TS}(h:PS X st t):PS X st (Yc t):=fun pins s σ H D I q=>h pins s σ H D I q.go
theorem Lh.by{t:TS}{D:Ends}{σ:St}{H:Hp}(R:St->Hp->Prop)(h:∀N:St->Hp->Prop,(∀σ' H',R σ' H'->N σ' H')->t { D with nx:=N } σ H)(q:∀σ' H',R σ' H'->D.nx σ' H'):Lh t D σ H:=by
 constructor;exact h D.nx q
end L2
namespace HT
open PySem PyProof.Rows
section
variable {prog:Program} {w:World} {A:Around} {E:Value->Shared->Prop} {s:Shared}
theorem qX{t sl:Addr}{items:Array Value}{vl vu:Value}{lo hi:Option Int}{Q:Value->Shared->Prop}(ht:IsTup s.heap t items)(hs:s.heap.IsSliceOf sl vl vu .none)(pl:IsPart vl lo)(pu:IsPart vu hi)
  (hw:sIx items.size 0 lo=0/\sIx items.size items.size hi=items.size) (h:Q (.ref t) s):wpAny (model prog w) A (getItem (.ref t) (.ref sl)) Q E s:=by
 obtain⟨os,hos,hcs,hds⟩:=id hs;have hTs:s.TypeIs (.ref sl) "slice" := ⟨os,hos,hcs⟩;unfold getItem;try with_reducible refine wpAny_holding ?_
 first|refine wpAny_bind (wpAny_pure ?_)|skip
 refine wpAny_bind (wpAny_sequenceKey ht.typeIs (by decide) ?_);refine wpAny_bind (wpAny_callSpecial?_slot (name:=Str.ofString "__getitem__") ht.typeIs PyProof.Rows.slot_tuple_getitem
  (wpAny_call_entry PyProof.Rows.slot_tuple_getitem ht.typeIs entry_tuple_getitem ?_ (args_tuple_getitem _ _)))
 show wpAny _ _ (Builtin.Tuple.tupleItemsOf (.ref t)>>=_) _ _ s;refine wpAny_bind (tupleItemsOf_ ht ?_);refine wpAny_bind (wpAny_typeOf hTs ?_);rw[if_pos (by decide)];refine wpAny_bind (mq hs pl pu ?_);have hyes:(((sIx items.size 0 lo:Nat):Int)==0&&(1:Int)==1&&(sIx items.size items.size hi-sIx items.size 0 lo)==items.size)=true:=by
  rw[hw.1,hw.2];simp
 show wpAny _ _ (if(((sIx items.size 0 lo:Nat):Int)==0&&(1:Int)==1&&(sIx items.size items.size hi-sIx items.size 0 lo)==items.size)=true then _ else _) _ _ s;rw[if_pos hyes];unfold Builtin.Tuple.tupleIsExact;refine wpAny_bind (wpAny_bind (wpAny_typeOf ht.typeIs (wpAny_pure ?_)));rw[if_pos (by decide)];exact wpAny_bind (wpAny_rule (wpAny_pure ⟨_,rfl,wpAny_pure h⟩))
end
end HT
namespace L2
open PySem PySem.Spec PyProof.Rows
section
variable {X:Cx}
theorem Gk:SlR X (fun x lo hi H Q=>∃a xs,x = .ref a/\SqT X.K H a xs/\(HT.sIx xs.length 0 lo=0/\HT.sIx xs.length xs.length hi=xs.length)/\Q (.ref a) H):=by
 intro pins s σ H x v vl vu lo hi sl Q I rx hs pl pu h;obtain⟨a,xs,rfl,hx,hw,q⟩:=h;cases rx;obtain⟨its,r,ht,hz⟩:=I.tuple hx;have hlen:its.toArray.size=xs.length:=by rw[List.size_toArray];exact r.length.symm
 refine⟨"tuple",_,PyProof.Rows.slot_tuple_getitem.lookup,ht.typeIs,?_⟩;exact HT.qX ht hs pl pu (by rw[hlen];exact hw) ⟨.ref a,H,I,rfl,q⟩
end
theorem boot_min:bootBuiltins "min" = some (.builtin "min"):=by decide +kernel
section
variable {X:Cx} (K:W.Frag)
theorem SlR.imp{r r':V->Option Int->Option Int->Hp->VK->Prop}(h:SlR X r)(i:∀x lo hi H Q,r' x lo hi H Q->r x lo hi H Q):SlR X r':=fun pins s σ H x v vl vu lo hi sl Q I rx hs pl pu q=>h pins s σ H x v vl vu lo hi sl Q I rx hs pl pu (i _ _ _ _ _ q)
theorem iQ(hK:X.K=K:=by rfl):OpR X (binaryOp .Add) (J7 K):=by subst hK;exact v_add
theorem xix(hK:X.K=K:=by rfl):IxR X (WM K):=by subst hK;exact acf
theorem xeq{k:Nat}(hr:jA k X.A)(hK:X.K=K:=by rfl):OpR X (compareOp .Eq) (Mw K id):=by subst hK;exact v_eq hr
theorem xne{k:Nat}(hr:jA k X.A)(hK:X.K=K:=by rfl):OpR X (compareOp .NotEq) (Mw K not):=by subst hK;exact ace hr
theorem jy(hK:X.K=K:=by rfl):rm X (.builtin "len") (fun xs H Q=>∃x n,xs=[x]/\aaY K x H n/\Q (.int n) H):=by subst hK;exact Ka
theorem SD(hc:X.calm=true)(hK:X.K=K:=by rfl):rm X (.builtin "sum") (fun xs H Q=>∃(l:Addr) (ns:List Int),xs=[.ref l]/\SqL K H l (ns.map V.int)/\Q (.int ns.sum) H):=by subst hK;exact v_sum hc
theorem xlist(hK:X.K=K:=by rfl):rm X (.type "list") (fun xs H Q=>∃p ys,xs=[.ref p]/\(SqL K H p ys∨SqT K H p ys)/\∀l,H l=none->Q (.ref l) (upd H l (.lst ys))):=by subst hK;exact zR
theorem j7(hK:X.K=K:=by rfl):rm X (.type "tuple") (fun xs H Q=>∃p ys,xs=[.ref p]/\((SqL K H p ys/\∀l,H l=none->Q (.ref l) (upd H l (.tup ys)))∨(SqT K H p ys/\Q (.ref p) H))):=by subst hK;exact yd
def aby(K:W.Frag):V->Option Int->Option Int->Hp->VK->Prop:=fun x lo hi H Q=>match x with
 |.ref a=>(∃xs,SqL K H a xs/\∀p,H p=none->Q (.ref p) (upd H p (.lst (yC xs lo hi))))∨
   (∃xs,SqT K H a xs/\¬(HT.sIx xs.length 0 lo=0/\HT.sIx xs.length xs.length hi=xs.length)/\∀p,H p=none->Q (.ref p) (upd H p (.tup (yC xs lo hi))))∨
   (∃xs,SqT K H a xs/\(HT.sIx xs.length 0 lo=0/\HT.sIx xs.length xs.length hi=xs.length)/\Q (.ref a) H)
 |_=>False
theorem xsl(hK:X.K=K:=by rfl):SlR X (aby K):=by
 subst hK;refine(MR.or (Qv.or Gk)).imp fun x lo hi H Q h=>?_;unfold aby at h;split at h
 ·rcases h with⟨xs,h⟩|⟨xs,h⟩|⟨xs,h⟩
  ·exact .inl ⟨_,xs,rfl,h⟩
  ·exact .inr (.inl ⟨_,xs,rfl,h⟩)
  ·exact .inr (.inr ⟨_,xs,rfl,h⟩)
 ·exact h.elim
theorem MX{tg l:Expr}{tl:TE}(hl:PE X l tl)(hK:X.K=K:=by rfl):PI X tg l (aa0 K tl):=by subst hK;exact SW hl
theorem RB{es:List Expr}{k:Nat}{t:TGs}{n:Nat}{pos:Pos}(hc:X.calm=true)(h:PGs X es t)(hK:X.K=K:=by rfl)
  (hn:(assignEach es X.env).length=n:=by rfl) (hst:(assignEach es X.env).findIdx? (·.1)=none:=by rfl):PG X (.Tuple es k pos) (abv K n t):=by subst hK;exact Tv hc h hn hst
theorem uH{o e:Expr}{to:TE}{te:TE}{apos cpos:Pos}(ho:PE X o to)(he:PE X e te)(hK:X.K=K:=by rfl)
  (hbase:attributeBase o "append" X.env (eval o X.env)=eval o X.env:=by rfl)
  (hfew:((backTo cpos (starEach [e] X.env)).all (fun x=>!x.1)&&(backToKw cpos (keywordEach [] X.env)).all (fun x=>x.1.isSome)
   && decide ([e].length+([]:List Keyword).length+(if([]:List Keyword).isEmpty then 0 else 1)<30))=true:=by rfl)
  (hline:(apos.endLine==cpos.line)=true:=by rfl) (hs:starEach [e] X.env=(false,eval e X.env)::starEach [] X.env:=by rfl):
  PE X (.Call (.Attribute o "append" apos) [e] [] cpos) (tBM K "list" EG to (Aw te abe)):=by
 subst hK;exact Vm PySem.F.plainAttrs_list PySem.F.slot_list_append PySem.F.type_list_append zy ho (aF he ak hs) hbase hfew hline hs rfl
end
section
variable {X:Cx} {es:List Expr} {te:TE} {t:TA}
theorem gF{c:Const}{j}{p:Pos}(h:PE X (.Constant c j p) te)(hr:PA X es t):PA X ((.Constant c j p)::es) (Aw te t):=aF h hr rfl
theorem aK{x:Str}{p:Pos}(h:PE X (.Name x p) te)(hr:PA X es t):PA X ((.Name x p)::es) (Aw te t):=aF h hr rfl
theorem Qg{as:List Expr}{j}{p:Pos}(h:PE X (.Tuple as j p) te)(hr:PA X es t):PA X ((.Tuple as j p)::es) (Aw te t):=aF h hr rfl
theorem nQ{a:Expr}{o:Operator}{b:Expr}{p:Pos}(h:PE X (.BinOp a o b p) te)(hr:PA X es t):PA X ((.BinOp a o b p)::es) (Aw te t):=aF h hr rfl
theorem MJ{o:UnaryOp}{a:Expr}{p:Pos}(h:PE X (.UnaryOp o a p) te)(hr:PA X es t):PA X ((.UnaryOp o a p)::es) (Aw te t):=aF h hr rfl
end
structure ExS(base:Heap)(C R:Addr):Prop where
 cls:∃nm q N bs bm hdct sn sub ab col dd k0 k1 k2 k3 k5 newId,base.get? C=some (excClassObj nm q C N bs bm hdct sn sub ab col dd k0 k1 k2 k3 k5 newId)/\(Value.ref C::bm).contains (.ref R)=true
 top:∃nm q N bs bm hdct sn sub ab col dd k0 k1 k2 k3 k5 newId,base.get? R=some (excClassObj nm q R N bs bm hdct sn sub ab col dd k0 k1 k2 k3 k5 newId)/\bm.contains (.type "BaseException")=true
theorem vJ{M:Model}{A:Around}{E:Value->Shared->Prop}{h:Heap}{g:Array GenState}{d:Drawn}{t:Nat}{os:OsState}{e C R:Addr}{oe:Obj}{Q:Bool->Shared->Prop}{base:Heap}(S:ExS base C R)(kb:∀b o,base.get? b=some o->h.get? b=some o)
  (he:h.get? e=some oe) (hcls:oe.cls = .ref C) (hq:Q true ⟨h,g,d,t,os⟩):wpAny M A (excMatches (.ref e) (.ref R)) Q E ⟨h,g,d,t,os⟩:=by
 obtain⟨nm,q,N,bs,bm,hdct,sn,sub,ab,col,dd,k0,k1,k2,k3,k5,newId,hC,hs⟩:=S.cls;obtain⟨nm',q',N',bs',bm',acv,sn',sub',ab',col',dd',k0',k1',k2',k3',k5',newId',hR,hB⟩:=S.top;have hC:=kb _ _ hC;have hR:=kb _ _ hR;have hcB:(Value.ref R::bm').contains (.type "BaseException")=true:=by rw[List.contains_cons,hB,Bool.or_true]
 have f:=tc_notTuple;unfold excMatches
 repeat (first|(with_reducible refine wpAny_loadPart_at he ?_;rw[hcls])|with_reducible refine wpAny_loadPart_at hR ?_|(with_reducible refine wpAny_isSubtype_exc hR ?_;rw[hcB])|(with_reducible refine wpAny_isSubtype_exc hC ?_;rw[hs])|wp_step)
 exact hq
section
variable {X:Cx} {pins:List (Addr×Obj)} {σ:St} {H:Hp} {s:Shared}
end
def cxS(X:Cx)(a:Addr):Cx:={ X with A:=X.A.mark (some (.ref a)),calm:=false,xe:=fun _ _=>False }
theorem Inv.suite{X:Cx}{pins:List (Addr×Obj)}{σ:St}{H:Hp}{s:Shared}(I:Inv X pins σ H s)(a:Addr):Inv (cxS X a) pins σ H s:=
 ⟨⟨I.ok.mod,I.ok.kind,I.ok.glob,I.ok.blt,I.ok.above,I.ok.inj,I.ok.has,I.ok.cab,(fun z=>by cases z),I.ok.frames,I.ok.stk,I.ok.exf,I.ok.bs,I.ok.bsz,I.ok.Qh,I.ok.Qf,I.ok.DL,I.ok.frf⟩,
  I.os,I.bare,I.base,I.loc,I.cell,I.free,I.pK,I.pin,I.hok,I.len⟩
theorem Inv.wH{X:Cx}{pins:List (Addr×Obj)}{σ:St}{H:Hp}{s:Shared}{a:Addr}(ok:X.Ok)(I:Inv (cxS X a) pins σ H s):Inv X pins σ H s:=
 ⟨ok,I.os,I.bare,I.base,I.loc,I.cell,I.free,I.pK,I.pin,I.hok,I.len⟩
structure ExI(K:W.Frag)(C:Addr):Prop where
 ga:W.findIn K (.ref C) "__getattribute__" = some (some (.builtin "BaseException.__getattribute__"))
 gt:W.findIn K (.ref C) "__getattr__" = some none
 cl:W.findIn K (.ref C) "__class__" = some (some (.builtin "object.__class__"))
 mb:W.mroIn K C (.type "BaseException")=some true
 mo:W.mroIn K C (.type "object")=some true
 is:(W.clsIn K C).isSome=true
section
variable {prog:Program} {w:World} {A:Around} {E:Value->Shared->Prop} {h:Heap} {g:Array GenState} {d:Drawn} {t:Nat} {os:OsState} {a C:Addr} {o:Obj} {K:W.Frag}
end
theorem Sg{K:W.Frag}{h:Heap}{mg:Str->Option Value}{x:Str}{C:Addr}{newId inN Bn:String}{bmN:List Value}(X:K.In h)(G:h.Ns mainGlobals mg)(e:W.nsIn K mainGlobals x=some (some (.ref C)))
  (q:W.excIn K C [.type "ValueError",.type "Exception",.type "BaseException",.type "object"] newId=true) (Fn:ExcBaseFacts Bn newId inN bmN)
  (hBn:[Value.type "ValueError",.type "Exception",.type "BaseException",.type "object"].contains (.type Bn)=true):ExC mg h x C:=by
 refine⟨_,newId,⟨W.mg_of X G e,?_⟩,Bn,inN,bmN,_,_,_,Fn,hBn,F.excBase_ValueError⟩;unfold W.excIn at q;split at q
 ·rename_i dd cd sl ho
  split at q
  ·rename_i C' bm k0 k1 k2 k3 n k5 hm hs
   simp only[Bool.and_eq_true,beq_iff_eq,Bool.not_eq_true']at q;obtain⟨⟨⟨⟨⟨rfl,rfl⟩,hdel⟩,ht⟩,hok⟩,hni⟩:=q;obtain⟨nm,bs,mro,ns,qn,hdc,sn,sub,ab,col,del⟩:=cd;dsimp only at hm hdel hok hni;subst hm;subst hdel;have hsl:sl=#[k0,k1,k2,k3,some (.builtin n),k5]:=by
    obtain⟨l⟩:=sl;simp only at hs;rw[hs]
   subst hsl;exact⟨bm,ns,nm,qn,bs,hdc,sn,sub,ab,col,dd,k0,k1,k2,k3,k5,_,X _ _ ho,.of_isNs (W.isNs_of_in X hok),W.nsMap_none_of_in X hok hni,W.tail_of_in X ht⟩
  ·cases q
 ·cases q
def Hr(K:W.Frag)(C R:Addr):Bool:=match K.lookup C with
 |some ⟨.type "type",_,.cls cd,sl⟩=>(match cd.mro,sl.toList with
  |.ref C'::bm,[_,_,_,_,some (.builtin _),_]=>C'==C&&!cd.hasDel&&(Value.ref C'::bm).contains (.ref R)
  |_,_=>false)
 |_=>false
theorem SV{K:W.Frag}{h:Heap}{C R:Addr}(X:K.In h)(q:Hr K C R=true)(qr:W.ktsIn K R "BaseException" = true):ExS h C R:=by
 refine⟨?_,?_⟩
 ·unfold Hr at q;split at q
  ·rename_i dd cd sl ho
   split at q
   ·rename_i C' bm k0 k1 k2 k3 n k5 hm hs
    simp only[Bool.and_eq_true,beq_iff_eq,Bool.not_eq_true']at q;obtain⟨⟨rfl,hdel⟩,ht⟩:=q;obtain⟨nm,bs,mro,ns,qn,hdc,sn,sub,ab,col,del⟩:=cd;dsimp only at hm hdel;subst hm;subst hdel;have hsl:sl=#[k0,k1,k2,k3,some (.builtin n),k5]:=by
     obtain⟨l⟩:=sl;simp only at hs;rw[hs]
    subst hsl;exact⟨nm,qn,ns,bs,bm,hdc,sn,sub,ab,col,dd,k0,k1,k2,k3,k5,n,X _ _ ho,ht⟩
   ·cases q
  ·cases q
 ·obtain⟨nm,qn,N,bs,bm,hdct,sn,sub,ab,col,dd,k0,k1,k2,k3,k5,newId,hR,hb,_⟩:=W.kts_cls X qr;exact⟨nm,qn,N,bs,bm,hdct,sn,sub,ab,col,dd,k0,k1,k2,k3,k5,newId,hR,hb⟩
section
variable {X:Cx} {a:Expr} {ta:TE}
end
end L2
namespace L2
open PySem
theorem lu:∀ns:List Int,PyData.canLayAll0 (ns.map PyData.int)=true
 |[]=>rfl
 |n::r=>by
  have:=lu r;simp[PyData.canLayAll0,PyData.canLay0,this]
theorem nR:∀ns:List Int,PyData.depthAll (ns.map PyData.int)<=1
 |[]=>by simp[PyData.depthAll]
 |n::r=>by
  have:=nR r;simp[PyData.depthAll,PyData.depth];omega
theorem vV(ns:List Int):SeqAt.shaped (.tuple (ns.map .int))=true:=by
 have h1:=lu ns;have h2:=nR ns;simp only[SeqAt.shaped,PyData.canLay0,PyData.depth,h1,Bool.true_and];exact decide_eq_true (by omega)
theorem AH(ns ms:List Int):PyData.eqv (.tuple (ns.map .int)) (.tuple (ms.map .int))=decide (ns=ms):=by
 rw[PyData.eqv];exact W.ked_eqvAll ns ms
theorem abx{K:W.Frag}{g:Bool->Bool}{H:Hp}{a b:Addr}{ns ms:List Int}{Q:VK}(ha:SqT K H a (ns.map V.int))(hb:SqT K H b (ms.map V.int))(q:Q (.bl (g (decide (ns=ms)))) H):Mw K g (.ref a) (.ref b) H Q:=
 .inl ⟨_,_,.tup ha (BJ.ints ns),.tup hb (BJ.ints ms),vV ns,vV ms,by rw[AH];exact q⟩
end L2
set_option maxHeartbeats 4000000
namespace L2
open PySem PySem.Spec PyProof.Rows
def Itd(lo:Int)(n:Nat):It:=⟨fun i _=>i<n,fun i H x H'=>H'=H/\x = .int (lo-i),fun i _=>n<=i⟩
theorem kI{P:Program}{w:World}{K:W.Frag}{tg:Expr}(it:Addr)(lo:Int)(n:Nat):Turn P w K tg (Itd lo n) [it] it (fun i h=>IsRangeIter h it (lo+(i:Nat)*(-1)) ((n:Int)-(i:Nat)) (-1)) where
 mem:=by simp
 obj:=fun i h st b hb=>by
  have e:b=it:=by simpa using hb
  subst e;exact⟨_,st,fun v z=>by
   have z':Data.fields _=Data.cell v:=z;cases z'⟩
 keep:=fun i h h' st k=>k it (by simp) _ st
 item:=by
  intro X hP hw hK hc i pins s σ H E I hf st hg;subst hP hw hK;obtain⟨f0,f1,f2,f3,f4,f5⟩:=hf it (by simp);have W:=Walks.range (prog:=X.prog) (w:=X.w) (I.ok.hd hc) it lo (-1) n;refine W.item i s _ _ hg st fun v h' tk hv st' kk=>?_;obtain⟨t,rfl⟩:=hv;have I1:Inv X pins σ H { s with heap:=h',toks:=tk }:=I.turned (fun b o hb e=>kk b o (by simpa using hb) e) f0 f1 f3 f4 f5;refine⟨_,rfl,Ku (s:={ s with heap:=h',toks:=tk }) (n:= "range_iterator") st' rfl rfl (by decide) ⟨.int (lo-i),H,I1,⟨t,?_⟩,⟨rfl,rfl⟩,st',fun b hb=>(hf b hb).1⟩⟩;rw[Int.mul_neg_one];rfl
 done:=by
  intro X hP hw hK hc i pins s σ H E I hf st hg;subst hP hw hK;obtain⟨f0,f1,f2,f3,f4,f5⟩:=hf it (by simp);exact wpAny_pyNext_range_end (I.ok.hd hc) st (by have:n<=i:=hg;omega) fun h' eb=>⟨rfl,I.turned (t':=s.toks) (fun b o hb e=>eb b o hb e) f0 f1 f3 f4 f5⟩
 self:=fun _ _ _ _ _ st h=>wpAny_pyIter_rangeiter st h
theorem rangeSize_down(a b:Int):Builtin.Range.rangeSize a b (-1)=if b<a then a-b else 0:=by
 unfold Builtin.Range.rangeSize;simp only[show ¬(-1:Int)>0 by decide,if_false,Int.neg_neg,Int.ediv_one];split<;>omega
theorem small_down{a b:Int}(ha:-(2^62)<=a)(ha':a<2^62)(hb:-(2^62)<=b)(hb':b<2^62):Builtin.Range.small a b (-1)=true:=by
 unfold Builtin.Range.small;rw[rangeSize_down];simp only[Builtin.Range.rangeFitsLong,Bool.and_eq_true,Bool.or_eq_true,decide_eq_true_eq,beq_iff_eq,show ¬(-1:Int)>0 by decide,if_false];split<;>omega
section
variable {X:Cx} {tg:Expr}
theorem MZ{pins:List (Addr×Obj)}{σ:St}{H:Hp}{s:Shared}{R:It->Hp->Prop}{E:Value->Shared->Prop}{lo hi:Int}{t u v:Tok}{tk:Nat}(I:Inv X pins σ H s)(h1:-(2^62)<=lo)(h2:lo<2^62)(h3:-(2^62)<=hi)(h4:hi<2^62)
  (q:R (Itd lo (lo-hi).toNat) H):wpAny (model X.prog X.w) X.A (pyIter (.ref s.heap.objs.size)) (PIE X pins σ tg R) E { s with heap:=s.heap.push { cls:= .type "range",data:= .fields #[.int lo t,.int hi u,.int (-1) v] },toks:=tk }:=by
 refine wpAny_pyIter_range (IsRange.new ..) (small_down h1 h2 h3 h4) ?_;have I1:Inv X pins σ H { s with heap:=s.heap.push { cls:= .type "range",data:= .fields #[.int lo t,.int hi u,.int (-1) v] },toks:=tk }:=I.kept fun b o e=>Heap.get?_push_of_some _ e;refine⟨(s.heap.push { cls:= .type "range",data:= .fields #[.int lo t,.int hi u,.int (-1) v] }).objs.size,[(s.heap.push { cls:= .type "range",data:= .fields #[.int lo t,.int hi u,.int (-1) v] }).objs.size],_,_,H,rfl,
  I1.kept (t':=tk) fun b o e=>Heap.get?_push_of_some _ e,kI _ lo (lo-hi).toNat,?_,fun b hb=>?_,q⟩
 ·have e1:lo+((0:Nat):Int)*(-1)=lo:=by simp
  have e2:(((lo-hi).toNat:Nat):Int)-((0:Nat):Int)=Builtin.Range.rangeSize lo hi (-1):=by rw[rangeSize_down];split<;>omega
  show IsRangeIter _ _ (lo+((0:Nat):Int)*(-1)) ((((lo-hi).toNat:Nat):Int)-((0:Nat):Int)) (-1);rw[e1,e2];exact Heap.get?_push_size _ rfl
 ·have e:b=(s.heap.push { cls:= .type "range",data:= .fields #[.int lo t,.int hi u,.int (-1) v] }).objs.size:=by simpa using hb
  subst e;exact I1.Rj (Nat.le_refl _) (I1.hok.fresh (Nat.le_refl _))
def Zh(ta:TA):TI:=fun σ H R=>ta σ H fun vs H1=>∃i j:Int,vs=[.int i,.int j,.int (-1)]/\(-(2^62)<=i/\i<2^62/\-(2^62)<=j/\j<2^62)/\R (Itd i (i-j).toNat) H1
theorem FT{a b c:Expr}{ta:TA}{p pos:Pos}(hg:Gl X "range")(hm:X.mg "range" = none)(ha:PA X [a,b,c] ta)(hs:starEach [a,b,c] X.env=(false,eval a X.env)::starEach [b,c] X.env:=by rfl)(hs2:(backTo pos (starEach [b,c] X.env)).any (·.1)=false:=by rfl):
  PI X tg (.Call (.Name "range" p) [a,b,c] [] pos) (Zh ta):=by
 intro pins s σ H R I h;refine Call_ (zq I hg hm boot_range (PyProof.Rows.callWith_type1 (thn (ha pos pins s σ H _ I h) fun us s1 ⟨vs,H1,I1,r1,q1⟩=>?_) hs hs2));obtain⟨i,j,e,⟨q1,q2,q3,q4⟩,q⟩:=q1;subst e;cases r1 with
 |cons r rr=>
  cases rr with
  |cons r' rr=>
   cases rr with
   |cons r'' rr=>
    cases rr;obtain⟨t,rfl⟩:=r;obtain⟨t',rfl⟩:=r';obtain⟨t'',rfl⟩:=r'';exact call_range_3 (by decide) (MZ (tk:=s1.toks) I1 q1 q2 q3 q4 q) (.inl (PyProof.noPylong_small (by omega)))
end
theorem Kd{lo:Int}{n:Nat}{g:TG}{tb:TS}{D:Ends}{σ:St}{H:Hp}(Pv:Nat->St->Hp->Prop)(h0:Pv 0 σ H)
  (hs:∀i σ H,i<n->Pv i σ H->g (.int (lo-i)) σ H fun σ2 H2=>tb { D with nx:=Pv (i+1),ct:=Pv (i+1),bk:=D.nx } σ2 H2) (hd:∀σ H,Pv n σ H->D.nx σ H):
  ∃W:Nat->Nat->St->Hp->Prop,(∃m,W 0 m σ H)/\∀i m σ H,W i m σ H->
   ((Itd lo n).stop i H/\D.nx σ H)∨((Itd lo n).go i H/\∃N:St->Hp->Prop,(∀σ' H',N σ' H'->∃m',m'<m/\W (i+1) m' σ' H')/\∀x H',(Itd lo n).yld i H x H'->g x σ H' fun σ2 H2=>tb { D with nx:=N,ct:=N,bk:=D.nx } σ2 H2):=by
 refine⟨fun i m σ H=>m=n-i/\i<=n/\Pv i σ H,⟨n,by simp,Nat.zero_le _,h0⟩,?_⟩;rintro i m σ H ⟨rfl,hi,p⟩;by_cases hlt:i<n
 ·refine .inr ⟨hlt,Pv (i+1),fun σ' H' p'=>⟨n-(i+1),by omega,rfl,hlt,p'⟩,fun x H' y=>?_⟩;obtain⟨e,y⟩:=y;subst e y;exact hs i σ _ hlt p
 ·have e:i=n:=by omega
  subst e;exact .inl ⟨Nat.le_refl _,hd σ H p⟩
section
variable {X:Cx}
end
section
variable {X:Cx}
end
end L2
namespace Att
open PySem PySem.W PySem.Calls PyProof.Rows
theorem Bx{ns:List Int}(h:WData.layableAll [WData.list (ns.map WData.int)]=true):∀x∈ns,Builtin.Int.intBits x<=1048576:=by
 intro x hx;obtain⟨h1,_,h3⟩:=layableW_iff.mp (layW_cons h).1;simp only[WData.canLay]at h1;simp only[WData.weight]at h3;have hm:WData.int x∈ns.map WData.int:=List.mem_map.mpr ⟨x,hx,rfl⟩;have hc:WData.canLayAll (ns.map WData.int)=true:=by simpa using h1
 obtain⟨_,_,c⟩:=items_part hm hc;have e:WData.weight (.int x)=Builtin.Int.intBits x:=rfl;rw[e]at c;have:(2:Nat)^20=1048576:=by decide
 omega
theorem yZ{l:OpenLaw}{n:Nat}{q:Program}{loose:List Str}{XP:(Str->Option Value)->Heap->Prop}{YP:World->Heap->Prop}{d:DefRec}
  (hn:l.most=some n) (hdf:d.params.defaults=[])
  (call:∀(w:World) (s₀ s₁:Shared) (mg mb:Str->Option Value) (fa:Addr) (o:Obj) (pm cd doc:Value) (a:Addr) (vs:List Value) (ns:List Int),
   Ground q loose [] XP w s₀ mg mb s₁.heap->YP w s₁.heap->
   s₁.heap.get? fa=some o->o.data = .func (docDef d.name d.params d.body d.scope pm cd doc)->s₁.heap.CodeRec cd d.name->mg d.name=some (.ref fa)->
   s₁.heap.get? a=some { cls:= .type "list",data:= .seq vs.toArray }->IntsAre vs ns->ns.length<=n->(∀x∈ns,Builtin.Int.intBits x<=1048576)->s₁.gens=#[]->
   codeAny (model l.prog w) callerA (.call (.ref fa) ⟨[.ref a],[]⟩) (fun r s'=>r = .ok (.ret (.bool true))/\OldK s₁.heap s'.heap/\s'.os=s₁.os/\AllBare s'.gens) s₁):
  WalkO q loose XP YP l.row.toRowW d [] (fun f vs=>PySem.call f vs):=by
 intro w s₀ s₁ mg mb G Y fa o pm cd doc dV kV ho hd hcd hD hmg hg args vals as hpre hlay hrd hwl hlo;obtain rfl:dV = .none:=Dflts.none hD hdf;obtain rfl:kV = .none:=Dflts.noKw hD;obtain⟨a,vs,ns,rfl,rfl,hobj,hints,hlen⟩:=E3 hn hpre hwl;refine enter_call (codeAny_mono (call w s₀ s₁ mg mb fa o pm cd doc a vs ns G Y ho (fd_plain hd) hcd hmg hobj hints hlen (Bx hlay) hg) fun r s' hq=>?_);obtain⟨rfl,h2,h3,h4⟩:=hq;exact⟨.inl ⟨.bool true,.bool true,[],rfl,fun _=>rfl,.bool true,Im l _,fun _=>⟨List.Pairwise.nil,fun _ hm=>(nomatch hm)⟩⟩,h2,h3,h4⟩
end Att
namespace L2
open PySem PySem.Spec PyProof.Rows
section
variable {X:Cx}
end
abbrev SpS:=Shared->Sp
structure Q9(P:Program)(w:World)(K:W.Frag)(mg:Str->Option Value)(base:Heap)(CX:CXT)(k:Nat)(f:Addr)(fd:FuncData)(ps:List Str)(sp:SpS):Prop where
 len:∀s vs H Q E,sp s vs H Q E->vs.length=ps.length
 run:∀(A:Around) (outer:List Env) (s:Shared) (H:Hp) (args:Args) (us:List Value) (vs:List V) (Q:VK) (E:XK),jA k A->Nk P w K mg base A outer s H->BindsTo s fd args (ps.zip us)->Vals vs us->sp s vs H Q E->
  codeAny (model P w) A (.call (.ref f) args) (CR CX outer P w H s Q E) s
structure Ze(P:Program)(w:World)(K:W.Frag)(mg:Str->Option Value)(base:Heap)(x:Str)(k:Nat)(ps:List Str)(sp:SpS):Prop where
 ex:∃(g:Addr) (gd:FuncData),mg x=some (.ref g)/\W.keepIn K (.ref g)=true/\Binds K gd ps []/\Q9 P w K mg base (lJ P w) k g gd ps sp
structure MkC(mg:Str->Option Value)(base:Heap)(cdv:Value)(T:Addr):Prop where
 ex:∃c,cdv = .ref c/\W.CodeHd base c T
 bm:∃bm ob,mg "__builtins__" = some (.ref bm)/\bm≠builtinsNs/\base.get? bm=some ob/\ob.cls = .type "module" /\ ob.dict=some builtinsNs/\ob.data = .plain
structure MkD(mg:Str->Option Value)(base:Heap)(x:Str)(T:Addr):Prop where
 ex:∃a o fd,mg x=some (.ref a)/\base.get? a=some o/\o.data = .func fd/\MkC mg base fd.code T
section
variable {P:Program} {w:World} {K:W.Frag} {mg:Str->Option Value} {base:Heap}
theorem Sh{CX:CXT}{k:Nat}{f:Addr}{name qual:Str}{params:Arguments}{body:List Stmt}{scope:Scope}{dV kV doc pm cdv ct oc:Value}{an od:Option Addr}
  {osl:Array (Option Value)} {N ps:List Str} {sp:SpS} (lk:K.lookup f=some ⟨oc,od,.func (W.fnOf name qual params body scope dV kV doc pm an cdv ct),osl⟩) (hcd:W.codeIn K cdv qual=true) (S:aO N ps scope)
  (len:∀s vs H Q E,sp s vs H Q E->vs.length=ps.length)
  (hbody:∀(A:Around) (outer:List Env) (s:Shared) (H:Hp) (vs:List V) (Q:VK) (E:XK),K.In base->jA k (A.deeper (envOfC qual scope s.heap.objs.size f cdv))->sp s vs H Q E->
   ∃t,PSs (Kl CX P w K mg base N qual scope f cdv A outer s H E) body t/\t { nx:=fun _ H'=>Q .non H',rt:=Q } (start N vs) H):
  Q9 P w K mg base CX (k+1) f (W.fnOf name qual params body scope dV kV doc pm an cdv ct) ps sp:=by
 refine⟨len,fun A outer s H args us vs Q E hr e0 hb r hsp=>?_⟩;have hl:=len _ _ _ _ _ hsp;have KX:K.In s.heap:=e0.mod.kin.keeps fun b o e=>(e0.bs b o e).1;have lim:s.heap.NoLimit:=e0.mod.nolimit.keeps fun b o e=>(e0.bs b o e).1;have hkind:∀y∈ps.zip us,scope.names.lookup y.1=some .local∨(scope.names.lookup y.1=some .cell/\((cellsFrom (s.heap.objs.size+1) scope.names []).lookup y.1).isSome=true):=fun⟨n,v⟩ hy=>by
  rcases S.par n (List.of_mem_zip hy).1 with q|q
  ·exact .inl q
  ·exact .inr ⟨q,W.cellsFrom_some _ _ _ (.inl q)⟩
 refine codeAny_call_function hr.depth (KX _ _ lk) rfl S.co S.gen rfl (W.codeRec_of KX hcd) (hb _ _ _ _ ?_);refine wpAny_newFunctionEnv_cells S.kind hkind fun env he s1 x=>?_;subst he;refine⟨lim.keeps x.toInCall.keep,codeAny_func ?_⟩;obtain⟨t,ht,hq⟩:=hbody A outer s H vs Q E e0.mod.kin (hr.deeper _) hsp;have I:Inv (Kl CX P w K mg base N qual scope f cdv A outer s H E) [] (start N vs) H s1:=zW S hr.hd e0 hl r x;refine wpAny_mono (ht [] s1 (start N vs) H _ I hq) (fun fl s' hs=>?_) fun e s' hs=>hs;have fin:∀{σ':St} {H':Hp} {v:V} {u:Value},Inv (Kl CX P w K mg base N qual scope f cdv A outer s H E) [] σ' H' s'->RelV v u->Q v H'->CE outer P w H s Q u s':=
  fun {σ' H' v u} J rv q=>⟨v,H',J.os,J.bare,J.base,J.hok,rv,q⟩
 cases fl with
 |ret u=>
  obtain⟨v,σ',H',J,rv,q⟩:=hs;exact fin J rv q
 |next=>
  obtain⟨σ',H',J,q⟩:=hs;exact fin (v:=V.non) (u:=Value.none) J rfl q
 |brk=>
  obtain⟨_,_,_,q⟩:=hs;exact False.elim q
 |cont=>
  obtain⟨_,_,_,q⟩:=hs;exact False.elim q
theorem Fn.acC{x:Str}{st:Stmt}{N ps:List Str}{k:Nat}{sp:SpS}(F:Fn K mg x st ps)(S:aO N ps (aj st))(len:∀s vs H Q E,sp s vs H Q E->vs.length=ps.length)
  (hbody:∀(f:Addr) (cdv:Value) (A:Around) (outer:List Env) (s:Shared) (H:Hp) (vs:List V) (Q:VK) (E:XK),jA k (A.deeper (envOfC x (aj st) s.heap.objs.size f cdv))->sp s vs H Q E->
   ∃t,PSs (cxF P w K mg base N x (aj st) f cdv A outer s H E).nox (aC st) t/\t { nx:=fun _ H'=>Q .non H',rt:=Q } (start N vs) H):Ze P w K mg base x (k+1) ps sp:=by
 obtain⟨f,fd,F,m,b⟩:=F.ex;have kp:=F.kp;obtain⟨oc,od,kV,doc,pm,an,cdv,ct,osl,rfl,lk,hcd⟩:=F.ex;refine⟨f,_,m,kp,b,Sh lk hcd S len fun A outer s H vs Q E _ hr h=>?_⟩;obtain⟨t,a,b⟩:=hbody f cdv A outer s H vs Q E hr h;exact⟨t,a.nox,b⟩
theorem Fun.okM{x qual:Str}{st:Stmt}{f:Addr}{fd:FuncData}{N ps:List Str}{k:Nat}{sp:Sp}{T:Addr}(F:Fun K x qual st f fd)(m:mg x=some (.ref f))(M:MkD mg base x T)(KB:K.In base)(S:aO N ps (aj st))(len:∀vs H Q E,sp vs H Q E->vs.length=ps.length)
  (hbody:∀(cdv:Value) (A:Around) (outer:List Env) (s:Shared) (H:Hp) (vs:List V) (Q:VK) (E:XK),MkC mg base cdv T->jA k (A.deeper (envOfC qual (aj st) s.heap.objs.size f cdv))->sp vs H Q E->
   ∃t,PSs (cxF P w K mg base N qual (aj st) f cdv A outer s H E).nox (aC st) t/\t { nx:=fun _ H'=>Q .non H',rt:=Q } (start N vs) H):E9 P w K mg base (lJ P w) (k+1) f fd ps sp:=by
 obtain⟨oc,od,kV,doc,pm,an,cdv,ct,osl,rfl,lk,hcd⟩:=F.ex;have hM:MkC mg base cdv T:=by
  obtain⟨a,o,fd,e1,e2,e3,C⟩:=M.ex;rw[m]at e1;cases e1;rw[KB _ _ lk]at e2;cases e2;cases e3;exact C
 refine QX lk hcd S len fun A outer s H vs Q E hr h=>?_;obtain⟨t,a,b⟩:=hbody cdv A outer s H vs Q E hM hr h;exact⟨t,a.nox,b⟩
theorem Fn.aaL{x:Str}{st:Stmt}{N ps:List Str}{k:Nat}{sp:Sp}{T:Addr}(F:Fn K mg x st ps)(M:MkD mg base x T)(KB:K.In base)(S:aO N ps (aj st))(len:∀vs H Q E,sp vs H Q E->vs.length=ps.length)
  (hbody:∀(f:Addr) (cdv:Value) (A:Around) (outer:List Env) (s:Shared) (H:Hp) (vs:List V) (Q:VK) (E:XK),MkC mg base cdv T->jA k (A.deeper (envOfC x (aj st) s.heap.objs.size f cdv))->sp vs H Q E->
   ∃t,PSs (cxF P w K mg base N x (aj st) f cdv A outer s H E).nox (aC st) t/\t { nx:=fun _ H'=>Q .non H',rt:=Q } (start N vs) H):Cal P w K mg base x (k+1) ps sp:=by
 obtain⟨f,fd,F,m,b⟩:=F.ex;exact⟨f,fd,m,F.kp,b,F.okM m M KB S len fun cdv A outer s H vs Q E hM hr h=>hbody f cdv A outer s H vs Q E hM hr h⟩
end
def cxE(P:Program)(w:World)(K:W.Frag)(mg:Str->Option Value)(base:Heap)(N:List Str)(env:Env)(A:Around)(outer:List Env)(s:Shared)(H:Hp)(E:XK):Cx where
 prog:=P
 w:=w
 K:=K
 mg:=mg
 base:=base
 A:=A.deeper env
 N:=N
 s₀:=s
 H₀:=H
 env:=env
 outer:=outer
 stack:=env::outer
 ex:=[]
 calm:=true
 fn:=fun _=>false
 pn:=[]
 xe:=fun e s'=>wpAny (model P w) (A.deeper env) (leaving env e) (fun _ s''=>lJ P w outer H s E e s'') (fun e' s''=>lJ P w outer H s E e' s'') s'
abbrev cxL(P:Program)(w:World)(K:W.Frag)(mg:Str->Option Value)(base:Heap)(N:List Str)(qual:Str)(scope:Scope)(f:Addr)(cd:Value)(cl:List (Str×Addr))(A:Around)(outer:List Env)(s:Shared)(H:Hp)(E:XK):Cx:=
 cxE P w K mg base N (W.envX qual scope s.heap.objs.size f cd cl) A outer s H E
section
variable {P:Program} {w:World} {K:W.Frag} {mg:Str->Option Value} {base:Heap} {N:List Str} {qual:Str} {scope:Scope} {f:Addr} {cd:Value} {cl:List (Str×Addr)} {A:Around} {outer:List Env} {s₀:Shared} {H₀:Hp} {E:XK}
theorem KC:Passes (lJ P w) (cxL P w K mg base N qual scope f cd cl A outer s₀ H₀ E) E:=by
 intro pins σ H s e s' I h;obtain⟨ea,C,a0,B,H',rfl,os,bare,fl,hok,un,old,q⟩:=h.ex;refine wpAny_leaves_onW (L:=s₀.heap.objs.size) I.ok.frames rfl fl fun h' x1 x2=>?_;have inB:∀b o,s.heap.get? b=some o->b∉frs (W.envX qual scope s₀.heap.objs.size f cd cl::outer)->∃o',B.get? b=some o'/\s'.heap.get? b=some o':=fun b o e hb=>by
  rcases old b o e with z|⟨o',z⟩
  ·exact absurd z hb
  ·exact⟨o',z,fl.1 b o' z⟩
 have up:∀b o,s'.heap.get? b=some o->b∈frs (W.envX qual scope s₀.heap.objs.size f cd cl::outer)->∃sl,h'.get? b=some { o with slots:=sl }:=fun b o e hb=>by
  obtain⟨_,o',ho',hd⟩:=fl.2.2.1.mem hb;rw[e]at ho';cases ho';exact x2 b o e hd
 refine⟨ea,C,a0,B,H',rfl,os.trans I.os,bare,x1,hok,I.Z4 rfl (fun b o e n hb=>?_) (fun b o e n hb=>?_) (fun b o e n=>un.free b o e n (by simp)) (fun b o e=>?_) un.tups un.Am un.Bv,fun b o e=>?_,q⟩
 ·obtain⟨o',e1,e2⟩:=inB b o e hb;have e3:=un.keep b o e n hb (by simp);rw[e2]at e3;cases e3;exact x1.1 b _ e1
 ·obtain⟨sl,e1⟩:=un.slot b o e n (List.mem_cons_of_mem _ hb) (by simp);obtain⟨sl',e2⟩:=up b _ e1 (List.mem_cons_of_mem _ hb);exact⟨sl',e2⟩
 ·by_cases hb:b∈frs (W.envX qual scope s₀.heap.objs.size f cd cl::outer)
  ·obtain⟨o',e1⟩:=un.there b o e (by simp);obtain⟨sl,e2⟩:=up b o' e1 hb;exact⟨_,e2⟩
  ·obtain⟨o',e1,_⟩:=inB b o e hb;exact⟨o',x1.1 b o' e1⟩
 ·by_cases hb:b∈frs outer
  ·exact .inl hb
  ·obtain⟨o',e1⟩:=I.base.there b o e (by intro z;cases z);obtain⟨o2,e2,_⟩:=inB b o' e1 (I.CJ e hb);exact .inr ⟨o2,e2⟩
theorem aZ{x:Str}{k k':Nat}{ps:List Str}{sp:Sp}{p pos:Pos}{e:Expr}{es:List Expr}{t:TA}(C:Cal P w K mg base x k ps sp)(hr:jA k' (cxL P w K mg base N qual scope f cd cl A outer s₀ H₀ E).A)(hg:Gl (cxL P w K mg base N qual scope f cd cl A outer s₀ H₀ E) x)
  (ha:PA (cxL P w K mg base N qual scope f cd cl A outer s₀ H₀ E) (e::es) t) (hk:k<=k':=by decide) (hd:(x==("__debug__" : Str))=false:=by decide)
  (he:starEach (e::es) (cxL P w K mg base N qual scope f cd cl A outer s₀ H₀ E).env=(false,eval e (cxL P w K mg base N qual scope f cd cl A outer s₀ H₀ E).env)::starEach es (cxL P w K mg base N qual scope f cd cl A outer s₀ H₀ E).env:=by rfl)
  (hpl:(backTo pos (starEach es (cxL P w K mg base N qual scope f cd cl A outer s₀ H₀ E).env)).any (·.1)=false:=by rfl):
  PE (cxL P w K mg base N qual scope f cd cl A outer s₀ H₀ E) (.Call (.Name x p) (e::es) [] pos) (K7 sp [] E t):=by
 obtain⟨g,gd,hm,hkp,hb,F⟩:=C.ex;exact AF F (hr.mono hk) hg hm hkp hb .nil KC ha hd he hpl
end
structure Lam(P:Program)(w:World)(K:W.Frag)(mg:Str->Option Value)(base:Heap)(k:Nat)(s:Shared)(H:Hp)(f:Addr)(sp0:Hp->VK->XK->Prop):Prop where
 fn:∃o fd,s.heap.get? f=some o/\o.data = .func fd
 un:H f=none
 run:∀(A:Around) (outer:List Env) (s':Shared) (H':Hp) (fs:List Addr) (Q:VK) (E:XK),jA k A->Nk P w K mg base A outer s' H'->Un fs [] H H' s.heap s'.heap->sp0 H' Q E->
  codeAny (model P w) A (.call (.ref f) ⟨[],[]⟩) (CR (lJ P w) outer P w H' s' Q E) s'
def GV(P:Program)(w:World)(K:W.Frag)(mg:Str->Option Value)(base:Heap)(k:Nat)(spG:(Hp->VK->XK->Prop)->Hp->VK->XK->Prop):SpS:=
 fun s vs H Q E=>∃f sp0,vs=[.ref f]/\Lam P w K mg base k s H f sp0/\spG sp0 H Q E
def iM(H:Hp)(T:Addr)(qual:Str):Prop:=∃ps,H T=some (.tbl ps)/\TriplesOk ps.toList/\
 ∀pos cv,codeAmong pos ps.toList=some cv->∃c' oc vs t,cv = .ref c'/\H c'=some (.frz oc (.own 0))/\oc.data = .fields vs/\vs[1]?=some (.str qual t)
def acy(H H':Hp):Prop:=∀b o,(∀ps,o≠ .tbl ps)->H b=some o->H' b=some o
theorem iM.same{H H':Hp}{T:Addr}{q:Str}(h:iM H T q)(g:Same H H'):iM H' T q:=by
 obtain⟨ps,e,t,k⟩:=h;refine⟨ps,g _ _ e,t,fun pos cv z=>?_⟩;obtain⟨c',oc,vs,t',a,b,r⟩:=k pos cv z;exact⟨c',oc,vs,t',a,g _ _ b,r⟩
theorem D6{a b:Int}{c cv:Value}{pos:Pos}{l:List Value}(h:TriplesOk l)(z:codeAmong pos (l++[rawInt a,rawInt b,c])=some cv):codeAmong pos l=some cv∨cv=c:=by
 revert z
 fun_induction TriplesOk l with
 |case1=>
  intro z;simp only[List.nil_append,codeAmong,rawInt]at z;split at z
  ·exact .inr (Option.some.inj z).symm
  ·cases z
 |case2 a' t b' u x rest ih=>
  intro z;simp only[List.cons_append,codeAmong]at z⊢;split at z
  ·rename_i hc;rw[if_pos hc];exact .inl z
  ·rename_i hc;rw[if_neg hc];exact ih h z
 |case3 l h1 h2=>exact h.elim
structure R9(X:Cx)(scope:Scope)(N:List Str)(ix:List (Option Nat)):Prop where
 kind:scope.kind = .function
 co:scope.isCoroutine=false
 gen:scope.isGenerator=false
 cell:∀y∈scope.names,y.2≠ .cell
 free:∀y∈scope.names,y.2 = .free->X.env.kindOf y.1=some .cell∨X.env.kindOf y.1=some .free
 len:N.length=ix.length
 ix:∀(j:Nat) (x:Str) (i:Nat),N[j]?=some x->ix[j]?=some (some i)->X.N[i]?=some x/\(x,NameKind.free)∈scope.names/\scope.names.lookup x=some .free
 has:∀x,(scope.names.lookup x=some .cell∨scope.names.lookup x=some .free)->(x,NameKind.free)∈scope.names
theorem iV{X:Cx}{scope:Scope}{N:List Str}{ix:List (Option Nat)}(kind:scope.kind = .function:=by kernel_rfl)(co:scope.isCoroutine=false:=by kernel_rfl)(gen:scope.isGenerator=false:=by kernel_rfl)(cell:scope.names.all (fun y=>y.2 != .cell)=true:=by kernel_rfl)
  (free:scope.names.all (fun y=>y.2 != .free||(X.env.scope.names.lookup y.1==some .cell||X.env.scope.names.lookup y.1==some .free))=true:=by kernel_rfl)
  (len:N.length=ix.length:=by kernel_rfl)
  (hix:(N.zip ix).all (fun p=>match p.2 with
   |none=>true
   |some i=>X.N[i]?==some p.1&&scope.names.any (fun y=>y.1==p.1&&y.2== .free)&&scope.names.lookup p.1==some .free)=true:=by kernel_rfl)
  (has:scope.names.all (fun y=>(y.2 != .cell&&y.2 != .free)||scope.names.any (fun z=>z.1==y.1&&z.2== .free))=true:=by kernel_rfl):R9 X scope N ix:=by
 have mem:∀x:Str,scope.names.any (fun y=>y.1==x&&y.2== .free)=true->(x,NameKind.free)∈scope.names:=fun x h=>by
  obtain⟨y,hy,e⟩:=List.any_eq_true.mp h;rw[Bool.and_eq_true]at e;obtain⟨a,b⟩:=y;have e1:a=x:=eq_of_beq e.1;have e2:b = .free:=eq_of_beq e.2;subst e1;subst e2;exact hy
 refine⟨kind,co,gen,fun y hy e=>?_,fun y hy e=>?_,len,fun j x i h1 h2=>?_,fun x hx=>?_⟩
 ·have:=List.all_eq_true.mp cell y hy;rw[e]at this;cases this
 ·have:=List.all_eq_true.mp free y hy;rw[e]at this;simpa[Env.kindOf]using this
 ·have hm:(x,some i)∈N.zip ix:=by
   have:(N.zip ix)[j]?=some (x,some i):=by
    rw[List.getElem?_zip_eq_some];exact⟨h1,h2⟩
   exact List.mem_of_getElem? this
  have:=List.all_eq_true.mp hix _ hm;simp only[Bool.and_eq_true]at this;obtain⟨⟨a1,a2⟩,a3⟩:=this;exact⟨eq_of_beq a1,mem x a2,eq_of_beq a3⟩
 ·have hm:∃k,(x,k)∈scope.names/\(k = .cell∨k = .free):=by
   rcases hx with z|z
   ·exact⟨_,PySem.mem_of_lookup z,.inl rfl⟩
   ·exact⟨_,PySem.mem_of_lookup z,.inr rfl⟩
  obtain⟨k,hk,e⟩:=hm;have:=List.all_eq_true.mp has _ hk;rw[Bool.or_eq_true]at this;rcases this with z|z
  ·rcases e with e|e<;>(subst e;simp at z)
  ·exact mem x z
section
variable {X:Cx} {pins:List (Addr×Obj)} {σ:St} {H:Hp} {s:Shared}
theorem Inv.grown{T c':Addr}{ps more:Array Value}{oc:Obj}{h':Heap}{t':Nat}(I:Inv X pins σ H s)(hT:H T=some (.tbl ps))(hx:Heap.ExtBut T s.heap h')(hge:s.heap.objs.size<=c')(hoc:h'.get? c'=some oc)(htb:h'.get? T=some (W.tabObj (ps++more))):
  Inv X pins σ (upd (upd H T (.tbl (ps++more))) c' (.frz oc (.own 0))) { s with heap:=h',toks:=t' }:=by
 have hTc:T≠c':=Nat.ne_of_lt (Nat.lt_of_lt_of_le (I.hok.lt hT) hge);have nT:∀b,H b=none->b≠T:=fun b n z=>by rw[z,hT]at n;cases n
 have nT':∀b u,H b=some u->(∀q,u≠ .tbl q)->b≠T:=fun b u e n z=>by rw[z,hT]at e;cases e;exact n _ rfl
 have nc:∀b u,H b=some u->b≠c':=fun b u e=>Nat.ne_of_lt (Nat.lt_of_lt_of_le (I.hok.lt e) hge);have at_:∀b u,H b=some u->(∀q,u≠ .tbl q)->upd (upd H T (.tbl (ps++more))) c' (.frz oc (.own 0)) b=some u:=fun b u e n=>by
  rw[cM (nc b u e),cM (nT' b u e n)];exact e
 refine I.step (g':=s.gens) (d':=s.drawn) (ch:=[]) (fun _ z=>nomatch z) (fun b o _ _ _ e n=>hx b o (nT b n) e) (fun b o _ _ _ e n=>⟨o.slots,hx b o (nT b n) e⟩)
  (fun b o _ e n=>?_) (fun b o _ e=>?_) (fun b xs e=>at_ b _ e fun _ z=>nomatch z) (fun b o u e=>at_ b _ e fun _ z=>nomatch z) (fun b q e=>?_) (fun m hm=>hm.extBut hx (nT _ I.free)) (fun b u e=>?_) I.bare
 ·rw[cM (Nat.ne_of_lt (Nat.lt_of_lt_of_le (Heap.lt_size e) hge)),cM (nT b n)];exact n
 ·by_cases hb:b=T
  ·exact⟨_,hb▸htb⟩
  ·exact⟨o,hx b o hb e⟩
 ·by_cases hb:b=T
  ·subst hb;rw[hT]at e;cases e;exact⟨more,by rw[cM hTc,aB]⟩
  ·exact⟨#[],by rw[cM (nc b _ e),cM hb,e];simp⟩
 ·by_cases hc:b=c'
  ·subst hc;rw[aB]at e;cases e;exact⟨hoc,_,hoc⟩
  ·rw[cM hc]at e;by_cases hb:b=T
   ·subst hb;rw[aB]at e;cases e;exact htb
   ·rw[cM hb]at e;refine(I.hok b u e).stay (fun d v hd q=>hx d v ?_ q) (fun d q=>at_ d _ q fun _ z=>nomatch z) fun d xs q=>at_ d _ q fun _ z=>nomatch z;rcases hd with rfl|hd
    ·exact hb
    ·exact nT' d _ hd fun _ z=>nomatch z
theorem Oo{P:Program}{w:World}{K:W.Frag}{mg:Str->Option Value}{base:Heap}{N:List Str}{qual:Str}{scope:Scope}{f:Addr}{cd:Value}{cl:List (Str×Addr)}{A:Around}{outer:List Env}{s:Shared}{H:Hp}{E:XK}{σ:St}{h₁:Heap}{tk:Nat}
  (hk:scope.kind = .function) (hd:A.handled=none) (e0:Nk P w K mg base A outer s H)
  (cells:∀x c,cl.lookup x=some c->∃v,s.heap.IsCell c v/\H c=none) (inj:∀x y c,cl.lookup x=some c->cl.lookup y=some c->x=y)
  (has:∀x,(scope.names.lookup x=some .cell∨scope.names.lookup x=some .free)->∃c,cl.lookup x=some c)
  (vals:∀(i:Nat) (x:Str) (v:V),N[i]?=some x->σ[i]?=some (some v)->∃u,RelV v u/\scope.names.lookup x=some .free/\∃c,cl.lookup x=some c/\s.heap.IsCell c (some u)) (len:σ.length=N.length)
  (hns:h₁.Ns s.heap.objs.size fun _=>none) (keep:∀b o,s.heap.get? b=some o->h₁.get? b=some o):
  Inv (cxL P w K mg base N qual scope f cd cl A outer s H E) [] σ H { s with heap:=h₁,toks:=tk }:=by
 have noA:∀b:Addr,b∉(cxL P w K mg base N qual scope f cd cl A outer s H E).ex:=fun b z=>absurd (show b∈([]:List Addr)from z) (by simp);have ck:∀c v,s.heap.IsCell c v->h₁.IsCell c v:=fun c v ⟨o,a,b⟩=>⟨o,keep _ _ a,b⟩;refine⟨⟨e0.mod,hk,rfl,rfl,Nat.le_refl _,inj,has,(fun y c h=>nomatch h),fun _=>hd,Around.frames_deeper e0.frames,.inr ⟨rfl,rfl⟩,fun b z=>absurd z (noA b),e0.bs,e0.bsz,fun b _ _=>noA b,fun b z=>absurd z (noA b),e0.DL,e0.frf⟩,
  rfl,e0.bare,Un.kept keep,⟨_,hns,fun i y v h1 h2 h3=>?_⟩,fun y c h=>?_,e0.hok.fresh (Nat.le_refl _),fun y c h=>?_,fun p hp=>absurd (show p∈([]:List (Addr×Obj))from hp) (by simp),e0.hok.kept keep,len⟩
 ·obtain⟨u,r,k,c,e,z⟩:=vals i y v h1 h2;exact⟨u,r,.inr ⟨.inr k,c,e,ck _ _ z⟩⟩
 ·obtain⟨v,z,_⟩:=cells y c h;exact⟨v,ck _ _ z⟩
 ·obtain⟨_,_,n⟩:=cells y c h;exact n
theorem Qa{told:Str}{i k k':Nat}{tp cpos:Pos}{f:Addr}{sp0:Hp->VK->XK->Prop}{Q:VK}{E:XK}{R:Value->Shared->Prop}{EE:Value->Shared->Prop}(L:Lam X.prog X.w X.K X.mg X.base k X.s₀ X.H₀ f sp0)(hr:jA k' X.A)(hex:X.ex=[])(hN:X.N[i]?=some told)(hv:Vis X.env.scope told)(hk:k<=k')
  (hd:(told==("__debug__" : Str))=false) (hcd:(told==("__classdict__" : Str))=false) (I:Inv X pins σ H s) (hσ:σ[i]?=some (some (.ref f))) (h:sp0 H Q E)
  (ok:∀u s',EP X pins σ Q u s'->R u s') (er:∀s1 e s',Inv X pins σ H s1->lJ X.prog X.w X.stack H s1 E e s'->EE e s'):
  wpAny (model X.prog X.w) X.A (eval (.Call (.Name told tp) [] [] cpos) X.env) R EE s:=by
 refine wpAny_Call_Name_kw ?_;refine thn (Mx (X:=X.wish EE) hN hv hd hcd pins s σ H (fun v H'=>v = .ref f/\H'=H) (I.wish EE) ⟨.ref f,hσ,rfl,rfl⟩) fun u s1 ⟨v,H1,I1',r,e1,e2⟩=>?_;subst e1;subst e2;obtain rfl:u=Value.ref f:=r;have I1:Inv X pins σ H1 s1:=I1'.pq;have un:Un X.fs [] X.H₀ H1 X.s₀.heap s1.heap:=by have:=I1.base;rw[hex]at this;exact this
 obtain⟨⟨oc,od,odt,osl⟩,fd,ho,hdf⟩:=L.fn;obtain rfl:odt = .func fd:=hdf;obtain⟨sl,ho'⟩:=un.any ho L.un (by simp);refine W.callWith_of (P:=fun h=>h.get? f=some ⟨oc,od,.func fd,sl⟩) rfl (fun h e=>⟨.frame,.inl rfl,(W.Looks.ld (part:=none) e).andThen .now⟩) (PyProof.Rows.evalArgs_nil3 ⟨ho',?_⟩);refine wpAny_call (codeAny_mono (L.run X.A X.stack s1 H1 X.fs Q E (hr.mono hk) I1.env0 un h) fun rs s2 hq=>?_);cases rs with
 |ok fl=>
  cases fl with
  |ret u=>exact ok u s2 (I1.after hq)
  |next=>exact False.elim hq
  |brk=>exact False.elim hq
  |cont=>exact False.elim hq
 |error ev=>exact er s1 ev s2 I1 hq
end
def Tj(o:Obj):Bool:=match o.cls,o.data with
 |.none,.fields vs=>vs.isEmpty
 |_,_=>false
def kj(T:Addr)(H H':Hp):Prop:=∀b o,b≠T->H b=some o->H' b=some o
section
variable {X:Cx} {pins:List (Addr×Obj)} {σ:St} {H:Hp} {s:Shared}
theorem Ob{params:Arguments}{body:Expr}{scope:Scope}{Jb:Pos}{T:Addr}{qual:Str}{cl:List (Str×Addr)}(I:Inv X pins σ H s)(M:MkC X.mg X.base X.env.code T)(hT:iM H T qual)(hq:X.env.qual++ "<lambda>" = qual)
  (hcl:closureFor scope X.env=pure cl) (hdef:defaultsOf params X.env=([],[]))
  {Q:Value->Shared->Prop} (h:∀(f c':Addr) (ctv:Value) (s1:Shared) (H1:Hp),Inv X pins σ H1 s1->kj T H H1->iM H1 T qual->H1 f=none->
   s1.heap.get? f=some (W.kla_obj "<lambda>" qual params body scope cl ((X.mg "__name__").getD .none) c' ctv)->(∃oc vs t,H1 c'=some (.frz oc (.own 0))/\oc.data = .fields vs/\vs[1]?=some (.str qual t))->Q (.ref f) s1):
  wpAny (model X.prog X.w) X.A (eval (.Lambda params body scope Jb) X.env) Q X.xe s:=by
 subst hq;obtain⟨ps,eT,ht,hk⟩:=hT;obtain⟨c,hcode,C⟩:=M.ex;obtain⟨bm,ob,b1,b2,b3,b4,b5,b6⟩:=M.bm;have hP:s.heap.get? T=some (W.tabObj ps):=I.hok T _ eT;have hgs:s.heap.Ns mainGlobals X.mg:=I.ok.mod.glob.keeps I.bk;have nT:∀b o,X.base.get? b=some o->b≠T:=fun b o e z=>by
  have:=(I.bs b o e).2;rw[z,eT]at this;cases this
 have hgP:mainGlobals≠T:=by
  obtain⟨o,es,ep,e,_⟩:=I.ok.mod.glob;exact nT _ _ e
 have hbG:bm≠mainGlobals:=fun q=>by
  obtain⟨o,es,ep,e,hd,_⟩:=I.ok.mod.glob;rw[q,e]at b3;cases b3;rw[hd]at b6;cases b6
 have hb:s.heap.BuiltinsAt X.mg T:=⟨bm,ob,b1,b2,hbG,nT _ _ b3,I.bk _ _ b3,b4,b5,b6⟩;refine W.kla_eval hdef ?_;cases hf:codeAmong Jb ps.toList with
 |none=>
  refine W.kla_makeFunction (mg:=X.mg) hcl I.ok.glob hgs hcode (C.keeps I.bk) hP ht hf hgP hb fun c' ctv h' tk hx hge hlt hrec htb=>?_;obtain⟨c₂,oc,vs,t,e2,hoc,hd,hv⟩:=hrec;cases e2;have I1:=I.grown (t':=tk) eT hx hge hoc htb;have I2:=I1.kept (h':=h'.push (W.kla_obj "<lambda>" (X.env.qual++ "<lambda>") params body scope cl ((X.mg "__name__").getD .none) c' ctv)) (t':=tk) (fun b u e=>Heap.get?_push_of_some _ e);have hTc:T≠c':=Nat.ne_of_lt (Nat.lt_of_lt_of_le (I.hok.lt eT) hge);have at_:∀b u,b≠T->H b=some u->upd (upd H T (.tbl (ps++#[rawInt Jb.line,rawInt Jb.col,.ref c']))) c' (.frz oc (.own 0)) b=some u:=fun b u n e=>by
   rw[cM (Nat.ne_of_lt (Nat.lt_of_lt_of_le (I.hok.lt e) hge)),cM n];exact e
  refine h _ c' ctv _ _ I2 at_ ⟨ps++#[rawInt Jb.line,rawInt Jb.col,.ref c'],by rw[cM hTc,aB],?_,fun pos cv z=>?_⟩ (I1.hok.fresh (Nat.le_refl _)) (Heap.get?_push_size _ rfl) ⟨oc,vs,t,aB,hd,hv⟩
  ·rw[Array.toList_append];exact TriplesOk_snoc _ _ _ _ ht
  ·rw[Array.toList_append]at z;rcases D6 ht z with z|z
   ·obtain⟨c3,oc3,vs3,t3,e3,f3,r3⟩:=hk pos cv z;exact⟨c3,oc3,vs3,t3,e3,at_ _ _ (fun z=>by rw[z,eT]at f3;cases f3) f3,r3⟩
   ·exact⟨c',oc,vs,t,z,aB,hd,hv⟩
 |some cv=>
  obtain⟨c',oc,vs,t,rfl,fc,hd,hv⟩:=hk Jb cv hf;refine W.kla_makeFunctionHit (mg:=X.mg) hcl I.ok.glob hgs hcode (C.keeps I.bk) hP ht hf hb fun ctv h' tk hk' hsz=>?_;have I1:=I.kept (h':=h') (t':=tk) hk';have I2:=I1.kept (h':=h'.push (W.kla_obj "<lambda>" (X.env.qual++ "<lambda>") params body scope cl ((X.mg "__name__").getD .none) c' ctv)) (t':=tk) (fun b u e=>Heap.get?_push_of_some _ e);exact h _ c' ctv _ _ I2 (fun _ _ _ z=>z) ⟨ps,eT,ht,hk⟩ (I1.hok.fresh (Nat.le_refl _)) (Heap.get?_push_size _ rfl) ⟨oc,vs,t,fc,hd,hv⟩
def LD(T:Addr)(qual:Str)(ix:List (Option Nat))(spG:(Hp->VK->XK->Prop)->Hp->VK->XK->Prop)(tb:XK->TE):TE:=
 fun σ H Q=>iM H T qual/\∀H1,kj T H H1->iM H1 T qual->spG (fun H' Q' E'=>tb E' (cst ix σ) H' Q') H1 Q E0
theorem dh{g:Str}{k k' kl:Nat}{spG:(Hp->VK->XK->Prop)->Hp->VK->XK->Prop}{par:Str}{T:Addr}{qual:Str}{params:Arguments}{body:Expr}{scope:Scope}{Jb p pos:Pos}{N:List Str}{ix:List (Option Nat)}{tb:XK->TE}
  (C:Ze X.prog X.w X.K X.mg X.base g k [par] (GV X.prog X.w X.K X.mg X.base (kl+1) spG)) (hr:jA k' X.A) (hg:Gl X g) (M:MkC X.mg X.base X.env.code T) (O:R9 X scope N ix)
  (hb:∀(f:Addr) (cd:Value) (cl:List (Str×Addr)) (A:Around) (outer:List Env) (s:Shared) (H:Hp) (E:XK),jA kl (A.deeper (W.envX qual scope s.heap.objs.size f cd cl))->PE (cxL X.prog X.w X.K X.mg X.base N qual scope f cd cl A outer s H E) body (tb E))
  (hq:X.env.qual++ "<lambda>" = qual) (hp:params={ posonlyargs:=[],args:=[],vararg:=none,kwonlyargs:=[],kw_defaults:=[],kwarg:=none,defaults:=[] }:=by rfl)
  (hk:k<=k':=by decide) (hd:(g==("__debug__" : Str))=false:=by decide):
  PE X (.Call (.Name g p) [.Lambda params body scope Jb] [] pos) (LD T qual ix spG tb):=by
 intro pins s σ H Q I ⟨hT,h⟩;subst hp;obtain⟨gf,gd,hm,hkp,hbd,F⟩:=C.ex;obtain⟨cl,ecl,C7,Tr⟩:=vX (env:=X.env) (scope:=scope) fun y hy hf=>I.ok.has y.1 (O.free y hy hf);refine wpAny_Call_Name_kw (uX I hg hm ?_ hd);refine W.callWith_K (h₀:=X.base) I.ok.mod.kin hkp (Calls.spliced_cons ?_) rfl rfl;refine Ob (params:={ posonlyargs:=[],args:=[],vararg:=none,kwonlyargs:=[],kw_defaults:=[],kwarg:=none,defaults:=[] }) (body:=body) (Jb:=Jb) I M hT hq ecl rfl fun f c' ctv s1 H1 I1 g1 hT1 hf1 ho hc'=>?_;refine Calls.spliced_nil ⟨I1.kIn,?_⟩;have L:Lam X.prog X.w X.K X.mg X.base (kl+1) s1 H1 f (fun H' Q' E'=>tb E' (cst ix σ) H' Q'):=by
  refine⟨⟨_,_,ho,rfl⟩,hf1,fun A outer s' H' fs Q' E' hr' e0 un hsp=>?_⟩;obtain⟨sl,ho'⟩:=un.any ho hf1 (by simp);obtain⟨oc,vs,t,fc,hdc,hv⟩:=hc';have fc':=un.Am _ _ _ fc;have hoc:=(e0.hok _ _ fc').1;have lim:s'.heap.NoLimit:=e0.mod.nolimit.keeps fun b o e=>(e0.bs b o e).1;refine W.kla_callFunE hr'.depth ho' rfl O.co O.gen rfl ⟨c',oc,vs,t,rfl,hoc,hdc,hv⟩ ?_;refine wpAny_pure (wpAny_newFunctionEnv (binds:=[]) O.cell (fun _ z=>nomatch z) (fun h₁ hns hsb=>?_) O.kind);have keep:∀b o,s'.heap.get? b=some o->h₁.get? b=some o:=fun b o e=>hsb.extBut b o (Nat.ne_of_lt (Heap.lt_size e)) (Heap.get?_push_of_some _ e);refine⟨lim.keeps keep,?_⟩;have cellAt:∀x c,X.env.cells.lookup x=some c->∀v,s1.heap.IsCell c v->s'.heap.IsCell c v:=fun x c e v ⟨o,a,b⟩=>by
   obtain⟨sl,a'⟩:=un.any a (I1.pK x c e) (by simp);exact⟨_,a',b⟩
  have hI:Inv (cxL X.prog X.w X.K X.mg X.base N qual scope f (.ref c') cl A outer s' H' E') [] (cst ix σ) H' { s' with heap:=h₁,toks:=s'.toks+0 }:=by
   refine Oo O.kind hr'.hd e0 (fun x c e=>?_) (fun x y c e1 e2=>I.ok.inj x y c (C7 _ _ e1) (C7 _ _ e2)) (fun x hx=>Tr (x,.free) (O.has x hx) rfl) (fun i x v h1 h2=>?_) ?_ hns keep
   ·obtain⟨v,o,a,b⟩:=I1.cell x c (C7 _ _ e);exact⟨v,cellAt x c (C7 _ _ e) v ⟨o,a,b⟩,un.free c o a (I1.pK x c (C7 _ _ e)) (by simp)⟩
   ·have h2':∃i',ix[i]?=some (some i')/\σ[i']?=some (some v):=by
     unfold cst at h2;rw[List.getElem?_map]at h2;cases e:ix[i]? with
     |none=>rw[e]at h2;cases h2
     |some oi=>
      rw[e]at h2;cases oi with
      |none=>cases h2
      |some i'=>
       refine⟨i',rfl,?_⟩;have h3:(match σ[i']? with|some v=>v|none=>none)=some v:=Option.some.inj h2
       cases e2:σ[i']? with
       |none=>rw[e2]at h3;cases h3
       |some z=>rw[e2]at h3;rw[<-h3]
    obtain⟨i',e1,e2⟩:=h2';obtain⟨hX,hmem,hfree⟩:=O.ix i x i' h1 e1;have hkind:=O.free _ hmem rfl;have acV:Vis X.env.scope x:=by
     rcases hkind with z|z
     ·exact .inr (.inl z)
     ·exact .inr (.inr z)
    obtain⟨m,hn,hl⟩:=I1.loc;obtain⟨u,r,l⟩:=hl i' x v hX e2 acV;rcases l with⟨z,_⟩|⟨_,c,ec,hcell⟩
    ·rcases hkind with y|y<;>(rw[y]at z;cases z)
    ·obtain⟨c2,hc2⟩:=Tr (x,.free) hmem rfl;have:=C7 _ _ hc2;rw[ec]at this;cases this;exact⟨u,r,hfree,c,hc2,cellAt x c ec _ hcell⟩
   ·unfold cst;rw[List.length_map,O.len]
  refine W.kla_codeExpr (env:=W.envX qual scope s'.heap.objs.size f (.ref c') cl) ?_;refine wpAny_mono (hb f (.ref c') cl A outer s' H' E' (hr'.deeper _) [] _ _ _ _ hI hsp) (fun u s'' ⟨v,H'',J,rv,q⟩=>?_) fun e s'' z=>z;exact⟨v,H'',J.os,J.bare,J.base,J.hok,rv,q⟩
 have hsp:GV X.prog X.w X.K X.mg X.base (kl+1) spG s1 [.ref f] H1 Q E0:=⟨f,_,rfl,L,h H1 g1 hT1⟩;refine wpAny_call (codeAny_mono (F.run X.A X.stack s1 H1 ⟨[.ref f],[]⟩ [.ref f] [.ref f] Q E0 (hr.mono hk) I1.env0 (hbd s1 [.ref f] I1.kIn rfl) (.cons rfl .nil) hsp) fun r s' hq=>?_);cases r with
 |error e=>exact(rZ hq).elim
 |ok fl=>
  cases fl with
  |ret u=>exact I1.after hq
  |next=>exact False.elim hq
  |brk=>exact False.elim hq
  |cont=>exact False.elim hq
def Fg(base:Heap)(R:Addr)(ts:Addr->TS)(D:Ends)(σ:St):XK:=fun cls _ H2=>∃C,cls = .ref C/\ExS base C R/\∀a,ts a D σ H2
theorem D7{X:Cx}{x:Str}{R:Addr}{xp hpos:Pos}{b₀:Stmt}{suite:List Stmt}{ts:Addr->TS}{pins:List (Addr×Obj)}{σ:St}{H H1:Hp}{s s1 s2:Shared}{D:Ends}{ev:Value}
  (Qp:X.stack=X.env::X.outer) (hfr:X.env.frame=some X.env.locals) (hex:X.ex=[])
  (hx:Gl X x) (hR:X.mg x=some (.ref R)) (hs:∀a,PSs (cxS X a) (b₀::suite) (ts a))
  (hdx:(x==("__debug__" : Str))=false) (I:Inv X pins σ H s) (I1:Inv X pins σ H1 s1) (hq:lJ X.prog X.w X.stack H1 s1 (Fg X.base R ts D σ) ev s2):
  wpAny (model X.prog X.w) X.A (noteFrame ev X.env) (fun _ s₂=>wpAny (model X.prog X.w) X.A (setFlight ev none) (fun _ s₃=>wpAny (model X.prog X.w) X.A (handleBy ev X.env [.ExceptHandler (some (.Name x xp)) none (b₀::suite) hpos]) (SP X pins D) X.xe s₃) X.xe s₂) X.xe s2:=by
 have nx:∀b:Addr,b∉X.ex:=fun b=>by rw[hex];simp
 obtain⟨ea,Cc,a0,B,H2,rfl,os,bare,fl,hok,un,old,C',eC,S,q2⟩:=lJ.ex hq;cases eC;rw[Qp]at fl;have Jj:frs X.stack=(X.env::X.outer).filterMap (·.frame):=by rw[Qp];rfl
 have oe:=fl.first;have newE:∀u,s1.heap.get? ea≠some u:=fun u z=>by
  rcases old ea u z with hb|⟨o',hb⟩
  ·rw[Jj]at hb;obtain⟨_,o,ho,hd⟩:=fl.2.2.1.mem hb;obtain⟨o2,vs2,e1,_,e2,_⟩:=oe;rw[e1]at ho;cases ho;exact hd _ e2
  ·rw[fl.2.1]at hb;cases hb
 have to:∀h6,Heap.FlyingW B (X.env::X.outer) ea (.ref Cc) a0 h6->s2.heap.UpToSlots h6->Inv X pins σ H2 { s2 with heap:=h6 }:=fun h6 fl6 up=>by
  refine I1.TV (ch:=[]) os ⟨fun b o e1 n1 hb _=>?_,fun b o e1 n1 hb _=>?_,fun b o e1 n1 _=>un.free b o e1 n1 (by simp),fun b o e1 _=>?_,un.tups,un.Am,un.Bv⟩ (hok.kept fl6.1) bare (fun _ z=>nomatch z)
  ·rcases old b o e1 with z|⟨o',z⟩
   ·exact absurd z hb
   ·have e2:=un.keep b o e1 n1 hb (by simp);have e3:=fl.1 b o' z;rw[e2]at e3;cases e3;exact fl6.1 b _ z
  ·obtain⟨sl,e2⟩:=un.slot b o e1 n1 hb (by simp);rw[Jj]at hb;obtain⟨_,o2,ho,hd⟩:=fl.2.2.1.mem hb;rw[e2]at ho;cases ho;obtain⟨sl',e3⟩:=up b _ e2 hd;exact⟨sl',e3⟩
  ·rcases old b o e1 with z|⟨o',z⟩
   ·rw[Jj]at z;obtain⟨_,o2,ho,hd⟩:=fl.2.2.1.mem z;obtain⟨sl',e3⟩:=up b _ ho hd;exact⟨_,e3⟩
   ·exact⟨o',fl6.1 b o' z⟩
 have ab0:X.A.frames=some (X.env::X.outer):=by rw[I.ok.frames,Qp]
 refine wpAny_looks_onW ab0 hfr fl fun h4 UC up4=>?_;refine wpAny_landsW UC fun h5 fl5 up5=>?_;have I5:=to h5 fl5 (up4.trans up5);obtain⟨ob,hob,hobc⟩:=fl5.there;refine wpAny_handleBy_cons (codeAny_handlers_test (uX (X:=cxS X ea) (I5.suite ea) hx hR ?_ hdx)) (by intro z;cases z);refine vJ S I5.bk hob hobc (codeAny_handlers_suite ?_);refine lands_againW fl5 fun h6 fl6 up6=>?_;have I6:=to h6 fl6 ((up4.trans up5).trans up6);refine wpAny_mono (hs ea pins _ _ _ _ (I6.suite ea) (q2 ea)) (fun fl9 s9 q9=>?_) fun _ _ z=>z.elim;cases fl9 with
 |next=>
  obtain⟨σ9,H9,I9,q9⟩:=q9;exact⟨_,H9,I9.wH I.ok,q9⟩
 |brk=>
  obtain⟨σ9,H9,I9,q9⟩:=q9;exact⟨_,H9,I9.wH I.ok,q9⟩
 |cont=>
  obtain⟨σ9,H9,I9,q9⟩:=q9;exact⟨_,H9,I9.wH I.ok,q9⟩
 |ret u=>
  obtain⟨y,σ9,H9,I9,r9,q9⟩:=q9;exact⟨y,_,H9,I9.wH I.ok,r9,q9⟩
def EA(base:Heap)(R:Addr)(f:Addr)(sp0:Hp->VK->XK->Prop)(i v:Nat)(ts:Addr->TS):TS:=fun D σ H=>σ[i]?=some (some (.ref f))/\sp0 H (fun y H2=>D.nx (σ.set v (some y)) H2) (Fg base R ts D σ)
theorem Cd{x told y:Str}{i v k k':Nat}{f:Addr}{sp0:Hp->VK->XK->Prop}{R:Addr}{tp cpos aaK apos xp hpos pos:Pos}{b₀:Stmt}{suite:List Stmt}{ts:Addr->TS}
  (L:Lam X.prog X.w X.K X.mg X.base k X.s₀ X.H₀ f sp0) (hr:jA k' X.A) (Qp:X.stack=X.env::X.outer) (hfr:X.env.frame=some X.env.locals) (hex:X.ex=[]) (hi:X.N[i]?=some told) (hv:Vis X.env.scope told) (hN:X.N.Nodup)
  (hy:X.N[v]?=some y) (hl:Loc X.env.scope y)
  (hx:Gl X x) (hR:X.mg x=some (.ref R)) (hs:∀a,PSs (cxS X a) (b₀::suite) (ts a)) (hk:k<=k':=by decide)
  (hdf:(told==("__debug__" : Str))=false:=by decide) (hcd:(told==("__classdict__" : Str))=false:=by decide) (hdx:(x==("__debug__" : Str))=false:=by decide)
  (hsw:swapsWith (.Call (.Name told tp) [] [] cpos) (some (.Name y aaK)) apos.line X.env=pure false:=by rfl) (hfv:X.fn y=true∨X.env.scope.names.lookup y=some .local:=by first|exact .inl rfl|exact .inr rfl|assumption):
  PS X (.Try [.Assign [.Name y aaK] (.Call (.Name told tp) [] [] cpos) apos] [.ExceptHandler (some (.Name x xp)) none (b₀::suite) hpos] [] [] pos) (EA X.base R f sp0 i v ts):=by
 intro pins s σ H D I ⟨hσ,h⟩;refine wpAny_Try_except (wpAny_execs_cons (wpAny_Assign_Name (Qa L hr hex hi hv hk hdf hcd I hσ h (fun u s' ⟨z,H2,I2,ry,q2⟩=>?_) fun s1 e s' I1 hq=>?_) hsw))
 ·exact tU I2 hN hy hl ry (fun s3 I3=>wpAny_execs_nil (wpAny_execs_nil ⟨_,H2,I3,q2⟩)) hfv
 ·exact D7 Qp hfr hex hx hR hs hdx I I1 hq
end
theorem El{P:Program}{w:World}{K:W.Frag}{mg mb:Str->Option Value}{CX:CXT}{k:Nat}{fa a:Addr}{fd:FuncData}{x:Str}{xs:List Str}{T:Str->Addr}{sp:Sp}{s₁:Shared}{vs:List Value}{ns:List Int}
  (KX:K.In s₁.heap) (hns:s₁.heap.Ns mainGlobals mg) (hb:s₁.heap.Ns builtinsNs mb) (hbb:∀x:Str,x≠ "__name__" -> mb x=bootBuiltins x) (hlim:s₁.heap.NoLimit) (hdig:s₁.heap.NoDigits) (hg:s₁.gens=#[])
  (hT:∀b∈xs.map T,s₁.heap.get? b=some (W.tabObj #[])) (hKT:∀b∈xs.map T,K.lookup b=none) (M:∀y∈xs,MkD mg s₁.heap y (T y)) (hcT:∀b∈xs.map T,isCodeTable s₁.heap b)
  (ha:s₁.heap.get? a=some { cls:= .type "list",data:= .seq vs.toArray }) (hi:IntsAre vs ns) (hl:ns.length<=sizeLine) (hr:jA k callerA)
  (F:∀base:Heap,K.In base->base.Ns mainGlobals mg->(∀y∈xs,MkD mg base y (T y))->E9 P w K mg base CX k fa fd [x] sp) (hbind:∀(s:Shared) (u:Value),BindsTo s fd ⟨[u],[]⟩ [(x,u)])
  (hsp:∀H:Hp,SqL K H a (ns.map V.int)->(∀y∈xs,∀q,iM H (T y) q)->sp [.ref a] H (fun v _=>v = .bl true) fun _ _ _=>False)
  (hCX:∀H e s',CX [] H s₁ (fun _ _ _=>False) e s'->False):
  codeAny (model P w) callerA (.call (.ref fa) ⟨[.ref a],[]⟩) (fun r s'=>r = .ok (.ret (.bool true))/\OldK s₁.heap s'.heap/\s'.os=s₁.os/\AllBare s'.gens) s₁:=by
 have rv:=GB hi;have lenV:=hi.length;have core:∀H:Hp,(∀b∈xs.map T,H b=some (.tbl #[]))->(∀b,b∉xs.map T->H b=none∨∃o xs,H b=some (.frz o (.lst xs)))->SqL K H a (ns.map V.int)->HOk P w H s₁.heap->(∀b,H b≠none->b=a∨b∈xs.map T)->(H a≠none->K.lookup a=none)->
   codeAny (model P w) callerA (.call (.ref fa) ⟨[.ref a],[]⟩) (fun r s'=>r = .ok (.ret (.bool true))/\OldK s₁.heap s'.heap/\s'.os=s₁.os/\AllBare s'.gens) s₁:=by
  intro H eT hO hS hok hA hK;have uJ:∀{b:Addr} {o:Obj},s₁.heap.get? b=some o->H b=none->(Jl s₁.heap H).get? b=some o:=fun e n=>Ks e n;have no2:∀{b:Addr} {o:Obj},s₁.heap.get? b=some o->(∀xs n,o.data≠ .seq xs n)->o.cls≠ .none->H b=none:=fun {b o} e d c=>by
   cases q:H b with
   |none=>rfl
   |some u=>
    rcases hA b (by rw[q];simp)with e'|e'
    ·subst e';rw[ha]at e;cases e;exact absurd rfl (d _ _)
    ·rw[hT b e']at e;cases e;exact absurd rfl c
  have noA:∀{b:Addr} {o:Obj} {es:Array DictEntry} {ep:Nat},s₁.heap.get? b=some o->o.data = .dict es ep->H b=none:=fun {b o es ep} e d=>by
   cases q:H b with
   |none=>rfl
   |some u=>
    rcases hA b (by rw[q];simp)with e'|e'
    ·subst e';rw[ha]at e;cases e;have d':Data.seq vs.toArray _=Data.dict es ep:=d;cases d'
    ·rw[hT b e']at e;cases e;have d':Data.fields _=Data.dict es ep:=d;cases d'
  have nsK:∀{b:Addr} {m:Str->Option Value},s₁.heap.Ns b m->(Jl s₁.heap H).Ns b m:=fun {b m} ⟨o,es,ep,e,d,r⟩=>⟨o,es,ep,uJ e (noA e d),d,r⟩;have hKb:K.In (Jl s₁.heap H):=fun b o e=>uJ (KX b o e) (by
   cases q:H b with
   |none=>rfl
   |some u=>
    rcases hA b (by rw[q];simp)with e'|e'
    ·subst e';rw[hK (by rw[q];simp)]at e;cases e
    ·rw[hKT b e']at e;cases e)
  have hM:Mod K mg (Jl s₁.heap H):=⟨hKb,nsK hns,⟨mb,nsK hb,hbb⟩,let⟨mc,h1,h2⟩:=hlim;⟨mc,nsK h1,h2⟩,let⟨mc,h1,h2⟩:=hdig;⟨mc,nsK h1,h2⟩⟩;have e0:Nk P w K mg (Jl s₁.heap H) callerA [] s₁ H:=⟨rfl,hM,fun b o e=>M7 e,Nat.le_of_eq (Fi _ _),trivial,fun b hb=>absurd (show b∈([]:List Addr)from hb) (by simp),hok,.of_eq hg⟩;have mk:∀y∈xs,MkD mg (Jl s₁.heap H) y (T y):=fun y hy=>by
   obtain⟨a0,o,fd0,m1,m2,m3,⟨c,c1,oc,ws,file,tf,flags,tg,inF,text,tt,g1,g2,g3,g4,g5,g6,g7,g8,g9,g10⟩,⟨bm,ob,b1,b2,b3,b4,b5,b6⟩⟩:=(M y hy).ex;have n1:H a0=none:=by
    cases q:H a0 with
    |none=>rfl
    |some u=>
     rcases hA a0 (by rw[q];simp)with e'|e'
     ·subst e';rw[ha]at m2;cases m2;cases m3
     ·rw[hT a0 e']at m2;cases m2;cases m3
   have n2:H c=none:=no2 g1 (fun xs n z=>by rw[g3]at z;cases z) (fun z=>by rw[g2]at z;cases z);have n3:H bm=none:=no2 b3 (fun xs n z=>by rw[b6]at z;cases z) (fun z=>by rw[b4]at z;cases z);exact⟨a0,o,fd0,m1,uJ m2 n1,m3,⟨c,c1,oc,ws,file,tf,flags,tg,inF,text,tt,uJ g1 n2,g2,g3,g4,g5,g6,g7,g8,g9,g10⟩,⟨bm,ob,b1,b2,uJ b3 n3,b4,b5,b6⟩⟩
  refine codeAny_mono ((F _ hKb (nsK hns) mk).run callerA [] s₁ H ⟨[.ref a],[]⟩ [.ref a] [.ref a] _ _ hr e0 (hbind s₁ (.ref a)) (.cons rfl .nil) (hsp H hS fun y hy q=>⟨#[],eT _ (List.mem_map_of_mem hy),trivial,fun pos cv z=>by cases z⟩)) fun r s' h=>?_;cases r with
  |error e=>exact(hCX H e s' h).elim
  |ok fl=>
   cases fl with
   |next=>exact False.elim h
   |brk=>exact False.elim h
   |cont=>exact False.elim h
   |ret u=>
    obtain⟨v,H',os,bare,un,hok',r',q⟩:=h;have q':v = .bl true:=q;subst q';obtain rfl:u=Value.bool true:=r';have aav:∀b:Addr,b∉frs []:=fun b z=>absurd (show b∈([]:List Addr)from z) (by simp);refine⟨rfl,⟨fun b o e=>?_,fun b o e=>un.there b o e (by simp)⟩,os,bare⟩;by_cases hbT:b∈xs.map T
    ·rw[hT b hbT]at e;cases e;obtain⟨more,z⟩:=un.Bv b _ (eT b hbT);exact .inr (.inl ⟨hcT b hbT,rfl,#[],more,rfl,hok' b _ z⟩)
    ·refine .inl ?_;cases q:H b with
     |none=>exact un.keep b o e q (aav b) (by simp)
     |some u=>
      rcases hO b hbT with z|⟨ob,xs,z⟩
      ·rw[q]at z;cases z
      ·have z2:=un.Am b ob _ z;obtain⟨e1,_⟩:=hok b _ z;obtain⟨e2,_⟩:=hok' b _ z2;rw[e]at e1;cases e1;exact e2
 have haT:a∉xs.map T:=fun z=>by rw[hT a z]at ha;cases ha
 cases hk:K.lookup a with
 |some o=>
  have e:=KX a o hk;rw[ha]at e;cases e;refine core (fun b=>if b∈xs.map T then some (.tbl #[])else none) (fun b hb=>if_pos hb) (fun b hb=> .inl (if_neg hb)) (.inr ⟨_,vs.toArray,_,hk,rfl,rfl,rfl,by rw[List.size_toArray,lenV];exact hl,by simpa using rv⟩) (fun b u z=>?_) (fun b z=>?_) fun z=>absurd (if_neg haT) z
  ·by_cases hb:b∈xs.map T
   ·have z':=(if_pos hb).symm.trans z;cases z';exact hT b hb
   ·have z':=(if_neg hb).symm.trans z;cases z'
  ·by_cases hb:b∈xs.map T
   ·exact .inr hb
   ·exact absurd (if_neg hb) z
 |none=>
  have at_:∀b:Addr,b∉xs.map T->(if b∈xs.map T then some (HO.tbl #[])else if b=a then some (HO.frz { cls:= .type "list",data:= .seq vs.toArray } (.lst (ns.map V.int)))else none)=if b=a then some (HO.frz { cls:= .type "list",data:= .seq vs.toArray } (.lst (ns.map V.int)))else none:=fun b hb=>if_neg hb;refine core (fun b=>if b∈xs.map T then some (.tbl #[])else if b=a then some (.frz { cls:= .type "list",data:= .seq vs.toArray } (.lst (ns.map V.int)))else none) (fun b hb=>if_pos hb) (fun b hbT=>?_)
   (.inl (.inr ⟨{ cls:= .type "list",data:= .seq vs.toArray },(at_ a haT).trans (if_pos rfl)⟩)) (fun b u z=>?_) (fun b z=>?_) fun _=>hk
  ·by_cases hb:b=a
   ·exact .inr ⟨_,_,(at_ b hbT).trans (if_pos hb)⟩
   ·exact .inl ((at_ b hbT).trans (if_neg hb))
  ·by_cases hbT:b∈xs.map T
   ·have z':=(if_pos hbT).symm.trans z;cases z';exact hT b hbT
   ·have z:=(at_ b hbT).symm.trans z;by_cases hb:b=a
    ·have z':=(if_pos hb).symm.trans z;cases z';subst hb;exact⟨ha,by rw[List.length_map];exact hl,vs,_,rv,ha⟩
    ·have z':=(if_neg hb).symm.trans z;cases z'
  ·by_cases hbT:b∈xs.map T
   ·exact .inr hbT
   ·by_cases hb:b=a
    ·exact .inl hb
    ·exact absurd ((at_ b hbT).trans (if_neg hb)) z
def tabAt(K:W.Frag)(x:Str):Option Addr:=match W.nsIn K mainGlobals x with
 |some (some (.ref a))=>match K.lookup a with
  |some o=>match o.data with
   |.func fd=>match fd.code with
    |.ref c=>match K.lookup c with
     |some oc=>match oc.data with
      |.fields vs=>match(vs[11]?:Option Value)with
       |some (.ref t)=>some t
       |_=>none
      |_=>none
     |none=>none
    |_=>none
   |_=>none
  |none=>none
 |_=>none
theorem Cu{K:W.Frag}{h:Heap}{mg:Str->Option Value}{x:Str}{T t:Addr}(X:K.In h)(G:h.Ns mainGlobals mg)(M:MkD mg h x T)(e:tabAt K x=some t):T=t:=by
 obtain⟨a,o,fd,m1,m2,m3,⟨c,c1,oc,ws,_,_,_,_,_,_,_,g1,_,g3,g4,_⟩,_⟩:=M.ex;unfold tabAt at e;split at e
 ·rename_i a' ea
  have q1:=W.mg_of X G ea;rw[m1]at q1;cases q1;split at e
  ·rename_i o' eo
   have q2:=X _ _ eo;rw[m2]at q2;cases q2;rw[m3]at e;dsimp only at e;rw[c1]at e;dsimp only at e;split at e
   ·rename_i oc' ec
    have q3:=X _ _ ec;rw[g1]at q3;cases q3;rw[g3]at e;dsimp only at e;rw[g4]at e;exact Option.some.inj e
   ·cases e
  ·cases e
 ·cases e
def Gg(K:W.Frag)(xs:List Str):Bool:=xs.all fun y=>xs.all fun z=>y==z||(match tabAt K y,tabAt K z with|some a,some b=>a != b|_,_=>false)
theorem Gm{l:W.OpenLaw}{n k:Nat}{q:Program}{loose:List Str}{XP:(Str->Option Value)->Heap->Prop}{YP:World->Heap->Prop}{d:DefRec}{K:Params->W.Frag}{CX:World->CXT}{sp:World->(Str->Addr)->Sp}{x:Str}(xs:List Str)
  (hn:l.most=some n) (hn2:n<=sizeLine) (hdf:d.params.defaults=[]) (hr:jA k callerA)
  (hY:∀(w:World) (h:Heap),YP w h->(K w.params).In h)
  (hx:(xs.all fun x₀=>(recsOf q).any (fun d=>d.name==x₀))=true) (hno:∀P:Params,(K P).all (fun p=>!Tj p.2)=true) (hds:∀P:Params,Gg (K P) xs=true)
  (F:∀(w:World) (mg:Str->Option Value) (fa:Addr) (h:Heap),(K w.params).In h->h.Ns mainGlobals mg->mg d.name=some (.ref fa)->
   ∃fd:FuncData,(∀(s:Shared) (u:Value),BindsTo s fd ⟨[u],[]⟩ [(x,u)])/\
    ∀(T:Str->Addr) (base:Heap),(K w.params).In base->base.Ns mainGlobals mg->(∀y∈xs,MkD mg base y (T y))->E9 l.prog w (K w.params) mg base (CX w) k fa fd [x] (sp w T))
  (hsp:∀(w:World) (T:Str->Addr) (H:Hp) (a:Addr) (ns:List Int),ns.length<=n->(∀x∈ns,Builtin.Int.intBits x<=1048576)->(∀y∈xs,∀q,iM H (T y) q)->(∀y∈xs,∀z∈xs,T y=T z->y=z)->SqL (K w.params) H a (ns.map V.int)->sp w T [.ref a] H (fun v _=>v = .bl true) fun _ _ _=>False)
  (hCX:∀(w:World) (H:Hp) (s:Shared) (e:Value) (s':Shared),CX w [] H s (fun _ _ _=>False) e s'->False):
  W.WalkO q loose XP YP l.row.toRowW d [] (fun f vs=>PySem.call f vs):=by
 refine Att.yZ hn hdf fun w s₀ s₁ mg mb fa o pm cd doc a vs ns G Y ho hd hcd hmg hobj hints hlen Vd hg=>?_;have KX:=hY w _ Y;obtain⟨fd,hb,hF⟩:=F w mg fa _ KX G.T.g hmg;have pick:∀y∈xs,∃T,s₁.heap.get? T=some (W.tabObj #[])/\isCodeTable s₁.heap T/\MkD mg s₁.heap y T:=fun y hy=>by
  obtain⟨d0,hd0,en⟩:=List.any_eq_true.mp (List.all_eq_true.mp hx y hy);obtain⟨a0,o0,fd0,c,T,t1,t2,t3,t4,t5,t6⟩:=G.T.tab d0 hd0;rw[eq_of_beq en]at t1;exact⟨T,t6.2,t6.isCodeTable,a0,o0,fd0,t1,t2,t3,⟨c,t4,W.CodeHd.of t5 t6⟩,G.T.bmain⟩
 obtain⟨T,hT⟩:∃T:Str->Addr,∀y∈xs,s₁.heap.get? (T y)=some (W.tabObj #[])/\isCodeTable s₁.heap (T y)/\MkD mg s₁.heap y (T y):=by
  refine⟨fun y=>open Classical in if h:y∈xs then(pick y h).choose else 0,fun y hy=>?_⟩;dsimp only;rw[dif_pos hy];exact(pick y hy).choose_spec
 have hKT:∀b∈xs.map T,(K w.params).lookup b=none:=fun b hb=>by
  obtain⟨y,hy,rfl⟩:=List.mem_map.mp hb;cases q:(K w.params).lookup (T y)with
  |none=>rfl
  |some u=>
   exfalso
   have e:=KX _ u q;rw[(hT y hy).1]at e;cases e;have:=List.all_eq_true.mp (hno w.params) _ (W.mem_of_lookupK q);cases this
 have apart:∀y∈xs,∀z∈xs,T y=T z->y=z:=fun y hy z hz e=>by
  have h1:=List.all_eq_true.mp (List.all_eq_true.mp (hds w.params) y hy) z hz;rcases Bool.or_eq_true_iff.mp h1 with h2|h2
  ·exact eq_of_beq h2
  ·exfalso
   split at h2
   ·rename_i ty tz ey ez
    have q1:=Cu KX G.T.g (hT y hy).2.2 ey;have q2:=Cu KX G.T.g (hT z hz).2.2 ez;rw[<-q1,<-q2,e]at h2;simp at h2
   ·cases h2
 exact El (xs:=xs) (T:=T) KX G.T.g G.T.b G.T.builtins G.T.nolimit G.T.nodigits hg (fun b hb=>by obtain⟨y,hy,rfl⟩:=List.mem_map.mp hb;exact(hT y hy).1) hKT (fun y hy=>(hT y hy).2.2) (fun b hb=>by obtain⟨y,hy,rfl⟩:=List.mem_map.mp hb;exact(hT y hy).2.1) hobj hints (Nat.le_trans hlen hn2) hr (hF T) hb
  (fun H hS hT'=>hsp w T H a ns hlen Vd hT' apart hS) fun H e s'=>hCX w H s₁ e s'
section
variable {X:Cx}
def tFn(mg:Str->Option Value)(x:Str):TE:=fun _ H Q=>∀g,mg x=some (.ref g)->Q (.ref g) H
theorem xU{x:Str}{k:Nat}{ps:List Str}{sp:Sp}{pos:Pos}(C:Cal X.prog X.w X.K X.mg X.base x k ps sp)(hg:Gl X x)(hd:(x==("__debug__" : Str))=false:=by decide):PE X (.Name x pos) (tFn X.mg x):=by
 obtain⟨g,gd,hm,_,_,_⟩:=C.ex;intro pins s σ H Q I h;exact FJ (v:= .ref g) hg hm rfl hd pins s σ H Q I (h g hm)
theorem ur{x:Str}{k k':Nat}{ps:List Str}{sp:Sp}{pos:Pos}{e:Expr}{es:List Expr}{t:TA}{g:Addr}{pins:List (Addr×Obj)}{σ:St}{H1:Hp}{s1:Shared}{Q:VK}(C:Cal X.prog X.w X.K X.mg X.base x k ps sp)(hr:jA k' X.A)(ha:PA X (e::es) t)(hk:k<=k')
  (he:starEach (e::es) X.env=(false,eval e X.env)::starEach es X.env) (hpl:(backTo pos (starEach es X.env)).any (·.1)=false) (I1:Inv X pins σ H1 s1) (hm':X.mg x=some (.ref g)) (q:t σ H1 fun vs H2=>sp vs H2 Q E0):
  wpAny (model X.prog X.w) X.A (callWith pos (.ref g) [] (backTo pos (starEach (e::es) X.env)) (backToKw pos (keywordEach [] X.env))) (EP X pins σ Q) X.xe s1:=by
 obtain⟨g',gd,hm,hkp,hb,F⟩:=C.ex;rw[hm]at hm';cases hm';refine W.callWith_K (h₀:=X.base) I1.ok.mod.kin hkp (thn (ha pos pins s1 σ H1 _ I1 q) fun us s2 ⟨vs,H2,I2,r2,q2⟩=>⟨I2.kIn,?_⟩) he hpl;refine Li F (hr.mono hk) hb .nil LR I2 r2 ?_;rw[List.append_nil];exact q2
def O4(mg:Str->Option Value)(x1 x2 x3:Str)(sp1 sp2 sp3:Sp)(tv:TE)(t:TA):TE:=fun σ H Q=>tv σ H fun v H1=>((∃g,mg x1=some (.ref g)/\v = .ref g)/\t σ H1 fun vs H2=>sp1 vs H2 Q E0)∨((∃g,mg x2=some (.ref g)/\v = .ref g)/\t σ H1 fun vs H2=>sp2 vs H2 Q E0)∨((∃g,mg x3=some (.ref g)/\v = .ref g)/\t σ H1 fun vs H2=>sp3 vs H2 Q E0)
theorem EB{mg:Str->Option Value}{x1 x2 x3 y:Str}{k1 k2 k3 k':Nat}{ps1 ps2 ps3:List Str}{sp1 sp2 sp3:Sp}{p pos:Pos}{e:Expr}{es:List Expr}{tv:TE}{t:TA}(C1:Cal X.prog X.w X.K mg X.base x1 k1 ps1 sp1)(C2:Cal X.prog X.w X.K mg X.base x2 k2 ps2 sp2)(C3:Cal X.prog X.w X.K mg X.base x3 k3 ps3 sp3)(hr:jA k' X.A)(hv:PE X (.Name y p) tv)(ha:PA X (e::es) t)
  (hmg:X.mg=mg:=by rfl) (hk1:k1<=k':=by decide) (hk2:k2<=k':=by decide) (hk3:k3<=k':=by decide) (he:starEach (e::es) X.env=(false,eval e X.env)::starEach es X.env:=by rfl) (hpl:(backTo pos (starEach es X.env)).any (·.1)=false:=by rfl):PE X (.Call (.Name y p) (e::es) [] pos) (O4 mg x1 x2 x3 sp1 sp2 sp3 tv t):=by
 subst hmg;intro pins s σ H Q I h;refine wpAny_Call_Name_kw (thn (hv pins s σ H _ I h) fun u s1 ⟨v,H1,I1,r,q⟩=>?_);rcases q with⟨⟨g,hm,rfl⟩,q⟩|⟨⟨g,hm,rfl⟩,q⟩|⟨⟨g,hm,rfl⟩,q⟩
 ·obtain rfl:u=Value.ref g:=r;exact ur C1 hr ha hk1 he hpl I1 hm q
 ·obtain rfl:u=Value.ref g:=r;exact ur C2 hr ha hk2 he hpl I1 hm q
 ·obtain rfl:u=Value.ref g:=r;exact ur C3 hr ha hk3 he hpl I1 hm q
end
end L2
namespace Rm
def tk(b n:Int):Int:=if b=0 then n else n%b
theorem bH(n:Int):tk 0 n=n:=if_pos rfl
theorem iG{b:Int}(h:b≠0)(n:Int):tk b n=n%b:=if_neg h
theorem gC(b n:Int):tk b (tk b n)=tk b n:=by
 unfold tk;split
 ·rfl
 ·exact Int.emod_emod_of_dvd _ (Int.dvd_refl b)
theorem bJ(b x y:Int):tk b (tk b x+y)=tk b (x+y):=by
 unfold tk;split
 ·rfl
 ·exact Int.emod_add_emod ..
theorem dH(b x y:Int):tk b (x+tk b y)=tk b (x+y):=by
 rw[Int.add_comm,bJ,Int.add_comm]
theorem bh(b x y:Int):tk b (x*tk b y)=tk b (x*y):=by
 unfold tk;split
 ·rfl
 ·rw[Int.mul_emod,Int.emod_emod_of_dvd _ (Int.dvd_refl b),<-Int.mul_emod]
theorem cJ(b x y:Int):tk b (tk b x*y)=tk b (x*y):=by
 rw[Int.mul_comm,bh,Int.mul_comm]
theorem aW{b x x' y y':Int}(h:tk b x=tk b x')(h':tk b y=tk b y'):tk b (x+y)=tk b (x'+y'):=by
 rw[<-bJ,<-dH,h,h',dH,bJ]
def S(rule:List Int)(f:Nat->Int)(n:Nat):Nat->Int
 |0=>0
 |m+1=>S rule f n m+rule.getD m 0*f (n-1-m)
theorem BK{rule:List Int}{f g:Nat->Int}{n:Nat}:∀{m:Nat},(∀k,k<m->f (n-1-k)=g (n-1-k))->S rule f n m=S rule g n m
 |0,_=>rfl
 |m+1,h=>by
  unfold S;rw[BK fun k hk=>h k (by omega),h m (by omega)]
theorem Rp(b:Int){rule:List Int}{f g:Nat->Int}{c:Int}{n:Nat}:∀m:Nat,tk b (S rule (fun i=>tk b (f i+c*g i)) n m)=tk b (S rule f n m+c*S rule g n m)
 |0=>by simp[S]
 |m+1=>by
  unfold S;have h1:=Rp b (rule:=rule) (f:=f) (g:=g) (c:=c) (n:=n) m;have h2:tk b (rule.getD m 0*tk b (f (n-1-m)+c*g (n-1-m)))=tk b (rule.getD m 0*(f (n-1-m)+c*g (n-1-m))):=bh ..;rw[aW h1 h2];congr 1;rw[Int.mul_add,Int.mul_add,Int.mul_left_comm (rule.getD m 0) c];omega
theorem getD_map{f:Int->Int}(h0:f 0=0):∀(l:List Int) (k:Nat),(l.map f).getD k 0=f (l.getD k 0)
 |[],k=>by simp[h0]
 |x::r,0=>by simp
 |x::r,k+1=>by
  have:=getD_map h0 r k;simpa using this
theorem RQ(p:Int){rule:List Int}{f:Nat->Int}{n:Nat}:∀m:Nat,tk p (S (rule.map (tk p)) (fun i=>tk p (f i)) n m)=tk p (S rule f n m)
 |0=>rfl
 |m+1=>by
  unfold S;refine aW (RQ p m) ?_;rw[getD_map (by unfold tk;split<;>simp),bh,cJ]
def row(b:Int)(rule starts:List Int):Nat->List Int
 |0=>[]
 |n+1=>row b rule starts n++[if n<starts.length then starts.getD n 0 else tk b (S rule (fun i=>(row b rule starts n).getD i 0) n rule.length)]
theorem fD(b:Int)(rule starts:List Int):∀n,(row b rule starts n).length=n
 |0=>rfl
 |n+1=>by simp[row,fD b rule starts n]
def at_(b:Int)(rule starts:List Int)(n:Nat):Int:=(row b rule starts (n+1)).getD n 0
theorem AX(b:Int)(rule starts:List Int):∀{n i:Nat},i<n->(row b rule starts n).getD i 0=at_ b rule starts i
 |n+1,i,h=>by
  by_cases e:i=n
  ·subst e;rfl
  ·have hi:i<n:=by omega
   have hl:=fD b rule starts n;have:=AX b rule starts (n:=n) (i:=i) hi;rw[<-this];show(row b rule starts n++_).getD i 0=_;rw[List.getD_eq_getElem?_getD,List.getElem?_append_left (by omega),<-List.getD_eq_getElem?_getD]
theorem CT(b:Int)(rule starts:List Int)(n:Nat):at_ b rule starts n=if n<starts.length then starts.getD n 0 else tk b (S rule (fun i=>(row b rule starts n).getD i 0) n rule.length):=by
 unfold at_;have hl:=fD b rule starts n;show(row b rule starts n++_).getD n 0=_;rw[List.getD_eq_getElem?_getD,List.getElem?_append_right (by omega),hl];simp
theorem qd{b:Int}{rule starts:List Int}{n:Nat}(h:n<starts.length):at_ b rule starts n=starts.getD n 0:=by
 rw[CT,if_pos h]
theorem tM{b:Int}{rule starts:List Int}{n:Nat}(hl:rule.length=starts.length)(h:starts.length<=n):at_ b rule starts n=tk b (S rule (at_ b rule starts) n rule.length):=by
 rw[CT,if_neg (by omega)];congr 1;refine BK fun k hk=>AX b rule starts (by omega)
theorem IG(b:Int)(rule starts:List Int):∀n,row b rule starts n=(List.range n).map (at_ b rule starts)
 |0=>rfl
 |n+1=>by
  rw[List.range_succ,List.map_append,<-IG b rule starts n];show _++[_]=_++[at_ b rule starts n];rw[CT]
theorem Kr(b:Int)(rule starts:List Int)(n:Nat):row b rule starts (n+1)=row b rule starts n++[at_ b rule starts n]:=by
 rw[CT];rfl
theorem mR{b:Int}{rule starts:List Int}(hl:rule.length=starts.length){g:Nat->Int}(h1:∀i,i<starts.length->g i=starts.getD i 0)
  (h2:∀i,starts.length<=i->g i=tk b (S rule g i rule.length)):∀n,at_ b rule starts n=g n:=by
 intro n;induction n using Nat.strongRecOn with
 |ind n ih=>
  by_cases h:n<starts.length
  ·rw[qd h,h1 n h]
  ·rw[tM hl (by omega),h2 n (by omega)];congr 1;exact BK fun k hk=>ih _ (by omega)
theorem j8{b:Int}{rule starts:List Int}:∀{n:Nat},n<=starts.length->row b rule starts n=starts.take n
 |0,_=>by simp[row]
 |n+1,h=>by
  rw[Kr,j8 (by omega),qd (by omega),List.take_add_one,List.getD_eq_getElem?_getD,List.getElem?_eq_getElem (by omega)];rfl
theorem QK{p:Int}{rule starts:List Int}(hp:p≠0)(hl:rule.length=starts.length)(n:Nat):at_ p (rule.map (tk p)) (starts.map (tk p)) n=tk p (at_ 0 rule starts n):=by
 refine mR (by simpa using hl) (g:=fun i=>tk p (at_ 0 rule starts i)) (fun i hi=>?_) (fun i hi=>?_) n
 ·rw[qd (by simpa using hi),getD_map (by unfold tk;split<;>simp)]
 ·rw[List.length_map]at hi;show tk p (at_ 0 rule starts i)=_;rw[tM hl hi,bH,List.length_map];exact(RQ p _).symm
def Bd(n:Nat)(x:Int):Prop:=x.natAbs<2^n
theorem Bd.mono{m n:Nat}{x:Int}(h:Bd m x)(hmn:m<=n):Bd n x:=Nat.lt_of_lt_of_le h (Nat.pow_le_pow_right (by decide) hmn)
theorem Bd.mul{m n:Nat}{x y:Int}(h:Bd m x)(h':Bd n y):Bd (m+n) (x*y):=by
 unfold Bd at *;rw[Int.natAbs_mul,Nat.pow_add];exact Nat.mul_lt_mul'' h h'
theorem Bd.add{n:Nat}{x y:Int}(h:Bd n x)(h':Bd n y):Bd (n+1) (x+y):=by
 unfold Bd at *;have:=Int.natAbs_add_le x y;rw[Nat.pow_succ];omega
theorem Bd.zero(n:Nat):Bd n 0:=Nat.pow_pos (by decide)
theorem Bd.of{n:Nat}{x:Int}(h1:-(2^n)<x)(h2:x<2^n):Bd n x:=by
 unfold Bd;have e:((2^n:Nat):Int)=(2:Int)^n:=by simp
 omega
theorem Bd.emod{n:Nat}{x b:Int}(hb:0<b)(h:Bd n b):Bd n (x%b):=by
 unfold Bd at *;have:=Int.emod_nonneg x (show b≠0 by omega);have:=Int.emod_lt_of_pos x hb;omega
theorem Bd.S{rule:List Int}{f:Nat->Int}{n a c:Nat}(hr:∀k,Bd a (rule.getD k 0)):∀m:Nat,(∀k,k<m->Bd c (f (n-1-k)))->Bd (a+c+m) (Rm.S rule f n m)
 |0,_=>Bd.zero _
 |m+1,h=>by
  unfold Rm.S;refine Bd.add (n:=a+c+m) (Bd.S hr m fun k hk=>h k (by omega)) (((hr m).mul (h m (by omega))).mono (by omega))
theorem Ck(l:List Int)(k:Nat):l.getD k 0=0∨l.getD k 0∈l:=by
 by_cases h:k<l.length
 ·right;rw[List.getD_eq_getElem?_getD,List.getElem?_eq_getElem h];exact List.getElem_mem h
 ·left;rw[List.getD_eq_getElem?_getD,List.getElem?_eq_none (by omega)];rfl
theorem Bd.getD{l:List Int}{n:Nat}(h:∀x∈l,Bd n x)(k:Nat):Bd n (l.getD k 0):=by
 rcases Ck l k with e|e
 ·rw[e];exact .zero n
 ·exact h _ e
theorem w6{b x:Int}{n:Nat}(hb:0<=b)(hb':Bd n b)(h:Bd n x):Bd n (tk b x):=by
 unfold tk;split
 ·exact h
 ·exact Bd.emod (by omega) hb'
theorem Hu{b:Int}{rule starts:List Int}{a c:Nat}(hl:rule.length=starts.length)(hb:0<=b)(hb':Bd c b)(hr:∀x∈rule,Bd a x)(hs:∀x∈starts,Bd c x):
  ∀n,Bd (c+n*(a+rule.length)) (at_ b rule starts n):=by
 intro n;induction n using Nat.strongRecOn with
 |ind n ih=>
  by_cases h:n<starts.length
  ·rw[qd h];exact(Bd.getD hs n).mono (by omega)
  ·rw[tM hl (by omega)];by_cases h0:rule.length=0
   ·rw[h0];exact w6 hb (hb'.mono (by omega)) (.zero _)
   ·have hn:0<n:=by omega
    have q:=Bd.S (rule:=rule) (f:=at_ b rule starts) (n:=n) (a:=a) (c:=c+(n-1)*(a+rule.length)) (fun k=>Bd.getD hr k) rule.length fun k hk=>by
     refine(ih (n-1-k) (by omega)).mono ?_;have:(n-1-k)*(a+rule.length)<=(n-1)*(a+rule.length):=Nat.mul_le_mul_right _ (by omega);omega
    have e:n*(a+rule.length)=(n-1)*(a+rule.length)+(a+rule.length):=by
     obtain⟨m,rfl⟩:∃m,n=m+1:=⟨n-1,by omega⟩;rw[Nat.add_sub_cancel,Nat.succ_mul]
    exact w6 hb (hb'.mono (by omega)) (q.mono (by omega))
theorem CV{b:Int}{rule starts:List Int}(hl:rule.length=starts.length)(hb:0<b)(hs:∀x∈starts,0<=x/\x<b)(n:Nat):0<=at_ b rule starts n/\at_ b rule starts n<b:=by
 by_cases h:n<starts.length
 ·rw[qd h,List.getD_eq_getElem?_getD,List.getElem?_eq_getElem h];exact hs _ (List.getElem_mem h)
 ·rw[tM hl (by omega),iG (by omega)];exact⟨Int.emod_nonneg _ (by omega),Int.emod_lt_of_pos _ hb⟩
end Rm
namespace Om
def jM:List Nat:=[2,3,5,7,11,13,17,19,23,29,31,37,41,43,47,53,59,61,67,71,73,79,83,89,97,101,103,107,109,113,127,131,137,139,149,151,157,163,167,173,179,181,191,193,197,199,211,223,227,229,233,239,241,251,257,263,269,271,277,281,283,293,307,311,313,317,331,337,347,349,353,359,367,373,379,383,389,397,401,409,419,421,431,433,439,443,449,457,461,463,467,479,487,491,499,503,509,521,523,541,547,557,563,569,571,577,587,593,599,601,607,613,617,619,631,641,643,647,653,659,661,673,677,683,691,701,709,719,727,733,739,743,751,757,761,769,773,787,797,809,811,821,823,827,829,839,853,857,859,863,877,881,883,887,907,911,919,929,937,941,947,953,967,971,977,983,991,997]
def chk(p:Nat):Nat->Bool
 |0=>true
 |a+1=>(Nat.beq a 0||Nat.beq ((Nat.pow a (p-1))%p) 1)&&chk p a
set_option maxRecDepth 100000 in
theorem Em:(jM.all fun p=>chk p p)=true:=by decide +kernel
theorem Lz{p:Nat}:∀{n:Nat},chk p n=true->∀a,a<n->a≠0->a^(p-1)%p=1
 |n+1,h,a,ha,h0=>by
  unfold chk at h;rw[Bool.and_eq_true]at h;by_cases e:a=n
  ·subst e;have h1:=h.1;rw[Bool.or_eq_true]at h1;rcases h1 with h1|h1
   ·exact absurd (Nat.eq_of_beq_eq_true h1) h0
   ·exact Nat.eq_of_beq_eq_true h1
  ·exact Lz h.2 a (by omega) h0
theorem Pr{p a:Nat}(hp:p∈jM)(h0:a≠0)(h:a<p):a^(p-1)%p=1:=
 Lz (List.all_eq_true.mp Em p hp) a h h0
theorem wF{p a:Int}{P:Nat}(hP:p=(P:Int))(hp:P∈jM)(h0:0<a)(h:a<p):a^(P-1)%p=1:=by
 obtain⟨n,rfl⟩:∃n:Nat,a=(n:Int):=⟨a.toNat,by omega⟩;subst hP;have:=Pr hp (a:=n) (by omega) (by omega);have e:((n:Int)^(P-1))=((n^(P-1):Nat):Int):=by simp
 rw[e,<-Int.natCast_emod,this];rfl
theorem mod_mul{x y x' y' p:Int}(h:x%p=x'%p)(h':y%p=y'%p):(x*y)%p=(x'*y')%p:=by
 rw[Int.mul_emod,h,h',<-Int.mul_emod]
theorem Cg{x x' p:Int}(h:x%p=x'%p):∀n:Nat,(x^n)%p=(x'^n)%p
 |0=>by simp
 |n+1=>by rw[Int.pow_succ,Int.pow_succ];exact mod_mul (Cg h n) h
def Keeps(p a:Int)(e:Nat)(power square:Int)(left:Nat):Prop:=(power*square^left)%p=(a^e)%p
theorem Av(p a:Int)(e:Nat):Keeps p a e 1 a e:=by unfold Keeps;rw[Int.one_mul]
theorem oB(x:Int):∀n:Nat,(x*x)^n=x^(2*n)
 |0=>by simp
 |n+1=>by
  rw[Int.pow_succ,oB x n,show 2*(n+1)=2*n+1+1 by omega,Int.pow_succ,Int.pow_succ,Int.mul_assoc]
theorem GZ{p a:Int}{e:Nat}{power square:Int}{left:Nat}(h:Keeps p a e power square left)(ho:left%2=1):Keeps p a e (power*square%p) (square*square%p) (left/2):=by
 unfold Keeps at *;have h1:(power*square%p)%p=(power*square)%p:=Int.emod_emod_of_dvd _ (Int.dvd_refl p);have h2:=Cg (p:=p) (x:=square*square%p) (x':=square*square) (Int.emod_emod_of_dvd _ (Int.dvd_refl p)) (left/2);rw[mod_mul h1 h2,<-h,oB,Int.mul_assoc];have e2:left=2*(left/2)+1:=by omega
 conv=>rhs;rw[e2,Int.pow_succ]
 rw[Int.mul_comm square]
theorem DF{p a:Int}{e:Nat}{power square:Int}{left:Nat}(h:Keeps p a e power square left)(ho:¬left%2=1):Keeps p a e power (square*square%p) (left/2):=by
 unfold Keeps at *;have h2:=Cg (p:=p) (x:=square*square%p) (x':=square*square) (Int.emod_emod_of_dvd _ (Int.dvd_refl p)) (left/2);rw[mod_mul rfl h2,<-h,oB];have e2:left=2*(left/2):=by omega
 conv=>rhs;rw[e2]
theorem E5{p a:Int}{e:Nat}{power square:Int}(h:Keeps p a e power square 0):power%p=a^e%p:=by
 unfold Keeps at h
 rwa [Int.pow_zero,Int.mul_one]at h
end Om
namespace Pm
open Rm
def sm:Nat->(Nat->Int)->Int
 |0,_=>0
 |n+1,f=>sm n f+f n
theorem aA{f g:Nat->Int}:∀{n:Nat},(∀k,k<n->f k=g k)->sm n f=sm n g
 |0,_=>rfl
 |n+1,h=>by rw[sm,sm,aA fun k hk=>h k (by omega),h n (by omega)]
theorem gM:∀n:Nat,sm n (fun _=>0)=0
 |0=>rfl
 |n+1=>by rw[sm,gM n];rfl
theorem iJ{f:Nat->Int}{n:Nat}(h:∀k,k<n->f k=0):sm n f=0:=by rw[aA h,gM]
theorem dX(f:Nat->Int):∀n:Nat,sm (n+1) f=f 0+sm n (fun i=>f (i+1))
 |0=>by simp[sm]
 |n+1=>by
  rw[sm,dX f n,sm,Int.add_assoc]
theorem cQ(f g:Nat->Int):∀n:Nat,sm n (fun k=>f k+g k)=sm n f+sm n g
 |0=>rfl
 |n+1=>by rw[sm,sm,sm,cQ f g n];omega
theorem bG(c:Int)(f:Nat->Int):∀n:Nat,sm n (fun k=>c*f k)=c*sm n f
 |0=>by simp[sm]
 |n+1=>by rw[sm,sm,bG c f n,Int.mul_add]
theorem fG{f:Nat->Int}{m:Nat}:∀{n:Nat},m<=n->(∀k,m<=k->k<n->f k=0)->sm n f=sm m f
 |0,h,_=>by rw[show m=0 by omega]
 |n+1,h,h0=>by
  by_cases e:m=n+1
  ·rw[e]
  ·rw[sm,fG (n:=n) (by omega) (fun k h1 h2=>h0 k h1 (by omega)),h0 n (by omega) (by omega),Int.add_zero]
theorem tk0(b:Int):tk b 0=0:=by unfold tk;split<;>simp
theorem jz{b:Int}{f g:Nat->Int}:∀{n:Nat},(∀k,k<n->tk b (f k)=tk b (g k))->tk b (sm n f)=tk b (sm n g)
 |0,_=>rfl
 |n+1,h=>by
  rw[sm,sm];exact aW (jz fun k hk=>h k (by omega)) (h n (by omega))
theorem tO(f:Nat->Int):∀n:Nat,((List.range n).map f).sum=sm n f
 |0=>rfl
 |n+1=>by rw[List.range_succ,List.map_append,List.sum_append,tO f n];simp[sm]
def cv:(Nat->Int)->(Nat->Int)->Nat->Int
 |f,g,0=>f 0*g 0
 |f,g,k+1=>f 0*g (k+1)+cv (fun i=>f (i+1)) g k
theorem gO:∀(f g:Nat->Int) (k:Nat),cv f g k=sm (k+1) (fun j=>f j*g (k-j))
 |f,g,0=>by simp[cv,sm]
 |f,g,k+1=>by
  rw[cv,gO _ g k,dX (fun j=>f j*g (k+1-j))];refine congrArg (_ + ·) (aA fun j hj=>?_);rw[show k+1-(j+1)=k-j by omega]
theorem B3:∀(f g:Nat->Int) (k:Nat),cv f g (k+1)=cv f (fun i=>g (i+1)) k+f (k+1)*g 0
 |f,g,0=>rfl
 |f,g,k+1=>by
  rw[cv,B3 (fun i=>f (i+1)) g k,cv,Int.add_assoc]
theorem eG:∀(f g:Nat->Int) (k:Nat),cv f g k=cv g f k
 |f,g,0=>Int.mul_comm _ _
 |f,g,k+1=>by
  rw[cv,B3,eG (fun i=>f (i+1)) g k,Int.add_comm,Int.mul_comm]
theorem gh{f f' g g':Nat->Int}{k:Nat}(h:∀i,i<=k->f i=f' i)(h':∀i,i<=k->g i=g' i):cv f g k=cv f' g' k:=by
 rw[gO,gO];exact aA fun j hj=>by rw[h j (by omega),h' _ (by omega)]
theorem iZ{b:Int}{f f' g g':Nat->Int}{k:Nat}(h:∀i,i<=k->tk b (f i)=tk b (f' i))(h':∀i,i<=k->tk b (g i)=tk b (g' i)):tk b (cv f g k)=tk b (cv f' g' k):=by
 rw[gO,gO];exact jz fun j hj=>by rw[<-cJ,<-bh,h j (by omega),h' _ (by omega),bh,cJ]
theorem fX(f f' g:Nat->Int)(k:Nat):cv (fun i=>f i+f' i) g k=cv f g k+cv f' g k:=by
 rw[gO,gO,gO,<-cQ];exact aA fun j _=>Int.add_mul ..
theorem xY(f g g':Nat->Int)(k:Nat):cv f (fun i=>g i+g' i) k=cv f g k+cv f g' k:=by
 rw[eG,fX,eG,eG g']
theorem gQ(c:Int)(f g:Nat->Int)(k:Nat):cv (fun i=>c*f i) g k=c*cv f g k:=by
 rw[gO,gO,<-bG];exact aA fun j _=>Int.mul_assoc ..
theorem bQ:∀(f g h:Nat->Int) (k:Nat),cv (cv f g) h k=cv f (cv g h) k
 |f,g,h,0=>by simp[cv,Int.mul_assoc]
 |f,g,h,k+1=>by
  have e:(fun i=>cv f g (i+1))=fun i=>f 0*(fun i=>g (i+1)) i+cv (fun i=>f (i+1)) g i:=rfl;rw[cv,e,fX (fun i=>f 0*(fun i=>g (i+1)) i),gQ,bQ (fun i=>f (i+1)) g h k,cv,cv,cv];rw[Int.mul_add,Int.mul_assoc];omega
theorem fK{f g:Nat->Int}{k:Nat}(h:∀i,i<=k->f i=0∨g (k-i)=0):cv f g k=0:=by
 rw[gO];exact iJ fun j hj=>by rcases h j (by omega)with e|e<;>rw[e]<;>simp
def co(p:List Int)(k:Nat):Int:=p.getD k 0
theorem eU(k:Nat):co [] k=0:=by simp[co]
theorem dI(x:Int)(r:List Int):co (x::r) 0=x:=by simp[co]
theorem jK(x:Int)(r:List Int)(k:Nat):co (x::r) (k+1)=co r k:=by simp[co]
theorem bD{p:List Int}{k:Nat}(h:p.length<=k):co p k=0:=by
 rw[co,List.getD_eq_getElem?_getD,List.getElem?_eq_none h];rfl
theorem ql{p:List Int}{k:Nat}(h:k<p.length):co p k=p[k]:=by
 rw[co,List.getD_eq_getElem?_getD,List.getElem?_eq_getElem h];rfl
theorem yQ{p:List Int}{k:Nat}(h:k<p.length):co p k∈p:=by rw[ql h];exact List.getElem_mem h
def ofF(n:Nat)(f:Nat->Int):List Int:=(List.range n).map f
theorem aM(n:Nat)(f:Nat->Int):(ofF n f).length=n:=by simp[ofF]
theorem bI(n:Nat)(f:Nat->Int)(k:Nat):co (ofF n f) k=if k<n then f k else 0:=by
 by_cases h:k<n
 ·rw[if_pos h,co,ofF,List.getD_eq_getElem?_getD,List.getElem?_map,List.getElem?_range h];rfl
 ·rw[if_neg h,bD (by rw[aM];omega)]
theorem Cv(n:Nat)(f:Nat->Int):ofF (n+1) f=ofF n f++[f n]:=by
 rw[ofF,List.range_succ,List.map_append];rfl
theorem Lx(p:List Int):ofF p.length (co p)=p:=by
 apply List.ext_getElem (by rw[aM]);intro i h1 h2;simp only[ofF,List.getElem_map,List.getElem_range];exact ql h2
theorem j9{p q:List Int}(hl:p.length=q.length)(h:∀k,co p k=co q k):p=q:=by
 rw[<-Lx p,<-Lx q,hl];exact List.map_congr_left fun k _=>h k
theorem sX(p:List Int)(i:Nat)(x:Int)(k:Nat)(hi:i<p.length):co (p.set i x) k=if k=i then x else co p k:=by
 unfold co;rw[List.getD_eq_getElem?_getD,List.getElem?_set,List.getD_eq_getElem?_getD];by_cases e:i=k
 ·subst e;simp[hi]
 ·rw[if_neg e,if_neg (fun z=>e z.symm)]
theorem qp{f:Int->Int}(h:f 0=0)(p:List Int)(k:Nat):co (p.map f) k=f (co p k):=getD_map h p k
theorem bY(p q:List Int)(k:Nat):co (p++q) k=if k<p.length then co p k else co q (k-p.length):=by
 unfold co;by_cases h:k<p.length
 ·rw[if_pos h,List.getD_eq_getElem?_getD,List.getElem?_append_left h,<-List.getD_eq_getElem?_getD]
 ·rw[if_neg h,List.getD_eq_getElem?_getD,List.getElem?_append_right (by omega),<-List.getD_eq_getElem?_getD]
def trim:List Int->List Int
 |[]=>[]
 |x::r=>if x=0/\trim r=[]then[]else x::trim r
theorem jk:∀(p:List Int) (k:Nat),co (trim p) k=co p k
 |[],k=>rfl
 |x::r,k=>by
  rw[trim];have ih:=jk r;by_cases h:x=0/\trim r=[]
  ·rw[if_pos h];rw[h.2]at ih;cases k with
   |zero=>rw[eU,dI,h.1]
   |succ k=>rw[jK,<-ih k,eU,eU]
  ·rw[if_neg h];cases k with
   |zero=>rw[dI,dI]
   |succ k=>rw[jK,jK,ih k]
theorem tX{p:List Int}:trim p=[]↔∀k,co p k=0:=by
 constructor
 ·intro h k;rw[<-jk,h,eU]
 ·intro h;induction p with
  |nil=>rfl
  |cons x r ih=>
   rw[trim,if_pos ⟨by have:=h 0;rwa [dI]at this,ih fun k=>by have:=h (k+1);rwa [jK]at this⟩]
theorem qG:∀{p q:List Int},(∀k,co p k=co q k)->trim p=trim q
 |[],q,h=>by rw[show trim q=[]from tX.mpr fun k=>by rw[<-h k,eU]];rfl
 |x::r,[],h=>by rw[show trim (x::r)=[]from tX.mpr fun k=>by rw[h k,eU]];rfl
 |x::r,y::s,h=>by
  have e1:=h 0;rw[dI,dI]at e1;have e2:trim r=trim s:=qG fun k=>by have:=h (k+1);rwa [jK,jK]at this
  rw[trim,trim,e1,e2]
theorem Gz(p:List Int):trim (trim p)=trim p:=qG (jk p)
theorem fL:∀p:List Int,(trim p).length<=p.length
 |[]=>Nat.le_refl _
 |x::r=>by
  have:=fL r;rw[trim];split
  ·simp
  ·simp;omega
theorem oM:∀{p:List Int} {n:Nat},(∀k,n<=k->co p k=0)->(trim p).length<=n
 |[],n,_=>Nat.zero_le _
 |x::r,0,h=>by rw[tX.mpr fun k=>h k (Nat.zero_le _)];exact Nat.le_refl 0
 |x::r,n+1,h=>by
  have:=oM (p:=r) (n:=n) fun k hk=>by have:=h (k+1) (by omega);rwa [jK]at this
  rw[trim];split
  ·simp
  ·simp;omega
theorem yR(p:List Int):trim (p++[0])=trim p:=qG fun k=>by
 rw[bY];by_cases h:k<p.length
 ·rw[if_pos h]
 ·rw[if_neg h,bD (p:=p) (by omega)];cases k-p.length with
  |zero=>rfl
  |succ j=>rw[jK,eU]
theorem u9:∀(p:List Int) {x:Int},x≠0->trim (p++[x])=p++[x]
 |[],x,h=>by simp[trim,h]
 |y::r,x,h=>by
  show trim (y::(r++[x]))=_;rw[trim,u9 r h,if_neg (by simp)];rfl
theorem xP{p:List Int}{x:Int}(h:x∈trim p):x∈p:=by
 induction p with
 |nil=>exact h
 |cons y r ih=>
  rw[trim]at h;split at h
  ·cases h
  ·rcases List.mem_cons.mp h with rfl|h
   ·exact List.mem_cons_self
   ·exact List.mem_cons_of_mem _ (ih h)
structure Py(b:Int)(p:List Int):Prop where
 tr:trim p=p
 nu:∀x∈p,tk b x=x
theorem Py.co{b:Int}{p:List Int}(h:Py b p)(k:Nat):tk b (co p k)=co p k:=by
 by_cases hk:k<p.length
 ·exact h.nu _ (yQ hk)
 ·rw[bD (by omega),tk0]
theorem Py.ext{b:Int}{p q:List Int}(h:Py b p)(h':Py b q)(e:∀k,tk b (Pm.co p k)=tk b (Pm.co q k)):p=q:=by
 rw[<-h.tr,<-h'.tr];exact qG fun k=>by rw[<-h.co k,<-h'.co k];exact e k
theorem Py.of{b:Int}{p:List Int}(h:∀x∈p,tk b x=x):Py b (trim p):=⟨Gz p,fun x hx=>h x (xP hx)⟩
theorem Py.nil(b:Int):Py b []:=⟨rfl,fun _ h=>nomatch h⟩
theorem eE{n:Nat}{f:Nat->Int}{x:Int}(h:x∈ofF n f):∃k,k<n/\x=f k:=by
 obtain⟨k,hk,e⟩:=List.mem_map.mp h;exact⟨k,List.mem_range.mp hk,e.symm⟩
theorem Py.ofF(b:Int)(n:Nat)(f:Nat->Int):Py b (trim (Pm.ofF n fun k=>tk b (f k))):=Py.of fun x hx=>by
 obtain⟨k,_,rfl⟩:=eE hx;exact gC ..
def add(b:Int)(p q:List Int):List Int:=trim (ofF (max p.length q.length) fun k=>tk b (co p k+co q k))
def mul(b:Int)(p q:List Int):List Int:=trim (ofF (p.length+q.length) fun k=>tk b (cv (co p) (co q) k))
theorem Lp(b:Int)(p q:List Int):Py b (mul b p q):=Py.ofF ..
theorem C0(b:Int)(p q:List Int)(k:Nat):co (add b p q) k=tk b (co p k+co q k):=by
 rw[add,jk,bI];split
 ·rfl
 ·rw[bD (p:=p) (by omega),bD (p:=q) (by omega),Int.add_zero,tk0]
theorem mK(b:Int)(p q:List Int)(k:Nat):co (mul b p q) k=tk b (cv (co p) (co q) k):=by
 rw[mul,jk,bI];split
 ·rfl
 ·rw[fK,tk0];intro i hi;by_cases h:i<p.length
  ·exact .inr (bD (by omega))
  ·exact .inl (bD (by omega))
theorem mul_comm(b:Int)(p q:List Int):mul b p q=mul b q p:=(Lp ..).ext (Lp ..) fun k=>by rw[mK,mK,eG]
def W(f g:Nat->Int)(i k c:Nat):Int:=sm i (fun j=>if j<=c then f j*g (c-j)else 0)+(if i<=c/\c-i<k then f i*g (c-i)else 0)
theorem Q7(f g:Nat->Int)(c:Nat):W f g 0 0 c=0:=by simp[W,sm]
theorem Qz{f g:Nat->Int}{i k c:Nat}:W f g i (k+1) c=W f g i k c+(if c=i+k then f i*g k else 0):=by
 unfold W;by_cases h:c=i+k
 ·rw[if_pos h,if_pos (by omega),if_neg (by omega),show c-i=k by omega];omega
 ·rw[if_neg h];by_cases h2:i<=c/\c-i<k
  ·rw[if_pos h2,if_pos (by omega)];omega
  ·rw[if_neg h2,if_neg (by omega)];omega
theorem WG{f g:Nat->Int}{i n c:Nat}(hg:∀k,n<=k->g k=0):W f g i n c=W f g (i+1) 0 c:=by
 unfold W;rw[sm,if_neg (show ¬(i+1<=c/\c-(i+1)<0)by omega)];by_cases h:i<=c
 ·rw[if_pos h];by_cases h2:c-i<n
  ·rw[if_pos ⟨h,h2⟩];omega
  ·rw[if_neg (by omega),hg _ (by omega),Int.mul_zero];omega
 ·rw[if_neg (by omega),if_neg h];omega
theorem Nf{f g:Nat->Int}{m c:Nat}(hf:∀k,m<=k->f k=0):W f g m 0 c=cv f g c:=by
 unfold W;rw[if_neg (by omega),Int.add_zero,gO];by_cases h:m<=c+1
 ·rw[fG (n:=c+1) h fun k h1 _=>by rw[hf k h1,Int.zero_mul]];exact aA fun j hj=>if_pos (by omega)
 ·rw[fG (m:=c+1) (n:=m) (by omega) fun k h1 _=>if_neg (by omega)];exact aA fun j hj=>if_pos (by omega)
end Pm
namespace Pm
open Rm
theorem lQ(F:Nat->Nat->Int)(m:Nat):∀n:Nat,sm m (fun k=>sm n (fun j=>F k j))=sm n (fun j=>sm m (fun k=>F k j))
 |0=>by simp only[sm];exact gM m
 |n+1=>by
  simp only[sm];rw[cQ,lQ F m n]
theorem C8(rule:List Int)(f:Nat->Int)(n:Nat):∀m:Nat,S rule f n m=sm m (fun k=>co rule k*f (n-1-k))
 |0=>rfl
 |m+1=>by rw[S,sm,C8 rule f n m];rfl
def ks(p:List Int)(a:Nat->Int)(n:Nat):Int:=sm p.length (fun k=>co p k*a (n+k))
theorem TY{b:Int}{rule p:List Int}{a:Nat->Int}(ha:∀n,rule.length<=n->tk b (a n)=tk b (S rule a n rule.length)){n:Nat}(hn:rule.length<=n):
  tk b (ks p a n)=tk b (S rule (ks p a) n rule.length):=by
 have e1:tk b (ks p a n)=tk b (sm p.length (fun k=>co p k*sm rule.length (fun j=>co rule j*a (n+k-1-j)))):=by
  refine jz fun k _=>?_;rw[<-bh,ha (n+k) (by omega),bh,C8]
 rw[e1,C8];congr 1;have e2:(fun k=>co p k*sm rule.length (fun j=>co rule j*a (n+k-1-j)))=fun k=>sm rule.length (fun j=>co rule j*(co p k*a (n+k-1-j))):=by
  funext k
  rw[<-bG];exact aA fun j _=>Int.mul_left_comm ..
 rw[e2,lQ];refine aA fun j hj=>?_;rw[bG];congr 1;refine aA fun k _=>?_;rw[show n-1-j+k=n+k-1-j by omega]
theorem Ip{b:Int}{rule p:List Int}{a:Nat->Int}(ha:∀n,rule.length<=n->tk b (a n)=tk b (S rule a n rule.length))(h0:∀n,n<rule.length->tk b (ks p a n)=0):
  ∀n,tk b (ks p a n)=0:=by
 intro n;induction n using Nat.strongRecOn with
 |ind n ih=>
  by_cases h:n<rule.length
  ·exact h0 n h
  ·rw[TY ha (by omega),C8];have:tk b (sm rule.length fun k=>co rule k*ks p a (n-1-k))=tk b (sm rule.length fun _=>0):=jz fun k hk=>by
    rw[<-bh,ih (n-1-k) (by omega),Int.mul_zero]
   rw[this,gM,tk0]
def aP(b:Int)(c:List Int):List Int:=ofF c.length (fun k=>tk b (0-co c (c.length-1-k)))++[1]
def cL(b:Int)(p:List Int):List Int:=ofF (p.length-1) (fun k=>tk b (0-co p (p.length-1-1-k)))
theorem aX(b:Int)(c:List Int):(aP b c).length=c.length+1:=by simp[aP,aM]
theorem sG(b x:Int):tk b (0-tk b (0-x))=tk b x:=by
 have h:tk b (tk b (0-x)+(0-tk b (0-x)))=tk b ((0-x)+(0-tk b (0-x))):=bJ ..;have e1:tk b (0-x)+(0-tk b (0-x))=0:=by omega
 rw[e1]at h;have h2:tk b (tk b (0-tk b (0-x))+(0-x))=tk b 0:=by rw[bJ,Int.add_comm];exact h.symm
 have h3:tk b (tk b (0-tk b (0-x)))=tk b x:=by
  have:=aW h2 (rfl:tk b x=tk b x);rw[show tk b (0-tk b (0-x))+(0-x)+x=tk b (0-tk b (0-x))by omega,Int.zero_add]at this;exact this
 rwa [gC]at h3
theorem qw{b:Int}{c:List Int}(h:∀x∈c,tk b x=x):cL b (aP b c)=c:=by
 refine j9 (by rw[cL,aM,aX];omega) fun k=>?_;rw[cL,bI,aX];by_cases hk:k<c.length+1-1
 ·rw[if_pos hk,aP,bY,aM,if_pos (by omega),bI,if_pos (by omega),sG];rw[show c.length-1-(c.length+1-1-1-k)=k by omega];exact h _ (yQ (by omega))
 ·rw[if_neg hk,bD (by omega)]
theorem Mv{b:Int}{rule starts:List Int}(hl:rule.length=starts.length):∀n,rule.length<=n->tk b (at_ b rule starts n)=tk b (S rule (at_ b rule starts) n rule.length):=fun n hn=>by
 rw[tM hl (by omega),gC]
theorem Cm{f:Nat->Int}{c:Nat}:∀n:Nat,(∀k,k<n->Bd c (f k))->Bd (c+n) (sm n f)
 |0,_=>Bd.zero _
 |n+1,h=>by
  rw[sm];exact Bd.add (n:=c+n) (Cm n fun k hk=>h k (by omega)) ((h n (by omega)).mono (by omega))
theorem ju{p:List Int}{u:Nat}(h:∀x∈p,Bd u x)(k:Nat):Bd u (co p k):=Bd.getD h k
theorem V0{p q:List Int}{u v:Nat}(h:∀x∈p,Bd u x)(h':∀x∈q,Bd v x)(k:Nat):Bd (u+v+p.length) (cv (co p) (co q) k):=by
 rw[<-Nf (m:=p.length) fun j hj=>bD hj,W,if_neg (by omega),Int.add_zero];refine Cm _ fun j _=>?_;split
 ·exact(ju h j).mul (ju h' _)
 ·exact Bd.zero _
theorem LV{b:Int}{p q:List Int}{u v:Nat}(hb:0<=b)(hb1:b<1000)(hu:10<=u)(h:∀x∈p,Bd u x)(h':∀x∈q,Bd v x):∀x∈mul b p q,Bd (u+v+p.length) x:=by
 intro x hx;obtain⟨k,_,rfl⟩:=eE (xP hx);refine w6 hb ?_ (V0 h h' k);exact(Bd.of (n:=10) (by omega) (by omega)).mono (by omega)
theorem nA{b:Int}{c:List Int}{u:Nat}(hb:0<=b)(hb1:b<1000)(hu:10<=u)(h:∀x∈c,Bd u x):∀x∈aP b c,Bd u x:=by
 intro x hx;rcases List.mem_append.mp hx with hx|hx
 ·obtain⟨k,_,rfl⟩:=eE hx;refine w6 hb ((Bd.of (n:=10) (by omega) (by omega)).mono (by omega)) ?_;have:=ju h (c.length-1-k);unfold Bd at this⊢;rw[Int.zero_sub,Int.natAbs_neg];exact this
 ·rw[List.mem_singleton.mp hx];exact(Bd.of (n:=10) (by decide) (by decide)).mono hu
end Pm
namespace Pm
open Rm
theorem cX(x:Int)(j:Nat):∀n:Nat,sm n (fun i=>if i=j then x else 0)=if j<n then x else 0
 |0=>by simp[sm]
 |n+1=>by
  rw[sm,cX x j n];by_cases h:n=j
  ·rw[if_pos h,if_neg (by omega),if_pos (by omega)];omega
  ·rw[if_neg h];by_cases h2:j<n
   ·rw[if_pos h2,if_pos (by omega)];omega
   ·rw[if_neg h2,if_neg (by omega)];omega
theorem d8{b x y:Int}:tk b (x-y)=0↔tk b x=tk b y:=by
 constructor
 ·intro h;have:=aW (b:=b) (x:=x-y) (x':=0) (y:=y) (y':=y) (by rw[h,tk0]) rfl
  rwa [show x-y+y=x by omega,Int.zero_add]at this
 ·intro h;have:=aW (b:=b) (x:=x) (x':=y) (y:=-y) (y':=-y) h rfl;rw[show x + -y=x-y by omega,show y + -y=0 by omega,tk0]at this;exact this
theorem pU(f:Int)(s:Nat)(g:Nat->Int)(k:Nat):cv (fun i=>if i=s then f else 0) g k=if s<=k then f*g (k-s)else 0:=by
 rw[gO];have e:sm (k+1) (fun j=>(if j=s then f else 0)*g (k-j))=sm (k+1) (fun j=>if j=s then f*g (k-s)else 0):=aA fun j _=>by
  by_cases h:j=s
  ·rw[if_pos h,if_pos h,h]
  ·rw[if_neg h,if_neg h,Int.zero_mul]
 rw[e,cX];by_cases h:s<=k
 ·rw[if_pos h,if_pos (by omega)]
 ·rw[if_neg h,if_neg (by omega)]
structure Mon(m:List Int):Prop where
 pos:0<m.length
 one:co m (m.length-1)=1
structure Div(b:Int)(p m q r:List Int):Prop where
 qy:Py b q
 ry:Py b r
 short:r.length<m.length
 eq:∀k,tk b (cv (co q) (co m) k+co r k)=tk b (co p k)
theorem Div.uniq{b:Int}{p m q r q' r':List Int}(hm:Mon m)(h:Div b p m q r)(h':Div b p m q' r'):q=q'/\r=r':=by
 have hp:=hm.pos;have e1:∀k,tk b (cv (fun i=>co q i-co q' i) (co m) k+(co r k-co r' k))=0:=by
  intro k;have e2:cv (fun i=>co q i-co q' i) (co m) k=cv (co q) (co m) k-cv (co q') (co m) k:=by
   have:=fX (co q) (fun i=>-1*co q' i) (co m) k;rw[gQ]at this;have e3:(fun i=>co q i + -1*co q' i)=fun i=>co q i-co q' i:=by funext i;omega
   rw[e3]at this;omega
  rw[e2,show cv (co q) (co m) k-cv (co q') (co m) k+(co r k-co r' k)=(cv (co q) (co m) k+co r k)-(cv (co q') (co m) k+co r' k)by omega,d8,h.eq,h'.eq]
 have e4:∀d j,q.length+q'.length<=j+d->tk b (co q j-co q' j)=0:=by
  intro d;induction d with
  |zero=>intro j hj;rw[bD (by omega),bD (by omega)];exact tk0 b
  |succ d ih=>
   intro j hj;have e5:=e1 (j+(m.length-1));have hs:=h.short;have hs':=h'.short;rw[bD (p:=r) (by omega),bD (p:=r') (by omega),Int.sub_zero,Int.add_zero,gO]at e5;rw[<-e5];have e6:tk b (sm (j+(m.length-1)+1) fun i=>(co q i-co q' i)*co m (j+(m.length-1)-i))=tk b (sm (j+(m.length-1)+1) fun i=>if i=j then co q j-co q' j else 0):=jz fun i hi=>by
    by_cases c:i=j
    ·rw[if_pos c,c,show j+(m.length-1)-j=m.length-1 by omega,hm.one,Int.mul_one]
    ·rw[if_neg c];by_cases c2:i<j
     ·rw[bD (p:=m) (by omega),Int.mul_zero]
     ·rw[<-cJ,ih i (by omega),Int.zero_mul]
   rw[e6,cX,if_pos (by omega)]
 have eq:q=q':=h.qy.ext h'.qy fun k=>d8.mp (e4 (q.length+q'.length) k (by omega));refine⟨eq,h.ry.ext h'.ry fun k=>?_⟩;have e7:=e1 k;rw[eq]at e7;have e8:(fun i=>co q' i-co q' i)=fun _=>0:=by funext i;omega
 rw[e8,fK (fun _ _=> .inl rfl),Int.zero_add]at e7;exact d8.mp e7
structure HW(b:Int)(p m:List Int)(s:Nat)(o l:List Int):Prop where
 eq:∀k,tk b (cv (co o) (co m) k+co l k)=tk b (co p k)
 zero:∀k,s+(m.length-1)<=k->co l k=0
 low:∀k,k<s->co o k=0
 ol:o.length=p.length-(m.length-1)
 ll:l.length=p.length
 on:∀k,tk b (co o k)=co o k
 ln:∀k,tk b (co l k)=co l k
theorem HW.start{b:Int}{p m:List Int}(hp:∀k,tk b (co p k)=co p k):HW b p m (p.length-(m.length-1)) (ofF (p.length-(m.length-1)) fun _=>0) p:=by
 have z:∀k,co (ofF (p.length-(m.length-1)) fun _=>0) k=0:=fun k=>by rw[bI];split<;>rfl
 exact⟨fun k=>by rw[fK fun i _=> .inl (z i),Int.zero_add],fun k hk=>bD (by omega),fun k _=>z k,aM _ _,rfl,fun k=>by rw[z,tk0],hp⟩
def lf(b f:Int)(s t:Nat)(l m:List Int)(k:Nat):Int:=if s<=k/\k<s+t then tk b (co l k-f*co m (k-s))else co l k
theorem PD(b f:Int)(s:Nat)(l m:List Int)(k:Nat):lf b f s 0 l m k=co l k:=if_neg (by omega)
theorem M9(b f:Int)(s t:Nat)(l m:List Int)(k:Nat):lf b f s (t+1) l m k=if k=s+t then tk b (lf b f s t l m k-f*co m t)else lf b f s t l m k:=by
 unfold lf;by_cases h:k=s+t
 ·rw[if_pos h,if_pos (by omega),if_neg (by omega),show k-s=t by omega]
 ·rw[if_neg h];by_cases h2:s<=k/\k<s+t
  ·rw[if_pos h2,if_pos (by omega)]
  ·rw[if_neg h2,if_neg (by omega)]
theorem RG{b f:Int}{s:Nat}{l m:List Int}(hl:∀k,tk b (co l k)=co l k)(k:Nat):lf b f s m.length l m k=tk b (co l k-(if s<=k then f*co m (k-s)else 0)):=by
 unfold lf;by_cases h:s<=k
 ·rw[if_pos h];by_cases h2:k<s+m.length
  ·rw[if_pos ⟨h,h2⟩]
  ·rw[if_neg (by omega),bD (p:=m) (by omega),Int.mul_zero,Int.sub_zero,hl]
 ·rw[if_neg (by omega),if_neg h,Int.sub_zero,hl]
theorem HW.step{b:Int}{p m o l l':List Int}{s:Nat}(hm:Mon m)(h:HW b p m (s+1) o l)(hs:s<p.length-(m.length-1))(hl:l'.length=l.length)(e:∀k,co l' k=lf b (co l (s+(m.length-1))) s m.length l m k):
  HW b p m s (o.set s (co l (s+(m.length-1)))) l':=by
 have hp:=hm.pos;have ho:=h.ol;have eo:co (o.set s (co l (s+(m.length-1))))=fun k=>co o k+(if k=s then co l (s+(m.length-1))else 0):=by
  funext k
  rw[sX _ _ _ _ (by omega)];by_cases c:k=s
  ·rw[if_pos c,if_pos c,c,h.low s (by omega),Int.zero_add]
  ·rw[if_neg c,if_neg c,Int.add_zero]
 have el:∀k,co l' k=tk b (co l k-(if s<=k then co l (s+(m.length-1))*co m (k-s)else 0)):=fun k=>by rw[e,RG h.ln]
 refine⟨fun k=>?_,fun k hk=>?_,fun k hk=>?_,by rw[List.length_set,ho],by rw[hl,h.ll],fun k=>?_,fun k=>by rw[el,gC]⟩
 ·rw[eo,fX (co o),pU,el,dH,<-h.eq k];congr 1;omega
 ·rw[el,if_pos (by omega)];by_cases c:k=s+(m.length-1)
  ·rw[c,show s+(m.length-1)-s=m.length-1 by omega,hm.one,Int.mul_one,Int.sub_self,tk0]
  ·rw[h.zero k (by omega),bD (p:=m) (by omega),Int.mul_zero,Int.sub_zero,tk0]
 ·rw[eo];simp only;rw[h.low k (by omega),if_neg (by omega),Int.add_zero]
 ·rw[sX _ _ _ _ (by omega)];split
  ·exact h.ln _
  ·exact h.on _
theorem HW.stop{b:Int}{p m o l:List Int}(hm:Mon m)(h:HW b p m 0 o l):Div b p m (trim o) (trim l):=by
 have hp:=hm.pos;have y:∀{x:List Int},(∀k,tk b (co x k)=co x k)->Py b (trim x):=fun hx=>Py.of fun z hz=>by
  obtain⟨k,hk,e⟩:=List.mem_iff_getElem.mp hz;rw[<-e,<-ql hk];exact hx k
 refine⟨y h.on,y h.ln,?_,fun k=>?_⟩
 ·have:=oM (p:=l) (n:=m.length-1) fun k hk=>h.zero k (by omega);omega
 ·rw[jk,<-h.eq k];congr 2;exact gh (fun i _=>jk _ _) (fun _ _=>rfl)
end Pm
namespace Pm
open Rm
theorem Cw(g:Nat->Int)(j:Nat):∀m:Nat,sm (j+m) (fun k=>if j<=k then g (k-j)else 0)=sm m g
 |0=>by
  rw[Nat.add_zero];exact iJ fun k hk=>if_neg (by omega)
 |m+1=>by
  rw[<-Nat.add_assoc,sm,sm,Cw g j m,if_pos (by omega),Nat.add_sub_cancel_left]
theorem mZ(p:List Int)(a:Nat->Int)(n:Nat){N:Nat}(h:p.length<=N):sm N (fun k=>co p k*a (n+k))=ks p a n:=
 fG h fun k h1 _=>by rw[bD h1,Int.zero_mul]
theorem Uh{b:Int}{p q:List Int}{a:Nat->Int}(h:∀k,tk b (co p k)=tk b (co q k))(n:Nat):tk b (ks p a n)=tk b (ks q a n):=by
 rw[<-mZ p a n (Nat.le_max_left p.length q.length),<-mZ q a n (Nat.le_max_right p.length q.length)];exact jz fun k _=>by rw[<-cJ,h k,cJ]
theorem Mi{b:Int}(p q:List Int)(a:Nat->Int)(n:Nat):tk b (ks (add b p q) a n)=tk b (ks p a n+ks q a n):=by
 have hl:(add b p q).length<=max p.length q.length:=by
  have:=fL (ofF (max p.length q.length) fun k=>tk b (co p k+co q k))
  rwa [aM]at this
 rw[<-mZ _ a n hl,<-mZ p a n (Nat.le_max_left p.length q.length),<-mZ q a n (Nat.le_max_right p.length q.length),<-cQ];exact jz fun k _=>by rw[C0,cJ,Int.add_mul]
theorem HY{b:Int}(p q:List Int)(a:Nat->Int)(n:Nat):tk b (ks (mul b p q) a n)=tk b (ks p (ks q a) n):=by
 have hl:(mul b p q).length<=p.length+q.length:=by
  have:=fL (ofF (p.length+q.length) fun k=>tk b (cv (co p) (co q) k))
  rwa [aM]at this
 rw[<-mZ _ a n hl];have e1:tk b (sm (p.length+q.length) fun k=>co (mul b p q) k*a (n+k))=tk b (sm (p.length+q.length) fun k=>sm p.length fun j=>co p j*(if j<=k then co q (k-j)*a (n+k)else 0)):=jz fun k _=>by
  rw[mK,cJ,<-Nf (m:=p.length) fun j hj=>bD hj,W,if_neg (by omega),Int.add_zero,Int.mul_comm,<-bG];congr 1;refine aA fun j _=>?_;by_cases h:j<=k
  ·rw[if_pos h,if_pos h,Int.mul_comm,Int.mul_assoc]
  ·rw[if_neg h,if_neg h,Int.mul_zero,Int.mul_zero]
 rw[e1,lQ];congr 1;refine aA fun j hj=>?_;rw[bG];congr 1;have e2:(fun k=>if j<=k then co q (k-j)*a (n+k)else 0)=fun k=>if j<=k then(fun i=>co q i*a (n+j+i)) (k-j)else 0:=by
  funext k
  by_cases h:j<=k
  ·rw[if_pos h,if_pos h];show _=co q (k-j)*a (n+j+(k-j));rw[show n+j+(k-j)=n+k by omega]
  ·rw[if_neg h,if_neg h]
 rw[e2,show p.length+q.length=j+(p.length-j+q.length)by omega];refine(Cw (fun i=>co q i*a (n+j+i)) j _).trans ?_;exact mZ q a (n+j) (by omega)
theorem NP{b:Int}{p:List Int}{a:Nat->Int}(h:∀n,tk b (a n)=0)(n:Nat):tk b (ks p a n)=0:=by
 have:tk b (ks p a n)=tk b (sm p.length fun _=>0):=jz fun k _=>by rw[<-bh,h,Int.mul_zero]
 rw[this,gM,tk0]
def Kp(b:Int)(p:List Int)(a:Nat->Int):Prop:=∀n,tk b (ks p a n)=0
theorem Kp.Sw{b:Int}{q:List Int}{a:Nat->Int}(h:Kp b q a)(p:List Int):Kp b (mul b p q) a:=fun n=>by rw[HY];exact NP h n
theorem Kp.aa5{b:Int}{q:List Int}{a:Nat->Int}(h:Kp b q a)(p:List Int):Kp b (mul b q p) a:=by rw[mul_comm];exact h.Sw p
theorem Kp.add{b:Int}{p q:List Int}{a:Nat->Int}(h:Kp b p a)(h':Kp b q a):Kp b (add b p q) a:=fun n=>by
 rw[Mi,<-bJ,h n,<-dH,h' n];exact tk0 b
theorem Kp.congr{b:Int}{p q:List Int}{a:Nat->Int}(e:∀k,tk b (co p k)=tk b (co q k))(h:Kp b p a):Kp b q a:=fun n=>by rw[<-Uh e];exact h n
theorem Kp.aP{b:Int}{rule:List Int}{a:Nat->Int}(ha:∀n,rule.length<=n->tk b (a n)=tk b (S rule a n rule.length)):Kp b (aP b rule) a:=fun n=>by
 unfold ks;rw[aX,sm];have e1:co (Pm.aP b rule) rule.length=1:=by
  rw[Pm.aP,bY,aM,if_neg (by omega),Nat.sub_self];rfl
 have e2:tk b (sm rule.length fun k=>co (Pm.aP b rule) k*a (n+k))=tk b (sm rule.length fun k=>-1*(co rule (rule.length-1-k)*a (n+k))):=jz fun k hk=>by
  rw[Pm.aP,bY,aM,if_pos hk,bI,if_pos hk,cJ,Int.zero_sub,Int.neg_mul,Int.neg_one_mul]
 have e3:S rule a (n+rule.length) rule.length=sm rule.length fun k=>co rule (rule.length-1-k)*a (n+k):=by
  rw[C8];have rev:∀(m:Nat) (f:Nat->Int),sm m f=sm m fun k=>f (m-1-k):=by
   intro m;induction m with
   |zero=>intro f;rfl
   |succ m ih=>
    intro f;rw[dX,sm,ih fun i=>f (i+1),Int.add_comm];have:m+1-1-m=0:=by omega
    rw[this];congr 1;exact aA fun k hk=>by rw[show m-1-k+1=m+1-1-k by omega]
  rw[rev];exact aA fun k hk=>by rw[show n+rule.length-1-(rule.length-1-k)=n+k by omega]
 rw[e1,Int.one_mul,<-bJ,e2,bJ,bG,<-e3,<-dH,ha (n+rule.length) (by omega),dH,Int.neg_one_mul,Int.add_left_neg,tk0]
theorem Div.kp{b:Int}{p m q r:List Int}{a:Nat->Int}(h:Div b p m q r)(hm:Kp b m a):Kp b p a↔Kp b r a:=by
 have e:∀n,tk b (ks p a n)=tk b (ks r a n):=fun n=>by
  have e1:∀k,tk b (co (Pm.add b (mul b q m) r) k)=tk b (co p k):=fun k=>by rw[C0,mK,gC,bJ];exact h.eq k
  rw[<-Uh e1,Mi,<-bJ,hm.Sw q n,Int.zero_add]
 exact⟨fun z n=>by rw[<-e];exact z n,fun z n=>by rw[e];exact z n⟩
def In2(b:Int)(p q x:List Int):Prop:=∃u v,∀k,tk b (co x k)=tk b (cv (co u) (co p) k+cv (co v) (co q) k)
theorem MH(p q:List Int)(k:Nat):co (add 0 p q) k=co p k+co q k:=by rw[C0,bH]
theorem Iu(p q:List Int)(k:Nat):co (mul 0 p q) k=cv (co p) (co q) k:=by rw[mK,bH]
theorem In2.left(b:Int)(p q:List Int):In2 b p q p:=⟨[1],[],fun k=>by
 rw[fK (f:=co []) fun i _=> .inl (eU _),Int.add_zero,gO,fG (m:=1) (by omega) fun j h1 _=>by rw[show co [1] j=0 from bD (by simpa using h1),Int.zero_mul]];simp[sm,dI]⟩
theorem In2.swap{b:Int}{p q x:List Int}(h:In2 b p q x):In2 b q p x:=by
 obtain⟨u,v,e⟩:=h;exact⟨v,u,fun k=>by rw[e,Int.add_comm]⟩
theorem In2.trans{b:Int}{p q g s x:List Int}(hg:In2 b p q g)(hs:In2 b p q s)(h:In2 b g s x):In2 b p q x:=by
 obtain⟨a,c,eg⟩:=hg;obtain⟨a',c',es⟩:=hs;obtain⟨u,v,e⟩:=h;refine⟨add 0 (mul 0 u a) (mul 0 v a'),add 0 (mul 0 u c) (mul 0 v c'),fun k=>?_⟩;have e1:tk b (cv (co u) (co g) k)=tk b (cv (co u) (fun i=>cv (co a) (co p) i+cv (co c) (co q) i) k):=iZ (fun _ _=>rfl) fun i _=>eg i;have e2:tk b (cv (co v) (co s) k)=tk b (cv (co v) (fun i=>cv (co a') (co p) i+cv (co c') (co q) i) k):=iZ (fun _ _=>rfl) fun i _=>es i;rw[e,aW e1 e2];congr 1;have f1:∀y z:List Int,co (add 0 (mul 0 u y) (mul 0 v z))=fun i=>cv (co u) (co y) i+cv (co v) (co z) i:=fun y z=>by
  funext i;rw[MH,Iu,Iu]
 rw[f1,f1,fX (cv (co u) (co a)),fX (cv (co u) (co c)),xY,xY,bQ,bQ,bQ,bQ];omega
theorem In2.kp{b:Int}{p q x:List Int}{a:Nat->Int}(h:In2 b p q x)(hp:Kp b p a)(hq:Kp b q a):Kp b x a:=by
 obtain⟨u,v,e⟩:=h;refine((hp.Sw u).add (hq.Sw v)).congr fun k=>?_;rw[C0,mK,mK,gC,bJ,dH,e]
theorem Div.in1{b:Int}{p m q r:List Int}(h:Div b p m q r):In2 b m r p:=by
 refine⟨q,[1],fun k=>?_⟩;obtain⟨u,v,e⟩:=In2.left b r [];rw[<-h.eq k];have:cv (co [1]) (co r) k=co r k:=by
  rw[gO,fG (m:=1) (by omega) fun j h1 _=>by rw[show co [1] j=0 from bD (by simpa using h1),Int.zero_mul]];simp[sm,dI]
 rw[this]
theorem Div.in2{b:Int}{p m q r:List Int}(h:Div b p m q r):In2 b p m r:=by
 refine⟨[1],q.map (-1 * ·),fun k=>?_⟩;have e1:cv (co [1]) (co p) k=co p k:=by
  rw[gO,fG (m:=1) (by omega) fun j h1 _=>by rw[show co [1] j=0 from bD (by simpa using h1),Int.zero_mul]];simp[sm,dI]
 have e2:co (q.map (-1 * ·))=fun i=>-1*co q i:=by funext i;rw[qp (by simp)]
 rw[e1,e2,gQ];have:=aW (h.eq k) (rfl:tk b (-1*cv (co q) (co m) k)=tk b (-1*cv (co q) (co m) k));rw[<-this];congr 1;omega
structure Gcd(b:Int)(p q g:List Int):Prop where
 py:Py b g
 mon:Mon g
 sum:In2 b p q g
 one:In2 b g [] p
 two:In2 b g [] q
theorem In2.dv{b:Int}{g p:List Int}(h:In2 b g [] p):∃u,∀k,tk b (co p k)=tk b (cv (co u) (co g) k):=by
 obtain⟨u,v,e⟩:=h;exact⟨u,fun k=>by rw[e,fK (g:=co []) fun i _=> .inr (eU _),Int.add_zero]⟩
end Pm
namespace Pm
open Rm
theorem vZ{p:List Int}(h:p≠[]):p=p.dropLast++[co p (p.length-1)]:=by
 have hp:0<p.length:=List.length_pos_iff.mpr h
 conv=>lhs;rw[<-List.dropLast_concat_getLast h]
 congr 2;rw[ql (by omega),List.getLast_eq_getElem]
theorem iD{p:List Int}(h:p≠[])(h0:co p (p.length-1)≠0):trim p=p:=by
 have e:=vZ h;rw[e,u9 _ h0]
theorem vm{p:List Int}(h:p≠[])(ht:trim p=p):co p (p.length-1)≠0:=by
 intro z;have e:=vZ h;rw[z]at e;have e2:trim p=trim p.dropLast:=by
  conv=>lhs;rw[e]
  exact yR _
 have:=fL p.dropLast;rw[<-e2,ht,List.length_dropLast]at this;have hp:0<p.length:=List.length_pos_iff.mpr h;omega
structure yp(b:Int)(p m:List Int):Prop where
 py:Py b m
 len:m.length=p.length
 mon:p≠[]->Mon m
 to:∃c,∀k,tk b (co m k)=tk b (c*co p k)
 of:∃c,∀k,tk b (co p k)=tk b (c*co m k)
theorem In2.scale{b:Int}{p m:List Int}(h:∃c,∀k,tk b (co m k)=tk b (c*co p k))(q:List Int):In2 b p q m:=by
 obtain⟨c,e⟩:=h;refine⟨[c],[],fun k=>?_⟩;rw[fK (f:=co []) fun i _=> .inl (eU _),Int.add_zero,e,gO,fG (m:=1) (by omega) fun j h1 _=>by rw[show co [c] j=0 from bD (by simpa using h1),Int.zero_mul]];simp[sm,dI]
theorem yp.nil(b:Int):yp b [] []:=⟨Py.nil b,rfl,fun h=>absurd rfl h,⟨0,fun k=>by rw[eU,Int.zero_mul]⟩,⟨0,fun k=>by rw[eU,Int.zero_mul]⟩⟩
def iH(P:Nat)(p:List Int):List Int:=p.map fun x=>x*(co p (p.length-1))^(P-2)%(P:Int)
theorem Fx{P:Nat}(hP:P∈Om.jM)(h2:2<=P){p:List Int}(hp:Py P p)(hn:p≠[]):yp P p (iH P p):=by
 have hpos:0<p.length:=List.length_pos_iff.mpr hn;have hP0:(P:Int)≠0:=by omega
 have tkP:∀n,tk (P:Int) n=n%(P:Int):=fun n=>iG hP0 n;have l0:=vm hn hp.tr;have l1:=hp.co (p.length-1);rw[tkP]at l1;have r0:0<=co p (p.length-1):=by rw[<-l1];exact Int.emod_nonneg _ hP0
 have r1:co p (p.length-1)<(P:Int):=by rw[<-l1];exact Int.emod_lt_of_pos _ (by omega)
 generalize hl:co p (p.length-1)=a at l0 r0 r1;have hinv:(a^(P-2)*a)%(P:Int)=1:=by
  rw[<-Int.pow_succ,show(P-2).succ=P-1 by omega];exact Om.wF rfl hP (by omega) r1
 have e:∀k,co (iH P p) k=co p k*a^(P-2)%(P:Int):=fun k=>by
  rw[iH,qp (by simp),hl]
 have len:(iH P p).length=p.length:=by rw[iH,List.length_map]
 have top:co (iH P p) ((iH P p).length-1)=1:=by
  rw[len,e,hl,Int.mul_comm];exact hinv
 have hm:iH P p≠[]:=fun z=>by rw[z]at len;simp at len;omega
 refine⟨⟨iD hm (by rw[top];decide),fun x hx=>?_⟩,len,fun _=>⟨by omega,top⟩,⟨a^(P-2),fun k=>?_⟩,⟨a,fun k=>?_⟩⟩
 ·obtain⟨y,_,rfl⟩:=List.mem_map.mp hx;rw[tkP];exact Int.emod_emod_of_dvd _ (Int.dvd_refl _)
 ·rw[e,tkP,tkP,Int.emod_emod_of_dvd _ (Int.dvd_refl _),Int.mul_comm]
 ·rw[e,tkP,tkP,Int.mul_emod a,Int.emod_emod_of_dvd _ (Int.dvd_refl _),<-Int.mul_emod,Int.mul_left_comm a,Int.mul_comm a,Int.mul_emod,hinv];rw[Int.mul_one,Int.emod_emod_of_dvd _ (Int.dvd_refl _)]
structure JR(b:Int)(p q g s:List Int):Prop where
 gy:Py b g
 sy:Py b s
 gm:g≠[]->Mon g
 sm_:s≠[]->Mon s
 some:s=[]->g≠[]
 gi:In2 b p q g
 si:In2 b p q s
 pi:In2 b g s p
 qi:In2 b g s q
theorem JR.start{b:Int}{p q g s:List Int}(hg:yp b p g)(hs:yp b q s)(h:q=[]->p≠[]):JR b p q g s:=by
 have lg:=hg.len;have ls:=hs.len;have pn:g≠[]->p≠[]:=fun z e=>z (List.eq_nil_of_length_eq_zero (by rw[lg,e];rfl));have qn:s≠[]->q≠[]:=fun z e=>z (List.eq_nil_of_length_eq_zero (by rw[ls,e];rfl));refine⟨hg.py,hs.py,fun z=>hg.mon (pn z),fun z=>hs.mon (qn z),fun z e=>?_,In2.scale hg.to q,(In2.scale hs.to p).swap,In2.scale hg.of s,(In2.scale hs.of g).swap⟩;have q0:q=[]:=List.eq_nil_of_length_eq_zero (by rw[<-ls,z];rfl);exact h q0 (List.eq_nil_of_length_eq_zero (by rw[<-lg,e];rfl))
theorem JR.step{b:Int}{p q g s o l m:List Int}(h:JR b p q g s)(hs:s≠[])(d:Div b g s o l)(hm:yp b l m):JR b p q s m:=by
 have lm:=hm.len;have ln:m≠[]->l≠[]:=fun z e=>z (List.eq_nil_of_length_eq_zero (by rw[lm,e];rfl));have li:In2 b p q l:=h.gi.trans h.si d.in2;have gs:In2 b s m g:=(In2.left b s m).trans (In2.scale hm.of s).swap d.in1;refine⟨h.sy,hm.py,h.sm_,fun z=>hm.mon (ln z),fun _=>hs,h.si,li.trans li (In2.scale hm.to l),?_,?_⟩
 ·exact gs.trans (In2.left b s m) h.pi
 ·exact gs.trans (In2.left b s m) h.qi
theorem JR.stop{b:Int}{p q g s:List Int}(h:JR b p q g s)(hs:s=[]):Gcd b p q g:=by
 subst hs;exact⟨h.gy,h.gm (h.some rfl),h.gi,h.pi,h.qi⟩
end Pm
namespace Pm
open Rm
theorem uP{p:List Int}{k:Nat}(h:co p k≠0):k<p.length:=by
 by_cases c:k<p.length
 ·exact c
 ·exact absurd (bD (by omega)) h
theorem IV{b:Int}(hb:tk b 1=1){p q:List Int}(hp:Mon p)(hq:Mon q):Mon (mul b p q)/\(mul b p q).length=p.length+q.length-1:=by
 have h1:=hp.pos;have h2:=hq.pos;have e:co (mul b p q) (p.length+q.length-2)=1:=by
  rw[mK,gO];have:sm (p.length+q.length-2+1) (fun j=>co p j*co q (p.length+q.length-2-j))=sm (p.length+q.length-2+1) (fun j=>if j=p.length-1 then 1 else 0):=aA fun j hj=>by
   by_cases c:j=p.length-1
   ·rw[if_pos c,c,hp.one,show p.length+q.length-2-(p.length-1)=q.length-1 by omega,hq.one];rfl
   ·rw[if_neg c];by_cases c2:j<p.length-1
    ·rw[bD (p:=q) (by omega),Int.mul_zero]
    ·rw[bD (p:=p) (by omega),Int.zero_mul]
  rw[this,cX,if_pos (by omega),hb]
 have l1:=uP (p:=mul b p q) (k:=p.length+q.length-2) (by rw[e];decide);have l2:(mul b p q).length<=p.length+q.length-1:=by
  refine oM fun k hk=>?_;rw[bI];split
  ·rw[fK fun i hi=>?_,tk0];by_cases c:i<p.length
   ·exact .inr (bD (by omega))
   ·exact .inl (bD (by omega))
  ·rfl
 have l3:(mul b p q).length=p.length+q.length-1:=by omega
 exact⟨⟨by omega,by rw[l3,show p.length+q.length-1-1=p.length+q.length-2 by omega];exact e⟩,l3⟩
theorem dw(b:Int)(c:List Int):Mon (aP b c):=⟨by rw[aX];omega,by
 rw[aX,aP,bY,aM,if_neg (by omega),show c.length+1-1-c.length=0 by omega];rfl⟩
theorem dR(b:Int)(p:List Int):(cL b p).length=p.length-1:=by rw[cL,aM]
theorem lX{b:Int}{w:List Int}(hw:∀k,tk b (co w k)=co w k)(hm:Mon w):aP b (cL b w)=w:=by
 have hp:=hm.pos;refine j9 (by rw[aX,dR];omega) fun k=>?_;rw[aP,bY,aM,dR];by_cases h:k<w.length-1
 ·rw[if_pos h,bI,if_pos h,cL,bI,if_pos (by omega),sG,show w.length-1-1-(w.length-1-1-k)=k by omega,hw]
 ·rw[if_neg h];by_cases c:k=w.length-1
  ·rw[c,Nat.sub_self,hm.one];rfl
  ·rw[bD (p:=w) (by omega),bD];simp;omega
theorem Io{b:Int}{rule:List Int}{a:Nat->Int}(n:Nat):tk b (ks (aP b rule) a n)=tk b (a (n+rule.length)-S rule a (n+rule.length) rule.length):=by
 unfold ks;rw[aX,sm];have e1:co (aP b rule) rule.length=1:=by
  rw[aP,bY,aM,if_neg (by omega),Nat.sub_self];rfl
 have e2:tk b (sm rule.length fun k=>co (aP b rule) k*a (n+k))=tk b (sm rule.length fun k=>-1*(co rule (rule.length-1-k)*a (n+k))):=jz fun k hk=>by
  rw[aP,bY,aM,if_pos hk,bI,if_pos hk,cJ,Int.zero_sub,Int.neg_mul,Int.neg_one_mul]
 have e3:S rule a (n+rule.length) rule.length=sm rule.length fun k=>co rule (rule.length-1-k)*a (n+k):=by
  rw[C8];have rev:∀(m:Nat) (f:Nat->Int),sm m f=sm m fun k=>f (m-1-k):=by
   intro m;induction m with
   |zero=>intro f;rfl
   |succ m ih=>
    intro f;rw[dX,sm,ih fun i=>f (i+1),Int.add_comm];have:m+1-1-m=0:=by omega
    rw[this];congr 1;exact aA fun k hk=>by rw[show m-1-k+1=m+1-1-k by omega]
  rw[rev];exact aA fun k hk=>by rw[show n+rule.length-1-(rule.length-1-k)=n+k by omega]
 rw[e1,Int.one_mul,<-bJ,e2,bJ,bG,<-e3];congr 1;omega
theorem Kp.rec{b:Int}{rule:List Int}{a:Nat->Int}(h:Kp b (Pm.aP b rule) a):∀n,rule.length<=n->tk b (a n)=tk b (S rule a n rule.length):=fun n hn=>by
 have:=h (n-rule.length);rw[Io,show n-rule.length+rule.length=n by omega]at this;exact d8.mp this
theorem vB{b:Int}{w:List Int}{a:Nat->Int}(hw:∀k,tk b (co w k)=co w k)(hm:Mon w)(hk:Kp b w a)(ha:∀n,tk b (a n)=a n){starts:List Int}(hl:starts.length=w.length-1)(hs:∀i,i<starts.length->starts.getD i 0=a i)(n:Nat):
  at_ b (cL b w) starts n=a n:=by
 have lr:=dR b w;rw[<-lX hw hm]at hk;refine mR (by omega) (g:=a) (fun i hi=>(hs i hi).symm) (fun i hi=>?_) n;rw[<-ha i];exact hk.rec i (by omega)
end Pm
namespace Dm
open Pm
def sg(m:Nat):Int:=if m%2=0 then 1 else -1
theorem qK(m:Nat):sg (m+1)=-sg m:=by
 unfold sg;by_cases h:m%2=0
 ·rw[if_pos h,if_neg (by omega)]
 ·rw[if_neg h,if_pos (by omega)];rfl
theorem Jh(m n:Nat):sg (m+n)=sg m*sg n:=by
 induction n with
 |zero=>simp[sg]
 |succ n ih=>rw[<-Nat.add_assoc,qK,qK,ih,Int.mul_neg]
theorem Rb(m:Nat):sg m*sg m=1:=by
 unfold sg;split<;>rfl
def sk(c k:Nat):Nat:=if k<c then k else k+1
theorem U9(c k:Nat):sk c k≠c:=by unfold sk;split<;>omega
def det:Nat->(Nat->Nat->Int)->Int
 |0,_=>1
 |n+1,f=>sm (n+1) fun c=>sg (n+c)*f n c*det n fun i k=>f i (sk c k)
theorem cG:∀{n:Nat} {f g:Nat->Nat->Int},(∀i k,i<n->k<n->f i k=g i k)->det n f=det n g
 |0,_,_,_=>rfl
 |n+1,f,g,h=>by
  unfold det;refine aA fun c hc=>?_;rw[h n c (by omega) hc,cG fun i k hi hk=>h i (sk c k) (by omega) (by unfold sk;split<;>omega)]
def mF(f:Nat->Nat->Int)(j:Nat)(u:Nat->Int):Nat->Nat->Int:=fun i k=>if k=j then u i else f i k
def oH(f:Nat->Nat->Int)(j:Nat)(u:Nat->Int):Nat->Nat->Int:=fun i k=>if i=j then u k else f i k
theorem gq(f:Nat->Nat->Int)(j:Nat)(u:Nat->Int)(i:Nat):mF f j u i j=u i:=if_pos rfl
theorem lH{f:Nat->Nat->Int}{j k:Nat}{u:Nat->Int}{i:Nat}(h:k≠j):mF f j u i k=f i k:=if_neg h
theorem Pb{c j:Nat}(h:c≠j):∃j',sk c j'=j/\(∀k,sk c k=j->k=j'):=by
 refine⟨if j<c then j else j-1,?_,fun k hk=>?_⟩
 ·unfold sk;split<;>(try split)<;>omega
 ·unfold sk at hk;split at hk<;>split<;>omega
theorem vN{n c j:Nat}(f:Nat->Nat->Int)(u:Nat->Int)(h:c≠j)(hc:c<n+1)(hj:j<n+1):∃j',j'<n/\∀u,(fun i k=>mF f j u i (sk c k))=mF (fun i k=>f i (sk c k)) j' u:=by
 obtain⟨j',e1,e2⟩:=Pb h;refine⟨j',?_,fun u=>?_⟩
 ·unfold sk at e1;split at e1<;>omega
 ·funext i k
  unfold mF;by_cases z:k=j'
  ·rw[if_pos z,if_pos (by rw[z,e1])]
  ·rw[if_neg z,if_neg fun w=>z (e2 k w)]
theorem ji:∀{n:Nat} (f:Nat->Nat->Int) {j:Nat} (_:j<n) (a:Int) (u v:Nat->Int),det n (mF f j fun i=>a*u i+v i)=a*det n (mF f j u)+det n (mF f j v)
 |0,_,_,h,_,_,_=>absurd h (Nat.not_lt_zero _)
 |n+1,f,j,hj,a,u,v=>by
  unfold det;rw[<-bG,<-cQ];refine aA fun c hc=>?_;by_cases e:c=j
  ·subst e;have m:∀w,(fun i k=>mF f c w i (sk c k))=fun i k=>f i (sk c k):=fun w=>by funext i k;exact lH (U9 c k)
   rw[m,m,m,gq,gq,gq];rw[Int.mul_add,Int.add_mul];congr 1;rw[show sg (n+c)*(a*u n)=a*(sg (n+c)*u n)from Int.mul_left_comm ..,Int.mul_assoc a]
  ·obtain⟨j',hj',m⟩:=vN f u e hc hj;rw[m,m,m,ji _ hj',lH e,lH e,lH e,Int.mul_add];congr 1;exact Int.mul_left_comm ..
theorem nM:∀{n:Nat} {f:Nat->Nat->Int} {j:Nat},j+1<n->(∀i,i<n->f i j=f i (j+1))->det n f=0
 |0,_,_,h,_=>absurd h (Nat.not_lt_zero _)
 |n+1,f,j,hj,h=>by
  unfold det;have e:sm (n+1) (fun c=>sg (n+c)*f n c*det n fun i k=>f i (sk c k))=sm (n+1) (fun c=>(if c=j then sg (n+j)*f n j*det n (fun i k=>f i (sk j k))else 0)+(if c=j+1 then -(sg (n+j)*f n j*det n (fun i k=>f i (sk j k)))else 0)):=aA fun c hc=>by
   by_cases e1:c=j
   ·rw[if_pos e1,if_neg (by omega),e1,Int.add_zero]
   ·by_cases e2:c=j+1
    ·rw[if_neg e1,if_pos e2,e2,Int.zero_add,<-h n (by omega),show n+(j+1)=n+j+1 by omega,qK];have:det n (fun i k=>f i (sk (j+1) k))=det n (fun i k=>f i (sk j k)):=cG fun i k hi hk=>by
      by_cases z:k=j
      ·subst z;rw[show sk (k+1) k=k by unfold sk;rw[if_pos (by omega)],show sk k k=k+1 by unfold sk;rw[if_neg (by omega)],h i (by omega)]
      ·rw[show sk (j+1) k=sk j k by unfold sk;split<;>split<;>omega]
     rw[this,Int.neg_mul,Int.neg_mul]
    ·rw[if_neg e1,if_neg e2,Int.add_zero];have:det n (fun i k=>f i (sk c k))=0:=by
      by_cases z:j+1<c
      ·exact nM (j:=j) (by omega) fun i hi=>by rw[show sk c j=j by unfold sk;rw[if_pos (by omega)],show sk c (j+1)=j+1 by unfold sk;rw[if_pos (by omega)]];exact h i (by omega)
      ·exact nM (j:=j-1) (by omega) fun i hi=>by rw[show sk c (j-1)=j by unfold sk;rw[if_neg (by omega)];omega,show sk c (j-1+1)=j+1 by unfold sk;rw[if_neg (by omega)];omega];exact h i (by omega)
     rw[this,Int.mul_zero]
  rw[e,cQ];have s1:∀(x:Int) (t N:Nat),t<N->sm N (fun c=>if c=t then x else 0)=x:=fun x t N ht=>by rw[cX,if_pos ht]
  rw[s1 _ _ _ (by omega),s1 _ _ _ hj];omega
def sw(j i:Nat):Nat:=if i=j then j+1 else if i=j+1 then j else i
theorem qI(f:Nat->Nat->Int)(j:Nat):mF f j (fun i=>f i j)=f:=by
 funext i k;unfold mF;split
 ·rename_i h;rw[h]
 ·rfl
theorem BW{n:Nat}(f:Nat->Nat->Int){j:Nat}(hj:j+1<n):det n (fun i k=>f i (sw j k))=-det n f:=by
 let D:=fun(x y:Nat->Int)=>det n (mF (mF f j x) (j+1) y)
 have z:∀x,D x x=0:=fun x=>nM hj fun i _=>by
  rw[lH (by omega),gq,gq]
 have l2:∀x y y',D x (fun i=>1*y i+y' i)=1*D x y+D x y':=fun x y y'=>ji _ hj 1 y y';have cm:∀x y,mF (mF f j x) (j+1) y=mF (mF f (j+1) y) j x:=fun x y=>by
  funext i k;unfold mF;split<;>(try split)<;>first|rfl|omega
 have l1:∀x x' y,D (fun i=>1*x i+x' i) y=1*D x y+D x' y:=fun x x' y=>by
  show det n _=1*det n _+det n _;rw[cm,cm,cm];exact ji _ (by omega) 1 x x'
 have a:=z fun i=>1*f i j+f i (j+1);rw[l1,l2,l2,z,z]at a;have e1:D (fun i=>f i j) (fun i=>f i (j+1))=det n f:=by
  show det n _=_;rw[qI f j,qI]
 have e2:D (fun i=>f i (j+1)) (fun i=>f i j)=det n (fun i k=>f i (sw j k)):=cG fun i k _ _=>by
  unfold mF sw;by_cases c1:k=j+1
  ·rw[if_pos c1,if_neg (by omega),if_pos c1]
  ·rw[if_neg c1];by_cases c2:k=j
   ·rw[if_pos c2,if_pos c2]
   ·rw[if_neg c2,if_neg c2,if_neg c1]
 rw[e1,e2]at a;omega
def mv(h m k:Nat):Nat:=if k<h then k else if k<m then k+1 else if k=m then h else k
theorem Ho{h m:Nat}(hm:h<m)(k:Nat):mv h m k=sw h (mv (h+1) m k):=by
 unfold mv sw
 repeat' split
 all_goals omega
theorem oJ{n:Nat}:∀(d:Nat) (f:Nat->Nat->Int) {h m:Nat},m=h+d->m<n->det n (fun i k=>f i (mv h m k))=sg d*det n f
 |0,f,h,m,e,hm=>by
  have:det n (fun i k=>f i (mv h m k))=det n f:=cG fun i k _ _=>by
   rw[show mv h m k=k by unfold mv;split<;>(try split)<;>(try split)<;>omega]
  rw[this];simp[sg]
 |d+1,f,h,m,e,hm=>by
  have e1:(fun i k=>f i (mv h m k))=fun i k=>(fun i k=>f i (sw h k)) i (mv (h+1) m k):=by
   funext i k;rw[Ho (by omega)]
  rw[e1,oJ d (fun i k=>f i (sw h k)) (by omega) hm,BW f (by omega),qK,Int.mul_neg,Int.neg_mul]
theorem qu{n:Nat}{f:Nat->Nat->Int}{a b:Nat}(hab:a<b)(hb:b<n)(h:∀i,i<n->f i a=f i b):det n f=0:=by
 have e:=oJ (n:=n) (b-1-a) f (h:=a) (m:=b-1) (by omega) (by omega);have z:det n (fun i k=>f i (mv a (b-1) k))=0:=nM (j:=b-1) (by omega) fun i hi=>by
  rw[show mv a (b-1) (b-1)=a by unfold mv;rw[if_neg (by omega),if_neg (by omega),if_pos rfl],show mv a (b-1) (b-1+1)=b by unfold mv;rw[if_neg (by omega),if_neg (by omega),if_neg (by omega)];omega];exact h i hi
 rw[z]at e;have s:=Rb (b-1-a);have:sg (b-1-a)*(sg (b-1-a)*det n f)=det n f:=by rw[<-Int.mul_assoc,s,Int.one_mul]
 rw[<-e,Int.mul_zero]at this;exact this.symm
theorem j5:∀{n:Nat} (f:Nat->Nat->Int) {j:Nat} (_:j<n) (a:Int) (u v:Nat->Int),det n (oH f j fun i=>a*u i+v i)=a*det n (oH f j u)+det n (oH f j v)
 |0,_,_,h,_,_,_=>absurd h (Nat.not_lt_zero _)
 |n+1,f,j,hj,a,u,v=>by
  unfold det;rw[<-bG,<-cQ];refine aA fun c hc=>?_;by_cases e:j=n
  ·subst e;have m:∀w,det j (fun i k=>oH f j w i (sk c k))=det j (fun i k=>f i (sk c k)):=fun w=>cG fun i k hi _=>if_neg (by omega);rw[m,m,m];show sg (j+c)*(if j=j then _ else _)*_=a*(sg (j+c)*(if j=j then _ else _)*_)+sg (j+c)*(if j=j then _ else _)*_;rw[if_pos rfl,if_pos rfl,if_pos rfl,Int.mul_add,Int.add_mul];congr 1;rw[show sg (j+c)*(a*u c)=a*(sg (j+c)*u c)from Int.mul_left_comm ..,Int.mul_assoc a]
  ·have m:∀w:Nat->Int,(fun i k=>oH f j w i (sk c k))=oH (fun i k=>f i (sk c k)) j fun k=>w (sk c k):=fun w=>by funext i k;rfl
   have r:∀w:Nat->Int,oH f j w n c=f n c:=fun w=>if_neg (fun z=>e z.symm);rw[m,m,m,r,r,r,j5 (fun i k=>f i (sk c k)) (by omega) a (fun k=>u (sk c k)) (fun k=>v (sk c k)),Int.mul_add];congr 1;exact Int.mul_left_comm ..
theorem tri(T:Nat->Nat->Int):∀N:Nat,sm (N+1) (fun c=>sm N (fun c'=>T c c'))=sm (N+1) (fun b=>sm b (fun a=>T b a+T a (b-1)))
 |0=>by simp[sm]
 |N+1=>by
  have ih:=tri T N;rw[sm,show(fun c=>sm (N+1) fun c'=>T c c')=fun c=>sm N (fun c'=>T c c')+T c N from rfl,cQ,ih]
  conv=>rhs;rw[sm]
  rw[cQ,Nat.add_sub_cancel];have e:(fun c'=>T (N+1) c')=T (N+1):=rfl;rw[e];omega
theorem Vu{a b:Nat}(h:a<b)(k:Nat):sk b (sk a k)=sk a (sk (b-1) k):=by
 unfold sk
 repeat' split
 all_goals omega
theorem qP:∀{n:Nat} {f:Nat->Nat->Int} {j:Nat},j+1<n->(∀k,k<n->f j k=f (j+1) k)->det n f=0
 |0,_,_,h,_=>absurd h (Nat.not_lt_zero _)
 |1,_,_,h,_=>absurd h (by omega)
 |n+2,f,j,hj,h=>by
  by_cases e:j=n
  ·subst e;have e1:det (j+2) f=sm (j+1+1) fun c=>sm (j+1) fun c'=>sg (j+1+c)*f (j+1) c*(sg (j+c')*f j (sk c c')*det j fun i k=>f i (sk c (sk c' k))):=by
    show sm (j+1+1) _=_;refine aA fun c _=>?_;rw[show det (j+1) (fun i k=>f i (sk c k))=sm (j+1) fun c'=>sg (j+c')*f j (sk c c')*det j fun i k=>f i (sk c (sk c' k))from rfl,<-bG]
   rw[e1,tri];refine iJ fun b hb=>iJ fun a ha=>?_;have f1:sk b a=a:=by unfold sk;rw[if_pos ha]
   have f2:sk a (b-1)=b:=by unfold sk;rw[if_neg (by omega)];omega
   have f3:(fun i k=>f i (sk b (sk a k)))=fun i k=>f i (sk a (sk (b-1) k)):=by funext i k;rw[Vu ha]
   rw[f1,f2,f3,<-h b (by omega),<-h a (by omega)];have s1:sg (j+1+b)*sg (j+a)=-(sg (j+1+a)*sg (j+(b-1))):=by
    rw[<-Jh,<-Jh,<-qK];unfold sg;rw[show(j+1+b+(j+a))%2=(j+1+a+(j+(b-1))+1)%2 by omega]
   generalize det j (fun i k=>f i (sk a (sk (b-1) k)))=M;have t1:sg (j+1+b)*f j b*(sg (j+a)*f j a*M)=(sg (j+1+b)*sg (j+a))*(f j b*f j a*M):=by
    simp only[Int.mul_assoc,Int.mul_left_comm]
   have t2:sg (j+1+a)*f j a*(sg (j+(b-1))*f j b*M)=(sg (j+1+a)*sg (j+(b-1)))*(f j b*f j a*M):=by
    simp only[Int.mul_assoc,Int.mul_left_comm]
   rw[t1,t2,s1,Int.neg_mul];omega
  ·unfold det;refine iJ fun c hc=>?_;rw[qP (n:=n+1) (j:=j) (by omega) fun k hk=>h (sk c k) (by unfold sk;split<;>omega),Int.mul_zero]
theorem qD(f:Nat->Nat->Int)(j:Nat):oH f j (f j)=f:=by
 funext i k;unfold oH;split
 ·rename_i h;rw[h]
 ·rfl
theorem BD{n:Nat}(f:Nat->Nat->Int){j:Nat}(hj:j+1<n):det n (fun i k=>f (sw j i) k)=-det n f:=by
 let D:=fun(x y:Nat->Int)=>det n (oH (oH f j x) (j+1) y)
 have z:∀x,D x x=0:=fun x=>qP hj fun k _=>by
  show(if j=j+1 then x k else if j=j then x k else f j k)=(if j+1=j+1 then x k else _);rw[if_neg (by omega),if_pos rfl,if_pos rfl]
 have l2:∀x y y',D x (fun i=>1*y i+y' i)=1*D x y+D x y':=fun x y y'=>j5 _ hj 1 y y';have cm:∀x y,oH (oH f j x) (j+1) y=oH (oH f (j+1) y) j x:=fun x y=>by
  funext i k;unfold oH;split<;>(try split)<;>first|rfl|omega
 have l1:∀x x' y,D (fun i=>1*x i+x' i) y=1*D x y+D x' y:=fun x x' y=>by
  show det n _=1*det n _+det n _;rw[cm,cm,cm];exact j5 _ (by omega) 1 x x'
 have a:=z fun i=>1*f j i+f (j+1) i;rw[l1,l2,l2,z,z]at a;have e1:D (fun i=>f j i) (fun i=>f (j+1) i)=det n f:=by
  show det n _=_;rw[qD f j,qD]
 have e2:D (fun i=>f (j+1) i) (fun i=>f j i)=det n (fun i k=>f (sw j i) k):=cG fun i k _ _=>by
  unfold oH sw;by_cases c1:i=j+1
  ·rw[if_pos c1,if_neg (by omega),if_pos c1]
  ·rw[if_neg c1];by_cases c2:i=j
   ·rw[if_pos c2,if_pos c2]
   ·rw[if_neg c2,if_neg c2,if_neg c1]
 rw[e1,e2]at a;omega
theorem uW{n:Nat}:∀(d:Nat) (f:Nat->Nat->Int) {h m:Nat},m=h+d->m<n->det n (fun i k=>f (mv h m i) k)=sg d*det n f
 |0,f,h,m,e,hm=>by
  have:det n (fun i k=>f (mv h m i) k)=det n f:=cG fun i k _ _=>by
   rw[show mv h m i=i by unfold mv;split<;>(try split)<;>(try split)<;>omega]
  rw[this];simp[sg]
 |d+1,f,h,m,e,hm=>by
  have e1:(fun i k=>f (mv h m i) k)=fun i k=>(fun i k=>f (sw h i) k) (mv (h+1) m i) k:=by
   funext i k;rw[Ho (by omega)]
  rw[e1,uW d (fun i k=>f (sw h i) k) (by omega) hm,BD f (by omega),qK,Int.mul_neg,Int.neg_mul]
theorem zG{n:Nat}{f:Nat->Nat->Int}{a b:Nat}(hab:a<b)(hb:b<n)(h:∀k,k<n->f a k=f b k):det n f=0:=by
 have e:=uW (n:=n) (b-1-a) f (h:=a) (m:=b-1) (by omega) (by omega);have z:det n (fun i k=>f (mv a (b-1) i) k)=0:=qP (j:=b-1) (by omega) fun k hk=>by
  rw[show mv a (b-1) (b-1)=a by unfold mv;rw[if_neg (by omega),if_neg (by omega),if_pos rfl],show mv a (b-1) (b-1+1)=b by unfold mv;rw[if_neg (by omega),if_neg (by omega),if_neg (by omega)];omega];exact h k hk
 rw[z]at e;have s:=Rb (b-1-a);have:sg (b-1-a)*(sg (b-1-a)*det n f)=det n f:=by rw[<-Int.mul_assoc,s,Int.one_mul]
 rw[<-e,Int.mul_zero]at this;exact this.symm
theorem BH{n:Nat}(f:Nat->Nat->Int){a b:Nat}(hab:a<b)(hb:b<n):det n (oH (oH f a (f b)) b fun k=>-1*f a k+0)=det n f:=by
 let D:=fun(x y:Nat->Int)=>det n (oH (oH f a x) b y)
 have z:∀x,D x x=0:=fun x=>zG hab hb fun k _=>by
  show(if a=b then x k else if a=a then x k else f a k)=(if b=b then x k else _);rw[if_neg (by omega),if_pos rfl,if_pos rfl]
 have l2:∀(c:Int) x y y',D x (fun i=>c*y i+y' i)=c*D x y+D x y':=fun c x y y'=>j5 _ hb c y y';have cm:∀x y,oH (oH f a x) b y=oH (oH f b y) a x:=fun x y=>by
  funext i k;unfold oH;split<;>(try split)<;>first|rfl|omega
 have l1:∀x x' y,D (fun i=>1*x i+x' i) y=1*D x y+D x' y:=fun x x' y=>by
  show det n _=1*det n _+det n _;rw[cm,cm,cm];exact j5 _ (by omega) 1 x x'
 have q:=z fun i=>1*f a i+f b i;rw[l1,l2,l2,z,z]at q;have e1:D (f a) (f b)=det n f:=by
  show det n _=_;rw[qD f a,qD]
 have e3:D (f b) (fun k=>-1*f a k+0)=-1*D (f b) (f a)+D (f b) (fun _=>0):=l2 (-1) (f b) (f a) (fun _=>0);have e4:D (f b) (fun _=>0)=0:=by
  have:=l2 0 (f b) (fun _=>0) (fun _=>0);have e5:=l2 (-1) (f b) (fun _=>0) (fun _=>0);simp only[Int.mul_zero,Int.add_zero]at e5;omega
 show D (f b) (fun k=>-1*f a k+0)=_;rw[e3,e4];have e6:D (fun i=>f a i) (fun i=>f b i)=det n f:=e1;have e7:D (fun i=>f b i) (fun i=>f a i)=D (f b) (f a):=rfl;rw[e6,e7]at q;omega
end Dm
namespace Dm
open Pm
theorem oN{n:Nat}(f:Nat->Nat->Int){j:Nat}(hj:j<n):det n (mF f j fun _=>0)=0:=by
 have e:=ji f hj (-1) (fun _=>0) (fun _=>0);simp only[Int.mul_zero,Int.add_zero]at e;omega
theorem rR{n:Nat}(f:Nat->Nat->Int){j:Nat}(hj:j<n)(x:Nat->Int)(u:Nat->Nat->Int):∀m:Nat,det n (mF f j fun i=>sm m fun h=>x h*u h i)=sm m fun h=>x h*det n (mF f j (u h))
 |0=>oN f hj
 |m+1=>by
  rw[sm,<-rR f hj x u m];have e:=ji f hj (x m) (u m) (fun i=>sm m fun h=>x h*u h i);rw[Int.add_comm,<-e];congr 2
  funext i
  rw[sm,Int.add_comm]
theorem Oj{n:Nat}{f:Nat->Nat->Int}{x:Nat->Int}(h:∀i,i<n->sm n (fun k=>f i k*x k)=0){j:Nat}(hj:j<n):x j*det n f=0:=by
 have e1:det n (mF f j fun i=>sm n fun k=>x k*f i k)=0:=by
  rw[<-oN f hj];refine cG fun i k hi _=>?_;unfold mF;split
  ·rw[<-h i hi];exact aA fun k _=>Int.mul_comm ..
  ·rfl
 rw[rR f hj x (fun k i=>f i k)]at e1;have e2:sm n (fun k=>x k*det n (mF f j fun i=>f i k))=sm n (fun k=>if k=j then x j*det n f else 0):=aA fun k hk=>by
  by_cases c:k=j
  ·rw[if_pos c,c,qI]
  ·rw[if_neg c];have z:det n (mF f j fun i=>f i k)=0:=by
    rcases Nat.lt_or_gt_of_ne c with l|l
    ·exact qu l hj fun i _=>by rw[gq,lH (by omega)]
    ·exact qu l hk fun i _=>by rw[gq,lH (by omega)]
   rw[z,Int.mul_zero]
 rw[e2,cX,if_pos hj]at e1;exact e1
def Bk(A:Nat->Nat->Int)(hd:Nat->Nat):Nat->Nat->Int:=fun i h=>A i (hd h)
def dt(A:Nat->Nat->Int)(hd:Nat->Nat)(r:Nat):Int:=det r (Bk A hd)
def cr(A:Nat->Nat->Int)(hd:Nat->Nat)(r h k:Nat):Int:=det r (mF (Bk A hd) h fun i=>A i k)
def bd(A:Nat->Nat->Int)(hd:Nat->Nat)(r i k:Nat):Int:=det (r+1) fun i' k'=>A (if i'=r then i else i') (if k'=r then k else hd k')
theorem uL(A:Nat->Nat->Int)(hd:Nat->Nat)(r i k:Nat):bd A hd r i k=A i k*dt A hd r-sm r fun h=>A i (hd h)*cr A hd r h k:=by
 unfold bd;rw[det,sm];have e1:sg (r+r)*A (if r=r then i else r) (if r=r then k else hd r)*det r (fun i' k'=>A (if i'=r then i else i') (if sk r k'=r then k else hd (sk r k')))=A i k*dt A hd r:=by
  rw[if_pos rfl,if_pos rfl,show sg (r+r)=1 by unfold sg;rw[if_pos (by omega)],Int.one_mul];congr 1;exact cG fun i' k' hi hk=>by
   rw[if_neg (by omega),show sk r k'=k' by unfold sk;rw[if_pos hk],if_neg (by omega)];rfl
 rw[e1];have e2:sm r (fun c=>sg (r+c)*A (if r=r then i else r) (if c=r then k else hd c)*det r (fun i' k'=>A (if i'=r then i else i') (if sk c k'=r then k else hd (sk c k'))))=sm r fun h=>-1*(A i (hd h)*cr A hd r h k):=aA fun c hc=>by
  rw[if_pos rfl,if_neg (by omega)];have m:det r (fun i' k'=>A (if i'=r then i else i') (if sk c k'=r then k else hd (sk c k')))=sg (r-1-c)*cr A hd r c k:=by
   rw[cr,<-oJ (n:=r) (r-1-c) (mF (Bk A hd) c fun i=>A i k) (h:=c) (m:=r-1) (by omega) (by omega)];refine cG fun i' k' hi hk=>?_;rw[if_neg (by omega)];unfold sk mv mF Bk;by_cases c1:k'<c
   ·rw[if_pos c1,if_pos c1,if_neg (by omega),if_neg (by omega)]
   ·rw[if_neg c1,if_neg c1];by_cases c2:k'<r-1
    ·rw[if_pos c2,if_neg (by omega),if_neg (by omega)]
    ·rw[if_neg c2,if_pos (show k'+1=r by omega),if_pos (show k'=r-1 by omega),if_pos rfl]
  rw[m];have s:sg (r+c)*sg (r-1-c)=-1:=by
   rw[<-Jh];unfold sg;rw[if_neg (by omega)]
  have t:sg (r+c)*A i (hd c)*(sg (r-1-c)*cr A hd r c k)=(sg (r+c)*sg (r-1-c))*(A i (hd c)*cr A hd r c k):=by simp only[Int.mul_assoc,Int.mul_left_comm]
  rw[t,s]
 rw[e2,bG];omega
theorem Gq{A:Nat->Nat->Int}{hd:Nat->Nat}{r i:Nat}(k:Nat)(h:i<r):bd A hd r i k=0:=zG h (Nat.lt_succ_self r) fun k' _=>by
 rw[if_neg (by omega),if_pos rfl]
theorem LQ{A:Nat->Nat->Int}{hd:Nat->Nat}{r i:Nat}(k:Nat)(h:i<r):sm r (fun h=>A i (hd h)*cr A hd r h k)=A i k*dt A hd r:=by
 have:=uL A hd r i k;rw[Gq k h]at this;omega
theorem G5(A:Nat->Nat->Int)(hd:Nat->Nat)(r i k:Nat):sm r (fun h=>A i (hd h)*cr A hd r h k)=A i k*dt A hd r-bd A hd r i k:=by
 have:=uL A hd r i k;omega
def more(hd:Nat->Nat)(r c:Nat):Nat->Nat:=fun h=>if h=r then c else hd h
theorem xg(A:Nat->Nat->Int)(hd:Nat->Nat)(r c:Nat):dt A (more hd r c) (r+1)=bd A hd r r c:=cG fun i k _ _=>by
 unfold Bk more;by_cases h:i=r
 ·rw[if_pos h,h]
 ·rw[if_neg h]
theorem O1(A:Nat->Nat->Int)(hd:Nat->Nat)(r c k:Nat):cr A (more hd r c) (r+1) r k=bd A hd r r k:=cG fun i k' _ _=>by
 unfold mF Bk more;by_cases h:i=r
 ·rw[if_pos h,h];by_cases h2:k'=r
  ·rw[if_pos h2,if_pos h2]
  ·rw[if_neg h2,if_neg h2,if_neg h2]
 ·rw[if_neg h];by_cases h2:k'=r
  ·rw[if_pos h2,if_pos h2]
  ·rw[if_neg h2,if_neg h2,if_neg h2]
theorem C4(A:Nat->Nat->Int)(hd:Nat->Nat)(r c i k:Nat):
  sm r (fun h=>A i (hd h)*(bd A hd r r c*cr A hd r h k-cr A hd r h c*bd A hd r r k))+A i c*(dt A hd r*bd A hd r r k)=bd A hd r r c*(A i k*dt A hd r-bd A hd r i k)+bd A hd r r k*bd A hd r i c:=by
 have e1:sm r (fun h=>A i (hd h)*(bd A hd r r c*cr A hd r h k-cr A hd r h c*bd A hd r r k))=bd A hd r r c*sm r (fun h=>A i (hd h)*cr A hd r h k) + -(bd A hd r r k)*sm r (fun h=>A i (hd h)*cr A hd r h c):=by
  rw[<-bG,<-bG,<-cQ];refine aA fun h _=>?_;rw[Int.mul_sub,Int.neg_mul,Int.mul_left_comm,<-Int.mul_assoc (A i (hd h)),Int.mul_comm (A i (hd h)*cr A hd r h c)];omega
 rw[e1,G5,G5,Int.mul_sub (-bd A hd r r k),Int.neg_mul,Int.neg_mul];have e2:A i c*(dt A hd r*bd A hd r r k)=bd A hd r r k*(A i c*dt A hd r):=by simp only[Int.mul_assoc,Int.mul_left_comm,Int.mul_comm]
 rw[e2];omega
theorem HD{A:Nat->Nat->Int}{hd:Nat->Nat}{r c:Nat}(hp:bd A hd r r c≠0){h:Nat}(hh:h<r)(k:Nat):dt A hd r*cr A (more hd r c) (r+1) h k=bd A hd r r c*cr A hd r h k-cr A hd r h c*bd A hd r r k:=by
 let x:=fun h=>dt A hd r*cr A (more hd r c) (r+1) h k-(if h=r then dt A hd r*bd A hd r r k else bd A hd r r c*cr A hd r h k-cr A hd r h c*bd A hd r r k)
 have key:=Oj (n:=r+1) (f:=Bk A (more hd r c)) (x:=x) (fun i hi=>?_) (j:=h) (by omega)
 ·have e:det (r+1) (Bk A (more hd r c))=bd A hd r r c:=xg A hd r c;rw[e]at key;rcases Int.mul_eq_zero.mp key with z|z
  ·have z':dt A hd r*cr A (more hd r c) (r+1) h k-(if h=r then dt A hd r*bd A hd r r k else bd A hd r r c*cr A hd r h k-cr A hd r h c*bd A hd r r k)=0:=z;rw[if_neg (by omega)]at z';omega
  ·exact absurd z hp
 ·have e1:sm (r+1) (fun h=>Bk A (more hd r c) i h*x h)=dt A hd r*sm (r+1) (fun h=>A i (more hd r c h)*cr A (more hd r c) (r+1) h k) + -1*sm (r+1) (fun h=>A i (more hd r c h)*(if h=r then dt A hd r*bd A hd r r k else bd A hd r r c*cr A hd r h k-cr A hd r h c*bd A hd r r k)):=by
   rw[<-bG,<-bG,<-cQ];refine aA fun h _=>?_;show A i (more hd r c h)*(dt A hd r*cr A (more hd r c) (r+1) h k-_)=_;rw[Int.mul_sub,Int.mul_left_comm];omega
  rw[e1,LQ k hi,xg,sm,if_pos rfl,show more hd r c r=c from if_pos rfl];have e2:sm r (fun h=>A i (more hd r c h)*(if h=r then dt A hd r*bd A hd r r k else bd A hd r r c*cr A hd r h k-cr A hd r h c*bd A hd r r k))=sm r (fun h=>A i (hd h)*(bd A hd r r c*cr A hd r h k-cr A hd r h c*bd A hd r r k)):=aA fun h hh=>by
   rw[if_neg (by omega),show more hd r c h=hd h from if_neg (by omega)]
  rw[e2,C4];have e3:dt A hd r*(A i k*bd A hd r r c)=bd A hd r r c*(A i k*dt A hd r):=by simp only[Int.mul_assoc,Int.mul_left_comm,Int.mul_comm]
  rw[e3,Int.mul_sub];have e4:bd A hd r r c*bd A hd r i k=bd A hd r r k*bd A hd r i c:=by
   by_cases z:i<r
   ·rw[Gq k z,Gq c z,Int.mul_zero,Int.mul_zero]
   ·rw[show i=r by omega,Int.mul_comm]
  rw[e4];omega
theorem Ni{A:Nat->Nat->Int}{hd:Nat->Nat}{r c:Nat}(hp:bd A hd r r c≠0)(i k:Nat):dt A hd r*bd A (more hd r c) (r+1) i k=bd A hd r r c*bd A hd r i k-bd A hd r i c*bd A hd r r k:=by
 rw[uL A (more hd r c) (r+1),xg,Int.mul_sub,<-bG,sm,O1,show more hd r c r=c from if_pos rfl];have e2:sm r (fun h=>dt A hd r*(A i (more hd r c h)*cr A (more hd r c) (r+1) h k))=sm r (fun h=>A i (hd h)*(bd A hd r r c*cr A hd r h k-cr A hd r h c*bd A hd r r k)):=aA fun h hh=>by
  rw[Int.mul_left_comm,HD hp hh,show more hd r c h=hd h from if_neg (by omega)]
 have e5:=C4 A hd r c i k;rw[e2,show dt A hd r*(A i c*bd A hd r r k)=A i c*(dt A hd r*bd A hd r r k)from Int.mul_left_comm ..,e5,Int.mul_sub];have e3:dt A hd r*(A i k*bd A hd r r c)=bd A hd r r c*(A i k*dt A hd r):=by simp only[Int.mul_assoc,Int.mul_left_comm,Int.mul_comm]
 rw[e3,Int.mul_comm (bd A hd r i c)];omega
def En(A:Nat->Nat->Int)(hd:Nat->Nat)(r i k:Nat):Int:=if i<r then cr A hd r i k else bd A hd r i k
theorem Oh{A:Nat->Nat->Int}{hd:Nat->Nat}{r c:Nat}(hp:En A hd r r c≠0){i:Nat}(hi:i≠r)(k:Nat):dt A hd r*En A (more hd r c) (r+1) i k=En A hd r r c*En A hd r i k-En A hd r i c*En A hd r r k:=by
 have er:∀k,En A hd r r k=bd A hd r r k:=fun k=>if_neg (by omega);rw[er]at hp⊢;rw[er];unfold En;by_cases h:i<r
 ·rw[if_pos (by omega),if_pos h,if_pos h];exact HD hp h k
 ·rw[if_neg (by omega),if_neg h,if_neg h];exact Ni hp i k
theorem Ou(A:Nat->Nat->Int)(hd:Nat->Nat)(r c:Nat):dt A (more hd r c) (r+1)=En A hd r r c:=by
 rw[xg];exact(if_neg (by omega)).symm
theorem O9(A:Nat->Nat->Int)(hd:Nat->Nat):dt A hd 0=1:=rfl
theorem QT(A:Nat->Nat->Int)(hd:Nat->Nat)(r i k:Nat):A i k*dt A hd r=sm r (fun h=>A i (hd h)*En A hd r h k)+(if i<r then 0 else En A hd r i k):=by
 have e:sm r (fun h=>A i (hd h)*En A hd r h k)=sm r (fun h=>A i (hd h)*cr A hd r h k):=aA fun h hh=>by
  unfold En;rw[if_pos hh]
 rw[e];by_cases c:i<r
 ·rw[if_pos c,LQ k c,Int.add_zero]
 ·rw[if_neg c,G5];unfold En;rw[if_neg c];omega
end Dm
namespace Dm
open Pm Rm
def Dom(b:Int):Prop:=∀x y,tk b x≠0->tk b (x*y)=0->tk b y=0
theorem Dom.zero:Dom 0:=fun x y hx h=>by
 rw[bH]at *;rcases Int.mul_eq_zero.mp h with z|z
 ·exact absurd z hx
 ·exact z
theorem fB{b x:Int}:tk b x=0↔∃e,x=b*e:=by
 unfold tk;split
 ·rename_i h
  constructor
  ·intro z;exact⟨0,by rw[z,Int.mul_zero]⟩
  ·rintro⟨e,he⟩;rw[he,h,Int.zero_mul]
 ·constructor
  ·intro z;exact⟨x/b,(Int.mul_ediv_cancel' (Int.dvd_of_emod_eq_zero z)).symm⟩
  ·rintro⟨e,he⟩;rw[he];exact Int.mul_emod_right b e
def turn(A:Nat->Nat->Int)(a c:Nat):Nat->Nat->Int:=oH (oH A a (A c)) c fun k=>-1*A a k+0
inductive Swp(n:Nat)(A0:Nat->Nat->Int):(Nat->Nat->Int)->Prop
 |refl:Swp n A0 A0
 |step {A:Nat->Nat->Int} {a c:Nat}:Swp n A0 A->a<c->c<n->Swp n A0 (turn A a c)
theorem Swp.det{n:Nat}{A0 A:Nat->Nat->Int}(h:Swp n A0 A):Dm.det n A=Dm.det n A0:=by
 induction h with
 |refl=>rfl
 |step _ h1 h2 ih=>rw[<-ih];exact BH _ h1 h2
theorem lE{A:Nat->Nat->Int}{a c i:Nat}(h1:i≠a)(h2:i≠c)(k:Nat):turn A a c i k=A i k:=by
 unfold turn oH;rw[if_neg h2,if_neg h1]
theorem xr{A:Nat->Nat->Int}{a c:Nat}(h:a≠c)(k:Nat):turn A a c a k=A c k:=by
 unfold turn oH;rw[if_neg h,if_pos rfl]
theorem kI(A:Nat->Nat->Int)(a c k:Nat):turn A a c c k=-A a k:=by
 unfold turn oH;rw[if_pos rfl];show -1*A a k+0=-A a k;omega
theorem Gh{A:Nat->Nat->Int}{hd:Nat->Nat}{r a c:Nat}(ha:r<=a)(hc:r<=c):dt (turn A a c) hd r=dt A hd r:=cG fun i k hi _=>lE (by omega) (by omega) _
theorem Gn{A:Nat->Nat->Int}{hd:Nat->Nat}{r a c:Nat}(ha:r<=a)(hc:r<=c)(h k:Nat):cr (turn A a c) hd r h k=cr A hd r h k:=cG fun i k' hi _=>by
 show(if k'=h then turn A a c i k else turn A a c i (hd k'))=if k'=h then A i k else A i (hd k');rw[lE (by omega) (by omega),lE (by omega) (by omega)]
theorem Il{A:Nat->Nat->Int}{hd:Nat->Nat}{r a c:Nat}(ha:r<=a)(hac:a<c)(i k:Nat):En (turn A a c) hd r i k=if i=a then En A hd r c k else if i=c then -En A hd r a k else En A hd r i k:=by
 have hc:r<=c:=by omega
 unfold En;by_cases h:i<r
 ·rw[if_pos h,if_neg (by omega),if_neg (by omega),if_pos h];exact Gn ha hc i k
 ·rw[if_neg h,uL,Gh ha hc];have e:∀j,sm r (fun h=>turn A a c j (hd h)*cr (turn A a c) hd r h k)=sm r (fun h=>turn A a c j (hd h)*cr A hd r h k):=fun j=>aA fun h _=>by rw[Gn ha hc]
  rw[e];by_cases h1:i=a
  ·rw[if_pos h1,if_neg (by omega),uL,h1,xr (by omega)];congr 1;exact aA fun h _=>by rw[xr (by omega)]
  ·rw[if_neg h1];by_cases h2:i=c
   ·rw[if_pos h2,if_neg (by omega),uL,h2,kI];have:sm r (fun h=>turn A a c c (hd h)*cr A hd r h k)=-1*sm r (fun h=>A a (hd h)*cr A hd r h k):=by
     rw[<-bG];exact aA fun h _=>by rw[kI,Int.neg_mul];omega
    rw[this,Int.neg_mul];omega
   ·rw[if_neg h2,if_neg h,uL,lE h1 h2];congr 1;exact aA fun h _=>by rw[lE h1 h2]
def ln(L:List (List Int))(i:Nat):List Int:=L.getD i []
structure ClI(b:Int)(n W u:Nat)(A0:Nat->Nat->Int)(c:Nat)(A:Nat->Nat->Int)(hd:Nat->Nat)(r:Nat)(L:List (List Int))(last:Int):Prop where
 sw:Swp n A0 A
 len:L.length=n
 wd:∀i,i<n->(ln L i).length=W
 en:∀i k,i<n->k<W->co (ln L i) k=tk b (En A hd r i k)
 la:last=tk b (dt A hd r)
 nz:tk b (dt A hd r)≠0
 rn:r<=n
 hc:∀h,h<r->hd h<c
 up:∀h h',h<h'->h'<r->hd h<hd h'
 zero:∀k,k<c->(∀h,h<r->hd h≠k)->∀i,r<=i->i<n->tk b (En A hd r i k)=0
 full:c<=n->(r=c/\∀h,h<r->hd h=h)∨tk b (det n A)=0
 bdd:∀i k,Bd u (A i k)
 ge:∀h,h<r->∀k,k<hd h->(∀h',h'<r->hd h'≠k)->tk b (En A hd r h k)=0
theorem MD{u:Nat}:∀{n:Nat} {f:Nat->Nat->Int},(∀i k,i<n->k<n->Bd u (f i k))->Bd (n*(u+n)+1) (det n f)
 |0,_,_=>by
  show Bd (0*(u+0)+1) 1;rw[Nat.zero_mul];exact Bd.of (by decide) (by decide)
 |n+1,f,h=>by
  unfold det;have e:Bd (u+(n*(u+n)+1)+(n+1)) (sm (n+1) fun c=>sg (n+c)*f n c*det n fun i k=>f i (sk c k)):=Cm _ fun c hc=>by
   have b1:=h n c (by omega) hc;have b2:=MD (u:=u) (n:=n) (f:=fun i k=>f i (sk c k)) fun i k hi hk=>h i (sk c k) (by omega) (by unfold sk;split<;>omega);have b3:=b1.mul b2;unfold Bd at b3⊢;rw[Int.mul_assoc,Int.natAbs_mul];have:(sg (n+c)).natAbs=1:=by unfold sg;split<;>rfl
   rw[this,Nat.one_mul];exact b3
  refine e.mono ?_;have:(n+1)*(u+(n+1))=n*(u+n)+n+u+(n+1):=by
   rw[Nat.succ_mul,show u+(n+1)=u+n+1 by omega,Nat.mul_add n (u+n) 1];omega
  omega
end Dm
namespace Dm
open Rm Pm
theorem sE{b x:Int}(h:tk b x=0):tk b (-x)=0:=by
 have:=bh b (-1) x;rw[h,Int.mul_zero,tk0]at this;rw[show -x=-1*x by omega,<-this]
theorem HM{b x:Int}(y:Int)(h:tk b x=0):tk b (y*x)=0:=by rw[<-bh,h,Int.mul_zero,tk0]
theorem PL{b x y:Int}(h:tk b x=0)(h':tk b y=0):tk b (x+y)=0:=by rw[<-bJ,h,Int.zero_add,h']
theorem Ny{b x y:Int}(h:tk b x=0)(h':tk b y=0):tk b (x-y)=0:=by rw[Int.sub_eq_add_neg];exact PL h (sE h')
theorem Mf(f:Nat->Int)(n:Nat):sm n (fun k=>-f k)=-sm n f:=by
 have e:(fun k=>-f k)=fun k=>-1*f k:=funext fun k=>by omega
 rw[e,bG];omega
theorem QN(f g:Nat->Int)(n:Nat):sm n (fun k=>f k-g k)=sm n f-sm n g:=by
 have e:(fun k=>f k-g k)=fun k=>f k + -g k:=funext fun k=>by omega
 rw[e,cQ,Mf];omega
theorem Sv{b:Int}{f:Nat->Int}{n:Nat}(h:∀k,k<n->tk b (f k)=0):tk b (sm n f)=0:=by
 have:=jz (b:=b) (f:=f) (g:=fun _=>0) (n:=n) fun k hk=>by rw[h k hk,tk0]
 rw[this,gM,tk0]
def Rel(b:Int)(n m:Nat)(A:Nat->Nat->Int)(x:Nat->Int):Prop:=∀i,i<n->tk b (sm m fun k=>A i k*x k)=0
theorem Ja(A:Nat->Nat->Int)(x:Nat->Int)(i m:Nat):sm m (fun k=>-A i k*x k)=-sm m fun k=>A i k*x k:=by
 rw[<-Mf];exact aA fun k _=>Int.neg_mul ..
theorem Rel.turn{b:Int}{n m:Nat}{A:Nat->Nat->Int}{x:Nat->Int}{a c:Nat}(hac:a<c)(hc:c<n):Rel b n m A x↔Rel b n m (turn A a c) x:=by
 have ha:a<n:=by omega
 constructor
 ·intro h i hi;by_cases c1:i=c
  ·rw[c1,aA (g:=fun k=>-A a k*x k) fun k _=>by rw[kI],Ja];exact sE (h a ha)
  ·by_cases c2:i=a
   ·rw[c2,aA (g:=fun k=>A c k*x k) fun k _=>by rw[xr (by omega)]];exact h c hc
   ·rw[aA (g:=fun k=>A i k*x k) fun k _=>by rw[lE c2 c1]];exact h i hi
 ·intro h i hi;by_cases c1:i=c
  ·have:=h a ha;rw[aA (g:=fun k=>A c k*x k) fun k _=>by rw[xr (by omega)]]at this;rw[c1];exact this
  ·by_cases c2:i=a
   ·have:=h c hc;rw[aA (g:=fun k=>-A a k*x k) fun k _=>by rw[kI],Ja]at this;rw[c2];have:=sE this
    rwa [Int.neg_neg]at this
   ·have:=h i hi;rw[aA (g:=fun k=>A i k*x k) fun k _=>by rw[lE c2 c1]]at this;exact this
theorem Swp.rel{b:Int}{n m:Nat}{A0 A:Nat->Nat->Int}{x:Nat->Int}(h:Swp n A0 A):Rel b n m A0 x↔Rel b n m A x:=by
 induction h with
 |refl=>exact Iff.rfl
 |step _ h1 h2 ih=>exact ih.trans (Rel.turn h1 h2)
def Ind(b:Int)(n m:Nat)(A:Nat->Nat->Int):Prop:=∀x,Rel b n m A x->∀k,k<m->tk b (x k)=0
theorem Jm{A:Nat->Nat->Int}{hd:Nat->Nat}{r m k:Nat}{b:Int}{n:Nat}(hm:∀h,h<r->hd h<m)(hk:k<m)(hz:∀i,r<=i->i<n->tk b (En A hd r i k)=0):
  Rel b n m A fun j=>sm r (fun h=>if j=hd h then En A hd r h k else 0)-if j=k then dt A hd r else 0:=fun i hi=>by
 have e:sm m (fun j=>A i j*(sm r (fun h=>if j=hd h then En A hd r h k else 0)-if j=k then dt A hd r else 0))=sm r (fun h=>A i (hd h)*En A hd r h k)-A i k*dt A hd r:=by
  rw[aA (g:=fun j=>sm r (fun h=>if j=hd h then A i (hd h)*En A hd r h k else 0)-if j=k then A i k*dt A hd r else 0) fun j _=>?_,QN,cX,if_pos hk,lQ]
  ·congr 1;exact aA fun h hh=>by rw[cX,if_pos (hm h hh)]
  ·rw[Int.mul_sub,<-bG];congr 1
   ·refine aA fun h _=>?_;by_cases c:j=hd h
    ·rw[if_pos c,if_pos c,c]
    ·rw[if_neg c,if_neg c,Int.mul_zero]
   ·by_cases c:j=k
    ·rw[if_pos c,if_pos c,c]
    ·rw[if_neg c,if_neg c,Int.mul_zero]
 rw[e];have q:=QT A hd r i k;by_cases c:i<r
 ·rw[if_pos c,Int.add_zero]at q;rw[q,Int.sub_self,tk0]
 ·rw[if_neg c]at q;rw[q,show sm r (fun h=>A i (hd h)*En A hd r h k)-(sm r (fun h=>A i (hd h)*En A hd r h k)+En A hd r i k)=-En A hd r i k by omega];exact sE (hz i (by omega) hi)
end Dm
namespace Pm
open Rm
def Fs(f:Nat->Int)(n:Nat):Prop:=∀k,n<=k->f k=0
theorem Fs.co(p:List Int):Fs (co p) p.length:=fun _ h=>bD h
theorem Fs.mono{f:Nat->Int}{m n:Nat}(h:Fs f m)(hmn:m<=n):Fs f n:=fun k hk=>h k (by omega)
theorem Fs.add{f g:Nat->Int}{n:Nat}(h:Fs f n)(h':Fs g n):Fs (fun k=>f k+g k) n:=fun k hk=>by show f k+g k=0;rw[h k hk,h' k hk];rfl
theorem Fs.mul{f:Nat->Int}{n:Nat}(c:Int)(h:Fs f n):Fs (fun k=>c*f k) n:=fun k hk=>by show c*f k=0;rw[h k hk,Int.mul_zero]
theorem Fs.cv{f g:Nat->Int}{m n:Nat}(h:Fs f m)(h':Fs g n):Fs (Pm.cv f g) (m+n):=fun k hk=>fK fun i _=>by
 by_cases c:m<=i
 ·exact .inl (h i c)
 ·exact .inr (h' _ (by omega))
theorem xV{b x:Int}(y:Int)(h:tk b x=0):tk b (y*x)=0:=by rw[<-bh,h,Int.mul_zero,tk0]
theorem nH{b:Int}{m:List Int}(hm:Mon m){f:Nat->Int}{n:Nat}(hf:Fs f n)(h:∀k,m.length-1<=k->tk b (cv f (co m) k)=0):∀k,tk b (f k)=0:=by
 have q:∀d j,n<=j+d->tk b (f j)=0:=fun d=>by
  induction d with
  |zero=>intro j hj;rw[hf j hj,tk0]
  |succ d ih=>
   intro j hj;have e:=h (j+(m.length-1)) (by omega);rw[gO]at e;have e2:tk b (sm (j+(m.length-1)+1) fun i=>f i*co m (j+(m.length-1)-i))=tk b (sm (j+(m.length-1)+1) fun i=>if i=j then f j else 0):=jz fun i hi=>by
    by_cases c:i=j
    ·rw[if_pos c,c,Nat.add_sub_cancel_left,hm.one,Int.mul_one]
    ·rw[if_neg c,tk0];by_cases d2:i<j
     ·rw[bD (by have:=hm.pos;omega),Int.mul_zero,tk0]
     ·rw[Int.mul_comm];exact xV _ (ih i (by omega))
   rw[e2,cX,if_pos (by omega)]at e;exact e
 exact fun k=>q n k (by omega)
def Dv(b:Int)(m:List Int)(f:Nat->Int):Prop:=∃s n,Fs s n/\∀k,tk b (f k)=tk b (cv s (co m) k)
theorem Dv.congr{b:Int}{m:List Int}{f g:Nat->Int}(e:∀k,tk b (f k)=tk b (g k))(h:Dv b m f):Dv b m g:=by
 obtain⟨s,n,hs,h⟩:=h;exact⟨s,n,hs,fun k=>by rw[<-e,h]⟩
theorem Dv.zero(b:Int)(m:List Int):Dv b m fun _=>0:=⟨fun _=>0,0,fun _ _=>rfl,fun k=>by rw[fK fun i _=> .inl rfl]⟩
theorem Dv.add{b:Int}{m:List Int}{f g:Nat->Int}(h:Dv b m f)(h':Dv b m g):Dv b m fun k=>f k+g k:=by
 obtain⟨s,n,hs,h⟩:=h;obtain⟨s',n',hs',h'⟩:=h';exact⟨fun k=>s k+s' k,n+n',(hs.mono (by omega)).add (hs'.mono (by omega)),fun k=>by rw[fX];exact aW (h k) (h' k)⟩
theorem Dv.smul{b:Int}{m:List Int}{f:Nat->Int}(c:Int)(h:Dv b m f):Dv b m fun k=>c*f k:=by
 obtain⟨s,n,hs,h⟩:=h;exact⟨fun k=>c*s k,n,hs.mul c,fun k=>by rw[gQ,<-bh,h,bh]⟩
theorem Dv.sub{b:Int}{m:List Int}{f g:Nat->Int}(h:Dv b m f)(h':Dv b m g):Dv b m fun k=>f k-g k:=
 (h.add (h'.smul (-1))).congr fun k=>by rw[show f k + -1*g k=f k-g k by omega]
theorem Dv.mul{b:Int}{m:List Int}{f g:Nat->Int}{n:Nat}(hg:Fs g n)(h:Dv b m f):Dv b m (cv g f):=by
 obtain⟨s,n',hs,h⟩:=h;exact⟨cv g s,n+n',hg.cv hs,fun k=>by rw[bQ];exact iZ (fun i _=>rfl) fun i _=>h i⟩
theorem Dv.self{b:Int}{m:List Int}{g:Nat->Int}{n:Nat}(hg:Fs g n):Dv b m (cv g (co m)):=⟨g,n,hg,fun _=>rfl⟩
theorem Dv.short{b:Int}{m:List Int}(hm:Mon m){f:Nat->Int}(hf:Fs f (m.length-1))(h:Dv b m f):∀k,tk b (f k)=0:=by
 obtain⟨s,n,hs,h⟩:=h;have z:=nH (b:=b) hm hs fun k hk=>by rw[<-h,hf k hk,tk0]
 intro k;rw[h,<-tk0 b,<-fK (f:=fun _=>(0:Int)) (g:=co m) (k:=k) fun i _=> .inl rfl];exact iZ (fun i _=>by rw[z,tk0]) fun i _=>rfl
def tp(P:List Int)(a:Nat->Int)(k:Nat):Int:=sm (P.length-1-k) fun i=>co P (k+1+i)*a i
theorem DK(P:List Int)(a:Nat->Int):Fs (tp P a) (P.length-1):=fun k hk=>by unfold tp;rw[show P.length-1-k=0 by omega];rfl
theorem Rx{b:Int}{P:List Int}{a a':Nat->Int}(h:∀n,tk b (a n)=tk b (a' n))(k:Nat):tk b (tp P a k)=tk b (tp P a' k):=jz fun i _=>by rw[<-bh,h,bh]
theorem Ru(P:List Int)(c:Int)(a a':Nat->Int)(k:Nat):tp P (fun n=>c*a n+a' n) k=c*tp P a k+tp P a' k:=by
 unfold tp;rw[<-bG,<-cQ];refine aA fun i _=>?_;rw[Int.mul_add,Int.mul_left_comm]
theorem Jw{b:Int}{P:List Int}(hP:0<P.length){a:Nat->Int}(h0:tk b (ks P a 0)=0)(k:Nat):tk b (if k=0 then 0 else tp P a (k-1))=tk b (tp P (fun n=>a (n+1)) k+a 0*co P k):=by
 by_cases c:k=0
 ·rw[if_pos c,c,tk0,<-h0];refine congrArg (tk b) ?_;unfold ks tp;obtain⟨N,hN⟩:∃N,P.length=N+1:=⟨P.length-1,by omega⟩;rw[hN,dX,Nat.add_sub_cancel,Nat.sub_zero,Int.add_comm,Int.mul_comm (co P 0)];congr 1;exact aA fun i _=>by rw[Nat.zero_add,Nat.zero_add,Nat.add_comm 1 i]
 ·rw[if_neg c];by_cases d:k<P.length
  ·refine congrArg (tk b) ?_;unfold tp;rw[show P.length-1-(k-1)=(P.length-1-k)+1 by omega,dX,Int.add_comm];congr 1
   ·exact aA fun i _=>by rw[show k-1+1+(i+1)=k+1+i by omega]
   ·rw[show k-1+1+0=k by omega,Int.mul_comm]
  ·rw[DK P a (k-1) (by omega),DK P _ k (by omega),bD (by omega),Int.mul_zero];rfl
theorem GD(x:Int)(q:List Int)(f:Nat->Int)(k:Nat):cv (co (x::q)) f k=x*f k+(if k=0 then 0 else cv (co q) f (k-1)):=by
 cases k with
 |zero=>rw[cv,dI,if_pos rfl,Int.add_zero]
 |succ k=>
  rw[cv,dI,if_neg (by omega),Nat.add_sub_cancel];congr 1
theorem ab3(q f:Nat->Int)(k:Nat):(if k=0 then 0 else cv q f (k-1))=cv q (fun i=>if i=0 then 0 else f (i-1)) k:=by
 cases k with
 |zero=>rw[if_pos rfl,cv,if_pos rfl,Int.mul_zero]
 |succ k=>rw[if_neg (by omega),Nat.add_sub_cancel,B3,if_pos rfl,Int.mul_zero,Int.add_zero];rfl
theorem Od(x:Int)(q:List Int)(a:Nat->Int)(n:Nat):ks (x::q) a n=x*a n+ks q (fun n=>a (n+1)) n:=by
 unfold ks;rw[List.length_cons,dX,dI,Nat.add_zero];congr 1
theorem yw{b:Int}{P:List Int}(hP:0<P.length):∀(q:List Int) {a:Nat->Int},Kp b P a->Dv b P fun k=>cv (co q) (tp P a) k-tp P (ks q a) k
 |[],a,_=>(Dv.zero b P).congr fun k=>by
  rw[fK fun i _=> .inl (eU i)];have:tp P (ks [] a) k=0:=iJ fun i _=>by show co P (k+1+i)*0=0;exact Int.mul_zero _
  rw[this];rfl
 |x::q,a,h=>by
  have h1:Kp b P fun n=>a (n+1):=fun n=>by
   have e:ks P (fun n=>a (n+1)) n=ks P a (n+1):=aA fun k _=>by show _*a (n+k+1)=_*a (n+1+k);rw[show n+k+1=n+1+k by omega]
   rw[e];exact h (n+1)
  have ih:=yw hP q h1;have d:=Dv.self (b:=b) (m:=P) ((Fs.co q).mul (a 0));refine(ih.add d).congr fun k=>?_;have e1:tk b (if k=0 then 0 else cv (co q) (tp P a) (k-1))=tk b (cv (co q) (tp P fun n=>a (n+1)) k+a 0*cv (co q) (co P) k):=by
   rw[ab3,<-gQ,iZ (fun i _=>rfl) fun i _=>Jw hP (h 0) i,xY];congr 2;rw[eG,gQ,gQ,eG]
  have e2:tp P (ks (x::q) a) k=x*tp P a k+tp P (ks q fun n=>a (n+1)) k:=by
   rw[<-Ru];unfold tp;exact aA fun i _=>by rw[Od]
  rw[GD,e2,gQ];have e3:=aW e1 (rfl:tk b (-(tp P (ks q fun n=>a (n+1)) k))=_);rw[show x*tp P a k+(if k=0 then 0 else cv (co q) (tp P a) (k-1))-(x*tp P a k+tp P (ks q fun n=>a (n+1)) k)=(if k=0 then 0 else cv (co q) (tp P a) (k-1)) + -(tp P (ks q fun n=>a (n+1)) k)by omega,e3];refine congrArg (tk b) ?_;omega
theorem CG{b:Int}{P:List Int}(hm:Mon P){e:Nat->Int}(h:∀k,tk b (tp P e k)=0):∀n,n<P.length-1->tk b (e n)=0:=fun n=>by
 induction n using Nat.strongRecOn with
 |ind n ih=>
  intro hn;have q:=h (P.length-1-1-n);unfold tp at q;rw[show P.length-1-(P.length-1-1-n)=n+1 by omega,sm]at q;have z:tk b (sm n fun i=>co P (P.length-1-1-n+1+i)*e i)=0:=by
   have:=jz (b:=b) (n:=n) (f:=fun i=>co P (P.length-1-1-n+1+i)*e i) (g:=fun _=>0) fun i hi=>by rw[tk0];exact xV _ (ih i hi (by omega))
   rw[this,gM,tk0]
  rw[<-bJ,z,Int.zero_add,show P.length-1-1-n+1+n=P.length-1 by omega,hm.one,Int.one_mul]at q;exact q
theorem FZ{b:Int}{rule:List Int}{a:Nat->Int}(ha:∀n,rule.length<=n->tk b (a n)=tk b (S rule a n rule.length))(q:List Int):
  Kp b q a↔Dv b (aP b rule) (cv (co q) (tp (aP b rule) a)):=by
 have hm:=dw b rule;have hK:Kp b (aP b rule) a:=Kp.aP ha;have A:=yw hm.pos q hK;constructor
 ·intro h;have z:Dv b (aP b rule) (tp (aP b rule) (ks q a)):=(Dv.zero b _).congr fun k=>by
   have:=Rx (b:=b) (P:=aP b rule) (a:=ks q a) (a':=fun _=>0) (fun n=>by rw[h n,tk0]) k;rw[this];exact(congrArg (tk b) (show tp (aP b rule) (fun _=>0) k=0 from iJ fun i _=>Int.mul_zero _)).symm
  exact(A.add z).congr fun k=>by rw[Int.sub_add_cancel]
 ·intro h;have z:Dv b (aP b rule) (tp (aP b rule) (ks q a)):=(h.sub A).congr fun k=>by
   rw[show cv (co q) (tp (aP b rule) a) k-(cv (co q) (tp (aP b rule) a) k-tp (aP b rule) (ks q a) k)=tp (aP b rule) (ks q a) k by omega]
  have n0:=CG hm (z.short hm (DK _ _));rw[aX,Nat.add_sub_cancel]at n0;exact Ip ha n0
structure Wr(b:Int)(p:List Int)(t:Nat->Int)(g:List Int):Prop where
 mon:Mon g
 one:Dv b g (co p)
 two:Dv b g t
 sum:∃(N:Int) (u v:Nat->Int) (n:Nat),tk b N≠0/\Fs u n/\Fs v n/\∀k,tk b (N*co g k)=tk b (cv u (co p) k+cv v t k)
theorem Dt{b:Int}{m:List Int}(hm:Mon m){p:List Int}(hp:∀k,tk b (co p k)=co p k):∃q r,Div b p m q r:=by
 have go:∀d,d<=p.length-(m.length-1)->∃o l,HW b p m (p.length-(m.length-1)-d) o l:=fun d=>by
  induction d with
  |zero=>intro _;exact⟨_,_,HW.start hp⟩
  |succ d ih=>
   intro hd;obtain⟨o,l,I⟩:=ih (by omega);obtain⟨s,hs⟩:∃s,p.length-(m.length-1)-d=s+1:=⟨p.length-(m.length-1)-d-1,by omega⟩;rw[hs]at I;refine⟨o.set s (co l (s+(m.length-1))),ofF l.length fun k=>lf b (co l (s+(m.length-1))) s m.length l m k,?_⟩;rw[show p.length-(m.length-1)-(d+1)=s by omega];refine I.step hm (by omega) (aM ..) fun k=>?_;rw[bI];by_cases c:k<l.length
   ·rw[if_pos c]
   ·rw[if_neg c];have hl:=I.ll;have hmp:=hm.pos;unfold lf;rw[if_neg (by omega),bD (by omega)]
 obtain⟨o,l,I⟩:=go _ (Nat.le_refl _);rw[Nat.sub_self]at I;exact⟨_,_,I.stop hm⟩
theorem Br{b:Int}(hD:∀x y,tk b x≠0->tk b (x*y)=0->tk b y=0){L:List Int}(hL:Mon L){N:Int}(hN:tk b N≠0){f:Nat->Int}{n:Nat}(hf:Fs f n)(h:Dv b L fun k=>N*f k):Dv b L f:=by
 obtain⟨o,r,D⟩:=Dt (b:=b) hL (p:=ofF n fun k=>tk b (f k)) fun k=>by
  rw[bI];split
  ·exact gC ..
  ·exact tk0 b
 have ef:∀k,tk b (co (ofF n fun k=>tk b (f k)) k)=tk b (f k):=fun k=>by
  rw[bI];by_cases c:k<n
  ·rw[if_pos c,gC]
  ·rw[if_neg c,hf k (by omega)]
 have e:∀k,tk b (f k)=tk b (cv (co o) (co L) k+co r k):=fun k=>by rw[D.eq,ef]
 have z:Dv b L fun k=>N*co r k:=(h.sub ((Dv.self (b:=b) (m:=L) (Fs.co o)).smul N)).congr fun k=>by
  rw[show N*f k-N*cv (co o) (co L) k=N*(f k-cv (co o) (co L) k)by rw[Int.mul_sub],<-bh,<-bh b N (co r k)];congr 2;have:=e k;have q:=aW this (rfl:tk b (-cv (co o) (co L) k)=_);rw[show f k-cv (co o) (co L) k=f k + -cv (co o) (co L) k by omega,q];exact congrArg (tk b) (by omega)
 have hr:Fs (fun k=>N*co r k) (L.length-1):=((Fs.co r).mono (by have:=D.short;omega)).mul N;have z0:=z.short hL hr;refine⟨co o,o.length,Fs.co o,fun k=>?_⟩;rw[e,<-dH,hD N _ hN (z0 k),Int.add_zero]
theorem Wr.keeps{b:Int}(hD:∀x y,tk b x≠0->tk b (x*y)=0->tk b y=0){rule:List Int}{a:Nat->Int}(ha:∀n,rule.length<=n->tk b (a n)=tk b (S rule a n rule.length)){g L:List Int}(h:Wr b (aP b rule) (tp (aP b rule) a) g)(hL:Mon L)
  (hP:∀k,tk b (co (aP b rule) k)=tk b (cv (co L) (co g) k)) (q:List Int):Kp b q a↔Dv b L (co q):=by
 rw[FZ ha q];generalize aP b rule=P at h hP;obtain⟨t,nt,ht,hT⟩:=h.two;obtain⟨N,u,v,n,hN,hu,hv,hs⟩:=h.sum;generalize tp P a=T at h hT hs;have bez:∀k,tk b ((if k=0 then N else 0)-(cv u (co L) k+cv v t k))=0:=by
  refine nH (b:=b) h.mon (n:=1+(n+L.length)+(n+nt)) (fun k hk=>?_) fun k _=>?_
  ·show(if k=0 then N else 0)-(cv u (co L) k+cv v t k)=0;rw[if_neg (by omega),hu.cv (Fs.co L) k (by omega),hv.cv ht k (by omega)];rfl
  ·have e:cv (fun k=>(if k=0 then N else 0)-(cv u (co L) k+cv v t k)) (co g) k=N*co g k + -1*(cv u (cv (co L) (co g)) k+cv v (cv t (co g)) k):=by
    rw[<-bQ,<-bQ,<-fX,<-gQ];have e2:N*co g k=cv (fun k=>if k=0 then N else 0) (co g) k:=by rw[pU,if_pos (Nat.zero_le _),Nat.sub_zero]
    rw[e2,<-fX];refine gh (fun i _=>?_) fun i _=>rfl;omega
   rw[e,<-bJ,hs,bJ];have e3:tk b (cv u (co P) k+cv v T k)=tk b (cv u (cv (co L) (co g)) k+cv v (cv t (co g)) k):=aW (iZ (fun i _=>rfl) fun i _=>hP i) (iZ (fun i _=>rfl) fun i _=>hT i);have e4:=aW e3 (rfl:tk b (-1*(cv u (cv (co L) (co g)) k+cv v (cv t (co g)) k))=_);rw[e4,show ∀x:Int,x + -1*x=0 from fun x=>by omega,tk0]
 constructor
 ·rintro⟨s,ns,hs',e⟩;have qt:∀k,tk b (cv (co q) t k-cv s (co L) k)=0:=by
   refine nH (b:=b) h.mon (n:=(q.length+nt)+(ns+L.length)) (fun k hk=>?_) fun k _=>?_
   ·show cv (co q) t k-cv s (co L) k=0;rw[(Fs.co q).cv ht k (by omega),hs'.cv (Fs.co L) k (by omega)];rfl
   ·have e1:cv (fun k=>cv (co q) t k-cv s (co L) k) (co g) k=cv (co q) (cv t (co g)) k + -1*cv s (cv (co L) (co g)) k:=by
     rw[<-bQ,<-bQ,<-gQ,<-fX];exact gh (fun i _=>by omega) fun i _=>rfl
    have e2:tk b (cv (co q) (cv t (co g)) k)=tk b (cv s (cv (co L) (co g)) k):=by
     rw[<-iZ (fun i _=>rfl) (fun i _=>hT i),e,iZ (fun i _=>rfl) fun i _=>hP i]
    have e3:=aW e2 (rfl:tk b (-1*cv s (cv (co L) (co g)) k)=_);rw[e1,e3,show ∀x:Int,x + -1*x=0 from fun x=>by omega,tk0]
  refine Br hD hL hN (Fs.co q) ?_;refine⟨fun k=>cv (co q) u k+cv v s k,(q.length+n)+(n+ns),((((Fs.co q).cv hu)).mono (by omega)).add ((hv.cv hs').mono (by omega)),fun k=>?_⟩;have e1:tk b (N*co q k)=tk b (cv (fun k=>cv u (co L) k+cv v t k) (co q) k):=by
   have e2:N*co q k=cv (fun k=>if k=0 then N else 0) (co q) k:=by rw[pU,if_pos (Nat.zero_le _),Nat.sub_zero]
   rw[e2];exact iZ (fun i _=>d8.mp (bez i)) fun i _=>rfl
  rw[e1,fX,fX];refine aW ?_ ?_
  ·exact congrArg (tk b) ((eG ..).trans (bQ ..).symm)
  ·rw[bQ,bQ];refine iZ (fun i _=>rfl) fun i _=>?_;rw[eG];exact d8.mp (qt i)
 ·rintro⟨s,ns,hs',e⟩;refine⟨cv s t,ns+nt,hs'.cv ht,fun k=>?_⟩;rw[iZ (fun i _=>e i) (fun i _=>hT i),iZ (f:=cv s t) (fun i _=>rfl) (fun i _=>hP i)];refine congrArg (tk b) ?_;rw[bQ,bQ];refine gh (fun i _=>rfl) fun i _=>?_;rw[<-bQ,<-bQ];exact gh (fun j _=>eG ..) fun j _=>rfl
end Pm
namespace Om
def cC(p:Nat):Prop:=2<=p/\∀d,d∣p->d=1∨d=p
theorem cC.cop{p x:Nat}(h:cC p)(hx:¬p∣x):Nat.Coprime p x:=by
 rcases h.2 _ (Nat.gcd_dvd_left p x)with e|e
 ·exact e
 ·exact absurd (e▸Nat.gcd_dvd_right p x) hx
theorem cC.dvd{p x y:Nat}(h:cC p)(hd:p∣x*y):p∣x∨p∣y:=by
 by_cases c:p∣x
 ·exact .inl c
 ·exact .inr ((h.cop c).dvd_of_dvd_mul_left hd)
def ch:Nat->Nat->Nat
 |_,0=>1
 |0,_+1=>0
 |n+1,k+1=>ch n k+ch n (k+1)
theorem vg(n:Nat):ch n 0=1:=by cases n<;>rfl
theorem vU:∀(n k:Nat),n<k->ch n k=0
 |0,k+1,_=>rfl
 |n+1,k+1,h=>by rw[ch,vU n k (by omega),vU n (k+1) (by omega)]
theorem HN:∀n,ch n n=1
 |0=>rfl
 |n+1=>by rw[ch,HN n,vU n (n+1) (by omega)]
theorem pD:∀n k:Nat,(k+1)*ch (n+1) (k+1)=(n+1)*ch n k
 |0,0=>rfl
 |0,k+1=>by
  have e:ch (0+1) (k+1+1)=ch 0 (k+1)+ch 0 (k+1+1):=rfl;rw[e,vU 0 (k+1) (by omega),vU 0 (k+1+1) (by omega)];simp
 |n+1,0=>by
  have:=pD n 0;have e:ch (n+1+1) (0+1)=ch (n+1) 0+ch (n+1) (0+1):=rfl;simp only[vg]at e⊢;rw[e];rw[vg]at this;omega
 |n+1,k+1=>by
  have h1:=pD n k;have h2:=pD n (k+1);rw[ch,Nat.mul_add];have e1:(k+1+1)*ch (n+1) (k+1)=(n+1)*ch n k+ch (n+1) (k+1):=by rw[Nat.succ_mul,h1]
  rw[e1,h2];have e2:ch (n+1) (k+1)=ch n k+ch n (k+1):=rfl;rw[e2,Nat.succ_mul (n+1),Nat.mul_add];omega
theorem cC.dch{p k:Nat}(h:cC p)(h0:0<k)(hk:k<p):p∣ch p k:=by
 obtain⟨n,rfl⟩:∃n,p=n+1:=⟨p-1,by have:=h.1;omega⟩;obtain⟨j,rfl⟩:∃j,k=j+1:=⟨k-1,by omega⟩;have e:=pD n j;rcases h.dvd (x:=j+1) (y:=Om.ch (n+1) (j+1)) (by rw[e];exact Nat.dvd_mul_right ..)with d|d
 ·exact absurd (Nat.le_of_dvd (by omega) d) (by omega)
 ·exact d
def sN(f:Nat->Nat):Nat->Nat
 |0=>0
 |n+1=>sN f n+f n
theorem Dh{f g:Nat->Nat}:∀{n:Nat},(∀k,k<n->f k=g k)->sN f n=sN g n
 |0,_=>rfl
 |n+1,h=>by rw[sN,sN,Dh fun k hk=>h k (by omega),h n (by omega)]
theorem Lj(f g:Nat->Nat):∀n,sN (fun k=>f k+g k) n=sN f n+sN g n
 |0=>rfl
 |n+1=>by rw[sN,sN,sN,Lj f g n];omega
theorem MF(c:Nat)(f:Nat->Nat):∀n,sN (fun k=>c*f k) n=c*sN f n
 |0=>rfl
 |n+1=>by rw[sN,sN,MF c f n,Nat.mul_add]
theorem wN(f:Nat->Nat):∀n,sN f (n+1)=f 0+sN (fun k=>f (k+1)) n
 |0=>by rw[sN,sN,sN];omega
 |n+1=>by rw[sN,wN f n,sN];omega
theorem LY{p:Nat}{f:Nat->Nat}:∀{n:Nat},(∀k,k<n->p∣f k)->p∣sN f n
 |0,_=>Nat.dvd_zero _
 |n+1,h=>Nat.dvd_add (LY fun k hk=>h k (by omega)) (h n (by omega))
theorem Ro(a:Nat):∀n,(a+1)^n=sN (fun k=>ch n k*a^k) (n+1)
 |0=>by simp[sN,ch]
 |n+1=>by
  rw[Nat.pow_succ,Ro a n,wN (fun k=>ch (n+1) k*a^k) (n+1)];have e1:sN (fun k=>ch (n+1) (k+1)*a^(k+1)) (n+1)=sN (fun k=>a*(ch n k*a^k)) (n+1)+sN (fun k=>ch n (k+1)*a^(k+1)) (n+1):=by
   rw[<-Lj];refine Dh fun k _=>?_;rw[ch,Nat.add_mul,Nat.pow_succ];congr 1;rw[Nat.mul_comm a,Nat.mul_assoc]
  have e2:sN (fun k=>ch n k*a^k) (n+1)=1+sN (fun k=>ch n (k+1)*a^(k+1)) (n+1):=by
   have e3:sN (fun k=>ch n k*a^k) (n+1+1)=sN (fun k=>ch n k*a^k) (n+1):=by rw[sN,vU n (n+1) (by omega),Nat.zero_mul,Nat.add_zero]
   rw[<-e3,wN];rw[vg,Nat.pow_zero]
  rw[e1,MF,vg,Nat.pow_zero,Nat.mul_add,Nat.mul_one,Nat.mul_comm];omega
theorem cC.pow{p:Nat}(h:cC p):∀a:Nat,a^p%p=a%p
 |0=>by rw[Nat.zero_pow (by have:=h.1;omega)]
 |a+1=>by
  obtain⟨n,rfl⟩:∃n,p=n+1:=⟨p-1,by have:=h.1;omega⟩;have e:(a+1)^(n+1)=1+sN (fun k=>ch (n+1) (k+1)*a^(k+1)) n+a^(n+1):=by
   rw[Ro,sN,wN,vg,Nat.pow_zero,HN,Nat.one_mul,Nat.one_mul]
  obtain⟨c,hc⟩:(n+1)∣sN (fun k=>ch (n+1) (k+1)*a^(k+1)) n:=LY fun k hk=>Nat.dvd_trans (h.dch (by omega) (by omega)) (Nat.dvd_mul_right ..);rw[e,hc,show 1+(n+1)*c+a^(n+1)=(a^(n+1)+1)+(n+1)*c by omega,Nat.add_mul_mod_self_left,Nat.add_mod,cC.pow h a,<-Nat.add_mod]
theorem cC.Rg{p a:Nat}(h:cC p)(h0:a≠0)(ha:a<p):a^(p-1)%p=1:=by
 have hp:=h.1;have e:=h.pow a;obtain⟨n,rfl⟩:∃n,p=n+1:=⟨p-1,by omega⟩;rw[Nat.add_sub_cancel];have one:1<=a^n:=Nat.pow_pos (by omega);have d:(n+1)∣a*(a^n-1):=by
  have e2:a*(a^n-1)=a^(n+1)-a:=by rw[Nat.mul_sub,Nat.mul_one,Nat.pow_succ,Nat.mul_comm]
  rw[e2];exact Nat.dvd_of_mod_eq_zero (Nat.sub_mod_eq_zero_of_mod_eq e)
 rcases h.dvd d with d|⟨c,hc⟩
 ·exact absurd (Nat.le_of_dvd (by omega) d) (by omega)
 ·rw[show a^n=1+(n+1)*c by omega,Nat.add_mul_mod_self_left];exact Nat.mod_eq_of_lt (by omega)
end Om
namespace Pm
open Rm
def Kf(f:Nat->Int)(n:Nat)(a:Nat->Int):Prop:=∀m,sm n (fun k=>f k*a (m+k))=0
theorem Kf.less{f:Nat->Int}{n m:Nat}{a:Nat->Int}(h:Kf f m a)(hf:Fs f n)(hm:n<=m):Kf f n a:=fun i=>by
 rw[<-fG (n:=m) hm fun k h1 _=>by rw[hf k h1,Int.zero_mul]];exact h i
theorem Kf.lin{f g:Nat->Int}{n:Nat}{a:Nat->Int}(c d:Int)(h:Kf f n a)(h':Kf g n a):Kf (fun k=>c*f k+d*g k) n a:=fun i=>by
 have e:sm n (fun k=>(c*f k+d*g k)*a (i+k))=c*sm n (fun k=>f k*a (i+k))+d*sm n (fun k=>g k*a (i+k)):=by
  rw[<-bG,<-bG,<-cQ];exact aA fun k _=>by rw[Int.add_mul,Int.mul_assoc,Int.mul_assoc]
 rw[e,h i,h' i];simp
theorem Kf.shift{f:Nat->Int}{n:Nat}{a:Nat->Int}(s:Nat)(h:Kf f n a):Kf (fun k=>if s<=k then f (k-s)else 0) (s+n) a:=fun i=>by
 have e:∀s,sm (s+n) (fun k=>(if s<=k then f (k-s)else 0)*a (i+k))=sm n (fun k=>f k*a (i+s+k)):=fun s=>by
  induction s generalizing i with
  |zero=>rw[Nat.zero_add];exact aA fun k _=>by rw[if_pos (Nat.zero_le _)];rfl
  |succ s ih=>
   rw[show s+1+n=(s+n)+1 by omega,dX,if_neg (by omega),Int.zero_mul,Int.zero_add];rw[show i+(s+1)=(i+1)+s by omega,<-ih (i+1)];refine aA fun k _=>?_;rw[show i+(k+1)=i+1+k by omega];by_cases c:s<=k
   ·rw[if_pos c,if_pos (by omega),show k+1-(s+1)=k-s by omega]
   ·rw[if_neg c,if_neg (by omega)]
 rw[e];exact h _
theorem Kf.div{f:Nat->Int}{n:Nat}{a:Nat->Int}{c:Int}(hc:c≠0)(h:Kf (fun k=>c*f k) n a):Kf f n a:=fun i=>by
 have e:=h i;rw[show(fun k=>c*f k*a (i+k))=fun k=>c*(f k*a (i+k))from funext fun k=>Int.mul_assoc ..,bG]at e;exact(Int.mul_eq_zero.mp e).resolve_left hc
theorem Kf.of{p:List Int}{a:Nat->Int}(h:Kp 0 p a):Kf (co p) p.length a:=fun i=>by
 have:=h i;rw[bH]at this;exact this
theorem KZ:∀n:Nat,2<=n->∃p,Om.cC p/\p∣n:=fun n=>by
 induction n using Nat.strongRecOn with
 |ind n ih=>
  intro hn;by_cases h:∀d,d∣n->d=1∨d=n
  ·exact⟨n,⟨hn,h⟩,Nat.dvd_refl n⟩
  ·obtain⟨d,hd⟩:=Classical.not_forall.mp h;obtain⟨hd,hn1⟩:=Classical.not_imp.mp hd;have h0:d≠0:=fun e=>by rw[e]at hd;have:=Nat.eq_zero_of_zero_dvd hd;omega
   have hl:=Nat.le_of_dvd (by omega) hd;have h1:d≠1:=fun e=>hn1 (.inl e);have h2:d≠n:=fun e=>hn1 (.inr e);obtain⟨p,hp,hq⟩:=ih d (by omega) (by omega);exact⟨p,hp,Nat.dvd_trans hq hd⟩
theorem least_of{Q:Nat->Prop}(h:∃n,Q n):∃n,Q n/\∀m,Q m->n<=m:=by
 obtain⟨n,hn⟩:=h;induction n using Nat.strongRecOn with
 |ind n ih=>
  by_cases c:∃m,m<n/\Q m
  ·obtain⟨m,h1,h2⟩:=c;exact ih m h1 h2
  ·exact⟨n,hn,fun m hm=>by
    by_cases d:m<n
    ·exact absurd ⟨m,d,hm⟩ c
    ·omega⟩
theorem uy{p:Nat}{x:Int}:(p:Int)∣x↔p∣x.natAbs:=Int.ofNat_dvd_left
theorem pH{p:Nat}(hp:Om.cC p){x y:Int}(h:(p:Int)∣x*y):(p:Int)∣x∨(p:Int)∣y:=by
 rw[uy,Int.natAbs_mul]at h;rcases hp.dvd h with h|h
 ·exact .inl (uy.mpr h)
 ·exact .inr (uy.mpr h)
theorem Ls{d:Int}{f:Nat->Int}:∀{n:Nat},(∀k,k<n->d∣f k)->d∣sm n f
 |0,_=>⟨0,by rw[Int.mul_zero];rfl⟩
 |n+1,h=>Int.dvd_add (Ls fun k hk=>h k (by omega)) (h n (by omega))
theorem Jp{d:Int}{f:Nat->Int}{n j:Nat}(hj:j<n)(h:d∣sm n f)(ho:∀k,k<n->k≠j->d∣f k):d∣f j:=by
 have e:sm n f=sm n (fun k=>if k=j then f j else 0)+sm n (fun k=>if k=j then 0 else f k):=by
  rw[<-cQ];refine aA fun k _=>?_;by_cases c:k=j
  ·rw[if_pos c,if_pos c,c,Int.add_zero]
  ·rw[if_neg c,if_neg c,Int.zero_add]
 rw[cX,if_pos hj]at e;have h2:d∣sm n (fun k=>if k=j then 0 else f k):=Ls fun k hk=>by
  by_cases c:k=j
  ·rw[if_pos c];exact⟨0,by rw[Int.mul_zero]⟩
  ·rw[if_neg c];exact ho k hk c
 have:f j=sm n f-sm n (fun k=>if k=j then 0 else f k):=by omega
 rw[this];exact Int.dvd_sub h h2
theorem U7{p:Nat}(hp:Om.cC p){f g:Nat->Int}(h:∀k,(p:Int)∣cv f g k):(∀k,(p:Int)∣f k)∨∀k,(p:Int)∣g k:=by
 by_cases hf:∀k,(p:Int)∣f k
 ·exact .inl hf
 by_cases hg:∀k,(p:Int)∣g k
 ·exact .inr hg
 obtain⟨i,hi,hi'⟩:=least_of (Classical.not_forall.mp hf);obtain⟨j,hj,hj'⟩:=least_of (Classical.not_forall.mp hg);have e:=h (i+j);rw[gO]at e;have t:=Jp (j:=i) (by omega) e fun k hk hne=>by
  by_cases c:k<i
  ·have:(p:Int)∣f k:=Classical.byContradiction fun z=>by have:=hi' k z;omega
   exact Int.dvd_trans this (Int.dvd_mul_right ..)
  ·have:(p:Int)∣g (i+j-k):=Classical.byContradiction fun z=>by have:=hj' _ z;omega
   exact Int.dvd_trans this (Int.dvd_mul_left ..)
 rw[Nat.add_sub_cancel_left]at t;rcases pH hp t with t|t
 ·exact absurd t hi
 ·exact absurd t hj
theorem Fs.top{f:Nat->Int}:∀{n:Nat},Fs f n->(∀k,f k=0)∨∃d,d<n/\f d≠0/\Fs f (d+1)
 |0,h=> .inl fun k=>h k (Nat.zero_le _)
 |n+1,h=>by
  by_cases c:f n=0
  ·have h':Fs f n:=fun k hk=>by
    by_cases e:k=n
    ·rw[e];exact c
    ·exact h k (by omega)
   rcases Fs.top h' with z|⟨d,h1,h2,h3⟩
   ·exact .inl z
   ·exact .inr ⟨d,by omega,h2,h3⟩
  ·exact .inr ⟨n,by omega,c,h⟩
structure Lk(a:Nat->Int)(d:Nat)(f:Nat->Int):Prop where
 fs:Fs f (d+1)
 ne:f d≠0
 kf:Kf f (d+1) a
theorem B6{a f:Nat->Int}{d:Nat}(hf:Lk a d f)(hd:∀e g,Lk a e g->d<=e):∀(n:Nat) (q:Nat->Int),Fs q n->Kf q n a->∃(m:Int) (G:Nat->Int) (N:Nat),m≠0/\Fs G N/\∀k,m*q k=cv G f k:=fun n=>by
 induction n using Nat.strongRecOn with
 |ind n ih=>
  intro q hq hk;rcases hq.top with z|⟨e,hen,hne,hfe⟩
  ·exact⟨1,fun _=>0,0,by decide,fun _ _=>rfl,fun k=>by rw[z k,fK fun i _=> .inl rfl];rfl⟩
  ·have hke:Kf q (e+1) a:=hk.less hfe (by omega);have hde:=hd e q ⟨hfe,hne,hke⟩;have ks:=hf.kf.shift (e-d);rw[show e-d+(d+1)=e+1 by omega]at ks;have kl:=hke.lin (f d) (-(q e)) ks;have fl:Fs (fun k=>f d*q k + -(q e)*(if e-d<=k then f (k-(e-d))else 0)) e:=fun k hk=>by
    show f d*q k + -(q e)*(if e-d<=k then f (k-(e-d))else 0)=0;rw[if_pos (by omega)];by_cases c:k=e
    ·rw[c,show e-(e-d)=d by omega,Int.neg_mul,Int.mul_comm (q e),Int.add_right_neg]
    ·rw[hfe k (by omega),hf.fs (k-(e-d)) (by omega),Int.mul_zero,Int.mul_zero];rfl
   obtain⟨m,G,N,hm,hG,hE⟩:=ih e hen _ fl (kl.less fl (by omega));refine⟨m*f d,fun k=>G k+m*q e*(if k=e-d then 1 else 0),N+(e-d+1),Int.mul_ne_zero hm hf.ne,fun k hk=>?_,fun k=>?_⟩
   ·show G k+m*q e*(if k=e-d then 1 else 0)=0;rw[hG k (by omega),if_neg (by omega),Int.mul_zero];rfl
   ·rw[fX,gQ,pU,<-hE k];by_cases c:e-d<=k
    ·rw[if_pos c,if_pos c,Int.mul_add,Int.one_mul,Int.neg_mul,Int.mul_neg,Int.mul_assoc,Int.mul_assoc,Int.neg_add_cancel_right]
    ·rw[if_neg c,if_neg c,Int.mul_add];simp[Int.mul_assoc]
theorem Z9{a:Nat->Int}{P:List Int}(hP:Mon P)(hk:Kp 0 P a):∃L,Mon L/\Py 0 L/\Kp 0 L a/\L.length<=P.length/\(∀q,Kp 0 q a->Dv 0 L (co q))/\∀e g,Lk a e g->L.length-1<=e:=by
 have hp:=hP.pos;have p0:Lk a (P.length-1) (co P):=⟨by rw[show P.length-1+1=P.length by omega];exact Fs.co P,by rw[hP.one];decide,by rw[show P.length-1+1=P.length by omega];exact Kf.of hk⟩;obtain⟨d,⟨f0,hf0⟩,hd⟩:=least_of (Q:=fun d=>∃f,Lk a d f) ⟨_,_,p0⟩;have hd':∀e g,Lk a e g->d<=e:=fun e g h=>hd e ⟨g,h⟩;obtain⟨c,⟨f,hf,hc⟩,hc'⟩:=least_of (Q:=fun c=>∃f,Lk a d f/\(f d).natAbs=c) ⟨_,f0,hf0,rfl⟩;obtain⟨m0,G0,N0,hm0,hG0,hE0⟩:=B6 hf hd' P.length (co P) (Fs.co P) (Kf.of hk);obtain⟨n,⟨m,G,N,hm,hG,hE,hn⟩,hn'⟩:=least_of (Q:=fun n=>∃(m:Int) (G:Nat->Int) (N:Nat),m≠0/\Fs G N/\(∀k,m*co P k=cv G f k)/\m.natAbs=n) ⟨_,m0,G0,N0,hm0,hG0,hE0,rfl⟩;have h1:m.natAbs=1:=by
  by_cases c2:m.natAbs=1
  ·exact c2
  ·have h0:m.natAbs≠0:=by omega
   obtain⟨p,hp,hd⟩:=KZ m.natAbs (by omega);have hpp:=hp.1;have hp0:(p:Int)≠0:=by omega
   obtain⟨m',em⟩:=uy.mpr hd;have hm':m'≠0:=fun z=>hm (by rw[em,z,Int.mul_zero]);rcases U7 hp (f:=G) (g:=f) fun k=>by rw[<-hE k,em,Int.mul_assoc];exact Int.dvd_mul_right .. with z|z
   ·exfalso
    obtain⟨G',hg⟩:=Classical.skolem.mp z;refine absurd (hn' m'.natAbs ⟨m',G',N,hm',fun k hk=>?_,fun k=>?_,rfl⟩) ?_
    ·have:=hg k;rw[hG k hk]at this;exact(Int.mul_eq_zero.mp this.symm).resolve_left hp0
    ·refine Int.eq_of_mul_eq_mul_left hp0 ?_;rw[<-gQ,<-Int.mul_assoc,<-em,hE k];exact gh (fun i _=>hg i) fun _ _=>rfl
    ·rw[<-hn,em,Int.natAbs_mul,Int.natAbs_natCast];have:0<m'.natAbs:=by omega
     have:2*m'.natAbs<=p*m'.natAbs:=Nat.mul_le_mul_right _ hpp;omega
   ·exfalso
    obtain⟨f',hg⟩:=Classical.skolem.mp z;have e:f=fun k=>p*f' k:=funext fun k=>hg k;have q:Lk a d f':=⟨fun k hk=>by
     have:=hg k;rw[hf.fs k hk]at this;exact(Int.mul_eq_zero.mp this.symm).resolve_left hp0,fun z=>hf.ne (by rw[hg d,z,Int.mul_zero]),by
     have:=hf.kf;rw[e]at this;exact this.div hp0⟩
    refine absurd (hc' _ ⟨_,q,rfl⟩) ?_;have e2:=congrArg Int.natAbs (hg d);rw[Int.natAbs_mul,Int.natAbs_natCast,hc]at e2;have hne:=q.ne;have:0<(f' d).natAbs:=by omega
    have:2*(f' d).natAbs<=p*(f' d).natAbs:=Nat.mul_le_mul_right _ hpp;rw[e2];show ¬p*(f' d).natAbs<=(f' d).natAbs;omega
 have hu:(f d).natAbs=1:=by
  rcases hG.top with z|⟨e,_,hne,hfe⟩
  ·exfalso
   have:=hE (P.length-1);rw[hP.one,Int.mul_one,fK fun i _=> .inl (z i)]at this;exact hm this
  ·have t:cv G f (e+d)=G e*f d:=by
    rw[gO,aA (g:=fun i=>if i=e then G e*f d else 0) fun i _=>by
     by_cases c3:i=e
     ·rw[if_pos c3,c3,Nat.add_sub_cancel_left]
     ·rw[if_neg c3];by_cases c4:i<e
      ·rw[hf.fs _ (by omega),Int.mul_zero]
      ·rw[hfe i (by omega),Int.zero_mul],cX,if_pos (by omega)]
   have hx:G e*f d≠0:=Int.mul_ne_zero hne hf.ne;have e1:=hE (e+d);rw[t]at e1;have hl:e+d=P.length-1:=by
    by_cases c3:P.length<=e+d
    ·rw[bD c3,Int.mul_zero]at e1;exact absurd e1.symm hx
    ·by_cases c4:e+d=P.length-1
     ·exact c4
     ·exfalso
      have e2:=hE (P.length-1);rw[hP.one,Int.mul_one,fK fun i hi=>by
       by_cases c5:e+1<=i
       ·exact .inl (hfe i c5)
       ·exact .inr (hf.fs _ (by omega))]at e2
      exact hm e2
   rw[hl,hP.one,Int.mul_one]at e1;have e3:=congrArg Int.natAbs e1;rw[Int.natAbs_mul,h1]at e3;exact Nat.eq_one_of_mul_eq_one_left e3.symm
 have hs:f d*f d=1:=by
  rcases Int.natAbs_eq (f d)with h|h<;>rw[h,hu]<;>rfl
 have hLc:∀k,co (ofF (d+1) fun k=>f d*f k) k=f d*f k:=fun k=>by
  rw[bI];by_cases c3:k<d+1
  ·rw[if_pos c3]
  ·rw[if_neg c3,hf.fs k (by omega),Int.mul_zero]
 have hM:Mon (ofF (d+1) fun k=>f d*f k):=⟨by rw[aM];omega,by rw[aM,Nat.add_sub_cancel,hLc,hs]⟩;have hK:Kp 0 (ofF (d+1) fun k=>f d*f k) a:=fun i=>by
  rw[bH];unfold ks;rw[aM,aA (g:=fun k=>f d*(f k*a (i+k))) fun k _=>by rw[hLc,Int.mul_assoc],bG,hf.kf i,Int.mul_zero]
 refine⟨ofF (d+1) fun k=>f d*f k,hM,⟨?_,fun x _=>bH x⟩,hK,?_,fun q hq=>?_,fun e g h=>by rw[aM];exact hd' e g h⟩
 ·refine iD (fun z=>?_) (by rw[hM.one];decide);have:=hM.pos;rw[z]at this;exact absurd this (by decide)
 ·rw[aM];have:=hd' _ _ p0;omega
 ·obtain⟨o,r,D⟩:=Dt (b:=0) hM (p:=q) fun k=>bH _;have kr:=(D.kp hK).mp hq;have rn:r=[]:=by
   by_cases c3:r=[]
   ·exact c3
   ·exfalso
    have hl:0<r.length:=List.length_pos_iff.mpr c3;have hne:=vm c3 D.ry.tr;have:=hd' (r.length-1) (co r) ⟨by rw[show r.length-1+1=r.length by omega];exact Fs.co r,hne,by rw[show r.length-1+1=r.length by omega];exact Kf.of kr⟩;have hsh:=D.short;rw[aM]at hsh;omega
  refine⟨co o,o.length,Fs.co o,fun k=>?_⟩;rw[<-D.eq k,rn,eU,Int.add_zero]
end Pm
namespace Dm
open Pm Rm
theorem Et{n:Nat}(f:Nat->Nat->Int)(x:Nat->Int){j:Nat}(hj:j<n):det n (mF f j fun i=>sm n fun k=>f i k*x k)=x j*det n f:=by
 have e0:(fun i=>sm n fun k=>f i k*x k)=fun i=>sm n fun k=>x k*f i k:=funext fun i=>aA fun k _=>Int.mul_comm ..;rw[e0,rR f hj x (fun k i=>f i k)];have e2:sm n (fun k=>x k*det n (mF f j fun i=>f i k))=sm n (fun k=>if k=j then x j*det n f else 0):=aA fun k hk=>by
  by_cases c:k=j
  ·rw[if_pos c,c,qI]
  ·rw[if_neg c];have z:det n (mF f j fun i=>f i k)=0:=by
    rcases Nat.lt_or_gt_of_ne c with l|l
    ·exact qu l hj fun i _=>by rw[gq,lH (by omega)]
    ·exact qu l hk fun i _=>by rw[gq,lH (by omega)]
   rw[z,Int.mul_zero]
 rw[e2,cX,if_pos hj]
theorem QM{b:Int}{n:Nat}{f:Nat->Nat->Int}{x:Nat->Int}(h:Rel b n n f x){j:Nat}(hj:j<n):tk b (x j*det n f)=0:=by
 have hx:∀i,∃e,i<n->(sm n fun k=>f i k*x k)=b*e:=fun i=>by
  by_cases c:i<n
  ·obtain⟨e,he⟩:=fB.mp (h i c);exact⟨e,fun _=>he⟩
  ·exact⟨0,fun z=>absurd z c⟩
 obtain⟨e,he⟩:=Classical.skolem.mp hx;rw[<-Et f x hj];have e1:det n (mF f j fun i=>sm n fun k=>f i k*x k)=det n (mF f j fun i=>b*e i+0):=cG fun i k hi _=>by
  unfold mF;split
  ·show(sm n fun k=>f i k*x k)=b*e i+0;rw[he i hi,Int.add_zero]
  ·rfl
 rw[e1,ji f hj b e (fun _=>0),oN f hj,Int.add_zero];exact fB.mpr ⟨_,rfl⟩
theorem Ef{b:Int}{n:Nat}{f:Nat->Nat->Int}(hD:Dom b)(h:tk b (det n f)≠0):Ind b n n f:=fun x hx k hk=>
 hD (det n f) (x k) h (by rw[Int.mul_comm];exact QM hx hk)
structure Cp(b:Int)(n:Nat)(A0:Nat->Nat->Int)(c:Nat)(A:Nat->Nat->Int)(hd:Nat->Nat)(r:Nat):Prop where
 sw:Swp n A0 A
 nz:tk b (dt A hd r)≠0
 rn:r<=n
 hc:∀h,h<r->hd h<c
 up:∀h h',h<h'->h'<r->hd h<hd h'
 zero:∀k,k<c->(∀h,h<r->hd h≠k)->∀i,r<=i->i<n->tk b (En A hd r i k)=0
theorem Cp.bring{b:Int}{n:Nat}{A0:Nat->Nat->Int}{c:Nat}{A:Nat->Nat->Int}{hd:Nat->Nat}{r:Nat}(h:Cp b n A0 c A hd r){a:Nat}(hra:r<a)(han:a<n):Cp b n A0 c (turn A r a) hd r:=
 ⟨.step h.sw hra han,by rw[Gh (Nat.le_refl _) (by omega)];exact h.nz,h.rn,h.hc,h.up,fun k hk hn i h1 h2=>by
  rw[Il (Nat.le_refl _) hra];split
  ·exact h.zero k hk hn a (by omega) han
  ·split
   ·exact sE (h.zero k hk hn r (Nat.le_refl _) (by omega))
   ·exact h.zero k hk hn i h1 h2⟩
theorem Cp.free{b:Int}{n:Nat}{A0:Nat->Nat->Int}{c:Nat}{A:Nat->Nat->Int}{hd:Nat->Nat}{r:Nat}(h:Cp b n A0 c A hd r)(hD:Dom b)(hrn:r<n)(hp:tk b (En A hd r r c)≠0):Cp b n A0 (c+1) A (more hd r c) (r+1):=by
 have hpi:En A hd r r c≠0:=fun z=>hp (by rw[z];exact tk0 b);have ml:∀j,j<r->more hd r c j=hd j:=fun j hj=>if_neg (by omega);have me:more hd r c r=c:=if_pos rfl;refine⟨h.sw,by rw[Ou];exact hp,by omega,fun j hj=>?_,fun j j' h1 h2=>?_,fun k hk hn i h1 h2=>?_⟩
 ·by_cases e:j=r
  ·rw[e,me];omega
  ·rw[ml j (by omega)];have:=h.hc j (by omega);omega
 ·by_cases e:j'=r
  ·rw[e,me,ml j (by omega)];exact h.hc j (by omega)
  ·rw[ml j' (by omega),ml j (by omega)];exact h.up j j' h1 (by omega)
 ·have hkc:k≠c:=fun e=>hn r (by omega) (by rw[me,e]);have hn':∀j,j<r->hd j≠k:=fun j hj=>by rw[<-ml j hj];exact hn j (by omega)
  refine hD _ _ h.nz ?_;rw[Oh hpi (by omega)];exact Ny (HM _ (h.zero k (by omega) hn' i (by omega) h2)) (HM _ (h.zero k (by omega) hn' r (Nat.le_refl _) hrn))
theorem Cp.step{b:Int}{n:Nat}{A0:Nat->Nat->Int}{c:Nat}{A:Nat->Nat->Int}{hd:Nat->Nat}{r:Nat}(h:Cp b n A0 c A hd r)(hD:Dom b):∃A hd r,Cp b n A0 (c+1) A hd r:=by
 by_cases z:∀i,r<=i->i<n->tk b (En A hd r i c)=0
 ·refine⟨A,hd,r,h.sw,h.nz,h.rn,fun j hj=>by have:=h.hc j hj;omega,h.up,fun k hk hn i h1 h2=>?_⟩;by_cases e:k=c
  ·rw[e];exact z i h1 h2
  ·exact h.zero k (by omega) hn i h1 h2
 ·obtain⟨i,hi⟩:=Classical.not_forall.mp z;obtain⟨h1,hi⟩:=Classical.not_imp.mp hi;obtain⟨h2,hi⟩:=Classical.not_imp.mp hi;by_cases e:i=r
  ·rw[e]at hi;exact⟨_,_,_,h.free hD (by omega) hi⟩
  ·refine⟨_,_,_,(h.bring (a:=i) (by omega) h2).free hD (by omega) ?_⟩;rw[Il (Nat.le_refl _) (by omega),if_pos rfl];exact hi
theorem Cp.ex{b:Int}(hD:Dom b)(h1:tk b 1≠0)(n:Nat)(A0:Nat->Nat->Int):∀c,∃A hd r,Cp b n A0 c A hd r
 |0=>⟨A0,fun _=>0,0,.refl,by rw[O9];exact h1,Nat.zero_le _,fun h hh=>absurd hh (Nat.not_lt_zero _),fun _ _ _ h=>absurd h (Nat.not_lt_zero _),fun k hk=>absurd hk (Nat.not_lt_zero _)⟩
 |c+1=>by
  obtain⟨A,hd,r,h⟩:=Cp.ex hD h1 n A0 c;exact h.step hD
theorem G9{hd:Nat->Nat}{r m:Nat}(hc:∀h,h<r->hd h<m)(up:∀h h',h<h'->h'<r->hd h<hd h')(sur:∀k,k<m->∃j,j<r/\hd j=k):r=m/\∀k,k<m->hd k=k:=by
 have ge:∀j,j<r->j<=hd j:=fun j=>by
  induction j with
  |zero=>intro _;exact Nat.zero_le _
  |succ j ih=>
   intro hj;have:=ih (by omega);have:=up j (j+1) (by omega) hj;omega
 have all:∀k,k<m->k<r/\hd k=k:=fun k=>by
  induction k using Nat.strongRecOn with
  |ind k ih=>
   intro hk;obtain⟨j,hj,e⟩:=sur k hk;have g:=ge j hj;by_cases c:j=k
   ·rw[<-c];exact⟨hj,by rw[e,c]⟩
   ·have:=(ih j (by omega) (by omega)).2;omega
 refine⟨?_,fun k hk=>(all k hk).2⟩;by_cases c:r<=m
 ·by_cases c2:r=m
  ·exact c2
  ·have:=(all r (by omega)).1;omega
 ·have:=hc m (by omega);have:=ge m (by omega);omega
theorem Ea{b:Int}{n:Nat}{A0:Nat->Nat->Int}(hD:Dom b)(h1:tk b 1≠0)(hI:Ind b n n A0):tk b (det n A0)≠0:=by
 obtain⟨A,hd,r,h⟩:=Cp.ex hD h1 n A0 n;have H:=G9 h.hc h.up fun k hk=>by
  by_cases c:∃j,j<r/\hd j=k
  ·exact c
  ·exfalso
   have hn:∀j,j<r->hd j≠k:=fun j hj e=>c ⟨j,hj,e⟩;have R:=Jm (A:=A) (hd:=hd) (r:=r) (m:=n) (k:=k) (b:=b) (n:=n) h.hc hk (h.zero k hk hn);have z:=hI _ (h.sw.rel.mpr R) k hk;rw[if_pos rfl,iJ (fun j hj=>by rw[if_neg (fun e=>hn j hj e.symm)]),Int.zero_sub]at z;have:=sE z;rw[Int.neg_neg]at this;exact h.nz this
 obtain⟨e,H⟩:=H;subst e;rw[<-h.sw.det];have:=h.nz;have q:dt A hd r=det r A:=cG fun i k _ hk=>by unfold Bk;rw[H k hk]
 rwa [q]at this
end Dm
namespace Dm
open Pm Rm
def hk(a:Nat->Int):Nat->Nat->Int:=fun i j=>a (i+j)
theorem QG(x a:Nat->Int)(l i:Nat):sm l (fun k=>hk a i k*x k)=ks (ofF l x) a i:=by
 unfold ks;rw[aM];refine aA fun k hk'=>?_;rw[bI,if_pos hk',Int.mul_comm];rfl
theorem Oa{b:Int}(hD:Dom b)(h1:tk b 1≠0){L:List Int}{a:Nat->Int}(hL:Mon L)(hw:∀k,tk b (co L k)=co L k)(hK:Kp b L a)(hm:∀q,Kp b q a->Dv b L (co q)):tk b (det (L.length-1) (hk a))≠0:=by
 refine Ea hD h1 fun x hx k hk'=>?_;have e:=lX hw hL;have ha:∀n,(cL b L).length<=n->tk b (a n)=tk b (S (cL b L) a n (cL b L).length):=Kp.rec (by rw[e];exact hK);have hq:Kp b (ofF (L.length-1) x) a:=Ip ha fun n hn=>by
  rw[dR]at hn;rw[<-QG];exact hx n hn
 have z:=(hm _ hq).short hL (by have:=Fs.co (ofF (L.length-1) x);rwa [aM]at this) k
 rwa [bI,if_pos hk']at z
theorem Ej{b:Int}(hD:Dom b){l:Nat}{a:Nat->Int}(h:tk b (det l (hk a))≠0){q:List Int}(hq:q.length<=l)(hK:Kp b q a):∀k,tk b (co q k)=0:=fun k=>by
 have hI:=Ef hD h (co q) fun i hi=>by
  rw[QG];have e:ks (ofF l (co q)) a i=ks q a i:=by
   rw[<-mZ q a i hq];unfold ks;rw[aM];exact aA fun k hk'=>by rw[bI,if_pos hk']
  rw[e];exact hK i
 by_cases c:k<l
 ·exact hI k c
 ·rw[bD (by omega),tk0]
theorem Dom.pr{p:Nat}(hp:Om.cC p):Dom (p:Int):=fun x y hx h=>by
 have h2:=hp.1;obtain⟨e,he⟩:=fB.mp h;rcases pH hp (x:=x) (y:=y) ⟨e,he⟩with⟨z,hz⟩|⟨z,hz⟩
 ·exact absurd (fB.mpr ⟨z,hz⟩) hx
 ·exact fB.mpr ⟨z,hz⟩
end Dm
namespace Pm
open Rm Dm
structure GcZ(P:List Int)(T:Nat->Int)(g:List Int)(N:Int):Prop where
 mon:Mon g
 py:Py 0 g
 ne:N≠0
 one:Dv 0 g (co P)
 two:Dv 0 g T
 all:∀h:List Int,Mon h->Dv 0 h (co P)->Dv 0 h T->Dv 0 h (co g)
 good:∀(p:Nat) (s:List Int),Om.cC p->¬(p:Int)∣N->Mon s->Dv p s (co P)->Dv p s T->s.length<=g.length
theorem Dv.by{b:Int}{m:List Int}{f:Nat->Int}(h:Dv 0 m f):Dv b m f:=by
 obtain⟨s,n,hs,h⟩:=h;exact⟨s,n,hs,fun k=>by have:=h k;rw[bH,bH]at this;rw[this]⟩
theorem Dv.len{b:Int}(h1:tk b 1=1){m p:List Int}(hm:Mon m)(hp:Mon p)(h:Dv b m (co p)):m.length<=p.length:=by
 by_cases c:m.length<=p.length
 ·exact c
 ·exfalso
  have:=h.short hm ((Fs.co p).mono (by omega)) (p.length-1);rw[hp.one,h1]at this;exact absurd this (by decide)
theorem pC{b:Int}(h1:tk b 1=1){P g:List Int}(hP:Mon P)(hg:Mon g)(h:Dv b g (co P)):∃L:List Int,Mon L/\(∀k,tk b (co L k)=co L k)/\L.length+g.length=P.length+1/\∀k,tk b (co P k)=tk b (cv (co L) (co g) k):=by
 have hl:=h.len h1 hg hP;have hp:=hP.pos;have hgp:=hg.pos;obtain⟨s,n,hs,h⟩:=h;have key:∀d j,n<=j+d->P.length-g.length<j->tk b (s j)=0:=fun d=>by
  induction d with
  |zero=>intro j hj _;rw[hs j hj,tk0]
  |succ d ih=>
   intro j hj hj2;have e:=h (j+(g.length-1));rw[bD (by omega),tk0,gO]at e;have e2:tk b (sm (j+(g.length-1)+1) fun i=>s i*co g (j+(g.length-1)-i))=tk b (sm (j+(g.length-1)+1) fun i=>if i=j then s j else 0):=jz fun i hi=>by
    by_cases c:i=j
    ·rw[if_pos c,c,Nat.add_sub_cancel_left,hg.one,Int.mul_one]
    ·rw[if_neg c,tk0];by_cases d2:i<j
     ·rw[bD (by omega),Int.mul_zero,tk0]
     ·rw[Int.mul_comm];exact xV _ (ih i (by omega) (by omega))
   rw[e2,cX,if_pos (by omega)]at e;exact e.symm
 have z:∀k,P.length-g.length<k->tk b (s k)=0:=fun k hk=>key n k (by omega) hk;have t1:tk b (s (P.length-g.length))=1:=by
  have e:=h (P.length-1);rw[hP.one,h1,gO]at e;have e2:tk b (sm (P.length-1+1) fun i=>s i*co g (P.length-1-i))=tk b (sm (P.length-1+1) fun i=>if i=P.length-g.length then s (P.length-g.length)else 0):=jz fun i hi=>by
   by_cases c:i=P.length-g.length
   ·rw[if_pos c,c,show P.length-1-(P.length-g.length)=g.length-1 by omega,hg.one,Int.mul_one]
   ·rw[if_neg c,tk0];by_cases d2:i<P.length-g.length
    ·rw[bD (by omega),Int.mul_zero,tk0]
    ·rw[Int.mul_comm];exact xV _ (z i (by omega))
  rw[e2,cX,if_pos (by omega)]at e;exact e.symm
 have hc:∀k,co (ofF (P.length-g.length+1) fun k=>tk b (s k)) k=tk b (s k):=fun k=>by
  rw[bI];by_cases c:k<P.length-g.length+1
  ·rw[if_pos c]
  ·rw[if_neg c,z k (by omega)]
 refine⟨ofF (P.length-g.length+1) fun k=>tk b (s k),⟨by rw[aM];omega,?_⟩,fun k=>?_,by rw[aM];omega,fun k=>?_⟩
 ·rw[aM,Nat.add_sub_cancel,hc,t1]
 ·rw[hc,gC]
 ·rw[h k];exact iZ (fun i _=>by rw[hc,gC]) fun i _=>rfl
theorem tH{b:Int}{P:List Int}(hP:Mon P)(k:Nat):tk b (co P k)=tk b (co (aP b (cL b P)) k):=by
 have hp:=hP.pos;rw[aP,bY,aM,dR];by_cases c:k<P.length-1
 ·rw[if_pos c,bI,if_pos c,cL,bI,if_pos (by omega),sG,gC];rw[show P.length-1-1-(P.length-1-1-k)=k by omega]
 ·rw[if_neg c];by_cases d:k=P.length-1
  ·rw[d,hP.one,Nat.sub_self];rfl
  ·rw[bD (by omega),bD (by simp;omega)]
theorem keepsP{b:Int}{P:List Int}{a:Nat->Int}(hm:Mon P)(hK:Kp b P a)(q:List Int):Kp b q a↔Dv b P (cv (co q) (tp P a)):=by
 have A:=yw hm.pos q hK;constructor
 ·intro h;have z:Dv b P (tp P (ks q a)):=(Dv.zero b _).congr fun k=>by
   have:=Rx (b:=b) (P:=P) (a:=ks q a) (a':=fun _=>0) (fun n=>by rw[h n,tk0]) k;rw[this];exact(congrArg (tk b) (show tp P (fun _=>0) k=0 from iJ fun i _=>Int.mul_zero _)).symm
  exact(A.add z).congr fun k=>by rw[Int.sub_add_cancel]
 ·intro h;have z:Dv b P (tp P (ks q a)):=(h.sub A).congr fun k=>by
   rw[show cv (co q) (tp P a) k-(cv (co q) (tp P a) k-tp P (ks q a) k)=tp P (ks q a) k by omega]
  have n0:=CG hm (z.short hm (DK _ _));have ha:∀n,(cL b P).length<=n->tk b (a n)=tk b (S (cL b P) a n (cL b P).length):=Kp.rec (hK.congr (tH hm));exact Ip ha fun n hn=>n0 n (by rw[dR]at hn;exact hn)
theorem CY{b:Int}{m:List Int}(hm:Mon m){f g:Nat->Int}{n n':Nat}(hf:Fs f n)(hg:Fs g n')(h:∀k,tk b (cv f (co m) k)=tk b (cv g (co m) k)):∀k,tk b (f k)=tk b (g k):=fun k=>by
 refine d8.mp (nH (b:=b) hm (f:=fun k=>f k-g k) (n:=n+n') (fun k hk=>?_) (fun k _=>?_) k)
 ·show f k-g k=0;rw[hf k (by omega),hg k (by omega)];rfl
 ·have e:cv (fun k=>f k-g k) (co m) k=cv f (co m) k + -1*cv g (co m) k:=by
   rw[<-gQ,<-fX];exact gh (fun i _=>by omega) fun i _=>rfl
  rw[e,aW (h k) rfl,show ∀x:Int,x + -1*x=0 from fun x=>by omega,tk0]
theorem Gr{P:List Int}{a:Nat->Int}(hP:Mon P)(hK:Kp 0 P a):∃g L,Mon L/\Py 0 L/\Kp 0 L a/\(∀q,Kp 0 q a->Dv 0 L (co q))/\L.length+g.length=P.length+1/\(∀k,co P k=cv (co L) (co g) k)/\GcZ P (tp P a) g (det (L.length-1) (hk a)):=by
 obtain⟨L,hL,hLy,hKL,hLP,hall,_⟩:=Z9 hP hK;obtain⟨g,hg,hgy,hlen,hE⟩:=pC (b:=0) rfl hP hL (hall P hK);have hE':∀k,co P k=cv (co g) (co L) k:=fun k=>by have:=hE k;rwa [bH,bH]at this
 have hgP:Py 0 g:=⟨iD (fun z=>by have:=hg.pos;rw[z]at this;exact absurd this (by decide)) (by rw[hg.one];decide),fun x _=>bH x⟩;have hLp:=hL.pos;have hgp:=hg.pos;refine⟨g,L,hL,hLy,hKL,hall,by omega,fun k=>by rw[hE',eG],hg,hgP,?_,⟨co L,L.length,Fs.co L,fun k=>by rw[hE',eG]⟩,?_,fun h hh h1 h2=>?_,fun p s hp hN hs h1 h2=>?_⟩
 ·have:=Oa Dom.zero (by decide) hL (fun k=>bH _) hKL hall
  rwa [bH]at this
 ·obtain⟨s,n,hs,e⟩:=(keepsP hP hK L).mp hKL;refine⟨s,n,hs,CY hL (DK P a) (hs.cv (Fs.co g)) fun k=>?_⟩;rw[eG,e k,bQ];exact congrArg (tk 0) (gh (fun _ _=>rfl) fun i _=>hE' i)
 ·obtain⟨A,hA,hAy,hAl,hAe⟩:=pC (b:=0) rfl hP hh h1;obtain⟨B,nB,hB,hBe⟩:=h2;have hKA:Kp 0 A a:=(keepsP hP hK A).mpr ⟨B,nB,hB,fun k=>by
   have e1:tk 0 (cv (co A) (tp P a) k)=tk 0 (cv (co A) (cv B (co h)) k):=iZ (fun _ _=>rfl) fun i _=>hBe i;have e2:tk 0 (cv B (co P) k)=tk 0 (cv B (cv (co A) (co h)) k):=iZ (fun _ _=>rfl) fun i _=>hAe i;rw[e1,e2,<-bQ,<-bQ];exact congrArg (tk 0) (gh (fun i _=>eG ..) fun _ _=>rfl)⟩
  obtain⟨C,nC,hC,hCe⟩:=hall A hKA;refine⟨C,nC,hC,CY hL (Fs.co g) (hC.cv (Fs.co h)) fun k=>?_⟩;rw[<-hE',hAe k,iZ (fun i _=>hCe i) fun _ _=>rfl,bQ,bQ];exact congrArg (tk 0) (gh (fun _ _=>rfl) fun i _=>eG ..)
 ·have hp2:=hp.1;have hp1:tk (p:Int) 1=1:=by rw[iG (by omega)];exact Int.emod_eq_of_lt (by decide) (by omega)
  obtain⟨A,hA,hAy,hAl,hAe⟩:=pC (b:=p) hp1 hP hs h1;obtain⟨B,nB,hB,hBe⟩:=h2;have hKp:Kp p P a:=fun n=>by have:=hK n;rw[bH]at this;rw[this,tk0]
  have hKA:Kp p A a:=(keepsP hP hKp A).mpr ⟨B,nB,hB,fun k=>by
   have e1:tk p (cv (co A) (tp P a) k)=tk p (cv (co A) (cv B (co s)) k):=iZ (fun _ _=>rfl) fun i _=>hBe i;have e2:tk p (cv B (co P) k)=tk p (cv B (cv (co A) (co s)) k):=iZ (fun _ _=>rfl) fun i _=>hAe i;rw[e1,e2,<-bQ,<-bQ];exact congrArg (tk p) (gh (fun i _=>eG ..) fun _ _=>rfl)⟩
  by_cases c:A.length<=L.length-1
  ·exfalso
   have z:=Ej (Dom.pr hp) (fun z=>hN (fB.mp z)) c hKA (A.length-1);rw[hA.one,hp1]at z;exact absurd z (by decide)
  ·omega
end Pm
namespace Pm
open Rm Dm
theorem QZ{p:Int}(hp:p≠0){x y:Int}:tk p x=tk p y↔p∣x-y:=by
 rw[<-d8,fB];exact⟨fun⟨e,h⟩=>⟨e,h⟩,fun⟨e,h⟩=>⟨e,h⟩⟩
theorem G8{p:Nat}(hp:Om.cC p):tk (p:Int) 1=1:=by
 have:=hp.1;rw[iG (by omega)];exact Int.emod_eq_of_lt (by decide) (by omega)
theorem Dv.same{b:Int}(h1:tk b 1=1){m p:List Int}(hm:Mon m)(hp:Mon p)(h:Dv b m (co p))(hl:m.length=p.length)(k:Nat):tk b (co p k)=tk b (co m k):=by
 obtain⟨L,hL,_,hlen,e⟩:=pC h1 hp hm h;have hm0:=hm.pos;have h2:L.length=1:=by omega
 have e0:co L 0=1:=by have:=hL.one;rwa [h2]at this
 rw[e k];refine congrArg (tk b) ?_;rw[gO,fG (m:=1) (by omega) fun j h3 _=>by rw[bD (p:=L) (by omega),Int.zero_mul]];simp[sm,e0]
structure Seen(g:List Int)(N:Int)(p:Nat)(s:List Int):Prop where
 mon:Mon s
 nu:∀k,tk (p:Int) (co s k)=co s k
 ge:g.length<=s.length
 eq:s.length=g.length->∀k,(p:Int)∣co s k-co g k
 good:¬(p:Int)∣N->s.length=g.length
theorem In2.to{b:Int}{g p q:List Int}(h:In2 b g [] p)(e:∀k,tk b (co p k)=tk b (co q k)):Dv b g (co q):=by
 obtain⟨u,h⟩:=h.dv;exact⟨co u,u.length,Fs.co u,fun k=>by rw[<-e,h]⟩
theorem GcZ.seen{P t g:List Int}{N:Int}(h:GcZ P (co t) g N){p:Nat}(hp:Om.cC p){P' t' s:List Int}(eP:∀k,tk (p:Int) (co P' k)=tk p (co P k))(et:∀k,tk (p:Int) (co t' k)=tk p (co t k))(hs:Gcd p P' t' s):Seen g N p s:=by
 have h2:=hp.1;have h1:=G8 hp;have d1:Dv p s (co P):=hs.one.to eP;have d2:Dv p s (co t):=hs.two.to et;have d3:Dv p g (co s):=by
  obtain⟨u,v,e⟩:=hs.sum;refine((((h.one.by (b:=p))).mul (Fs.co u)).add ((h.two.by (b:=p)).mul (Fs.co v))).congr fun k=>?_;rw[e];exact aW (iZ (fun _ _=>rfl) fun i _=>(eP i).symm) (iZ (fun _ _=>rfl) fun i _=>(et i).symm)
 have hge:=d3.len h1 h.mon hs.mon;exact⟨hs.mon,hs.py.co,hge,fun e k=>(QZ (by omega)).mp (d3.same h1 h.mon hs.mon e.symm k),fun z=>by
  have:=h.good p s hp z hs.mon d1 d2;omega⟩
theorem GcZ.told{P t g h:List Int}{N:Int}(H:GcZ P (co t) g N)(hh:Mon h)(h1:Dv 0 h (co P))(h2:Dv 0 h (co t))(hl:g.length<=h.length):h=g:=by
 have d:=H.all h hh h1 h2;have:=d.len rfl hh H.mon;exact j9 (by omega) fun k=>by have:=d.same rfl hh H.mon (by omega) k;rw[bH,bH]at this;exact this.symm
def nr(M x:Int):Int:=if 2*(x%M)>M then x%M-M else x%M
def Nr(M x:Int):Prop:=-M<2*x/\2*x<=M
theorem Cy(M x:Int):M∣nr M x-x:=by
 have e:=Int.emod_add_mul_ediv x M;unfold nr;split
 ·exact⟨-(x/M)-1,by rw[Int.mul_sub,Int.mul_neg];omega⟩
 ·exact⟨-(x/M),by rw[Int.mul_neg];omega⟩
theorem Bf{M:Int}(hM:0<M)(x:Int):Nr M (nr M x):=by
 have h0:=Int.emod_nonneg x (show M≠0 by omega);have h1:=Int.emod_lt_of_pos x hM;unfold nr Nr;split<;>omega
theorem Nr.eq{M x y:Int}(hM:0<M)(hx:Nr M x)(hy:Nr M y)(h:M∣x-y):x=y:=by
 obtain⟨c,hc⟩:=h;unfold Nr at hx hy;by_cases c0:c=0
 ·rw[c0,Int.mul_zero]at hc;omega
 ·exfalso
  rcases Int.lt_or_gt_of_ne c0 with l|l
  ·have:M*c<=M*(-1):=Int.mul_le_mul_of_nonneg_left (by omega) (by omega);omega
  ·have:M*1<=M*c:=Int.mul_le_mul_of_nonneg_left (by omega) (by omega);omega
theorem SN{M:Int}(hM:2<=M){x:Int}(h:M∣x-1):nr M x=1:=Nr.eq (M:=M) (by omega) (Bf (by omega) x) (by unfold Nr;omega) (by
 have:=Int.dvd_add (Cy M x) h
 rwa [show nr M x-x+(x-1)=nr M x-1 by omega]at this)
theorem wQ{M:Int}{p:Nat}(hp:Om.cC p)(hM:¬(p:Int)∣M){x:Int}(h1:M∣x)(h2:(p:Int)∣x):M*p∣x:=by
 obtain⟨y,rfl⟩:=h1;rcases pH hp h2 with z|⟨e,he⟩
 ·exact absurd z hM
 ·exact⟨e,by rw[he,Int.mul_assoc]⟩
structure WgI(P g:List Int)(N:Int)(told:List Int)(M:Int)(prime:Nat)(ripe:Bool)(bad good:Nat):Prop where
 mon:Mon told
 ge:g.length<=told.length
 le:told.length<=P.length
 pos:0<M
 div:∀q:Nat,Om.cC q->(q:Int)∣M->q<=prime
 XO:told.length=g.length->∀k,M∣co told k-co g k
 near:M≠1->∀k,Nr M (co told k)
 Qc:∃X:Nat,(X:Int)∣N/\2^(19*bad)<=X/\∀q:Nat,Om.cC q->q∣X->q<=prime
 Fl:0<good->told.length=g.length/\2^(19*good)<=M
 TN:2<=good->(∀k,2*(co g k).natAbs<2^(19*(good-1)))->ripe=true/\told=g
 hi:M<=2^(21*(bad+good))
 first:M=1->told=P
theorem WgI.start{P g:List Int}{N:Int}(hP:Mon P)(hl:g.length<=P.length)(prime:Nat):WgI P g N P 1 prime true 0 0:=
 ⟨hP,hl,Nat.le_refl _,by decide,fun q hq h=>by
  have:=hq.1;have h3:=Int.le_of_dvd (by decide) h;omega,fun _ k=>⟨_,(Int.one_mul _).symm⟩,fun h=>absurd rfl h,⟨1,⟨N,(Int.one_mul N).symm⟩,by decide,fun q hq h=>by
  have:=hq.1;have h3:=Nat.le_of_dvd (by decide) h;omega⟩,fun h=>absurd h (by decide),fun h=>absurd h (by decide),by decide,fun _=>rfl⟩
theorem um{N:Int}{prime p bad:Nat}(hp:Om.cC p)(hlt:prime<p)(hbig:2^19<=p)(hN:(p:Int)∣N)(h:∃X:Nat,(X:Int)∣N/\2^(19*bad)<=X/\∀q:Nat,Om.cC q->q∣X->q<=prime):
  ∃X:Nat,(X:Int)∣N/\2^(19*(bad+1))<=X/\∀q:Nat,Om.cC q->q∣X->q<=p:=by
 obtain⟨X,h1,h2,h3⟩:=h;refine⟨X*p,?_,?_,fun q hq hd=>?_⟩
 ·have:=wQ (M:=(X:Int)) hp (fun z=>by have:=h3 p hp (Int.ofNat_dvd.mp z);omega) h1 hN
  rwa [Int.natCast_mul]
 ·rw[Nat.mul_add,Nat.pow_add];exact Nat.mul_le_mul h2 hbig
 ·rcases hq.dvd hd with z|z
  ·have:=h3 q hq z;omega
  ·exact Nat.le_of_dvd (by omega) z
theorem WgI.stay{P g told s:List Int}{N M:Int}{prime p bad good:Nat}{ripe:Bool}(h:WgI P g N told M prime ripe bad good)(hp:Om.cC p)(hlt:prime<p)(hbig:2^19<=p)(hs:Seen g N p s)(hl:told.length<s.length):WgI P g N told M p ripe (bad+1) good:=by
 have hN:(p:Int)∣N:=Classical.byContradiction fun z=>by have:=hs.good z;have:=h.ge;omega
 exact⟨h.mon,h.ge,h.le,h.pos,fun q hq hd=>by have:=h.div q hq hd;omega,h.XO,h.near,um hp hlt hbig hN h.Qc,h.Fl,h.TN,Int.le_trans h.hi (by
  have:(2:Nat)^(21*(bad+good))<=2^(21*(bad+1+good)):=Nat.pow_le_pow_right (by decide) (by omega)
  exact_mod_cast this),h.first⟩
theorem WgI.anew{P g told s:List Int}{N M:Int}{prime p bad good:Nat}{ripe:Bool}(h:WgI P g N told M prime ripe bad good)(hp:Om.cC p)(hlt:prime<p)(hbig:2^19<=p)(hhi:p<=2^21)(hs:Seen g N p s)(hl:s.length<told.length):
  ∃ED vh,ED+vh=bad+good+1/\WgI P g N (s.map (nr p)) p p true ED vh:=by
 have hp2:=hp.1;have hg0:good=0:=by
  by_cases c:good=0
  ·exact c
  ·have:=(h.Fl (by omega)).1;have:=hs.ge;omega
 have hle:=h.le;have hsp:=hs.mon.pos;have hpp:(2:Int)<=p:=by omega
 have hc:∀k,co (s.map (nr p)) k=nr p (co s k):=fun k=>qp (by unfold nr;rw[Int.zero_emod];split<;>omega) s k;have hm:Mon (s.map (nr p)):=⟨by rw[List.length_map];exact hsp,by rw[List.length_map,hc,hs.mon.one];exact SN hpp ⟨0,by rw[Int.mul_zero];rfl⟩⟩;have Eu:(s.map (nr p)).length=g.length->∀k,(p:Int)∣co (s.map (nr p)) k-co g k:=fun e k=>by
  rw[hc];have:=Int.dvd_add (Cy p (co s k)) (hs.eq (by rwa [List.length_map]at e) k)
  rwa [show nr p (co s k)-co s k+(co s k-co g k)=nr p (co s k)-co g k by omega]at this
 have hnear:(p:Int)≠1->∀k,Nr p (co (s.map (nr p)) k):=fun _ k=>by rw[hc];exact Bf (by omega) _
 have hdiv:∀q:Nat,Om.cC q->(q:Int)∣p->q<=p:=fun q _ hd=>Nat.le_of_dvd (by omega) (Int.ofNat_dvd.mp hd);by_cases c:s.length=g.length
 ·refine⟨bad,1,by omega,hm,by rw[List.length_map];exact hs.ge,by rw[List.length_map];omega,by omega,hdiv,Eu,hnear,?_,fun _=>⟨by rw[List.length_map];exact c,by exact_mod_cast hbig⟩,fun z=>absurd z (by decide),?_,fun z=>by omega⟩
  ·obtain⟨X,h1,h2,h3⟩:=h.Qc;exact⟨X,h1,h2,fun q hq hd=>by have:=h3 q hq hd;omega⟩
  ·have:(2:Nat)^21<=2^(21*(bad+1)):=Nat.pow_le_pow_right (by decide) (by omega)
   exact_mod_cast Nat.le_trans hhi this
 ·have hN:(p:Int)∣N:=Classical.byContradiction fun z=>c (hs.good z);refine⟨bad+1,0,by omega,hm,by rw[List.length_map];exact hs.ge,by rw[List.length_map];omega,by omega,hdiv,Eu,hnear,um hp hlt hbig hN h.Qc,fun z=>absurd z (by decide),fun z=>absurd z (by decide),?_,fun z=>by omega⟩;have:(2:Nat)^21<=2^(21*(bad+1+0)):=Nat.pow_le_pow_right (by decide) (by omega)
  exact_mod_cast Nat.le_trans hhi this
theorem WgI.join{P g told s mD:List Int}{N M:Int}{prime p bad good:Nat}{ripe OV:Bool}(h:WgI P g N told M prime ripe bad good)(hp:Om.cC p)(hlt:prime<p)(hbig:2^19<=p)(hhi:p<=2^21)(hs:Seen g N p s)(hl:s.length=told.length)
  (hl':mD.length=told.length) (ht:∀k,k<told.length->∃w:Int,(p:Int)∣M*w-(co s k-co told k)/\co mD k=nr (M*p) (co told k+M*w)) (hr:OV=true↔mD=told):
  ∃ED vh,ED+vh=bad+good+1/\WgI P g N mD (M*p) p OV ED vh:=by
 have hp2:=hp.1;have hM:=h.pos;have hpM:¬(p:Int)∣M:=fun z=>by have:=h.div p hp z;omega
 have hpp:(2:Int)<=p:=by omega
 have hMp:(2:Int)<=M*p:=by
  have:1*(2:Int)<=M*p:=Int.mul_le_mul (by omega) hpp (by decide) (by omega);omega
 have hle:=h.le;have hge:=h.ge;have htp:=h.mon.pos;have a1:∀k,M∣co mD k-co told k:=fun k=>by
  by_cases c:k<told.length
  ·obtain⟨w,_,e⟩:=ht k c;rw[e];have e1:M∣nr (M*p) (co told k+M*w)-(co told k+M*w):=Int.dvd_trans (Int.dvd_mul_right M p) (Cy _ _);have e2:M∣M*w:=Int.dvd_mul_right ..;have:=Int.dvd_add e1 e2
   rwa [show nr (M * ↑p) (co told k+M*w)-(co told k+M*w)+M*w=nr (M * ↑p) (co told k+M*w)-co told k by omega]at this
  ·rw[bD (by omega),bD (by omega)];exact⟨0,by rw[Int.mul_zero];rfl⟩
 have a2:∀k,(p:Int)∣co mD k-co s k:=fun k=>by
  by_cases c:k<told.length
  ·obtain⟨w,h1,e⟩:=ht k c;rw[e];have e1:(p:Int)∣nr (M*p) (co told k+M*w)-(co told k+M*w):=Int.dvd_trans (Int.dvd_mul_left M p) (Cy _ _);have:=Int.dvd_add e1 h1
   rwa [show nr (M * ↑p) (co told k+M*w)-(co told k+M*w)+(M*w-(co s k-co told k))=nr (M * ↑p) (co told k+M*w)-co s k by omega]at this
  ·rw[bD (by omega),bD (by omega)];exact⟨0,by rw[Int.mul_zero];rfl⟩
 have hnear:M*p≠1->∀k,Nr (M*p) (co mD k):=fun _ k=>by
  by_cases c:k<told.length
  ·obtain⟨w,_,e⟩:=ht k c;rw[e];exact Bf (by omega) _
  ·rw[bD (by omega)];unfold Nr;omega
 have YG:co mD (mD.length-1)=1:=by
  rw[hl'];refine Nr.eq (M:=M*p) (by omega) (hnear (by omega) _) (by unfold Nr;omega) (wQ hp hpM ?_ ?_)
  ·have:=a1 (told.length-1)
   rwa [h.mon.one]at this
  ·have:=a2 (told.length-1);have e:=hs.mon.one;rw[hl]at e
   rwa [e]at this
 have hm:Mon mD:=⟨by omega,YG⟩;have hdiv:∀q:Nat,Om.cC q->(q:Int)∣M*p->q<=p:=fun q hq hd=>by
  rcases pH hq hd with z|z
  ·have:=h.div q hq z;omega
  ·exact Nat.le_of_dvd (by omega) (Int.ofNat_dvd.mp z)
 have Eu:mD.length=g.length->∀k,M*p∣co mD k-co g k:=fun e k=>by
  refine wQ hp hpM ?_ ?_
  ·have:=Int.dvd_add (a1 k) (h.XO (by omega) k)
   rwa [show co mD k-co told k+(co told k-co g k)=co mD k-co g k by omega]at this
  ·have:=Int.dvd_add (a2 k) (hs.eq (by omega) k)
   rwa [show co mD k-co s k+(co s k-co g k)=co mD k-co g k by omega]at this
 have hhi':∀x,x=bad+good+1->M*p<=2^(21*x):=fun x hx=>by
  rw[hx,show 21*(bad+good+1)=21*(bad+good)+21 by omega,Int.pow_add];exact Int.mul_le_mul h.hi (by exact_mod_cast hhi) (by omega) (Int.le_of_lt (Int.pow_pos (by decide)))
 by_cases c:s.length=g.length
 ·refine⟨bad,good+1,by omega,hm,by omega,by omega,by omega,hdiv,Eu,hnear,?_,fun _=>⟨by omega,?_⟩,fun h2 hb=>?_,hhi' _ (by omega),fun z=>by omega⟩
  ·obtain⟨X,h1,h2,h3⟩:=h.Qc;exact⟨X,h1,h2,fun q hq hd=>by have:=h3 q hq hd;omega⟩
  ·rw[show 19*(good+1)=19*good+19 by omega,Int.pow_add];refine Int.mul_le_mul ?_ (by exact_mod_cast hbig) (by decide) (by omega);by_cases c0:good=0
   ·rw[c0];show(1:Int)<=M;omega
   ·exact(h.Fl (by omega)).2
  ·rw[Nat.add_sub_cancel]at hb;have hgo:=h.Fl (by omega);have hM1:M≠1:=fun z=>by
    rw[z]at hgo;have h3:=hgo.2;have:(2:Int)^(19*1)<=2^(19*good):=by exact_mod_cast Nat.pow_le_pow_right (n:=2) (by decide) (show 19*1<=19*good by omega)
    have:(2:Int)^(19*1)=524288:=by decide
    omega
   have gn:∀k,Nr M (co g k):=fun k=>by
    have h3:=hb k;have h4:=hgo.2;have h5:((2*(co g k).natAbs:Nat):Int)<M:=Int.lt_of_lt_of_le (by exact_mod_cast h3) h4;unfold Nr;omega
   have et:told=g:=j9 hgo.1 fun k=>(h.near hM1 k).eq hM (gn k) (h.XO hgo.1 k);have gn':∀k,Nr (M*p) (co g k):=fun k=>by
    have h3:=gn k;unfold Nr at h3⊢;have:M*1<=M*p:=Int.mul_le_mul_of_nonneg_left (by omega) (by omega);omega
   have et':mD=g:=j9 (by omega) fun k=>(hnear (by omega) k).eq (by omega) (gn' k) (Eu (by omega) k);exact⟨hr.mpr (by rw[et',et]),et'⟩
 ·have hN:(p:Int)∣N:=Classical.byContradiction fun z=>c (hs.good z);have hg0:good=0:=by
   by_cases c0:good=0
   ·exact c0
   ·have:=(h.Fl (by omega)).1;omega
  subst hg0;exact⟨bad+1,0,by omega,hm,by omega,by omega,by omega,hdiv,Eu,hnear,um hp hlt hbig hN h.Qc,fun z=>absurd z (by decide),fun z=>absurd z (by decide),hhi' _ (by omega),fun z=>by omega⟩
theorem WgI.few{P g told:List Int}{N M:Int}{prime bad good U V:Nat}{ripe:Bool}(h:WgI P g N told M prime ripe bad good)(hN:N≠0)(hV:Bd V N)(hU:∀k,Bd U (co g k))(hne:¬(ripe=true/\told=g)):19*(bad+good)<=V+U+38:=by
 obtain⟨X,h1,h2,_⟩:=h.Qc;have b1:19*bad<=V:=by
  have h3:=Nat.le_of_dvd (by omega) (uy.mp h1);have h4:2^(19*bad)<2^V:=Nat.lt_of_le_of_lt (Nat.le_trans h2 h3) hV;have:=(Nat.pow_lt_pow_iff_right (by decide:1<2)).mp h4;omega
 have b2:19*good<=U+38:=by
  by_cases c:2<=good
  ·by_cases d:∀k,2*(co g k).natAbs<2^(19*(good-1))
   ·exact absurd (h.TN c d) hne
   ·obtain⟨k,hk⟩:=Classical.not_forall.mp d;have h3:(co g k).natAbs<2^U:=hU k;have h4:2^(19*(good-1))<2^(U+1):=by rw[Nat.pow_succ];omega
    have:=(Nat.pow_lt_pow_iff_right (by decide:1<2)).mp h4;omega
  ·omega
 omega
end Pm
namespace Om
theorem uz{n:Nat}(h2:2<=n)(h:∀d,2<=d->d*d<=n->¬d∣n):cC n:=⟨h2,fun d hd=>by
 by_cases c1:d=1
 ·exact .inl c1
 by_cases c2:d=n
 ·exact .inr c2
 exfalso
 obtain⟨e,he⟩:=hd;have d0:d≠0:=fun z=>by rw[z,Nat.zero_mul]at he;omega
 have e0:e≠0:=fun z=>by rw[z,Nat.mul_zero]at he;omega
 have e1:e≠1:=fun z=>by rw[z,Nat.mul_one]at he;omega
 by_cases c:d<=e
 ·exact h d (by omega) (by rw[he];exact Nat.mul_le_mul_left d c) ⟨e,he⟩
 ·exact h e (by omega) (by rw[he];exact Nat.mul_le_mul_right e (by omega)) ⟨d,by rw[he,Nat.mul_comm]⟩⟩
theorem FY{n d:Nat}(h2:2<=d)(h:d*d<=n)(hd:d∣n):¬cC n:=fun hp=>by
 have:d*2<=d*d:=Nat.mul_le_mul_left d h2;rcases hp.2 d hd with e|e<;>omega
def PR:Nat:=43571519119201362812999826845982751305620981793717429470673603275936152927709399635933610669671466973821241878720715105717436485894379942430461626673440299163796924436746229228614460476842261843714753967609841797025310982960825865753598345091694825344721438391478216968398650913464229700972723456395252658036295111351718208197542229884535562911430701228833268752819967566938433518416018400115565501955319083147587583881953995536441781216694995306260888155507575210
theorem RN:∀d,d<1100->2<=d->Nat.gcd d PR≠1:=by decide +kernel
theorem HJ{n:Nat}(h2:2<=n)(hn:n<1210000)(h:Nat.gcd n PR=1):cC n:=uz h2 fun d hd hdd hdv=>by
 by_cases c:d<1100
 ·refine RN d c hd ?_;have:Nat.gcd d PR∣Nat.gcd n PR:=Nat.dvd_gcd (Nat.dvd_trans (Nat.gcd_dvd_left ..) hdv) (Nat.gcd_dvd_right ..);rw[h]at this;exact Nat.dvd_one.mp this
 ·have:1100*1100<=d*d:=Nat.mul_le_mul (by omega) (by omega);omega
def unp:Nat->Nat->List Nat
 |0,_=>[]
 |k+1,n=>2*(n%64)::unp k (n/64)
def steps:List Nat:=3::([0x20750130318504818904528504f0c23d908c0421c30c218714c28518120a0892411830c218610918224954108f,0x4908d14c10620a1460431880ca08114418618f24b0c70870cf2070810c63870831c2244093141189381141252,0x4504205514d0811431d224b0432c61051030861903830423030c42e41051810c21d42853421c528510e0c90c6,0xc24c528804b0d50460870c32040c204f0841851c204818904308f3433024831083420c31050c31c50c90cc348,0x811441532c13c81030830c40892476020c11441940cd1530cf2031c818108114118f2060c72540436842c10c3,0x9892460420c74850c11410da40314714d24320408418e3c45031c50c40d41865432822413861c308a0e00c7189,0x2413063811473051871490451c22490461491c228324e0450c310320d24504c0cb0c12c41850c32830875c310f,0x4c0c51810812c10812c61c21020c604c0860c10c50421c540230d2070872462c32413990c37855442c1207083,0xc638c0c630414124510b18c04f08414a18248310204810360804624624578708a08a0cc1821890c72c10cb114,0x18c0c60490c63c21c608f1030c31890840c22410c210510504f0931415042c42c72042461881c32c31cb105058,0x1081810cf3095550810890481080cc1c20cd2070860450432c32832040db0c51030831c50c30cc34f7410831c2,0x30304608d2432091870840872c12011413c60833c304308d08108724c48618f2010c24051c50453c40810812c6,0xc33c408408d3023100ce35104b18c1815c11923c30813861c52443872032462834431dd2410c31431843872c3,0xd00c210234c08c04f20604308f10818414130e18708120a2453060c41821030813813c21960834c624f144149,0x1cf0c20c43c318b04e0c61c20ca3027c52412481c60872ca0c224414f0450423031cf8463050c70c6143195102,0x2410c62460870841880ca0811890832471413020c32442431440c50451812430981c91460c12461821860c6186,0x1860811860c53c60490cb1833c108c04c0d404e04b6043c61821c5045303585a051862830c21874862153c124b,0x14424e0c91836c424504908318120730204e3c108a1821060c20c430e3042c778504b0c118e1020c31032c90cd,0x2451c344108119442310e10228608d0861030c20c408f2882864490451033c608f1081c318504b28e1051cc2c7,0x1c31431c62c31c80490c21812451d80c31431c32451c31562031060871833d13013c50451090c50c12451020c1,0x452824861831810c624504f0c26430c23060d51092ca1460481020543c448624224138604805250d0c20c904e,0xc22852460d03810c52853013030836030467410cc1415c40c31440c90c21020c10c86491431c32091062ca209,0x891840cf0890462430890432c43cc20f3060cc1051056ca3021052890cc0c50cc6c71834520461530cf4442c1,0x18204b0cc1021c20ca14118b2820461502040c30831ce18a09614d2030453453030c31c51060cc0871431d5081,0x10810e10c1461c57831c330210b0491430c71410833d63023460841461092463031410c30860430cc0c510b6c7,0x3c108310330c2420c11410830c13890c718e0c30460813092c31110490c84862850cd20618d4432860c30c6149,0x1492461833040c82430d21cc14114c0d60c529b08a0c81861c80c408144108c0420c10c61410c534920c04e042,0x4052460c33070c224a25518308108114c2431d40420424931940430ce10510218d0840c53c61832880d3141546,0x14a2c628354308904b0c43060811411461c204e04324234308f34324218a0c22530873c224610518a0c320c306,0x3c25830c518418b2411430430cf39524318611808408718f14f1c23010818c70c60c66892411412d61553031c3,0xc22442c30d21020452430460c644414418614c0c310210518424624528c20d3841440c23033cc241141246306,0x2410830642451830460c21d12860872c90434473050c62411502451033020ca0c920c0420c71500870cc2c10c3,0x1863830c70891843c230c3c10830e20c20421c835404b1051870c31441863891c348204b0452413cc086109386,0x1861471431123c80cc24138d0810861900c210944d1413c620a2460841442451c504f3c828230118540204c081,0x1440983c305134909c0811440cf14a1851030c50541061820c30451091822430c31082535043c6546083241081,0x4228b0451020c42091871824c51061850c63420e11c518124618218148528f0ce0cd08618115b0460c83ca201,0x28c09014a2c10c61430420c13c320714310b3012c904608a4850ca44448308d2041431032070c308918310344c,0x48c0835850cf0c12073c80ca2040c31440cc08414120a2d308125218e0c42495450451835440845450d60cb0c6,0x24150425d1954032426010c61411853c44820c72101880451c90c20481c810504654530714414119254e282241,0x830433c20cf18618318408708f0cd0830c918f1c80460cc0833071850c708c04318518418e34614905428c482,0x5110908a1440c22830c31470813830c60c70c204c0830c420161110540638a1430422820ca0d40450d51c3381,0x2093100cb0421c80c438f0450421811851c30c228c0893c150124321231e30118b0c40830c91056031060813ce,0x18c1c31433c70c231030f2093061c20cc0c11533060810841820c92441824812d80c118b2410c51c9485181141,0x30408420a0813863013021c309030c51314904914d6051020c90c42451081c338a0c204804b1c20ca089241245,0x2c43c308a2c13c30c91410c22581810c62460d124c0c91c32c660a2c10860451021061432820c408124314f285,0x3462453040c30dd04228234824d0832910c414430308d15b1050451c308a18620a8c31034410cb0c660118b0c4,0x10308120114d3050ca0c53073862445c41440930c20c13080430863c72045423420461412092832061871470c8,0x1432824021034410d14810c80c72453ca54920718804e1813020421870d818231060308610350d0831c8049383,0x44138408a0c5247188a8420604320304318b0c61022411410cb10b28f0c614a0836c70c914a0cf68714328c099,0x480494410860461430452440d26842c408414f10510608c0c31030831c20432c12075c60432d02012101491c3,0x4c224a1442c63c61c22830c21860cf0c42ca0cf3812453014430c40833060c748504b0d83031c60c2243046206,0x921861052892cd3031430d80461411470c354309024918638910218c04b4810842013c90c2544141183084083,0x430c228b24a0c92c90420423c718510618518768c1093861830467440841440c20d21c204b0d23061d2189381,0x10f2c31033860c41821c30961410861c52851080c30460c614348318d1890931892c304b04c0861030810dd0c3,0x3c240210330314d0812c30c33c90492031050cd3c54c21891021032c13811831411410833c448c1433421c53c6,0x4309e0d00842010894050c970258918524148c1414862061051874411850421c32070c954218118204c24e181,0x1441882411500c824424828f0872032850c68851c30890481ce04510b3c42d31414470c22412422610c904f086,0x2c91065431461c81050450490870817413841832c610614160e1830cd2430810890c114c1053c1308243042106,0x4c21032ca3831c21060c504615015e1c540228308744924654108a09914109e1810c81c20451051052860d2081,0x831051870830462c420d60348824c1842490c204e0420c11881021870c318818a3961460c118528510b10314c,0x18310314d3860430900cb04819c08d18524118b1c51950433810840c30830c624934f14a08108730818408f286,0xc61440cf84228204211d04524c1050420ca2064860464414433c408d0810831e92893d41c33c80c118314f309,0x8910620a2c119208424210b1c51c53c124510b1090863c41911c30890460c52860c20d21091411520c418c507,0x40b1c615050108610b40314108f2821861873d12920c20451c20551431cb0c70a80810c61460c11500c5243253,0xed4830845061050451c314394c0830451c318524118308a0c63870c92c738910b10204c483141983103084083,0xc32452460451c33891034432880450cf18408334308318305110608c0c60451050525491860c5283086049084,0xc30cc3063811894440c50c418810218d25104314905404b30108c3c31c324b3120ca0890d9146183592141093,0xc11440cc0c33031412c330730308419208a2011440813863461461032031c21870861862442463c20c9309781,0x10b1870920490ce18c0d21c21c31501852860c92c43c20cf1c34490465042490c21c51840cb2862060450ca54b,0x8108d1472092470c50481890c340614708d2cc34e1814822490c714124308c0482854c204570524108a0db206,0x3cf3cb2460421860c31c20481062450c310308718f0813090d208714924a08f0c108c18114d20c0c42c324c109,0x10314a14108718c14c1ce1c53c310c18e0421c38032851c32c40810cf0841881843031883420c304f1850c1210,0x4c50cd0c60c51870c91411831820c10cb1054090861032031c534914d0cf1440890458820c43c2247147152246,0x1111c234f18e0c720714f0c31c510318531324b0c11861431c918c5011491c66c80e80842c420144768c108042,0x38d20904e1831834093c50580ce60745524610c1550c10c320604924c3020c118b1061441463422430c4183242,0x4083cf04b0c61021890433872c418c0831c51061413812090423420c12ca3c218160c0c21c504e54148314d147,0x1891870810814430431430c904b0450c41501471441441884061851030864840c31832c90c31030861c914124e,0xc84c36c62462450c34051050483120d32060463c204248a08c0c92410c60833c60c31d50831812432c73c914f,0x14f3061030c530738430638108610c1523095821860c33031035c44920812c90481c60c22410812c6282045043,0x5450c42c40c38071460452863020c31032070861c80c77412010cb5821c93cb0cc1024810c3482105102109087,0x2421093cc0861840890513cc24708c1841856c70c31490c71460c10d524228320418f0cb18a08c10e0c92442c1,0x420420c42071952490c20492cc24a1921891831473811834441850c60433c20c72481c914708c0450c73860c1,0x4840843031983021860450c750310c2420cf04308108131704510b18954904314610b04e04c0c308c1c3182486,0x6873c21023cd1473c20ca3842c30c31030811440c23450c14821051810d52075421890d60811440c518f181386,0x430871431c60832892c10c30cb2861430480c42423c40c50451c20c424b2530c324c0c61412c40cb0480420c1,0x1022860cb0421c510230138720610204234218c0c114415b0c40cc4834440c62cd0891083071881200c12d3545,0xc40c23063630450c718c0c51c23603c918144324408438720a0872071890922861412015062410cb1025442c3,0x24408424f0c20451c21c518421b0432c40870c20462511050c30c10c61443cf2db2820c78c32971811440c2405,0x3021020ca24b24f04f14138114628920604858608131208a3020c31c534818120f1c33c60c504e04f147248282,0xc20450c60c33421038c11500c204314414c0c130534b34518138418e0d31410c52473c504524304e711184081,0xcb04930830318610308a0c518408a18344318144714a2420cf1c50c10c218310f1411830950c40c80460812ca,0x1880492c330328b04834c14628230310314108f1030c318518310f2181930c548a2011413813020c11440c2181,0x14d14115c0c324618924834b28630348e4021c51c51092031140421cb1c54870c62c330c0d30c3081302187087,0x1c308304c20139318210510228338d08124f0891c204b0cf0451051811850c709044448b04344f18438420d243,0xc21050ca1850481872040c51140ca0843020c904f2432031841442076cf2cf2496c30431431c205106a0cb288,0x1831891461870813120cf1412421c210620c3c40890cf04510b1c92071412451831c32c92431cc20a0cc203103,0x3c10872101412060450c70cf3c30c62420ca1410c210b0c324d3c324b0c10c30871431cb1060831c33020453c4,0xcc0861813c20c30457051c30c204b0492451c558504e0491430c15430832430c40c30870c20c448f08918144c,0xc51020c118f0c20d22820d20540491831500cf14a0840831032041411411460c12ca0d854e18c486187444147].flatMap (unp 60)++unp 59 0x10872c33040c224174a1683082470c314424b1891090c21810d404248c2821cf1820421093c258f1412c6106)
def JK:Nat->List Nat->Bool
 |_,[]=>true
 |c,d::r=>match decide (0<d)&&(decide (c+d<1210000)&&Nat.beq (Nat.gcd (c+d) PR) 1)with
  |true=>JK (c+d) r
  |false=>false
theorem Np:JK 1000000 steps=true:=by decide +kernel
theorem GK:steps.length=6000:=by decide +kernel
inductive Many:Nat->Nat->Prop
 |none (c:Nat):Many 0 c
 |more {k c q:Nat}:cC q->c<q->q<1210000->Many k q->Many (k+1) c
theorem Gb:∀(l:List Nat) (c:Nat),2<=c->JK c l=true->Many l.length c
 |[],c,_,_=> .none c
 |d::r,c,h2,h=>by
  rw[JK]at h;split at h
  ·rename_i e
   obtain⟨e1,e2⟩:=Bool.and_eq_true_iff.mp e;obtain⟨e2,e3⟩:=Bool.and_eq_true_iff.mp e2;have h1:=of_decide_eq_true e1;have h3:=of_decide_eq_true e2;exact .more (HJ (by omega) h3 (Nat.eq_of_beq_eq_true e3)) (by omega) h3 (Gb r (c+d) (by omega) h)
  ·exact absurd h (by decide)
theorem many:Many 6000 1000000:=by
 have:=Gb steps 1000000 (by decide) Np
 rwa [GK]at this
theorem Many.down{k c c':Nat}(h:Many k c)(hc:c'<=c):Many k c':=by
 cases h with
 |none=>exact .none _
 |more h1 h2 h3 h4=>exact .more h1 (by omega) h3 h4
theorem Many.next{k c:Nat}(h:Many (k+1) c):∃q,cC q/\c<q/\q<1210000/\∀p,p<=q->Many k p:=by
 cases h with
 |more h1 h2 h3 h4=>exact⟨_,h1,h2,h3,fun p hp=>h4.down hp⟩
theorem cC.wF{p:Nat}{a:Int}(h:cC p)(h0:0<a)(ha:a<(p:Int)):a^(p-1)%(p:Int)=1:=by
 obtain⟨n,rfl⟩:∃n:Nat,a=(n:Int):=⟨a.toNat,by omega⟩;have:=h.Rg (a:=n) (by omega) (by omega);have e:((n^(p-1)%p:Nat):Int)=((1:Nat):Int):=by rw[this]
 rw[Int.natCast_emod,Int.natCast_pow]at e;exact e
end Om
namespace Pm
open Rm
theorem GY{P:Nat}(hP:Om.cC P){p:List Int}(hp:Py P p)(hn:p≠[]):yp P p (iH P p):=by
 have h2:=hP.1;have hpos:0<p.length:=List.length_pos_iff.mpr hn;have hP0:(P:Int)≠0:=by omega
 have tkP:∀n,tk (P:Int) n=n%(P:Int):=fun n=>iG hP0 n;have l0:=vm hn hp.tr;have l1:=hp.co (p.length-1);rw[tkP]at l1;have r0:0<=co p (p.length-1):=by rw[<-l1];exact Int.emod_nonneg _ hP0
 have r1:co p (p.length-1)<(P:Int):=by rw[<-l1];exact Int.emod_lt_of_pos _ (by omega)
 generalize hl:co p (p.length-1)=a at l0 r0 r1;have hinv:(a^(P-2)*a)%(P:Int)=1:=by
  rw[<-Int.pow_succ,show(P-2).succ=P-1 by omega];exact hP.wF (by omega) r1
 have e:∀k,co (iH P p) k=co p k*a^(P-2)%(P:Int):=fun k=>by
  rw[iH,qp (by simp),hl]
 have len:(iH P p).length=p.length:=by rw[iH,List.length_map]
 have top:co (iH P p) ((iH P p).length-1)=1:=by
  rw[len,e,hl,Int.mul_comm];exact hinv
 have hm:iH P p≠[]:=fun z=>by rw[z]at len;simp at len;omega
 refine⟨⟨iD hm (by rw[top];decide),fun x hx=>?_⟩,len,fun _=>⟨by omega,top⟩,⟨a^(P-2),fun k=>?_⟩,⟨a,fun k=>?_⟩⟩
 ·obtain⟨y,_,rfl⟩:=List.mem_map.mp hx;rw[tkP];exact Int.emod_emod_of_dvd _ (Int.dvd_refl _)
 ·rw[e,tkP,tkP,Int.emod_emod_of_dvd _ (Int.dvd_refl _),Int.mul_comm]
 ·rw[e,tkP,tkP,Int.mul_emod a,Int.emod_emod_of_dvd _ (Int.dvd_refl _),<-Int.mul_emod,Int.mul_left_comm a,Int.mul_comm a,Int.mul_emod,hinv];rw[Int.mul_one,Int.emod_emod_of_dvd _ (Int.dvd_refl _)]
theorem OJ{P:Nat}(hP:Om.cC P){one other:Int}(h0:0<other)(h:other<(P:Int)):(P:Int)∣other*(one*other^(P-2)%(P:Int))-one:=by
 have h2:=hP.1;have hinv:(other^(P-2)*other)%(P:Int)=1:=by
  rw[<-Int.pow_succ,show(P-2).succ=P-1 by omega];exact hP.wF h0 h
 have h1:(1:Int)%(P:Int)=1:=Int.emod_eq_of_lt (by decide) (by omega);refine Int.dvd_of_emod_eq_zero (Int.emod_eq_emod_iff_emod_sub_eq_zero.mp ?_);rw[Int.mul_emod,Int.emod_emod_of_dvd _ (Int.dvd_refl _),<-Int.mul_emod,Int.mul_left_comm,Int.mul_comm other,Int.mul_emod,hinv,Int.mul_one,Int.emod_emod_of_dvd _ (Int.dvd_refl _)]
theorem QC{b f:Int}{s t:Nat}{l m:List Int}{u v:Nat}(hb:0<=b)(hb1:b<2097152)(hu:21<=u)(hf:Bd u f)(hl:∀k,Bd u (co l k))(hm:∀x∈m,Bd v x)(k:Nat):Bd (u+v+1) (lf b f s t l m k):=by
 unfold lf;split
 ·refine w6 hb ((Bd.of (n:=21) (by omega) (by omega)).mono (by omega)) ?_;rw[Int.sub_eq_add_neg];refine Bd.add ((hl k).mono (by omega)) ?_;have:=hf.mul (ju hm (k-s));unfold Bd at this⊢;rw[Int.natAbs_neg];exact this
 ·exact(hl k).mono (by omega)
def jw(M t:Int)(p:Nat)(s:Int):Int:=(tk p (s-t))*(tk p M)^(p-2)%(p:Int)
def jn(M t:Int)(p:Nat)(s:Int):Int:=nr (M*p) (t+M*jw M t p s)
theorem Zd{M t s:Int}{p:Nat}(hp:Om.cC p)(hM:¬(p:Int)∣M):(p:Int)∣M*jw M t p s-(s-t):=by
 have h2:=hp.1;have hp0:(p:Int)≠0:=by omega
 have r0:=Int.emod_nonneg M hp0;have r1:=Int.emod_lt_of_pos M (show(0:Int)<p by omega);have rn:M%(p:Int)≠0:=fun z=>hM (Int.dvd_of_emod_eq_zero z);have h:=OJ hp (one:=tk p (s-t)) (other:=M%(p:Int)) (by omega) r1;unfold jw;rw[iG hp0 M];generalize tk (p:Int) (s-t)*(M%(p:Int))^(p-2)%(p:Int)=w at h;rw[iG hp0]at h;have e1:(p:Int)∣M*w-M%(p:Int)*w:=by
  rw[<-Int.sub_mul];exact Int.dvd_trans (Int.dvd_self_sub_emod) (Int.dvd_mul_right ..)
 have e2:(p:Int)∣(s-t)%(p:Int)-(s-t):=by
  have:(p:Int)∣(s-t)-(s-t)%(p:Int):=Int.dvd_self_sub_emod;have:=Int.dvd_neg.mpr this
  rwa [Int.neg_sub]at this
 have:=Int.dvd_add (Int.dvd_add e1 h) e2
 rwa [show M*w-M%(p:Int)*w+(M%(p:Int)*w-(s-t)%(p:Int))+((s-t)%(p:Int)-(s-t))=M*w-(s-t)by omega]at this
theorem Ke{M t s:Int}{p:Nat}(hp:Om.cC p):0<=jw M t p s/\jw M t p s<p:=by
 have h2:=hp.1;exact⟨Int.emod_nonneg _ (by omega),Int.emod_lt_of_pos _ (by omega)⟩
theorem Div.dv{b:Int}{P M q r:List Int}(h:Div b P M q r)(hM:Mon M):r=[]↔Dv b M (co P):=by
 constructor
 ·rintro rfl;exact⟨co q,q.length,Fs.co q,fun k=>by rw[<-h.eq k,eU,Int.add_zero]⟩
 ·intro d;have e:Dv b M (co r):=(d.sub (Dv.self (b:=b) (m:=M) (Fs.co q))).congr fun k=>by
   have e1:tk b (co P k + -cv (co q) (co M) k)=tk b ((cv (co q) (co M) k+co r k) + -cv (co q) (co M) k):=aW (h.eq k).symm rfl;rw[show co P k-cv (co q) (co M) k=co P k + -cv (co q) (co M) k by omega,e1];exact congrArg (tk b) (by omega)
  have z:=e.short hM ((Fs.co r).mono (by have:=h.short;omega));rw[<-h.ry.tr];exact tX.mpr fun k=>by rw[<-h.ry.co k];exact z k
end Pm
namespace Pm
open Rm Dm
theorem uZ{n:Nat}{x:Int}(h:Bd n x):Bd n (-x):=by unfold Bd at h ⊢;rw[Int.natAbs_neg];exact h
end Pm
namespace Pm
open Rm Dm
theorem Ox{f:Nat->Int}{n:Nat}(h:Fs f n):∃S:List Int,∀k,co S k=f k:=⟨ofF n f,fun k=>by
 rw[bI];by_cases c:k<n
 ·rw[if_pos c]
 ·rw[if_neg c,h k (by omega)]⟩
theorem Kp.WK{b:Int}{p t:List Int}{f:Nat->Int}(h:Kp b (mul b p t) f):Kp b p (ks t f):=fun n=>by rw[<-HY];exact h n
theorem Kp.Qo{b:Int}{p t:List Int}{f:Nat->Int}(h:Kp b p (ks t f)):Kp b (mul b p t) f:=fun n=>by rw[HY];exact h n
end Pm
namespace Pm
open Rm
def ev(p:List Int)(x:Int):Int:=sm p.length fun k=>co p k*x^k
theorem m8{p:List Int}{n:Nat}(h:p.length<=n)(x:Int):sm n (fun k=>co p k*x^k)=ev p x:=
 fG h fun k h1 _=>by rw[bD h1,Int.zero_mul]
theorem Dp(x:Int):ev [] x=0:=rfl
theorem Gu(c x:Int):ev [c] x=c:=by
 show 0+co [c] 0*x^0=c;rw[dI,Int.pow_zero,Int.mul_one,Int.zero_add]
abbrev lin(r:Int):List Int:=[0-r,1]
theorem NV(r:Int):Mon (lin r):=⟨by show 0<2;decide,rfl⟩
theorem Mt(f:Nat->Int)(r:Int):∀k,cv f (co (lin r)) k=(if k=0 then 0 else f (k-1))-r*f k:=fun k=>by
 rw[gO];cases k with
 |zero=>
  show 0+f 0*co (lin r) 0=_;rw[if_pos rfl,dI,Int.zero_add,Int.mul_sub,Int.mul_zero,Int.mul_comm]
 |succ k=>
  rw[if_neg (Nat.succ_ne_zero _),Nat.add_sub_cancel];rw[sm,Nat.sub_self,sm,show k+1-k=1 by omega];rw[iJ fun j hj=>by rw[bD (p:=lin r) (show 2<=k+1-j by omega),Int.mul_zero]];rw[dI,jK,dI,Int.mul_one,Int.zero_add,Int.mul_sub,Int.mul_zero,Int.zero_sub,Int.mul_comm (f (k+1))];rfl
theorem Cz(f:Nat->Int)(x:Int):∀n,sm (n+1) (fun k=>(if k=0 then 0 else f (k-1))*x^k)=x*sm n fun k=>f k*x^k:=fun n=>by
 rw[dX,if_pos rfl,Int.zero_mul,Int.zero_add,<-bG];refine aA fun k _=>?_;rw[if_neg (Nat.succ_ne_zero _),Nat.add_sub_cancel,Int.pow_succ,Int.mul_comm (x^k) x,<-Int.mul_assoc,<-Int.mul_assoc,Int.mul_comm (f k) x]
theorem Div.ev{p q l:List Int}{r:Int}(h:Div 0 p (lin r) q l)(x:Int):Pm.ev p x=(x-r)*Pm.ev q x+Pm.ev l x:=by
 obtain⟨n,h1,h2,h3⟩:∃n,p.length<=n+1/\q.length<=n/\l.length<=n+1:=⟨p.length+q.length+l.length,by omega,by omega,by omega⟩;rw[<-m8 h1 x,<-m8 h2 x,<-m8 h3 x];have e:∀k,co p k=(if k=0 then 0 else co q (k-1))-r*co q k+co l k:=fun k=>by
  have:=h.eq k;rw[bH,bH,Mt]at this;exact this.symm
 rw[aA (g:=fun k=>(if k=0 then 0 else co q (k-1))*x^k+(-r*(co q k*x^k)+co l k*x^k)) fun k _=>?_,cQ,cQ,Cz,bG]
 ·have e2:sm (n+1) (fun k=>co q k*x^k)=sm n fun k=>co q k*x^k:=by
   rw[sm,bD h2,Int.zero_mul,Int.add_zero]
  rw[e2,Int.sub_mul,Int.neg_mul];omega
 ·rw[e k,Int.add_mul,Int.sub_mul,Int.neg_mul,Int.mul_assoc];omega
theorem Div.root{p q l:List Int}{r:Int}(h:Div 0 p (lin r) q l):l=[]↔Pm.ev p r=0:=by
 have e:=h.ev r;rw[Int.sub_self,Int.zero_mul,Int.zero_add]at e;have hs:l.length<2:=h.short
 match l,hs,h.ry with
 |[],_,_=>exact⟨fun _=>by rw[e,Dp],fun _=>rfl⟩
 |[c],_,hr=>
  rw[Gu]at e;constructor
  ·intro z;cases z
  ·intro z;rw[e]at z
   exfalso
   have:=hr.tr;rw[z]at this;simp[trim]at this
end Pm
namespace Pm
open Rm
theorem N8(a:Int)(p:List Int)(x:Int):ev (a::p) x=a+x*ev p x:=by
 rw[<-m8 (p:=a::p) (n:=p.length+1) (Nat.le_refl _) x,dX,dI,Int.pow_zero,Int.mul_one,<-m8 (p:=p) (Nat.le_refl _) x,<-bG];congr 1;refine aA fun k _=>?_;rw[jK,Int.pow_succ,Int.mul_comm (x^k) x,<-Int.mul_assoc,<-Int.mul_assoc,Int.mul_comm (co p k) x]
theorem Qw(x:Int)(g:List Int):∀(L P:List Int),(∀k,co P k=cv (co L) (co g) k)->ev P x=ev L x*ev g x
 |[],P,h=>by
  rw[Dp,Int.zero_mul];unfold ev;exact iJ fun k _=>by rw[h,fK (fun i _=> .inl (eU i)),Int.zero_mul]
 |a::L,P,h=>by
  obtain⟨Q,hQ⟩:∃Q:List Int,∀k,co Q k=cv (co L) (co g) k:=Ox ((Fs.co L).cv (Fs.co g));have ih:=Qw x g L Q hQ;obtain⟨n,h1,h2,h3⟩:∃n,P.length<=n+1/\Q.length<=n/\g.length<=n+1:=⟨P.length+Q.length+g.length,by omega,by omega,by omega⟩;have e:∀k,co P k=a*co g k+(if k=0 then 0 else co Q (k-1)):=fun k=>by
   rw[h,GD];split
   ·rfl
   ·rw[hQ]
  rw[N8,<-m8 h1 x,aA (g:=fun k=>a*(co g k*x^k)+(if k=0 then 0 else co Q (k-1))*x^k) fun k _=>by rw[e k,Int.add_mul,Int.mul_assoc],cQ,bG,Cz,m8 h3,m8 h2,ih,Int.add_mul,Int.mul_assoc]
theorem Ii(p:List Int)(r:Int):∃q l,Div 0 p (lin r) q l/\(∀k,co p k=(if k=0 then 0 else co q (k-1))-r*co q k+co l k)/\q.length<=p.length-1:=by
 obtain⟨q,l,h⟩:=Dt (b:=0) (NV r) (p:=p) fun k=>bH _;have e:∀k,co p k=(if k=0 then 0 else co q (k-1))-r*co q k+co l k:=fun k=>by
  have:=h.eq k;rw[bH,bH,Mt]at this;exact this.symm
 have hs:l.length<2:=h.short;refine⟨q,l,h,e,?_⟩;by_cases hq:q=[]
 ·rw[hq];exact Nat.zero_le _
 ·have h0:=vm hq h.qy.tr;have hp:0<q.length:=List.length_pos_iff.mpr hq;have h1:=e q.length;rw[if_neg (by omega),bD (p:=q) (Nat.le_refl _),Int.mul_zero,bD (p:=l) (by omega),Int.sub_zero,Int.add_zero]at h1;have:=uP (p:=p) (k:=q.length) (by rw[h1];exact h0);omega
theorem CW:∀(m:Nat) (L:List Int),Mon L->L.length=m+1->∀xs:List Int,xs.Nodup->(∀x∈xs,ev L x=0)->xs.length<=m
 |_,_,_,_,[],_,_=>Nat.zero_le _
 |0,L,hL,hl,r::ys,_,hr=>by
  exfalso
  have e:L=[1]:=j9 (q:=[1]) hl fun k=>by
   cases k with
   |zero=>have:=hL.one;rw[hl]at this;exact this
   |succ k=>rw[bD (by omega),bD (by show 1<=k+1;omega)]
  have:=hr r (List.mem_cons_self ..);rw[e,Gu]at this;exact absurd this (by decide)
 |m+1,L,hL,hl,r::ys,hn,hr=>by
  obtain⟨q,l,h,e,lq⟩:=Ii L r;have h0:=hr r (List.mem_cons_self ..);have l0:=h.root.mpr h0;subst l0;have hm:co q m=1:=by
   have h1:=e (m+1);rw[if_neg (by omega),Nat.add_sub_cancel,bD (p:=q) (show q.length<=m+1 by omega),Int.mul_zero,eU,Int.sub_zero,Int.add_zero]at h1;have h2:=hL.one;rw[hl,Nat.add_sub_cancel,h1]at h2;exact h2
  have hlq:q.length=m+1:=by
   have:=uP (p:=q) (k:=m) (by rw[hm];decide);omega
  obtain⟨hn1,hn2⟩:=List.nodup_cons.mp hn;have:=CW m q ⟨by omega,by rw[hlq,Nat.add_sub_cancel];exact hm⟩ hlq ys hn2 fun y hy=>by
   have h1:=h.ev y;rw[hr y (List.mem_cons_of_mem _ hy),Dp,Int.add_zero]at h1;rcases Int.mul_eq_zero.mp h1.symm with z|z
   ·exact absurd (show y=r by omega) (fun z=>hn1 (z▸hy))
   ·exact z
  rw[List.length_cons];omega
theorem Iv{M:Nat}{x y:Int}(hx:x≠0)(h:Bd M (x*y)):Bd M y:=by
 unfold Bd at h⊢;rw[Int.natAbs_mul]at h;have h1:1<=x.natAbs:=by omega
 have:1*y.natAbs<=x.natAbs*y.natAbs:=Nat.mul_le_mul_right _ h1;omega
theorem zV{e:Nat}:∀(d:Nat) (g:List Int) (M:Nat),g.length<=d->∀xs:List Int,xs.Nodup->d<=xs.length->(∀x∈xs,Bd e x)->(∀x∈xs,Bd M (ev g x))->∀k,Bd (M+d*(e+3)) (co g k)
 |0,g,_,hl,_,_,_,_,_,k=>by rw[bD (by omega)];exact Bd.zero _
 |d+1,_,_,_,[],_,hd,_,_,_=>absurd hd (by show ¬d+1<=0;omega)
 |d+1,g,M,hl,r::ys,hn,hd,hx,hv,k=>by
  obtain⟨q,l,h,eq,lq⟩:=Ii g r;obtain⟨hn1,hn2⟩:=List.nodup_cons.mp hn;have hl2:l.length<2:=h.short;have er:ev l r=ev g r:=by rw[h.ev r,Int.sub_self,Int.zero_mul,Int.zero_add]
  have el:∀x,ev l x=co l 0:=fun x=>by
   match l,hl2 with
   |[],_=>rw[Dp,eU]
   |[c],_=>rw[Gu,dI]
  have c0:co l 0=ev g r:=by rw[<-el r,er]
  have hr:=hv r (List.mem_cons_self ..);have ih:=zV (e:=e) d q (M+1) (by omega) ys hn2 (by rw[List.length_cons]at hd;omega) (fun x h=>hx x (List.mem_cons_of_mem _ h)) fun y hy=>by
   refine Iv (x:=y-r) (fun z=>hn1 ((show y=r by omega)▸hy)) ?_;have h1:=h.ev y;rw[el y,c0]at h1;rw[show(y-r)*ev q y=ev g y + -(ev g r)by omega];exact(hv y (List.mem_cons_of_mem _ hy)).add (uZ hr)
  have b1:Bd (e+(M+1+d*(e+3))) (if k=0 then 0 else co q (k-1)):=by
   split
   ·exact Bd.zero _
   ·exact(ih _).mono (by omega)
  have b2:=uZ ((hx r (List.mem_cons_self ..)).mul (ih k));have b3:Bd (e+(M+1+d*(e+3))+1) (co l k):=by
   cases k with
   |zero=>rw[c0];exact hr.mono (by omega)
   |succ k=>rw[bD (by omega)];exact Bd.zero _
  have b4:=(b1.add b2).add b3;have e1:(d+1)*(e+3)=d*(e+3)+(e+3):=Nat.succ_mul ..;rw[eq k,Int.sub_eq_add_neg];exact b4.mono (by omega)
theorem UN{P:List Int}{x:Int}{u e:Nat}(hu:∀k,Bd u (co P k))(hx:Bd e x):Bd (u+P.length*(e+1)+P.length) (ev P x):=by
 have hp:∀k,Bd (k*e+1) (x^k):=fun k=>by
  induction k with
  |zero=>rw[Int.pow_zero];exact(Bd.of (n:=1) (by decide) (by decide)).mono (by omega)
  |succ k ih=>
   have e1:(k+1)*e=k*e+e:=Nat.succ_mul ..;rw[Int.pow_succ];exact(ih.mul hx).mono (by omega)
 unfold ev;refine(Cm (c:=u+P.length*(e+1)) P.length fun k hk=>((hu k).mul (hp k)).mono ?_).mono (by omega);have h1:(k+1)*(e+1)<=P.length*(e+1):=Nat.mul_le_mul_right _ (by omega);have h2:(k+1)*(e+1)=k*(e+1)+(e+1):=Nat.succ_mul ..;have h3:k*(e+1)=k*e+k:=Nat.mul_succ ..;omega
theorem u0(p:Int->Bool):∀xs:List Int,xs.length=(xs.filter p).length+(xs.filter fun x=>!p x).length
 |[]=>rfl
 |x::xs=>by
  have:=u0 p xs;cases h:p x
  ·rw[List.filter_cons_of_neg (by rw[h];decide),List.filter_cons_of_pos (by rw[h];rfl),List.length_cons,List.length_cons];omega
  ·rw[List.filter_cons_of_pos h,List.filter_cons_of_neg (by rw[h];decide),List.length_cons,List.length_cons];omega
theorem CZ{P L g:List Int}(hL:Mon L)(he:∀k,co P k=cv (co L) (co g) k)(hl:L.length+g.length=P.length+1){u e:Nat}(hu:∀k,Bd u (co P k))(h2:P.length<=2^e)(k:Nat):Bd (u+P.length*(e+1)+P.length+g.length*(e+3)) (co g k):=by
 obtain⟨xs,hxs⟩:∃xs:List Int,xs=(List.range P.length).map Int.ofNat:=⟨_,rfl⟩;have nd:xs.Nodup:=by
  rw[hxs];refine List.Pairwise.map _ (fun a b h=>?_) (List.nodup_range (n:=P.length));exact fun z=>h (Int.ofNat.inj z)
 have ln:xs.length=P.length:=by rw[hxs];simp
 have bx:∀x∈xs,Bd e x:=fun x hx=>by
  rw[hxs]at hx;obtain⟨i,hi,rfl⟩:=List.mem_map.mp hx;have:=List.mem_range.mp hi;show(Int.ofNat i).natAbs<2^e;show i<2^e;omega
 have h0:(xs.filter fun x=>decide (ev L x=0)).length<=L.length-1:=by
  have:=hL.pos;exact CW (L.length-1) L hL (by omega) _ (nd.filter _) fun x hx=>of_decide_eq_true (List.mem_filter.mp hx).2
 have hc:xs.length=(xs.filter fun x=>decide (ev L x=0)).length+(xs.filter fun x=>!decide (ev L x=0)).length:=u0 _ xs;have hp:=hL.pos;refine zV g.length g _ (Nat.le_refl _) (xs.filter fun x=>!decide (ev L x=0)) (nd.filter _) (by omega) (fun x hx=>bx x (List.mem_filter.mp hx).1) (fun x hx=>?_) k;have hne:ev L x≠0:=fun z=>by
  have:=(List.mem_filter.mp hx).2;rw[decide_eq_true z]at this;exact absurd this (by decide)
 refine Iv hne ?_;rw[<-Qw x g L P he];exact UN hu (bx x (List.mem_filter.mp hx).1)
theorem Nt{P:List Int}{a:Nat->Int}(hP:Mon P)(hK:Kp 0 P a){d u ua e U:Nat}(hS:∃Q0,Mon Q0/\Kp 0 Q0 a/\Q0.length<=d+1)(ha:∀n,n<=2*d->Bd ua (a n))(hu:∀k,Bd u (co P k))(h2:P.length<=2^e)(hU:u+P.length*(e+1)+P.length+P.length*(e+3)<=U):
  ∃g L N,Mon L/\Py 0 L/\Kp 0 L a/\(∀q,Kp 0 q a->Dv 0 L (co q))/\L.length+g.length=P.length+1/\(∀k,co P k=cv (co L) (co g) k)/\GcZ P (tp P a) g N/\Bd (d*(ua+d)+1) N/\∀k,Bd U (co g k):=by
 obtain⟨g,L,hL,hLy,hKL,hall,hlen,hE,G⟩:=Gr hP hK;obtain⟨Q0,hQ,hKQ,hQl⟩:=hS;have hLp:=hL.pos;have hl:L.length<=d+1:=Nat.le_trans ((hall Q0 hKQ).len rfl hL hQ) hQl;have hm:(L.length-1)*(ua+(L.length-1))+1<=d*(ua+d)+1:=by
  have:=Nat.mul_le_mul (show L.length-1<=d by omega) (show ua+(L.length-1)<=ua+d by omega);omega
 refine⟨g,L,_,hL,hLy,hKL,hall,hlen,hE,G,?_,fun k=>?_⟩
 ·exact(Dm.MD (u:=ua) fun i j hi hj=>ha _ (by omega)).mono hm
 ·refine(CZ hL hE hlen hu h2 k).mono (Nat.le_trans ?_ hU);have:=Nat.mul_le_mul_right (e+3) (show g.length<=P.length by omega);omega
end Pm
namespace Nw
open Lean.Grind
variable {R:Type} [CommRing R]
def sm:Nat->(Nat->R)->R
 |0,_=>0
 |n+1,f=>sm n f+f n
theorem aA{f g:Nat->R}:∀{n:Nat},(∀k,k<n->f k=g k)->sm n f=sm n g
 |0,_=>rfl
 |n+1,h=>by
  show sm n f+f n=sm n g+g n;rw[aA fun k hk=>h k (by omega),h n (by omega)]
theorem gM:∀n:Nat,sm n (fun _=>(0:R))=0
 |0=>rfl
 |n+1=>by show sm n _+0=0;rw[gM n];grind
theorem cQ(f g:Nat->R):∀n:Nat,sm n (fun k=>f k+g k)=sm n f+sm n g
 |0=>by show(0:R)=0+0;grind
 |n+1=>by show sm n _+_=sm n f+f n+(sm n g+g n);rw[cQ f g n];grind
theorem bG(c:R)(f:Nat->R):∀n:Nat,sm n (fun k=>c*f k)=c*sm n f
 |0=>by show(0:R)=c*0;grind
 |n+1=>by show sm n _+_=c*(sm n f+f n);rw[bG c f n];grind
theorem lQ(F:Nat->Nat->R)(m:Nat):∀n:Nat,sm m (fun k=>sm n (fun j=>F k j))=sm n (fun j=>sm m (fun k=>F k j))
 |0=>gM m
 |n+1=>by
  show sm m (fun k=>sm n (fun j=>F k j)+F k n)=sm n (fun j=>sm m (fun k=>F k j))+sm m (fun k=>F k n);rw[cQ,lQ F m n]
theorem dX(f:Nat->R):∀n:Nat,sm (n+1) f=f 0+sm n (fun i=>f (i+1))
 |0=>by show 0+f 0=f 0+0;grind
 |n+1=>by
  show sm (n+1) f+f (n+1)=f 0+(sm n (fun i=>f (i+1))+f (n+1));rw[dX f n];grind
def el:List R->Nat->R
 |[],k=>if k=0 then 1 else 0
 |a::l,0=>el l 0
 |a::l,k+1=>el l (k+1)-a*el l k
theorem jX:∀l:List R,el l 0=1
 |[]=>rfl
 |a::l=>jX l
theorem Ky:∀(l:List R) (k:Nat),l.length<k->el l k=0
 |[],k,h=>by
  have:k≠0:=by simp at h;omega
  exact if_neg this
 |a::l,0,h=>absurd h (by omega)
 |a::l,k+1,h=>by
  simp at h;show el l (k+1)-a*el l k=0;rw[Ky l (k+1) (by omega),Ky l k (by omega)];grind
def pw(l:List R)(k:Nat):R:=match l with
 |[]=>0
 |a::l=>a^k+pw l k
theorem O6(a:R)(l:List R)(k:Nat):pw (a::l) k=a^k+pw l k:=rfl
theorem acQ(a:R)(l:List R)(k:Nat):sm (k+1) (fun i=>a^(i+1)*el (a::l) (k-i))=a*el l k:=by
 have key:∀j,j<=k->sm j (fun i=>a^(i+1)*el (a::l) (k-i))=a*el l k-a^(j+1)*el l (k-j):=fun j=>by
  induction j with
  |zero=>intro _;show(0:R)=a*el l k-a^1*el l (k-0);rw[Nat.sub_zero];grind
  |succ j ih=>
   intro hj;show sm j _+a^(j+1)*el (a::l) (k-j)=_;rw[ih (by omega)];obtain⟨m,hm⟩:∃m,k-j=m+1:=⟨k-j-1,by omega⟩;rw[hm,show k-(j+1)=m by omega];show _-_+a^(j+1)*(el l (m+1)-a*el l m)=_
   grind
 show sm k _+a^(k+1)*el (a::l) (k-k)=_;rw[key k (Nat.le_refl k),Nat.sub_self,jX,jX];grind
def nt:Nat->R
 |0=>0
 |k+1=>nt k+1
theorem Dd:∀(l:List R) (k:Nat),nt (k+1)*el l (k+1)+sm (k+1) (fun i=>pw l (i+1)*el l (k-i))=0
 |[],k=>by
  have e:sm (k+1) (fun i=>pw ([]:List R) (i+1)*el ([]:List R) (k-i))=0:=by
   rw[aA (g:=fun _=>(0:R)) fun i _=>by show(0:R)*_=0;grind,gM]
  rw[e,show el ([]:List R) (k+1)=0 from rfl];grind
 |a::l,k=>by
  have h1:=Dd l k;have e1:sm (k+1) (fun i=>pw (a::l) (i+1)*el (a::l) (k-i))=a*el l k+sm (k+1) (fun i=>pw l (i+1)*el (a::l) (k-i)):=by
   rw[<-acQ a l k,<-cQ];exact aA fun i _=>by rw[O6];grind
  rw[e1];show nt (k+1)*(el l (k+1)-a*el l k)+_=0;cases k with
  |zero=>
   have e2:sm (0+1) (fun i=>pw l (i+1)*el (a::l) (0-i))=sm (0+1) (fun i=>pw l (i+1)*el l (0-i)):=aA fun i hi=>by
    have:i=0:=by omega
    subst this;rfl
   rw[e2];generalize sm (0+1) (fun i=>pw l (i+1)*el l (0-i))=s at h1⊢;generalize el l (0+1)=x at h1⊢;generalize el l 0=y at h1⊢;have c1:(nt (0+1):R)=1:=by show(0:R)+1=1;grind
   rw[c1]at h1⊢
   grind
  |succ k=>
   have h2:=Dd l k;have e2:sm (k+1+1) (fun i=>pw l (i+1)*el (a::l) (k+1-i))=sm (k+1+1) (fun i=>pw l (i+1)*el l (k+1-i))-a*sm (k+1) (fun i=>pw l (i+1)*el l (k-i)):=by
    show sm (k+1) _+pw l (k+1+1)*el (a::l) (k+1-(k+1))=sm (k+1) _+pw l (k+1+1)*el l (k+1-(k+1))-_;rw[Nat.sub_self,jX,jX];have:sm (k+1) (fun i=>pw l (i+1)*el (a::l) (k+1-i))=sm (k+1) (fun i=>pw l (i+1)*el l (k+1-i))+(-a)*sm (k+1) (fun i=>pw l (i+1)*el l (k-i)):=by
     rw[<-bG,<-cQ];refine aA fun i hi=>?_;rw[show k+1-i=(k-i)+1 by omega];show pw l (i+1)*(el l (k-i+1)-a*el l (k-i))=_
     grind
    rw[this];grind
   rw[e2];generalize sm (k+1+1) (fun i=>pw l (i+1)*el l (k+1-i))=s at h1⊢;generalize sm (k+1) (fun i=>pw l (i+1)*el l (k-i))=t at h2⊢;generalize el l (k+1+1)=x at h1⊢;generalize el l (k+1)=y at h1 h2⊢;have c1:(nt (k+1+1):R)=nt (k+1)+1:=rfl;rw[c1]at h1⊢;generalize (nt (k+1):R)=n at h1 h2⊢
   grind
def dl:List R->(Nat->R)->Nat->R
 |[],a=>a
 |x::l,a=>dl l fun n=>a (n+1)-x*a n
theorem RL:∀(l:List R) (a:Nat->R) (n:Nat),dl l a n=sm (l.length+1) (fun k=>el l k*a (n+l.length-k))
 |[],a,n=>by
  show a n=0+el ([]:List R) 0*a (n+0-0);rw[jX,Nat.add_zero,Nat.sub_zero];grind
 |x::l,a,n=>by
  show dl l (fun n=>a (n+1)-x*a n) n=_;rw[RL l,List.length_cons];have e1:sm (l.length+1+1) (fun k=>el (x::l) k*a (n+(l.length+1)-k))=sm (l.length+1+1) (fun k=>el l k*a (n+(l.length+1)-k))+(-x)*sm (l.length+1) (fun k=>el l k*a (n+l.length-k)):=by
   rw[dX (fun k=>el (x::l) k*a (n+(l.length+1)-k)),dX (fun k=>el l k*a (n+(l.length+1)-k)),<-bG];have:sm (l.length+1) (fun i=>el (x::l) (i+1)*a (n+(l.length+1)-(i+1)))=sm (l.length+1) (fun i=>el l (i+1)*a (n+(l.length+1)-(i+1)))+sm (l.length+1) (fun k=>-x*(el l k*a (n+l.length-k))):=by
    rw[<-cQ];refine aA fun i _=>?_;show(el l (i+1)-x*el l i)*_=_;rw[show n+(l.length+1)-(i+1)=n+l.length-i by omega];grind
   rw[this];show el l 0*_+_=_
   grind
  rw[e1];show _=sm (l.length+1) _+el l (l.length+1)*_+_;rw[Ky l (l.length+1) (by omega),<-bG];have e2:sm (l.length+1) (fun k=>el l k*(a (n+l.length-k+1)-x*a (n+l.length-k)))=sm (l.length+1) (fun k=>el l k*a (n+(l.length+1)-k))+sm (l.length+1) (fun k=>-x*(el l k*a (n+l.length-k))):=by
   rw[<-cQ];refine aA fun k hk=>?_;rw[show n+(l.length+1)-k=n+l.length-k+1 by omega];grind
  rw[e2];grind
theorem vP:∀(l:List R) (a b:Nat->R) (x y:R) (n:Nat),dl l (fun n=>x*a n+y*b n) n=x*dl l a n+y*dl l b n
 |[],_,_,_,_,_=>rfl
 |z::l,a,b,x,y,n=>by
  show dl l (fun n=>x*a (n+1)+y*b (n+1)-z*(x*a n+y*b n)) n=x*dl l _ n+y*dl l _ n;rw[<-vP l];exact congrArg (fun f=>dl l f n) (funext fun n=>by grind)
theorem pQ:∀(l:List R) (a:Nat->R) (n:Nat),dl l (fun n=>a (n+1)) n=dl l a (n+1)
 |[],_,_=>rfl
 |z::l,a,n=>pQ l (fun n=>a (n+1)-z*a n) n
theorem EY(l:List R)(n:Nat):dl l (fun _=>0) n=0:=by
 have:=vP l (fun _=>(0:R)) (fun _=>0) 0 0 n;rw[show(fun _:Nat=>(0:R)*0+0*0)=fun _=>0 from funext fun _=>by grind]at this;rw[this];grind
theorem Ah:∀(l l':List R) (a:Nat->R),dl (l++l') a=dl l' (dl l a)
 |[],_,_=>rfl
 |x::l,l',a=>Ah l l' _
inductive Zc(A B:List R):(Nat->R)->Prop
 |one {u v:Nat->R}:(∀n,dl A u n=0)->(∀n,dl B v n=0)->Zc A B fun n=>u n*v n
 |lin {s t:Nat->R} (x y:R):Zc A B s->Zc A B t->Zc A B fun n=>x*s n+y*t n
theorem Zc.step{A B:List R}{s:Nat->R}(h:Zc A B s)(g:R):Zc A B fun n=>s (n+1)-g*s n:=by
 induction h with
 |@one u v hu hv=>
  have h1:Zc A B fun n=>u (n+1)*v (n+1):= .one (u:=fun n=>u (n+1)) (v:=fun n=>v (n+1)) (fun n=>by rw[pQ];exact hu _) fun n=>by rw[pQ];exact hv _
  have:=Zc.lin 1 (-g) h1 (.one hu hv);rw[show(fun n=>u (n+1)*v (n+1)-g*(u n*v n))=fun n=>1*(u (n+1)*v (n+1)) + -g*(u n*v n)from funext fun n=>by grind];exact this
 |@lin s t x y _ _ h1 h2=>
  have:=Zc.lin x y h1 h2;rw[show(fun n=>x*s (n+1)+y*t (n+1)-g*(x*s n+y*t n))=fun n=>x*(s (n+1)-g*s n)+y*(t (n+1)-g*t n)from funext fun n=>by grind];exact this
theorem Zc.dl{A B:List R}:∀(l:List R) {s:Nat->R},Zc A B s->Zc A B (Nw.dl l s)
 |[],_,h=>h
 |g::l,_,h=>Zc.dl l (h.step g)
theorem Zc.more{A B:List R}{b:R}{s:Nat->R}(h:Zc A B s):Zc A (b::B) s:=by
 induction h with
 |@one u v hu hv=>
  refine .one hu fun n=>?_;show Nw.dl B (fun n=>v (n+1)-b*v n) n=0;have:=vP B (fun n=>v (n+1)) v 1 (-b) n;rw[show(fun n=>v (n+1)-b*v n)=fun n=>1*v (n+1) + -b*v n from funext fun n=>by grind,this,pQ,hv,hv];grind
 |lin x y _ _ h1 h2=>exact .lin x y h1 h2
theorem SG{a:R}{A:List R}:∀(B:List R) {u v:Nat->R},(∀n,dl (a::A) u n=0)->(∀n,dl B v n=0)->Zc A B (dl (B.map fun b=>a*b) fun n=>u n*v n)
 |[],u,v,hu,hv=>by
  have:(fun n=>u n*v n)=fun n=>(0:R)*(0*v n)+0*(0*v n):=funext fun n=>by rw[show v n=0 from hv n];grind
  show Zc A [] fun n=>u n*v n;rw[this];have z:Zc A [] fun n=>(0:R)*v n:= .one (u:=fun _=>0) (fun n=>EY A n) hv;exact .lin 0 0 z z
 |b::B,u,v,hu,hv=>by
  show Zc A (b::B) (dl (B.map fun b=>a*b) fun n=>u (n+1)*v (n+1)-a*b*(u n*v n));have h1:Zc A (b::B) fun n=>(u (n+1)-a*u n)*v (n+1):= .one (u:=fun n=>u (n+1)-a*u n) (v:=fun n=>v (n+1)) hu fun n=>by rw[pQ];exact hv _
  have h2:=(SG (a:=a) (A:=A) B (u:=u) (v:=fun n=>v (n+1)-b*v n) hu hv).more (b:=b);have:=Zc.lin 1 a (h1.dl (B.map fun b=>a*b)) h2;rw[show(fun n=>u (n+1)*v (n+1)-a*b*(u n*v n))=fun n=>1*((u (n+1)-a*u n)*v (n+1))+a*(u n*(v (n+1)-b*v n))from funext fun n=>by grind];rw[show Nw.dl (B.map fun b=>a*b) (fun n=>1*((u (n+1)-a*u n)*v (n+1))+a*(u n*(v (n+1)-b*v n)))=fun n=>1*Nw.dl (B.map fun b=>a*b) (fun n=>(u (n+1)-a*u n)*v (n+1)) n+a*Nw.dl (B.map fun b=>a*b) (fun n=>u n*(v (n+1)-b*v n)) n from funext fun n=>vP _ _ _ _ _ n];exact this
def prs:List R->List R->List R
 |[],_=>[]
 |a::A,B=>(B.map fun b=>a*b)++prs A B
theorem CF:∀(A B:List R) {s:Nat->R},Zc A B s->∀n,dl (prs A B) s n=0
 |[],B,s,h,n=>by
  show s n=0;induction h with
  |@one u v hu hv=>show u n*v n=0;rw[show u n=0 from hu n];grind
  |@lin s t x y _ _ h1 h2=>show x*s n+y*t n=0;rw[h1,h2];grind
 |a::A,B,s,h,n=>by
  have key:Zc A B (dl (B.map fun b=>a*b) s):=by
   induction h with
   |one hu hv=>exact SG B hu hv
   |@lin s t x y _ _ h1 h2=>
    rw[show dl (B.map fun b=>a*b) (fun n=>x*s n+y*t n)=fun n=>x*dl (B.map fun b=>a*b) s n+y*dl (B.map fun b=>a*b) t n from funext fun n=>vP _ _ _ _ _ n];exact .lin x y h1 h2
  show dl ((B.map fun b=>a*b)++prs A B) s n=0;rw[Ah];exact CF A B key n
theorem Iw{A B:List R}{u v:Nat->R}(hu:∀n,dl A u n=0)(hv:∀n,dl B v n=0)(n:Nat):dl (prs A B) (fun n=>u n*v n) n=0:=CF A B (.one hu hv) n
theorem yX:∀(l l':List R) (k:Nat),pw (l++l') k=pw l k+pw l' k
 |[],l',k=>by show pw l' k=0+pw l' k;grind
 |a::l,l',k=>by show a^k+pw (l++l') k=a^k+pw l k+pw l' k;rw[yX l l' k];grind
theorem LX(a:R):∀(B:List R) (k:Nat),pw (B.map fun b=>a*b) k=a^k*pw B k
 |[],k=>by show(0:R)=a^k*0;grind
 |b::B,k=>by
  show(a*b)^k+pw (B.map fun b=>a*b) k=a^k*(b^k+pw B k);have:(a*b)^k=a^k*b^k:=by
   induction k with
   |zero=>grind
   |succ k ih=>grind
  rw[this,LX a B k];grind
theorem Mg:∀(A B:List R) (k:Nat),pw (prs A B) k=pw A k*pw B k
 |[],B,k=>by show(0:R)=0*pw B k;grind
 |a::A,B,k=>by
  show pw ((B.map fun b=>a*b)++prs A B) k=(a^k+pw A k)*pw B k;rw[yX,LX,Mg A B k];grind
theorem Je:∀A B:List R,(prs A B).length=A.length*B.length
 |[],B=>by simp[prs]
 |a::A,B=>by simp[prs,Je A B,Nat.succ_mul];omega
end Nw
namespace Nw
open Lean.Grind
structure Laws{α:Type}(z o:α)(ad mu:α->α->α)(ng:α->α):Prop where
 ad0:∀a,ad a z=a
 adC:∀a b,ad a b=ad b a
 adA:∀a b c,ad (ad a b) c=ad a (ad b c)
 muA:∀a b c,mu (mu a b) c=mu a (mu b c)
 mu1:∀a,mu a o=a
 muC:∀a b,mu a b=mu b a
 dis:∀a b c,mu a (ad b c)=ad (mu a b) (mu a c)
 ngA:∀a,ad (ng a) a=z
section
variable {α:Type} {z o:α} {ad mu:α->α->α} {ng:α->α}
def ntB(z o:α)(ad:α->α->α):Nat->α
 |0=>z
 |n+1=>ad (ntB z o ad n) o
def itB(z o:α)(ad:α->α->α)(ng:α->α):Int->α
 |.ofNat n=>ntB z o ad n
 |.negSucc n=>ng (ntB z o ad (n+1))
def pwB(z o:α)(ad mu:α->α->α)(a:α):Nat->α
 |0=>ntB z o ad 1
 |n+1=>mu (pwB z o ad mu a n) a
theorem Laws.z0(L:Laws z o ad mu ng)(a:α):ad z a=a:=by rw[L.adC,L.ad0]
theorem Laws.one(L:Laws z o ad mu ng):ntB z o ad 1=o:=L.z0 o
theorem Laws.can(L:Laws z o ad mu ng){a b:α}(h:ad b a=a):b=z:=by
 have:ad (ad b a) (ng a)=ad a (ng a):=by rw[h]
 rw[L.adA,L.adC a,L.ngA,L.ad0]at this;exact this
theorem Laws.mu0(L:Laws z o ad mu ng)(a:α):mu a z=z:=by
 refine L.can (a:=mu a z) ?_;rw[<-L.dis,L.ad0]
theorem Laws.FP(L:Laws z o ad mu ng){a b:α}(h:ad b a=z):b=ng a:=by
 have:ad (ad b a) (ng a)=ad z (ng a):=by rw[h]
 rw[L.adA,L.adC a,L.ngA,L.ad0,L.z0]at this;exact this
theorem Laws.YT(L:Laws z o ad mu ng)(a b:α):mu (ng a) b=ng (mu a b):=by
 refine L.FP ?_;rw[L.muC (ng a),L.muC a,<-L.dis,L.ngA,L.mu0]
theorem Laws.ng0(L:Laws z o ad mu ng):ng z=z:=by
 have:=L.ngA z;rw[L.ad0]at this;exact this
theorem Laws.ngg(L:Laws z o ad mu ng)(a:α):ng (ng a)=a:=(L.FP (by rw[L.adC,L.ngA])).symm
theorem Laws.itN(L:Laws z o ad mu ng):∀i:Int,itB z o ad ng (-i)=ng (itB z o ad ng i)
 |.ofNat 0=>L.ng0.symm
 |.ofNat (n+1)=>rfl
 |.negSucc n=>(L.ngg _).symm
@[reducible] def Laws.ring(L:Laws z o ad mu ng):CommRing α:=
 { add:=ad,mul:=mu,neg:=ng,sub:=fun a b=>ad a (ng b),natCast:=⟨ntB z o ad⟩,ofNat:=fun n=>⟨ntB z o ad n⟩,nsmul:=⟨fun n a=>mu (ntB z o ad n) a⟩,npow:=⟨fun a n=>pwB z o ad mu a n⟩,intCast:=⟨itB z o ad ng⟩,zsmul:=⟨fun i a=>mu (itB z o ad ng i) a⟩,add_zero:=L.ad0,add_comm:=L.adC,add_assoc:=L.adA,mul_assoc:=L.muA,mul_one:=fun a=>by show mu a (ntB z o ad 1)=a;rw[L.one,L.mu1],one_mul:=fun a=>by show mu (ntB z o ad 1) a=a;rw[L.one,L.muC,L.mu1],left_distrib:=L.dis,right_distrib:=fun a b c=>by show mu (ad a b) c=ad (mu a c) (mu b c);rw[L.muC,L.dis,L.muC c,L.muC c],zero_mul:=fun a=>by show mu z a=z;rw[L.muC,L.mu0],mul_zero:=L.mu0,pow_zero:=fun a=>rfl,pow_succ:=fun a n=>rfl,mul_comm:=L.muC,ofNat_succ:=fun n=>by show ad (ntB z o ad n) o=ad (ntB z o ad n) (ntB z o ad 1);rw[L.one],neg_add_cancel:=L.ngA,sub_eq_add_neg:=fun a b=>rfl,neg_zsmul:=fun i a=>by show mu (itB z o ad ng (-i)) a=ng (mu (itB z o ad ng i) a);rw[L.itN,L.YT],intCast_neg:=L.itN }
end
variable {R:Type} [CommRing R]
structure Xt(R:Type)[CommRing R](d:Nat)(c:Nat->R) where
 f:Nat->R
 z:∀i,d<=i->f i=0
theorem Xt.eq{d:Nat}{c:Nat->R}:∀{x y:Xt R d c},(∀i,i<d->x.f i=y.f i)->x=y
 |⟨f,hf⟩,⟨g,hg⟩,h=>by
  have:f=g:=funext fun i=>by
   by_cases q:i<d
   ·exact h i q
   ·rw[hf i (by omega),hg i (by omega)]
  subst this;rfl
section
variable {d:Nat} {c:Nat->R}
def xT(x:Xt R d c):Xt R d c:=⟨fun i=>if i<d then(if i=0 then 0 else x.f (i-1))+x.f (d-1)*c i else 0,fun i h=>if_neg (by omega)⟩
def xN:Nat->Xt R d c->Xt R d c
 |0,x=>x
 |k+1,x=>xT (xN k x)
def xAd(x y:Xt R d c):Xt R d c:=⟨fun i=>x.f i+y.f i,fun i h=>by rw[x.z i h,y.z i h];grind⟩
def xNg(x:Xt R d c):Xt R d c:=⟨fun i=>-x.f i,fun i h=>by rw[x.z i h];grind⟩
def xS(n:Nat)(g:Nat->R)(F:Nat->Xt R d c):Xt R d c:=⟨fun i=>sm n fun k=>g k*(F k).f i,fun i h=>by
 rw[aA (g:=fun _=>(0:R)) fun k _=>by rw[(F k).z i h];grind,gM]⟩
def xMu(x y:Xt R d c):Xt R d c:=xS d x.f fun k=>xN k y
def xE(hd:0<d):Xt R d c:=⟨fun i=>if i=0 then 1 else 0,fun i h=>if_neg (by omega)⟩
theorem aaG(n:Nat)(g:Nat->R)(F:Nat->Xt R d c):xT (xS n g F)=xS n g fun k=>xT (F k):=Xt.eq fun i hi=>by
 show(if i<d then(if i=0 then 0 else sm n fun k=>g k*(F k).f (i-1))+(sm n fun k=>g k*(F k).f (d-1))*c i else 0)=sm n fun k=>g k*(if i<d then(if i=0 then 0 else(F k).f (i-1))+(F k).f (d-1)*c i else 0);rw[if_pos hi];have e1:(sm n fun k=>g k*(F k).f (d-1))*c i=sm n fun k=>c i*(g k*(F k).f (d-1)):=by rw[bG];grind
 rw[e1];by_cases z:i=0
 ·rw[if_pos z];rw[show((0:R)+sm n fun k=>c i*(g k*(F k).f (d-1)))=sm n fun k=>c i*(g k*(F k).f (d-1))by grind];exact aA fun k _=>by rw[if_pos hi,if_pos z];grind
 ·rw[if_neg z,<-cQ];exact aA fun k _=>by rw[if_pos hi,if_neg z];grind
theorem UO(n:Nat)(g:Nat->R)(F:Nat->Xt R d c):∀j,xN j (xS n g F)=xS n g fun k=>xN j (F k)
 |0=>rfl
 |j+1=>by show xT (xN j (xS n g F))=_;rw[UO n g F j,aaG];rfl
theorem zc(x:Xt R d c):∀i j,xN (i+j) x=xN i (xN j x)
 |0,j=>by rw[Nat.zero_add];rfl
 |i+1,j=>by rw[Nat.succ_add];show xT (xN (i+j) x)=xT (xN i (xN j x));rw[zc x i j]
theorem ZL(hd:0<d):∀k,k<d->∀i,(xN k (xE (c:=c) hd)).f i=if i=k then 1 else 0
 |0,_,i=>rfl
 |k+1,hk,i=>by
  show(if i<d then(if i=0 then 0 else(xN k (xE (c:=c) hd)).f (i-1))+(xN k (xE (c:=c) hd)).f (d-1)*c i else 0)=_;rw[ZL hd k (by omega),ZL hd k (by omega)];by_cases q:i<d
  ·rw[if_pos q,if_neg (show ¬d-1=k by omega)];by_cases z:i=0
   ·rw[if_pos z,if_neg (show ¬i=k+1 by omega)];grind
   ·rw[if_neg z];by_cases y:i=k+1
    ·rw[if_pos y,if_pos (by omega)];grind
    ·rw[if_neg y,if_neg (by omega)];grind
  ·rw[if_neg q,if_neg (by omega)]
theorem GP(g:Nat->R)(i:Nat):∀n,sm n (fun k=>g k*(if i=k then 1 else 0))=if i<n then g i else 0
 |0=>by rw[if_neg (by omega)];rfl
 |n+1=>by
  show sm n _+g n*(if i=n then 1 else 0)=_;rw[GP g i n];by_cases a:i<n
  ·rw[if_pos a,if_neg (by omega),if_pos (by omega)];grind
  ·rw[if_neg a];by_cases b:i=n
   ·rw[if_pos b,if_pos (by omega),b];grind
   ·rw[if_neg b,if_neg (by omega)];grind
theorem Ul(hd:0<d)(x:Xt R d c):xS d x.f (fun k=>xN k (xE hd))=x:=Xt.eq fun i hi=>by
 show sm d (fun k=>x.f k*(xN k (xE (c:=c) hd)).f i)=x.f i;rw[aA fun k hk=>by rw[ZL hd k hk],GP,if_pos hi]
theorem IY(n m:Nat)(g h:Nat->R)(x:Xt R d c):xS n g (fun k=>xN k (xS m h fun j=>xN j x))=xS m h (fun j=>xN j (xS n g fun k=>xN k x)):=Xt.eq fun i hi=>by
 show sm n (fun k=>g k*(xN k (xS m h fun j=>xN j x)).f i)=sm m (fun j=>h j*(xN j (xS n g fun k=>xN k x)).f i);have e1:sm n (fun k=>g k*(xN k (xS m h fun j=>xN j x)).f i)=sm n (fun k=>sm m fun j=>g k*(h j*(xN (k+j) x).f i)):=aA fun k _=>by
  rw[UO,bG];exact congrArg (g k * ·) (aA fun j _=>by rw[zc])
 have e2:sm m (fun j=>h j*(xN j (xS n g fun k=>xN k x)).f i)=sm m (fun j=>sm n fun k=>g k*(h j*(xN (k+j) x).f i)):=aA fun j _=>by
  rw[UO];show h j*sm n (fun k=>g k*(xN j (xN k x)).f i)=_;rw[<-bG];exact aA fun k _=>by rw[Nat.add_comm k j,zc];grind
 rw[e1,e2,lQ]
theorem OL(hd:0<d)(x y:Xt R d c):xMu x y=xMu y x:=by
 have h:=IY d d x.f y.f (xE (c:=c) hd);rw[Ul,Ul]at h;exact h
theorem acF(hd:0<d)(x y w:Xt R d c):xMu (xMu x y) w=xMu x (xMu y w):=by
 rw[OL hd (xMu x y) w,OL hd y w];exact IY d d w.f x.f y
theorem adb(x y w:Xt R d c)(hd:0<d):xMu x (xAd y w)=xAd (xMu x y) (xMu x w):=by
 rw[OL hd x,OL hd x y,OL hd x w];refine Xt.eq fun i hi=>?_;show sm d (fun k=>(y.f k+w.f k)*(xN k x).f i)=sm d (fun k=>y.f k*(xN k x).f i)+sm d (fun k=>w.f k*(xN k x).f i);rw[<-cQ];exact aA fun k _=>by grind
def xZ:Xt R d c:=⟨fun _=>0,fun _ _=>rfl⟩
theorem Rt(hd:0<d):Laws (α:=Xt R d c) xZ (xE hd) xAd xMu xNg:=
 ⟨fun a=>Xt.eq fun i _=>by show a.f i+0=a.f i;grind,fun a b=>Xt.eq fun i _=>by show a.f i+b.f i=b.f i+a.f i;grind,fun a b e=>Xt.eq fun i _=>by show a.f i+b.f i+e.f i=a.f i+(b.f i+e.f i);grind,acF hd,fun a=>Ul hd a,OL hd,fun a b e=>adb a b e hd,fun a=>Xt.eq fun i _=>by show -a.f i+a.f i=0;grind⟩
def xX(hd:0<d):Xt R d c:=xT (xE hd)
theorem QS(hd:0<d)(x:Xt R d c):xMu (xX hd) x=xT x:=by
 rw[OL hd];show xS d x.f (fun k=>xN k (xN 1 (xE hd)))=xT x;have:(fun k=>xN k (xN 1 (xE (c:=c) hd)))=fun k=>xT (xN k (xE hd)):=funext fun k=>by
  rw[<-zc,Nat.add_comm,zc];rfl
 rw[this,<-aaG,Ul]
end
instance abR{d:Nat}{c:Nat->R}:CommRing (Xt R (d+1) c):=(Rt (Nat.succ_pos d)).ring
section
variable {d:Nat} {c:Nat->R}
theorem Qk:(1:Xt R (d+1) c)=xE (Nat.succ_pos d):=(Rt (Nat.succ_pos d)).one
theorem Pu(x y:Xt R (d+1) c)(i:Nat):(x+y).f i=x.f i+y.f i:=rfl
theorem x_zero(i:Nat):(0:Xt R (d+1) c).f i=0:=rfl
theorem abu(x:Xt R (d+1) c)(i:Nat):∀n,(nt n*x).f i=nt n*x.f i
 |0=>by
  rw[show(nt 0:Xt R (d+1) c)*x=0 by show(0:Xt R (d+1) c)*x=0;grind,x_zero];show(0:R)=0*x.f i;grind
 |n+1=>by
  rw[show(nt (n+1):Xt R (d+1) c)*x=nt n*x+x by show(nt n+1)*x=_;grind,Pu,abu x i n];show _=(nt n+1)*x.f i;grind
def xI(r:R):Xt R (d+1) c:=⟨fun i=>if i=0 then r else 0,fun i h=>if_neg (by omega)⟩
theorem Dr(r:R)(g:Nat->R):∀n,sm (n+1) (fun k=>(if k=0 then r else 0)*g k)=r*g 0
 |0=>by show 0+(if 0=0 then r else 0)*g 0=_;rw[if_pos rfl];grind
 |n+1=>by
  show sm (n+1) _+(if n+1=0 then r else 0)*g (n+1)=_;rw[Dr r g n,if_neg (by omega)];grind
theorem R6(r:R)(x:Xt R (d+1) c)(i:Nat):(xI r*x).f i=r*x.f i:=by
 show sm (d+1) (fun k=>(if k=0 then r else 0)*(xN k x).f i)=_;rw[Dr];rfl
end
structure Hom{R S:Type}[CommRing R][CommRing S](ψ:R->S):Prop where
 one:ψ 1=1
 add:∀a b,ψ (a+b)=ψ a + ψ b
 mul:∀a b,ψ (a*b)=ψ a * ψ b
theorem Hom.zero{R S:Type}[CommRing R][CommRing S]{ψ:R->S}(h:Hom ψ):ψ 0=0:=by
 have:=h.add 0 0;rw[show(0:R)+0=0 by grind]at this
 grind
theorem Hom.neg{R S:Type}[CommRing R][CommRing S]{ψ:R->S}(h:Hom ψ)(a:R):ψ (-a)=-ψ a:=by
 have:=h.add (-a) a;rw[show -a+a=0 by grind,h.zero]at this
 grind
theorem Hom.sub{R S:Type}[CommRing R][CommRing S]{ψ:R->S}(h:Hom ψ)(a b:R):ψ (a-b)=ψ a - ψ b:=by
 rw[show a-b=a + -b by grind,h.add,h.neg];grind
theorem Hom.nt{R S:Type}[CommRing R][CommRing S]{ψ:R->S}(h:Hom ψ):∀n,ψ (nt n)=Nw.nt n
 |0=>h.zero
 |n+1=>by show ψ (Nw.nt n+1)=Nw.nt n+1;rw[h.add,h.nt n,h.one]
theorem Hom.comp{R S U:Type}[CommRing R][CommRing S][CommRing U]{ψ:R->S}{χ:S->U}(h:Hom ψ)(g:Hom χ):Hom fun r=>χ (ψ r):=
 ⟨by rw[h.one,g.one],fun a b=>by rw[h.add,g.add],fun a b=>by rw[h.mul,g.mul]⟩
structure Pur{R:Type}[CommRing R](φ:Int->R):Prop where
 hom:Hom φ
 inj:∀t,φ t=0->t=0
 pu:∀(k:Nat) (r:R) (t:Int),nt (k+1)*r=φ t->∃q,r=φ q
theorem ntI:∀n:Nat,(nt n:Int)=(n:Int)
 |0=>rfl
 |n+1=>by show(nt n:Int)+1=_;rw[ntI n];omega
theorem Pur.tf{R:Type}[CommRing R]{φ:Int->R}(h:Pur φ){k:Nat}{r:R}(e:nt (k+1)*r=0):r=0:=by
 obtain⟨q,rfl⟩:=h.pu k r 0 (by rw[e,h.hom.zero]);rw[<-h.hom.nt,<-h.hom.mul]at e;have:=h.inj _ e;rw[ntI]at this;have:q=0:=by
  rcases Int.mul_eq_zero.mp this with z|z
  ·omega
  ·exact z
 rw[this,h.hom.zero]
theorem Oq:Pur (fun t:Int=>t):=⟨⟨rfl,fun _ _=>rfl,fun _ _=>rfl⟩,fun _ h=>h,fun _ r _ _=>⟨r,rfl⟩⟩
theorem CP{d:Nat}{c:Nat->R}:Hom (xI (d:=d) (c:=c)):=
 ⟨by rw[Qk];rfl,fun a b=>Xt.eq fun i _=>by
  show(if i=0 then a+b else 0)=(if i=0 then a else 0)+(if i=0 then b else 0);split
  ·rfl
  ·grind,fun a b=>Xt.eq fun i _=>by
  rw[R6];show(if i=0 then a*b else 0)=a*(if i=0 then b else 0);split
  ·rfl
  ·grind⟩
theorem SX{d:Nat}{c:Nat->R}{φ:Int->R}(h:Pur φ):Pur fun t=>xI (d:=d) (c:=c) (φ t):=by
 refine⟨h.hom.comp CP,fun t e=>h.inj t ?_,fun k r t e=>?_⟩
 ·have:=congrArg (fun x:Xt R (d+1) c=>x.f 0) e;exact this
 ·have co:∀i,nt (k+1)*r.f i=(if i=0 then φ t else 0):=fun i=>by
   have:=congrArg (fun x:Xt R (d+1) c=>x.f i) e;have t2:=abu r i (k+1);exact t2.symm.trans this
  obtain⟨q,hq⟩:=h.pu k (r.f 0) t (by rw[co 0,if_pos rfl]);refine⟨q,Xt.eq fun i _=>?_⟩;show r.f i=if i=0 then φ q else 0;by_cases z:i=0
  ·rw[if_pos z,z,hq]
  ·rw[if_neg z];have:=co i;rw[if_neg z]at this;exact h.tf this
def hn{S:Type}[CommRing S](p:Nat->S)(x:S):Nat->S
 |0=>1
 |k+1=>p (k+1)+x*hn p x k
theorem Ju{d:Nat}{p:Nat->R}(p0:p 0=1):∀k,k<=d->∀i,(hn (fun k=>xI (p k)) (xX (Nat.succ_pos d)) k:Xt R (d+1) fun i=>-p (d+1-i)).f i=if i<=k then p (k-i)else 0
 |0,_,i=>by
  show(1:Xt R (d+1) _).f i=_;rw[Qk];show(if i=0 then(1:R)else 0)=_;by_cases z:i=0
  ·rw[if_pos z,if_pos (by omega),Nat.zero_sub,p0]
  ·rw[if_neg z,if_neg (by omega)]
 |k+1,hk,i=>by
  show(xI (p (k+1))+xX (Nat.succ_pos d)*hn (fun k=>xI (p k)) (xX (Nat.succ_pos d)) k:Xt R (d+1) fun i=>-p (d+1-i)).f i=_;rw[Pu,show ∀x:Xt R (d+1) fun i=>-p (d+1-i),xX (Nat.succ_pos d)*x=xT x from QS (Nat.succ_pos d)];show(if i=0 then p (k+1)else 0)+(if i<d+1 then(if i=0 then 0 else(hn (fun k=>xI (p k)) (xX (Nat.succ_pos d)) k:Xt R (d+1) fun i=>-p (d+1-i)).f (i-1))+(hn (fun k=>xI (p k)) (xX (Nat.succ_pos d)) k:Xt R (d+1) fun i=>-p (d+1-i)).f (d+1-1) * -p (d+1-i)else 0)=_;rw[Ju p0 k (by omega),Ju p0 k (by omega),if_neg (show ¬d+1-1<=k by omega)];by_cases z:i=0
  ·rw[if_pos z,if_pos (by omega),if_pos z,if_pos (by omega),z];show p (k+1)+(0+0 * -p (d+1-0))=p (k+1)
   grind
  ·rw[if_neg z,if_neg z];by_cases q:i<d+1
   ·rw[if_pos q];by_cases y:i<=k+1
    ·rw[if_pos (by omega),if_pos y,show k-(i-1)=k+1-i by omega];grind
    ·rw[if_neg (by omega),if_neg y];grind
   ·rw[if_neg q,if_neg (by omega)];grind
theorem QB{d:Nat}{p:Nat->R}(p0:p 0=1):(hn (fun k=>xI (p k)) (xX (Nat.succ_pos d)) (d+1):Xt R (d+1) fun i=>-p (d+1-i))=0:=Xt.eq fun i hi=>by
 show(xI (p (d+1))+xX (Nat.succ_pos d)*hn (fun k=>xI (p k)) (xX (Nat.succ_pos d)) d:Xt R (d+1) fun i=>-p (d+1-i)).f i=0;rw[Pu,show ∀x:Xt R (d+1) fun i=>-p (d+1-i),xX (Nat.succ_pos d)*x=xT x from QS (Nat.succ_pos d)];show(if i=0 then p (d+1)else 0)+(if i<d+1 then(if i=0 then 0 else(hn (fun k=>xI (p k)) (xX (Nat.succ_pos d)) d:Xt R (d+1) fun i=>-p (d+1-i)).f (i-1))+(hn (fun k=>xI (p k)) (xX (Nat.succ_pos d)) d:Xt R (d+1) fun i=>-p (d+1-i)).f (d+1-1) * -p (d+1-i)else 0)=0;rw[Ju p0 d (Nat.le_refl d),Ju p0 d (Nat.le_refl d),if_pos hi,if_pos (show d+1-1<=d by omega),show d-(d+1-1)=0 by omega,p0];by_cases z:i=0
 ·rw[if_pos z,if_pos z,z];show p (d+1)+(0+1 * -p (d+1-0))=0;rw[Nat.sub_zero];grind
 ·rw[if_neg z,if_neg z,if_pos (by omega),show d-(i-1)=d+1-i by omega];grind
theorem splits:∀(d:Nat) (R:Type) [CommRing R] (φ:Int->R) (p:Nat->R),Pur φ->p 0=1->(∀k,d<k->p k=0)->
  ∃(S:Type) (_:CommRing S) (ψ:R->S),Hom ψ/\Pur (fun t=>ψ (φ t))/\∃l:List S,l.length=d/\∀k,el l k=ψ (p k)
 |0,R,_,φ,p,hφ,p0,pz=>⟨R,inferInstance,fun r=>r,⟨rfl,fun _ _=>rfl,fun _ _=>rfl⟩,hφ,[],rfl,fun k=>by
   show(if k=0 then(1:R)else 0)=p k;by_cases z:k=0
   ·rw[if_pos z,z,p0]
   ·rw[if_neg z,pz k (by omega)]⟩
 |d+1,R,_,φ,p,hφ,p0,pz=>by
  have hP:=SX (d:=d) (c:=fun i=>-p (d+1-i)) hφ;obtain⟨S,iS,ψ,hψ,hp,l,ll,he⟩:=splits d (Xt R (d+1) fun i=>-p (d+1-i)) (fun t=>xI (φ t)) (fun k=>if k<=d then hn (fun k=>xI (p k)) (xX (Nat.succ_pos d)) k else 0) hP (by rw[if_pos (Nat.zero_le d)];rfl) fun k hk=>if_neg (by omega);refine⟨S,iS,fun r=>ψ (xI r),CP.comp hψ,hp,ψ (xX (Nat.succ_pos d))::l,by rw[List.length_cons,ll],fun k=>?_⟩;have he':∀k,k<=d+1->el l k=ψ (hn (fun k=>xI (p k)) (xX (Nat.succ_pos d)) k):=fun k hk=>by
   rw[he k];by_cases z:k<=d
   ·rw[if_pos z]
   ·have e:k=d+1:=by omega
    rw[if_neg z,e,QB p0]
  cases k with
  |zero=>rw[jX,p0];exact(CP.comp hψ).one.symm
  |succ k=>
   by_cases z:k+1<=d+1
   ·show el l (k+1) - ψ (xX (Nat.succ_pos d))*el l k=_;rw[he' (k+1) z,he' k (by omega),<-hψ.mul,<-hψ.sub];refine congrArg ψ ?_;show(xI (p (k+1))+xX (Nat.succ_pos d)*hn (fun k=>xI (p k)) (xX (Nat.succ_pos d)) k)-_=_
    grind
   ·rw[Ky _ _ (by rw[List.length_cons,ll];omega),pz (k+1) (by omega)];exact(CP.comp hψ).zero.symm
end Nw
namespace Nw
open Lean.Grind
section
variable {S:Type} [CommRing S] {φ:Int->S}
theorem Hom.sm(h:Hom φ)(f:Nat->Int):∀n,φ (Nw.sm n f)=Nw.sm n fun k=>φ (f k)
 |0=>h.zero
 |n+1=>by show φ (Nw.sm n f+f n)=_;rw[h.add,h.sm f n];rfl
theorem Hom.ntI(h:Hom φ)(n:Nat):φ (n:Int)=Nw.nt n:=by rw[<-h.nt,Nw.ntI]
theorem Az{R:Type}[CommRing R](f:Nat->R):∀n:Nat,sm n f=sm n fun k=>f (n-1-k)
 |0=>rfl
 |n+1=>by
  rw[dX (fun k=>f (n+1-1-k)) n];show sm n f+f n=_;rw[Az f n,Nat.add_sub_cancel,Nat.sub_zero,aA (g:=fun i=>f (n-(i+1))) fun k _=>by rw[show n-(k+1)=n-1-k by omega]]
  grind
theorem yc(h:Hom φ){A:List S}{c s:Nat->Int}(n:Nat)(he:∀k,el A (k+1)=φ (-c k))(hs:∀k,k<n->s k=((k+1:Nat):Int)*c k+sm k fun i=>c i*s (k-1-i)):∀k,k<n->φ (s k)=pw A (k+1):=fun k=>by
 induction k using Nat.strongRecOn with
 |ind k ih=>
  intro hk;have nw:=Dd A k;have e0:sm (k+1) (fun i=>pw A (i+1)*el A (k-i))=sm k (fun i=>pw A (i+1)*el A (k-i))+pw A (k+1):=by
   show sm k _+pw A (k+1)*el A (k-k)=_;rw[Nat.sub_self,jX];grind
  have e1:sm k (fun i=>pw A (i+1)*el A (k-i))=-φ (sm k fun i=>c i*s (k-1-i)):=by
   have:sm k (fun i=>pw A (i+1)*el A (k-i))=sm k fun i=>-1 * φ (c (k-1-i)*s i):=aA fun i hi=>by
    rw[<-ih i hi (by omega),show k-i=k-1-i+1 by omega,he,h.mul,h.neg];grind
   rw[this,bG,h.sm,Az (fun i=>φ (c i*s (k-1-i)))];rw[aA (f:=fun i=>φ (c (k-1-i)*s i)) (g:=fun i=>φ (c (k-1-i)*s (k-1-(k-1-i)))) fun i hi=>by rw[show k-1-(k-1-i)=i by omega]]
   grind
  rw[e0,e1,he k]at nw;rw[hs k hk,h.add,h.mul,h.ntI];rw[h.neg]at nw
  grind
theorem CK(h:Pur φ){G:List S}{s r:Nat->Int}(n:Nat)(hp:∀k,k<n->φ (s k)=pw G (k+1))(hr:∀k,k<n->r k=(s k-sm k fun i=>r i*s (k-1-i))/((k+1:Nat):Int)):∀k,k<n->φ (r k)=-el G (k+1):=fun k=>by
 induction k using Nat.strongRecOn with
 |ind k ih=>
  intro hk;have nw:=Dd G k;have e0:sm (k+1) (fun i=>pw G (i+1)*el G (k-i))=sm k (fun i=>pw G (i+1)*el G (k-i))+pw G (k+1):=by
   show sm k _+pw G (k+1)*el G (k-k)=_;rw[Nat.sub_self,jX];grind
  have e1:sm k (fun i=>pw G (i+1)*el G (k-i))=-φ (sm k fun i=>r i*s (k-1-i)):=by
   have:sm k (fun i=>pw G (i+1)*el G (k-i))=sm k fun i=>-1 * φ (r (k-1-i)*s i):=aA fun i hi=>by
    have q:=ih (k-1-i) (by omega) (by omega);rw[<-hp i (by omega),show k-i=k-1-i+1 by omega,h.hom.mul,q];grind
   rw[this,bG,h.hom.sm,Az (fun i=>φ (r i*s (k-1-i)))];rw[aA (f:=fun i=>φ (r (k-1-i)*s i)) (g:=fun i=>φ (r (k-1-i)*s (k-1-(k-1-i)))) fun i hi=>by rw[show k-1-(k-1-i)=i by omega]]
   grind
  rw[e0,e1,<-hp k hk]at nw;have key:nt (k+1) * -el G (k+1)=φ (s k-sm k fun i=>r i*s (k-1-i)):=by rw[h.hom.sub];grind
  obtain⟨q,hq⟩:=h.pu k _ _ key;rw[hq,<-h.hom.ntI,<-h.hom.mul]at key;have z:((k+1:Nat):Int)*q-(s k-sm k fun i=>r i*s (k-1-i))=0:=h.inj _ (by rw[h.hom.sub,key];grind);have z2:(s k-sm k fun i=>r i*s (k-1-i))=((k+1:Nat):Int)*q:=by omega
  rw[hr k hk,z2,Int.mul_ediv_cancel_left _ (by omega),hq]
theorem qz(h:Hom φ){A:List S}{c a:Nat->Int}(he:∀k,k<A.length->el A (k+1)=φ (-c k))(n:Nat):dl A (fun n=>φ (a n)) n=φ (a (n+A.length)-sm A.length fun k=>c k*a (n+A.length-1-k)):=by
 rw[RL,dX,jX,Nat.sub_zero,h.sub,h.sm];have:sm A.length (fun i=>el A (i+1) * φ (a (n+A.length-(i+1))))=sm A.length fun i=>-1 * φ (c i*a (n+A.length-1-i)):=aA fun i hi=>by
  rw[he i hi,h.neg,h.mul,show n+A.length-(i+1)=n+A.length-1-i by omega];grind
 rw[this,bG];grind
theorem CQ{U:Type}[CommRing U]{ψ:S->U}(h:Hom ψ):∀(l:List S) (k:Nat),el (l.map ψ) k=ψ (el l k)
 |[],k=>by
  show(if k=0 then(1:U)else 0)=ψ (if k=0 then 1 else 0);split
  ·rw[h.one]
  ·rw[h.zero]
 |a::l,0=>CQ h l 0
 |a::l,k+1=>by
  show el (l.map ψ) (k+1) - ψ a*el (l.map ψ) k=ψ (el l (k+1)-a*el l k);rw[CQ h l,CQ h l,h.sub,h.mul]
end
def cof(c:Nat->Int):Nat->Int
 |0=>1
 |k+1=>-c k
theorem Mp(m:Nat)(c:Nat->Int)(hc:∀k,m<=k->c k=0):∃(S:Type) (_:CommRing S) (φ:Int->S),Pur φ/\∃A:List S,A.length=m/\∀k,el A (k+1)=φ (-c k):=by
 obtain⟨S,iS,ψ,hψ,hp,l,ll,he⟩:=splits m Int (fun t=>t) (cof c) Oq rfl fun k hk=>by
  cases k with
  |zero=>omega
  |succ k=>show -c k=0;rw[hc k (by omega)];rfl
 exact⟨S,iS,ψ,hp,l,ll,fun k=>he (k+1)⟩
theorem OB(m n:Nat)(c d:Nat->Int)(hc:∀k,m<=k->c k=0)(hd:∀k,n<=k->d k=0):∃(S:Type) (_:CommRing S) (φ:Int->S),Pur φ/\(∃A:List S,A.length=m/\∀k,el A (k+1)=φ (-c k))/\∃B:List S,B.length=n/\∀k,el B (k+1)=φ (-d k):=by
 obtain⟨S1,i1,φ1,h1,A,lA,eA⟩:=Mp m c hc;obtain⟨S,iS,ψ,hψ,hp,l,ll,he⟩:=splits n S1 φ1 (fun k=>φ1 (cof d k)) h1 (by show φ1 1=1;exact h1.hom.one) fun k hk=>by
  cases k with
  |zero=>omega
  |succ k=>show φ1 (-d k)=0;rw[hd k (by omega)];exact h1.hom.zero
 exact⟨S,iS,fun t=>ψ (φ1 t),hp,⟨A.map ψ,by rw[List.length_map,lA],fun k=>by rw[CQ hψ,eA]⟩,l,ll,fun k=>he (k+1)⟩
theorem Hs{m n:Nat}{c d a b s t r:Nat->Int}(hc:∀k,m<=k->c k=0)(hd:∀k,n<=k->d k=0)(ha:∀i,a (i+m)=sm m fun k=>c k*a (i+m-1-k))(hb:∀i,b (i+n)=sm n fun k=>d k*b (i+n-1-k))
  (hs:∀k,k<m*n->s k=((k+1:Nat):Int)*c k+sm k fun i=>c i*s (k-1-i)) (ht:∀k,k<m*n->t k=((k+1:Nat):Int)*d k+sm k fun i=>d i*t (k-1-i))
  (hr:∀k,k<m*n->r k=(s k*t k-sm k fun i=>r i*(s (k-1-i)*t (k-1-i)))/((k+1:Nat):Int)) (i:Nat):
  a (i+m*n)*b (i+m*n)=sm (m*n) fun k=>r k*(a (i+m*n-1-k)*b (i+m*n-1-k)):=by
 obtain⟨S,iS,φ,h,⟨A,lA,eA⟩,B,lB,eB⟩:=OB m n c d hc hd;have kA:∀n,dl A (fun n=>φ (a n)) n=0:=fun n=>by
  rw[qz h.hom (c:=c) (fun k _=>eA k),lA,<-ha n,show a (n+m)-a (n+m)=0 by omega,h.hom.zero]
 have kB:∀n,dl B (fun n=>φ (b n)) n=0:=fun n'=>by
  rw[qz h.hom (c:=d) (fun k _=>eB k),lB,<-hb n',show b (n'+n)-b (n'+n)=0 by omega,h.hom.zero]
 have pA:=yc h.hom (A:=A) (c:=c) (s:=s) (m*n) eA hs;have pB:=yc h.hom (A:=B) (c:=d) (s:=t) (m*n) eB ht;have lG:(prs A B).length=m*n:=by rw[Je,lA,lB]
 have pG:∀k,k<m*n->φ (s k*t k)=pw (prs A B) (k+1):=fun k hk=>by rw[h.hom.mul,pA k hk,pB k hk,Mg]
 have rG:=CK h (G:=prs A B) (s:=fun k=>s k*t k) (r:=r) (m*n) pG hr;have kG:=Iw kA kB i;have e:(fun n=>φ (a n) * φ (b n))=fun n=>φ (a n*b n):=funext fun n=>by rw[h.hom.mul]
 rw[e,qz h.hom (A:=prs A B) (c:=r) (a:=fun n=>a n*b n) (fun k hk=>by rw[h.hom.neg,rG k (by omega)];grind),lG]at kG;have:=h.inj _ kG;omega
section
variable {S:Type} [CommRing S]
theorem CB(x:S)(u:Nat->S):∀(e n:Nat),u (n+e)-x^e*u n=sm e fun i=>x^(e-1-i)*(u (n+i+1)-x*u (n+i))
 |0,n=>by show u n-x^0*u n=0;grind
 |e+1,n=>by
  show _=sm e (fun i=>x^(e+1-1-i)*(u (n+i+1)-x*u (n+i)))+x^(e+1-1-e)*(u (n+e+1)-x*u (n+e));have h:=CB x u e n;have e1:sm e (fun i=>x^(e+1-1-i)*(u (n+i+1)-x*u (n+i)))=x*sm e fun i=>x^(e-1-i)*(u (n+i+1)-x*u (n+i)):=by
   rw[<-bG];refine aA fun i hi=>?_;rw[show e+1-1-i=e-1-i+1 by omega];grind
  rw[e1,<-h,show e+1-1-e=0 by omega,show n+(e+1)=n+e+1 by omega];grind
theorem Sd:∀(l:List S) (m:Nat) (F:Nat->Nat->S) (g:Nat->S) (n:Nat),dl l (fun n=>sm m fun i=>g i*F i n) n=sm m fun i=>g i*dl l (F i) n
 |l,0,F,g,n=>EY l n
 |l,m+1,F,g,n=>by
  show dl l (fun n=>sm m (fun i=>g i*F i n)+g m*F m n) n=sm m _+g m*dl l (F m) n;have:=vP l (fun n=>sm m fun i=>g i*F i n) (F m) 1 (g m) n;rw[show(fun n=>sm m (fun i=>g i*F i n)+g m*F m n)=fun n=>1*sm m (fun i=>g i*F i n)+g m*F m n from funext fun n=>by grind,this,Sd l m F g n];grind
theorem wB(e:Nat):∀(A:List S) (u:Nat->S),(∀n,dl A u n=0)->∀s n,dl (A.map fun x=>x^e) (fun n=>u (s+e*n)) n=0
 |[],u,h,s,n=>h _
 |x::A,u,h,s,n=>by
  show dl (A.map fun x=>x^e) (fun n=>u (s+e*(n+1))-x^e*u (s+e*n)) n=0;have e1:(fun n=>u (s+e*(n+1))-x^e*u (s+e*n))=fun n=>sm e fun i=>x^(e-1-i)*(fun n=>(fun n=>u (n+1)-x*u n) (s+i+e*n)) n:=funext fun n=>by
   rw[show s+e*(n+1)=s+e*n+e by rw[Nat.mul_succ];omega,CB];exact aA fun i _=>by show _=x^(e-1-i)*(u (s+i+e*n+1)-x*u (s+i+e*n));rw[show s+i+e*n=s+e*n+i by omega]
  rw[e1,Sd (A.map fun x=>x^e) e (fun i n=>(fun n=>u (n+1)-x*u n) (s+i+e*n))];rw[aA (g:=fun _=>(0:S)) fun i _=>by rw[wB e A (fun n=>u (n+1)-x*u n) h (s+i) n];grind,gM]
theorem Hl(x:S)(e:Nat):∀k,(x^e)^k=x^(e*k)
 |0=>by rw[Nat.mul_zero];grind
 |k+1=>by
  rw[Semiring.pow_succ,Hl x e k,Nat.mul_succ,Semiring.pow_add]
theorem Dl(e:Nat):∀(A:List S) (k:Nat),pw (A.map fun x=>x^e) k=pw A (e*k)
 |[],_=>rfl
 |x::A,k=>by show(x^e)^k+_=x^(e*k)+_;rw[Hl,Dl e A k]
end
theorem DR{m e:Nat}(he:1<=e){c a s r:Nat->Int}(hc:∀k,m<=k->c k=0)(ha:∀i,a (i+m)=sm m fun k=>c k*a (i+m-1-k))
  (hs:∀k,k<e*m->s k=((k+1:Nat):Int)*c k+sm k fun i=>c i*s (k-1-i))
  (hr:∀k,k<m->r k=(s (e*(k+1)-1)-sm k fun i=>r i*s (e*(k-1-i+1)-1))/((k+1:Nat):Int)) (st i:Nat):
  a (st+e*(i+m))=sm m fun k=>r k*a (st+e*(i+m-1-k)):=by
 obtain⟨S,iS,φ,h,A,lA,eA⟩:=Mp m c hc;have kA:∀n,dl A (fun n=>φ (a n)) n=0:=fun n=>by
  rw[qz h.hom (c:=c) (fun k _=>eA k),lA,<-ha n,show a (n+m)-a (n+m)=0 by omega,h.hom.zero]
 have pA:=yc h.hom (A:=A) (c:=c) (s:=s) (e*m) eA hs;have lG:(A.map fun x=>x^e).length=m:=by rw[List.length_map,lA]
 have pG:∀k,k<m->φ (s (e*(k+1)-1))=pw (A.map fun x=>x^e) (k+1):=fun k hk=>by
  have l1:e*(k+1)<=e*m:=Nat.mul_le_mul_left _ hk;have l0:1*1<=e*(k+1):=Nat.mul_le_mul he (by omega);rw[pA _ (by omega),Dl,show e*(k+1)-1+1=e*(k+1)by omega]
 have rG:=CK h (G:=A.map fun x=>x^e) (s:=fun k=>s (e*(k+1)-1)) (r:=r) m pG hr;have kG:=wB e A _ kA st i;rw[qz h.hom (A:=A.map fun x=>x^e) (c:=r) (a:=fun n=>a (st+e*n)) (fun k hk=>by rw[h.hom.neg,rG k (by omega)];grind),lG]at kG;have:=h.inj _ kG;omega
end Nw
namespace K36
open PySem L2
seal PA PE PS PSs PT PW PI PG PGs PO PIf
def top(i:Nat):Stmt:=PySem.Challenge.pw_nextbyrule_k36_whole_mixes_by_mixes.main.body.getD i (.Pass ⟨0,0,0,0⟩)
abbrev sI:Stmt:=top 7
abbrev BQ:Stmt:=top 8
abbrev uT:Stmt:=top 9
abbrev Hf:Stmt:=top 10
abbrev oA:Stmt:=top 13
abbrev mH:Stmt:=top 14
abbrev jQ:Stmt:=top 15
abbrev vd:Stmt:=top 17
abbrev B4:Stmt:=top 18
abbrev uh:Stmt:=top 19
abbrev BX:Stmt:=top 20
abbrev rW:Stmt:=top 21
abbrev uf:Stmt:=top 22
abbrev uY:Stmt:=top 23
abbrev jT:Stmt:=top 25
abbrev m6:Stmt:=top 26
abbrev jO:Stmt:=top 27
abbrev kW:Stmt:=top 30
abbrev uo:Stmt:=top 31
abbrev mY:Stmt:=top 32
abbrev vA:Stmt:=top 33
abbrev yg:Stmt:=top 34
abbrev iT:Stmt:=top 35
abbrev iK:Stmt:=top 36
abbrev xK:Stmt:=top 38
abbrev rF:Stmt:=top 39
abbrev qY:Stmt:=top 40
abbrev lF:Stmt:=top 44
abbrev fQ:Stmt:=top 45
abbrev su:Stmt:=top 46
abbrev oR:Stmt:=top 47
abbrev jr:Stmt:=top 48
abbrev jW:Stmt:=top 49
abbrev sH:Stmt:=top 50
abbrev oY:Stmt:=top 51
abbrev Bq:Stmt:=top 52
abbrev wZ:Stmt:=top 53
abbrev mV:Stmt:=top 54
abbrev xG:Stmt:=top 55
abbrev yj:Stmt:=top 56
abbrev AW:Stmt:=top 57
abbrev oO:Stmt:=top 58
abbrev rC:Stmt:=top 60
abbrev Ji:Stmt:=top 61
abbrev oK:Stmt:=top 62
abbrev wK:Stmt:=top 63
abbrev lK:Stmt:=top 64
abbrev jV:Stmt:=top 65
abbrev mL:Stmt:=top 66
abbrev uK:Stmt:=top 67
abbrev Bw:Stmt:=top 68
abbrev wR:Stmt:=top 69
abbrev Ba:Stmt:=top 70
abbrev wC:Stmt:=top 71
abbrev B7:Stmt:=top 72
theorem oV:aO ["number","divisor"] ["number"] (aj sI):=cu
theorem K5:aO ["by","number"] ["by","number"] (aj BQ):=cu
theorem gG:aO ["prime","number","power","square","left"] ["prime","number"] (aj uT):=cu
theorem PJ:aO ["by","one","other"] ["by","one","other"] (aj Hf):=cu
theorem zY:aO ["one","other"] ["one","other"] (aj oA):=cu
theorem jd:aO ["by","rule","before","total","k"] ["by","rule","before"] (aj mH):=cu
theorem d7:aO ["row","count","by","rule","starts","found"] ["row","count"] (aj jQ):=cu
theorem sJ:aO ["numbers","end"] ["numbers"] (aj vd):=cu
theorem uc:aO ["by","one","other","total","i","k"] ["by","one","other"] (aj B4):=cu
theorem gP:aO ["by","one","other","top","often","left","shift","factor","k"] ["by","one","other"] (aj uh):=cu
theorem Dj:aO ["prime","poly","last"] ["prime","poly"] (aj BX):=cu
theorem gZ:aO ["by","one","other","great","small","left"] ["by","one","other"] (aj rW):=cu
theorem rB:aO ["by","rule","length","numbers"] ["by","rule"] (aj uf):=cu
theorem wu:aO ["by","poly","length"] ["by","poly"] (aj uY):=cu
theorem mJ:aO ["rule","sums","k","reach"] ["rule","sums","k"] (aj jT):=cu
theorem jc:aO ["rule","count","sums","k","own"] ["rule","count"] (aj m6):=cu
theorem jt:aO ["sums","rule","k"] ["sums"] (aj jO):=cu
theorem jN:aO ["number","found"] ["number"] (aj kW):=cu
theorem D5:aO ["monic_one","poly"] ["monic_one","poly"] (aj uo):=cu
theorem xq:aO ["prime","poly"] ["prime","poly"] (aj mY):=cu
theorem vR:aO ["modulus","number","rest"] ["modulus","number"] (aj vA):=cu
theorem yG:aO ["modulus","number","prime","rest","more"] ["modulus","number","prime","rest"] (aj yg):=cu
theorem aR:aO ["one","other","told","modulus","prime","ripe","seen","before"] ["one","other"] (aj iT):=cu
theorem rH:aO ["by","one","other"] ["by","one","other"] (aj iK):=cu
theorem jZ:aO ["row","poly","by","starts","top","k","parts"] ["row","poly"] (aj xK):=cu
theorem lY:aO ["row","by","poly","top"] ["row"] (aj rF):=cu
theorem oW:aO ["row","least","rule"] ["row"] (aj qY):=cu
theorem vK:aO ["length"] ["length"] (aj lF):=cu
theorem oF:aO ["start","step"] ["start","step"] (aj fQ):=cu
theorem oU:aO ["by","rule","starts","rule_taken","starts_taken"] ["by","rule","starts"] (aj su):=cu
theorem Ac:aO ["ours","theirs","n"] ["ours","theirs","n"] (aj oR):=cu
theorem tE:aO ["ours","theirs","n"] ["ours","theirs","n"] (aj jr):=cu
theorem ug:aO ["ours","theirs","n"] ["ours","theirs","n"] (aj jW):=cu
theorem lU:aO ["one","other","rule","pair_place","length","ours","theirs"] ["one","other","rule","pair_place"] (aj sH):=cu
theorem iC:aO ["one","other","pair_place","by","ours","theirs","poly"] ["one","other","pair_place"] (aj oY):=cu
theorem KY:aO ["one","other"] ["one","other"] (aj Bq):=cu
theorem Hq:aO ["one","other"] ["one","other"] (aj wZ):=cu
theorem dF:aO ["one","other","ours","theirs","length","our_sums","their_sums","rule"] ["one","other"] (aj mV):=cu
theorem Gd:aO ["row","number"] ["row","number"] (aj xG):=cu
theorem kJ:aO ["row","by","least","length","poly","found"] ["row"] (aj yj):=cu
theorem nK:aO ["row","start","step","least","length","sums","found","rule"] ["row","start","step"] (aj AW):=cu
theorem m5:aO ["row","numbers","least","rule"] ["row","numbers"] (aj oO):=cu
theorem AZ:aO ["_law_script","_law_k"] ["_law_script","_law_k"] (aj rC):=cu
theorem Bb:aO ["_law_cell","_law_k","_law_number"] ["_law_cell","_law_k"] (aj Ji):=cu
theorem yF:aO ["_law_cell"] ["_law_cell"] (aj oK):=cu
theorem FN:aO ["_law_by","_law_number"] ["_law_by","_law_number"] (aj wK):=cu
theorem jJ:aO ["_law_by","_law_cell","_law_k","_law_far","_law_small"] ["_law_by","_law_cell","_law_k"] (aj lK):=cu
theorem cN:aO ["_law_row","_law_number","_law_by","_law_rule","_law_starts","_law_some","_law_longer","_law_k"] ["_law_row","_law_number"] (aj jV):=cu
theorem cZ:aO ["_law_script","_law_start","_law_by","_law_most","_law_cell","_law_size","_law_mine","_law_rule","_law_k","_law_row"] ["_law_script","_law_start","_law_by","_law_most"] (aj mL):=cu
theorem je:aO ["_law_row","_law_count","_law_by","_law_rule","_law_starts","_law_found","_law_total"] ["_law_row","_law_count"] (aj uK):=cu
theorem tQ:aO ["_law_told_here","_law_found"] ["_law_told_here"] (aj Bw):=cu
theorem EJ:aO ["_law_one","_law_other"] ["_law_one","_law_other"] (aj wR):=cu
theorem iy:aO ["_law_one","_law_two","_law_three","_law_both","_law_here","_law_there"] ["_law_one","_law_two","_law_three"] (aj Ba):=cu
theorem m9:aO ["_law_one","_law_two","_law_start","_law_step","_law_here","_law_there"] ["_law_one","_law_two","_law_start","_law_step"] (aj wC):=cu
theorem jG:aO ["_law_script","_law_by","_law_one","_law_two","_law_three","_law_cell","_law_ones","_law_here","_law_there","_law_numbers","_law_noughts","_law_less"] ["_law_script"] (aj B7):=cu
abbrev Ib:=csF [(".0",.local),("number",.local),("over",.globalImplicit),("last",.cell),("prime",.cell)]
abbrev BP:=csF [(".0",.local),("k",.local),("taken",.globalImplicit),("by",.cell),("length",.cell),("rule",.cell)]
abbrev Ce:=csF [(".0",.local),("k",.local),("taken",.globalImplicit),("by",.cell),("length",.cell),("poly",.cell)]
abbrev tu:=csF [(".0",.local),("i",.local),("k",.cell),("rule",.cell),("sums",.cell)]
abbrev vH:=csF [(".0",.local),("number",.local),("taken",.globalImplicit),("prime",.cell)]
abbrev qH:=csF [(".0",.local),("rest",.local),("nearest",.globalImplicit),("prime",.cell)]
abbrev pZ:=csF [(".0",.local),("k",.local),("joined",.globalImplicit),("before",.cell),("modulus",.cell),("prime",.cell),("seen",.cell)]
abbrev Eb:=csF [(".0",.local),("j",.local),("k",.cell),("poly",.cell),("starts",.cell)]
abbrev Ae:=csF [(".0",.local),("number",.local),("taken",.globalImplicit),("by",.cell)]
abbrev yV:=csF [(".0",.local),("number",.local),("taken",.globalImplicit),("by",.cell)]
abbrev tG:=csF [(".0",.local),("i",.local),("n",.cell),("ours",.cell),("theirs",.cell)]
abbrev za:=csF [(".0",.local),("n",.local),("ours",.cell),("pair_place",.cell),("theirs",.cell)]
abbrev vL:=csF [(".0",.local),("k",.local),("our_sums",.cell),("their_sums",.cell)]
abbrev Dz:=csF [(".0",.local),("start",.local),("number",.cell)]
abbrev Dy:=csF [(".0",.local),("n",.local),("sum",.globalImplicit),("found",.cell)]
abbrev Fp:=csF [(".0",.local),("k",.local),("step",.cell),("sums",.cell)]
abbrev Fd:=csF [(".0",.local),("k",.local),("found",.cell),("start",.cell),("step",.cell)]
abbrev tK:=csF [(".0",.local),("_law_one",.local),("_law_taken",.globalImplicit),("_law_by",.cell)]
abbrev vD:=csF [(".0",.local),("_law_k",.local),("_law_one_number",.globalImplicit),("_law_by",.cell),("_law_mine",.cell)]
abbrev vM:=csF [(".0",.local),("_law_k",.local),("_law_one_number",.globalImplicit),("_law_by",.cell),("_law_mine",.cell)]
abbrev BR:=csF [(".0",.local),("_law_k",.local),("_law_found",.cell),("_law_rule",.cell)]
abbrev M5:=csF [(".0",.local),("_law_k",.local),("_law_one_number",.globalImplicit),("_law_by",.cell),("_law_cell",.cell)]
structure Bt(mg:Str->Option Value):Prop where
 Ww:mg "int" = none
 cP:mg "len" = none
 wg:mg "list" = none
 YQ:mg "max" = none
 Ys:mg "min" = none
 cF:mg "range" = none
 Gj:mg "sum" = none
 ig:mg "tuple" = none
 cY:∃t,mg "BELOW_THE_PRIMES" = some (.int 1000000 t)
 dM:∃t,mg "FARTHEST_START" = some (.int 100 t)
 ni:∃t,mg "LONGEST" = some (.int 12 t)
 fU:∃t,mg "WIDEST_STEP" = some (.int 10 t)
structure Ms(K:W.Frag)(mg:Str->Option Value)(base:Heap)(aG:Addr):Prop where
 G6:mg "TooLong" = some (.ref aG)
 FQ:ExC mg base "TooLong" aG
 rM:ExS base aG aG
 Rh:ExI K aG
 eO:W.kitOne K (.ref aG) (.ref aG)=some true
 dj:W.kitOne K (.ref aG) (.type "ValueError")=some true
abbrev aaA:Nat:=20
theorem eX(a:Int){b:Int}(h:0<b):0<=a%b:=Int.emod_nonneg _ (by omega)
theorem eY(a:Int){b:Int}(h:0<b):a%b<b:=Int.emod_lt_of_pos _ h
theorem bB{ns:List Int}{k:Int}(h0:0<=k)(h1:k<(ns.length:Int)):atI (ns.map V.int) k=some (.int (ns.getD k.toNat 0)):=by
 have e:k=((k.toNat:Nat):Int):=by omega
 have hk:k.toNat<ns.length:=by omega
 conv=>lhs;rw[e]
 exact Nh (by rw[List.getElem?_map,List.getElem?_eq_getElem hk,List.getD_eq_getElem?_getD,List.getElem?_eq_getElem hk]<;>rfl)
theorem dec_true{p:Prop}[Decidable p](c:decide p=true):p:=of_decide_eq_true c
theorem dec_false{p:Prop}[Decidable p](c:¬decide p=true):¬p:=of_decide_eq_false (Bool.eq_false_iff.mpr c)
def fJ(b x:Int):Prop:=b=0∨(0<=x/\x<b)
structure Rw where
 b:Int
 rule:List Int
 starts:List Int
structure nY(r:Rw):Prop where
 len:r.rule.length=r.starts.length
 short:r.rule.length<=24
 by0:0<=r.b
 by1:r.b<1000
 iU:∀x∈r.rule,fJ r.b x
 fY:∀x∈r.starts,fJ r.b x
 eV:∀x∈r.rule,Rm.Bd 60000 x
 lV:∀x∈r.starts,Rm.Bd 10000 x
def Rw.row(r:Rw)(n:Nat):List Int:=Rm.row r.b r.rule r.starts n
def Rw.at(r:Rw)(n:Nat):Int:=Rm.at_ r.b r.rule r.starts n
theorem nY.bd{r:Rw}(h:nY r)(n:Nat)(hn:n<=1000):Rm.Bd 61000000 (r.at n):=by
 have q:=Rm.Hu (b:=r.b) (rule:=r.rule) (starts:=r.starts) (a:=60000) (c:=10000) h.len h.by0 ((Rm.Bd.of (n:=10) (by have:=h.by0;omega) (by have:=h.by1;omega)).mono (by decide)) h.eV h.lV n;refine q.mono ?_;have h1:=h.short;have h2:n*(60000+r.rule.length)<=1000*60024:=Nat.mul_le_mul hn (by omega);omega
theorem nY.K3{r:Rw}(h:nY r)(n:Nat)(hn:n<=1000):∀x∈r.row n,Rm.Bd 61000000 x:=by
 intro x hx;have e:r.row n=(List.range n).map r.at:=Rm.IG ..;rw[e]at hx;obtain⟨i,hi,rfl⟩:=List.mem_map.mp hx;exact h.bd i (by have:=List.mem_range.mp hi;omega)
theorem Rw.fD(r:Rw)(n:Nat):(r.row n).length=n:=Rm.fD ..
theorem qM{x y:Int}{m n:Nat}(h:Rm.Bd m x)(h':Rm.Bd n y)(hn:m+n<=134217728):IntMulOk x y:=
 IntMulOk.of_le (intBits_le_iff.mpr h) (intBits_le_iff.mpr h') hn
def cI(H:Hp)(v:V)(r:Rw):Prop:=
 ∃a p q,v = .ref a/\H a=some (.tup [.int r.b,.ref p,.ref q])/\H p=some (.tup (r.rule.map V.int))/\H q=some (.tup (r.starts.map V.int))
theorem cI.same{H H':Hp}{v:V}{r:Rw}(h:cI H v r)(g:Same H H'):cI H' v r:=by
 obtain⟨a,p,q,e,h1,h2,h3⟩:=h;exact⟨a,p,q,e,g _ _ h1,g _ _ h2,g _ _ h3⟩
theorem Tp(rule:List Int)(f:Nat->Int)(n:Nat):∀m:Nat,((List.range m).map fun k=>rule.getD k 0*f (n-1-k)).sum=Rm.S rule f n m
 |0=>rfl
 |m+1=>by
  rw[List.range_succ,List.map_append,List.sum_append,Tp rule f n m];simp[Rm.S]
theorem wV(xs:List Int)(x:Int):(xs++[x]).map V.int=xs.map V.int++[.int x]:=by rw[List.map_append];rfl
def Told(H:Hp)(Q:VK)(xs:List V):Prop:=∀r H',Same H H'->H r=none->H' r=some (.lst xs)->Q (.ref r) H'
theorem Ds(xs:List V)(k:Nat):yC xs none (some (k:Int))=xs.take k:=by
 unfold yC;rw[HT.kZ,HT.iW,List.drop_zero,Nat.sub_zero,List.take_eq_take_iff];omega
def yE(H:Hp)(Q:VK)(ns:List Int):Prop:=∀p H',Same H H'->H' p=some (.tup (ns.map V.int))->Q (.ref p) H'
theorem Aa{xs:List Int}{n:Nat}(h:0<n)(hn:n<=xs.length):xs.take n=xs.take (n-1)++[xs.getD (n-1) 0]:=by
 obtain⟨m,rfl⟩:∃m,n=m+1:=⟨n-1,by omega⟩;rw[Nat.add_sub_cancel,List.take_add_one,List.getElem?_eq_getElem (by omega),List.getD_eq_getElem?_getD,List.getElem?_eq_getElem (by omega)];rfl
theorem Gx{xs:List Int}{n:Nat}(h:0<n)(hn:n<=xs.length)(ht:Pm.trim (xs.take n)=Pm.trim xs)(h0:xs.getD (n-1) 0=0):Pm.trim (xs.take (n-1))=Pm.trim xs:=by
 rw[Aa h hn,h0,Pm.yR]at ht;exact ht
theorem yS{xs:List Int}{n:Nat}(hn:n<=xs.length)(ht:Pm.trim (xs.take n)=Pm.trim xs)(h0:n=0∨xs.getD (n-1) 0≠0):xs.take n=Pm.trim xs:=by
 rcases h0 with h0|h0
 ·subst h0;rw[<-ht];rfl
 ·by_cases hz:n=0
  ·subst hz;rw[<-ht];rfl
  ·rw[<-ht,Aa (by omega) hn,Pm.u9 _ h0]
theorem zF{n j:Nat}{i:Int}(e:i=(j:Int))(h:j<n):ixN n i=some j:=by
 subst e;unfold ixN;rw[if_pos (by omega),if_pos (by omega),Int.toNat_natCast]
theorem jo(L:List Int)(j:Nat)(x:Int):(L.map V.int).set j (.int x)=(L.set j x).map V.int:=by rw[List.map_set]
theorem fR(n:Nat):(List.replicate n [V.int 0]).flatten=(Pm.ofF n fun _=>0).map V.int:=by
 induction n with
 |zero=>rfl
 |succ n ih=>
  rw[Pm.Cv,List.map_append,<-ih,List.replicate_succ',List.flatten_append];rfl
theorem ud{n:Nat}{ix:List (Option Nat)}{te:TE}{σ:St}{H1:Hp}{Q:VK}(hz:n<=1000){rest:St}(hst:cst ix σ=none::rest)(f:Nat->Int)
  (he:∀H' k,Same H1 H'->k<n->∀kk:VK,kk (.int (f k)) H'->te (some (.int (0+(k:Int)))::rest) H' kk)
  (hQ:∀D,H1 D=none->Q (.ref D) (upd H1 D (.lst ((Pm.ofF n f).map V.int)))):tD ix (pO 0) Gf te σ Q (Itr 0 n) H1:=by
 refine nj pI (by rw[List.length_map,List.length_range];exact Nat.le_of_lt (bK hz)) hst (fun _=>true) (fun x=>match x with | .int k=> .int (f k.toNat)|_=> .non) ?_ ?_ ?_
 ·intro H2 x g2 hx k hk;exact hk
 ·intro H2 x g2 hx _ k hk;obtain⟨j,hj,rfl⟩:=List.mem_map.mp hx;have e1:(0+(j:Int)).toNat=j:=by omega
  refine he H2 j g2 (List.mem_range.mp hj) k ?_;have hk':k (V.int (f (0+(j:Int)).toNat)) H2:=hk
  rwa [e1]at hk'
 ·intro D hD;have el:((((List.range n).map fun i=>V.int (0+(i:Nat))).filter fun _=>true).map fun x=>match x with | .int k=>V.int (f k.toNat)|_=>V.non)=(Pm.ofF n f).map V.int:=by
   rw[List.filter_eq_self.mpr (by simp),List.map_map,Pm.ofF,List.map_map];refine List.map_congr_left fun k _=>?_;show V.int (f (0+(k:Int)).toNat)=V.int (f k);rw[show(0+(k:Int)).toNat=k by omega]
  rw[el];exact hQ D hD
theorem wI{K:W.Frag}{a:Addr}{xs:List Int}{ix:List (Option Nat)}{te:TE}{σ:St}{H1:Hp}{Q:VK}(hA:H1 a=some (.tup (xs.map V.int)))(hz:xs.length<=1000){rest:St}(hst:cst ix σ=none::rest)(f:Int->Int)
  (he:∀H' x,Same H1 H'->x∈xs->∀kk:VK,kk (.int (f x)) H'->te (some (.int x)::rest) H' kk)
  (hQ:∀D,H1 D=none->Q (.ref D) (upd H1 D (.lst ((xs.map f).map V.int)))):tD ix (pO 0) Gf te σ Q (Itt K a) H1:=by
 refine nj (A9 (SqT.of hA)) (by rw[List.length_map];exact Nat.le_of_lt (bK hz)) hst (fun _=>true) (fun x=>match x with | .int k=> .int (f k)|_=> .non) ?_ ?_ ?_
 ·intro H2 x g2 hx k hk;exact hk
 ·intro H2 x g2 hx _ k hk;obtain⟨y,hy,rfl⟩:=List.mem_map.mp hx;exact he H2 y g2 hy k hk
 ·intro D hD;have el:(((xs.map V.int).filter fun _=>true).map fun x=>match x with | .int k=>V.int (f k)|_=>V.non)=(xs.map f).map V.int:=by
   rw[List.filter_eq_self.mpr (by simp),List.map_map,List.map_map];rfl
  rw[el];exact hQ D hD
theorem JN{K:W.Frag}{a:Addr}{xs:List Int}{ix:List (Option Nat)}{te:TE}{σ:St}{H1:Hp}{Q:VK}(hA:H1 a=some (.lst (xs.map V.int)))(hz:xs.length<=1000){rest:St}(hst:cst ix σ=none::rest)(f:Int->Int)
  (he:∀H' x,Same H1 H'->x∈xs->∀kk:VK,kk (.int (f x)) H'->te (some (.int x)::rest) H' kk)
  (hQ:∀D,H1 D=none->Q (.ref D) (upd H1 D (.lst ((xs.map f).map V.int)))):tD ix (pO 0) Gf te σ Q (Itl K a) H1:=by
 refine nj (Dk (SqL.of hA)) (by rw[List.length_map];exact Nat.le_of_lt (bK hz)) hst (fun _=>true) (fun x=>match x with | .int k=> .int (f k)|_=> .non) ?_ ?_ ?_
 ·intro H2 x g2 hx k hk;exact hk
 ·intro H2 x g2 hx _ k hk;obtain⟨y,hy,rfl⟩:=List.mem_map.mp hx;exact he H2 y g2 hy k hk
 ·intro D hD;have el:(((xs.map V.int).filter fun _=>true).map fun x=>match x with | .int k=>V.int (f k)|_=>V.non)=(xs.map f).map V.int:=by
   rw[List.filter_eq_self.mpr (by simp),List.map_map,List.map_map];rfl
  rw[el];exact hQ D hD
theorem iY:∀P∈Om.jM,2<=P/\P<1000:=by decide +kernel
def ByP(b:Int):Prop:=b=0∨∃P:Nat,P∈Om.jM/\b=(P:Int)
theorem ByP.one{b:Int}(h:ByP b):Rm.tk b 1=1:=by
 rcases h with rfl|⟨P,hP,rfl⟩
 ·exact Rm.bH 1
 ·have:=iY P hP;rw[Rm.iG (by omega)];exact Int.emod_eq_of_lt (by decide) (by omega)
inductive JH(vs:List V)(H:Hp)(Q:VK)(E:XK):Prop|mk (b n:Int) (z_0:vs=[.int b,.int n]) (z_1:0<=b) (z_2:Q (.int (Rm.tk b n)) H)
def Gi:Sp:=fun vs H Q E=>JH  vs H Q E
abbrev gR(P w K mg base):=Cal P w K mg base "taken" 1 ["by","number"] Gi
inductive NT(K:W.Frag)(vs:List V)(H:Hp)(Q:VK)(E:XK):Prop|mk (b:Int) (r s:Addr) (rule before:List Int) (z_0:vs=[.int b,.ref r,.ref s]) (z_1:0<=b) (z_2:SqT K H r (rule.map V.int)) (z_3:SqL K H s (before.map V.int)) (z_4:rule.length<=before.length) (z_5:rule.length<=24) (z_6:before.length<=1000) (z_7:(∀x∈rule,Rm.Bd 60000 x)) (z_8:(∀x∈before,Rm.Bd 61000000 x)) (z_9:Q (.int (Rm.tk b (Rm.S rule (fun i=>before.getD i 0) before.length rule.length))) H)
def QL(K:W.Frag):Sp:=fun vs H Q E=>NT K vs H Q E
abbrev sW(P w K mg base):=Cal P w K mg base "next_place" 2 ["by","rule","before"] (QL K)
inductive KL(K:W.Frag)(vs:List V)(H:Hp)(Q:VK)(E:XK):Prop|mk (v:V) (r:Rw) (c:Int) (z_0:vs=[v,.int c]) (z_1:cI H v r) (z_2:nY r) (z_3:0<=c) (z_4:c<=900) (z_5:Told H Q ((r.row c.toNat).map V.int))
def PV(K:W.Frag):Sp:=fun vs H Q E=>KL K vs H Q E
abbrev iu(P w K mg base):=Cal P w K mg base "first_places" 3 ["row","count"] (PV K)
inductive Ig(vs:List V)(H:Hp)(Q:VK)(E:XK):Prop|mk (n:Nat) (z_0:vs=[.int n]) (z_1:n<2097152) (z_2:∀b:Bool,(b=true↔Om.cC n)->Q (.bl b) H)
def J6:Sp:=fun vs H Q E=>Ig  vs H Q E
abbrev vQ(P w K mg base):=Cal P w K mg base "is_prime" 1 ["number"] J6
inductive Jt(vs:List V)(H:Hp)(Q:VK)(E:XK):Prop|mk (n q:Nat) (z_0:vs=[.int n]) (z_1:Om.cC q) (z_2:n<q) (z_3:q<2097152) (z_4:∀p:Nat,Om.cC p->n<p->p<=q->Q (.int p) H)
def O3:Sp:=fun vs H Q E=>Jt  vs H Q E
abbrev qC(P w K mg base):=Cal P w K mg base "prime_above" 2 ["number"] O3
inductive Ax(vs:List V)(H:Hp)(Q:VK)(E:XK):Prop|mk (P:Nat) (a:Int) (z_0:vs=[.int P,.int a]) (z_1:Om.cC P) (z_2:P<2097152) (z_3:0<a) (z_4:a<(P:Int)) (z_5:∀x:Int,0<=x->x<2097152->x%(P:Int)=a^(P-2)%(P:Int)->Q (.int x) H)
def DX:Sp:=fun vs H Q E=>Ax  vs H Q E
abbrev yK(P w K mg base):=Cal P w K mg base "inverse" 2 ["prime","number"] DX
inductive J9(vs:List V)(H:Hp)(Q:VK)(E:XK):Prop|mk (P:Nat) (one other:Int) (z_0:vs=[.int P,.int one,.int other]) (z_1:Om.cC P) (z_2:P<2097152) (z_3:0<other) (z_4:other<(P:Int)) (z_5:Q (.int (one*other^(P-2)%(P:Int))) H)
def Pg:Sp:=fun vs H Q E=>J9  vs H Q E
abbrev Hz(P w K mg base):=Cal P w K mg base "over" 3 ["by","one","other"] Pg
inductive O8(K:W.Frag)(vs:List V)(H:Hp)(Q:VK)(E:XK):Prop|mk (l:Addr) (xs:List Int) (z_0:vs=[.ref l]) (z_1:SqL K H l (xs.map V.int)) (z_2:yE H Q (Pm.trim xs))
def SJ(K:W.Frag):Sp:=fun vs H Q E=>O8 K vs H Q E
abbrev mX(P w K mg base):=Cal P w K mg base "trimmed" 1 ["numbers"] (SJ K)
inductive K9(vs:List V)(H:Hp)(Q:VK)(E:XK):Prop|mk (b:Int) (a c:Addr) (p r:List Int) (z_0:vs=[.int b,.ref a,.ref c]) (z_1:0<=b) (z_2:H a=some (.tup (p.map V.int))) (z_3:H c=some (.tup (r.map V.int))) (z_4:p.length<=400) (z_5:r.length<=400) (z_6:(∀x∈p,Rm.Bd 1000000 x)) (z_7:(∀x∈r,Rm.Bd 1000000 x)) (z_8:yE H Q (Pm.mul b p r))
def N6:Sp:=fun vs H Q E=>K9  vs H Q E
abbrev AK(P w K mg base):=Cal P w K mg base "times" 2 ["by","one","other"] N6
def Wm(H:Hp)(Q:VK)(b:Int)(P M:List Int):Prop:=∀t x y q r H',Same H H'->H' t=some (.tup [.ref x,.ref y])->H' x=some (.tup (List.map V.int q))->H' y=some (.tup (List.map V.int r))->Pm.Div b P M q r->
 (∀z∈q,Rm.Bd 5300000 z)->(∀z∈r,Rm.Bd 5300000 z)->q.length<=P.length->Q (.ref t) H'
inductive Ay(vs:List V)(H:Hp)(Q:VK)(E:XK):Prop|mk (b:Int) (a c:Addr) (P M:List Int) (z_0:vs=[.int b,.ref a,.ref c]) (z_1:0<=b) (z_2:b<2097152) (z_3:H a=some (.tup (P.map V.int))) (z_4:H c=some (.tup (M.map V.int))) (z_5:P.length<=40) (z_6:M.length<=40) (z_7:Pm.Mon M) (z_8:(∀k,Rm.tk b (Pm.co P k)=Pm.co P k)) (z_9:(∀x∈P,Rm.Bd 300000 x)) (Uu:(∀x∈M,Rm.Bd 124000 x)) (UQ:Wm H Q b P M)
def Es:Sp:=fun vs H Q E=>Ay  vs H Q E
theorem Hj{L:List Int}{u:Nat}(h:∀k,Rm.Bd u (Pm.co L k)):∀x∈Pm.trim L,Rm.Bd u x:=fun x hx=>by
 obtain⟨k,hk,e⟩:=List.mem_iff_getElem.mp hx;rw[<-e,<-Pm.ql hk,Pm.jk];exact h k
theorem max_zero(m n:Nat):(if(m:Int)-((n:Int)-1)>0 then(m:Int)-((n:Int)-1)else 0).toNat=m-(n-1)∨n=0:=by
 by_cases h:n=0
 ·exact .inr h
 ·left;split<;>omega
abbrev pW(P w K mg base):=Cal P w K mg base "divided" 2 ["by","one","other"] Es
def aaq(H:Hp)(Q:VK)(b:Int)(p:List Int):Prop:=∀t m H',Same H H'->H' t=some (.tup (List.map V.int m))->Pm.yp b p m->Q (.ref t) H'
inductive Gs(vs:List V)(H:Hp)(Q:VK)(E:XK):Prop|mk (P:Nat) (a:Addr) (p:List Int) (z_0:vs=[.int P,.ref a]) (z_1:Om.cC P) (z_2:P<2097152) (z_3:H a=some (.tup (p.map V.int))) (z_4:p.length<=300) (z_5:Pm.Py P p) (z_6:aaq H Q P p)
def JW:Sp:=fun vs H Q E=>Gs  vs H Q E
abbrev Gy(P w K mg base):=Cal P w K mg base "monic" 4 ["prime","poly"] JW
def Rz(H:Hp)(Q:VK)(b:Int)(p r:List Int):Prop:=∀t g H',Same H H'->H' t=some (.tup (List.map V.int g))->Pm.Gcd b p r g->g.length<=max p.length r.length->Q (.ref t) H'
inductive zp(vs:List V)(H:Hp)(Q:VK)(E:XK):Prop|mk (P:Nat) (a c:Addr) (p r:List Int) (z_0:vs=[.int P,.ref a,.ref c]) (z_1:Om.cC P) (z_2:P<2097152) (z_3:H a=some (.tup (p.map V.int))) (z_4:H c=some (.tup (r.map V.int))) (z_5:p.length<=40) (z_6:r.length<=40) (z_7:Pm.Py P p) (z_8:Pm.Py P r) (z_9:(r=[]->p≠[])) (Uu:Rz H Q P p r)
def B5:Sp:=fun vs H Q E=>zp  vs H Q E
theorem PB{P:Nat}(h0:2<=P)(h:P<2097152){p:List Int}(hp:Pm.Py P p):∀x∈p,Rm.Bd 124000 x:=fun x hx=>by
 have:=hp.nu x hx;rw[Rm.iG (by omega)]at this;rw[<-this];exact Rm.Bd.emod (by omega) ((Rm.Bd.of (n:=21) (by omega) (by omega)).mono (by decide))
abbrev qQ(P w K mg base):=Cal P w K mg base "greatest" 5 ["by","one","other"] B5
inductive Ez(vs:List V)(H:Hp)(Q:VK)(E:XK):Prop|mk (M x:Int) (z_0:vs=[.int M,.int x]) (z_1:0<M) (z_2:Q (.int (Pm.nr M x)) H)
def E1:Sp:=fun vs H Q E=>Ez  vs H Q E
abbrev uQ(P w K mg base):=Cal P w K mg base "nearest" 1 ["modulus","number"] E1
inductive EV(vs:List V)(H:Hp)(Q:VK)(E:XK):Prop|mk (M t:Int) (p:Nat) (s:Int) (z_0:vs=[.int M,.int t,.int p,.int s]) (z_1:Om.cC p) (z_2:p<2097152) (z_3:0<M) (z_4:¬(p:Int)∣M) (z_5:Q (.int (Pm.jn M t p s)) H)
def K2:Sp:=fun vs H Q E=>EV  vs H Q E
abbrev CN(P w K mg base):=Cal P w K mg base "joined" 4 ["modulus","number","prime","rest"] K2
inductive yJ(vs:List V)(H:Hp)(Q:VK)(E:XK):Prop|mk (p:Nat) (a:Addr) (P:List Int) (z_0:vs=[.int p,.ref a]) (z_1:0<p) (z_2:H a=some (.tup (P.map V.int))) (z_3:P.length<=100) (z_4:yE H Q (Pm.trim (P.map (Rm.tk p))))
def Ci:Sp:=fun vs H Q E=>yJ  vs H Q E
abbrev sY(P w K mg base):=Cal P w K mg base "taken_poly" 2 ["prime","poly"] Ci
inductive Eo(vs:List V)(H:Hp)(Q:VK)(E:XK):Prop|mk (m a:Addr) (M P:List Int) (z_0:vs=[.ref m,.ref a]) (z_1:H m=some (.tup (M.map V.int))) (z_2:H a=some (.tup (P.map V.int))) (z_3:M.length<=40) (z_4:P.length<=40) (z_5:Pm.Mon M) (z_6:(∀x∈M,Rm.Bd 124000 x)) (z_7:(∀x∈P,Rm.Bd 300000 x)) (z_8:∀b H',Same H H'->(b=true↔Pm.Dv 0 M (Pm.co P))->Q (.bl b) H')
def Ij:Sp:=fun vs H Q E=>Eo  vs H Q E
abbrev yI(P w K mg base):=Cal P w K mg base "divides" 3 ["monic_one","poly"] Ij
inductive ZS(vs:List V)(H:Hp)(Q:VK)(E:XK):Prop|mk (a c:Addr) (P t g:List Int) (N:Int) (U V':Nat) (z_0:vs=[.ref a,.ref c]) (z_1:H a=some (.tup (P.map V.int))) (z_2:H c=some (.tup (t.map V.int))) (z_3:P.length<=40) (z_4:t.length<=40) (z_5:Pm.Mon P) (z_6:(∀x∈P,Rm.Bd 124000 x)) (z_7:(∀x∈t,Rm.Bd 300000 x)) (z_8:Pm.GcZ P (Pm.co t) g N) (z_9:Rm.Bd V' N) (Uu:(∀k,Rm.Bd U (Pm.co g k))) (UQ:V'+U+57<=112100) (adG:yE H Q g)
def abQ:Sp:=fun vs H Q E=>ZS  vs H Q E
theorem HL(p:Nat)(P:List Int)(k:Nat):Rm.tk (p:Int) (Pm.co (Pm.trim (P.map (Rm.tk p))) k)=Rm.tk p (Pm.co P k):=by
 rw[Pm.jk,Pm.qp (Pm.tk0 _),Rm.gC]
theorem MB(p:Nat)(P:List Int):Pm.Py p (Pm.trim (P.map (Rm.tk p))):=Pm.Py.of fun x hx=>by
 obtain⟨y,_,rfl⟩:=List.mem_map.mp hx;exact Rm.gC ..
theorem FD(p:Nat)(P:List Int):(Pm.trim (P.map (Rm.tk p))).length<=P.length:=by
 have:=Pm.fL (P.map (Rm.tk p))
 rwa [List.length_map]at this
theorem QY{p:Nat}(hp:Om.cC p){P:List Int}(hP:Pm.Mon P):Pm.trim (P.map (Rm.tk p))≠[]:=fun z=>by
 have:=HL p P (P.length-1);rw[z,Pm.eU,hP.one,Pm.G8 hp,Pm.tk0]at this;exact absurd this (by decide)
theorem Zr{P g told:List Int}{N M:Int}{prime bad good:Nat}{ripe:Bool}(I:Pm.WgI P g N told M prime ripe bad good)(bP:∀x∈P,Rm.Bd 124000 x)(h:bad+good<=5900):∀x∈told,Rm.Bd 124000 x:=fun x hx=>by
 by_cases c:M=1
 ·rw[I.first c]at hx;exact bP x hx
 ·obtain⟨k,hk,e⟩:=List.mem_iff_getElem.mp hx;have n:=I.near c k;rw[Pm.ql hk,e]at n;unfold Pm.Nr at n;have h1:=I.hi;have h2:(2:Int)^(21*(bad+good))<=2^123900:=by exact_mod_cast Nat.pow_le_pow_right (n:=2) (by decide) (show 21*(bad+good)<=123900 by omega)
  have h3:M<=2^123900:=Int.le_trans h1 h2;have hpos:=I.pos;refine(show Rm.Bd 123900 x from ?_).mono (by decide);generalize hB:(2:Int)^123900=B at h3;have h4:-B<x/\x<B:=by omega
  unfold Rm.Bd;have h5:(x.natAbs:Int)<((2^123900:Nat):Int):=by
   rw[Int.natCast_pow];show(x.natAbs:Int)<(2:Int)^123900;rw[hB];omega
  exact_mod_cast h5
def Q5(H:Hp)(a c:Addr)(P' g:List Int)(N:Int)(m:Nat)(σ':St)(H':Hp):Prop:=∃(o6 o7:Option V) (tt:Addr) (told:List Int) (M:Int) (prime:Nat) (ripe:Bool) (bad good:Nat),m=6000-(bad+good)/\σ'=[some (.ref a),some (.ref c),some (.ref tt),some (.int M),some (.int (prime:Int)),some (.bl ripe),o6,o7]/\Same H H'/\H' tt=some (.tup (told.map V.int))/\Pm.WgI P' g N told M prime ripe bad good/\Om.Many (6000-(bad+good)) prime/\1000000<=prime/\bad+good<=5900
abbrev lZ(P w K mg base):=Cal P w K mg base "whole_greatest" 6 ["one","other"] abQ
inductive Fq(vs:List V)(H:Hp)(Q:VK)(E:XK):Prop|mk (b:Int) (a:Addr) (c:List Int) (z_0:vs=[.int b,.ref a]) (z_1:0<=b) (z_2:H a=some (.tup (c.map V.int))) (z_3:c.length<=100) (z_4:yE H Q (Pm.aP b c))
def Jr:Sp:=fun vs H Q E=>Fq  vs H Q E
abbrev qg(P w K mg base):=Cal P w K mg base "of_rule" 2 ["by","rule"] Jr
inductive HS(vs:List V)(H:Hp)(Q:VK)(E:XK):Prop|mk (b:Int) (a:Addr) (p:List Int) (z_0:vs=[.int b,.ref a]) (z_1:0<=b) (z_2:H a=some (.tup (p.map V.int))) (z_3:0<p.length) (z_4:p.length<=100) (z_5:yE H Q (Pm.cL b p))
def K6:Sp:=fun vs H Q E=>HS  vs H Q E
abbrev oZ(P w K mg base):=Cal P w K mg base "rule_of" 2 ["by","poly"] K6
theorem yM{lo:Int}{n:Nat}{ix:List (Option Nat)}{te:TE}{σ:St}{H1:Hp}{Q:VK}(hz:n<=1000){rest:St}(hst:cst ix σ=none::rest)(f:Nat->Int)
  (he:∀H' k,Same H1 H'->k<n->∀kk:VK,kk (.int (f k)) H'->te (some (.int (lo+(k:Int)))::rest) H' kk)
  (hQ:∀D,H1 D=none->Q (.ref D) (upd H1 D (.lst ((Pm.ofF n f).map V.int)))):tD ix (pO 0) Gf te σ Q (Itr lo n) H1:=by
 refine nj pI (by rw[List.length_map,List.length_range];exact Nat.le_of_lt (bK hz)) hst (fun _=>true) (fun x=>match x with | .int k=> .int (f (k-lo).toNat)|_=> .non) ?_ ?_ ?_
 ·intro H2 x g2 hx k hk;exact hk
 ·intro H2 x g2 hx _ k hk;obtain⟨j,hj,rfl⟩:=List.mem_map.mp hx;have e1:(lo+(j:Int)-lo).toNat=j:=by omega
  refine he H2 j g2 (List.mem_range.mp hj) k ?_;have hk':k (V.int (f (lo+(j:Int)-lo).toNat)) H2:=hk
  rwa [e1]at hk'
 ·intro D hD;have el:((((List.range n).map fun i=>V.int (lo+(i:Nat))).filter fun _=>true).map fun x=>match x with | .int k=>V.int (f (k-lo).toNat)|_=>V.non)=(Pm.ofF n f).map V.int:=by
   rw[List.filter_eq_self.mpr (by simp),List.map_map,Pm.ofF,List.map_map];refine List.map_congr_left fun k _=>?_;show V.int (f (lo+(k:Int)-lo).toNat)=V.int (f k);rw[show(lo+(k:Int)-lo).toNat=k by omega]
  rw[el];exact hQ D hD
theorem Bo:(Om.jM.all fun p=>(List.range 32).all fun d=>decide (d<2)||decide (p<d*d)||decide (p%d≠0))=true:=by decide +kernel
theorem Ec{P:Nat}(h:P∈Om.jM):Om.cC P:=by
 have hr:=iY P h;refine Om.uz hr.1 fun d hd hdd hdv=>?_;have h32:d<32:=by
  by_cases c:d<32
  ·exact c
  ·have:32*32<=d*d:=Nat.mul_le_mul (by omega) (by omega);omega
 have:=List.all_eq_true.mp (List.all_eq_true.mp Bo P h) d (List.mem_range.mpr h32);simp only[Bool.or_eq_true,decide_eq_true_eq]at this;have:=Nat.mod_eq_zero_of_dvd hdv;omega
def FW(r:Rw):List Int:=Pm.trim (Pm.ofF r.rule.length fun k=>Rm.tk r.b (Pm.tp (Pm.aP r.b r.rule) r.at k))
theorem Bl(r:Rw)(k:Nat):Pm.co (FW r) k=Rm.tk r.b (Pm.tp (Pm.aP r.b r.rule) r.at k):=by
 rw[FW,Pm.jk,Pm.bI];by_cases c:k<r.rule.length
 ·rw[if_pos c]
 ·rw[if_neg c,Pm.DK _ _ k (by rw[Pm.aX];omega),Pm.tk0]
theorem JG(r:Rw):(FW r).length<=r.rule.length:=by
 have:=Pm.fL (Pm.ofF r.rule.length fun k=>Rm.tk r.b (Pm.tp (Pm.aP r.b r.rule) r.at k))
 rwa [Pm.aM]at this
theorem nY.vp{r:Rw}(ok:nY r):∀x∈Pm.aP r.b r.rule,Rm.Bd 60000 x:=Pm.nA ok.by0 ok.by1 (by decide) ok.eV
theorem Og{r:Rw}(ok:nY r):∀x∈FW r,Rm.Bd 300000 x:=fun x hx=>by
 obtain⟨k,_,rfl⟩:=Pm.eE (Pm.xP hx);refine Rm.w6 ok.by0 ((Rm.Bd.of (n:=10) (by have:=ok.by0;omega) (by have:=ok.by1;omega)).mono (by decide)) ?_;have hs:=ok.short;have hl:=ok.len;unfold Pm.tp;rw[Pm.aX,Nat.add_sub_cancel];refine(Pm.Cm (c:=70000) _ fun i hi=>?_).mono (by omega);refine(Rm.Bd.mul (m:=60000) (n:=10000) (Pm.ju ok.vp _) ?_).mono (by omega);have e:r.at i=r.starts.getD i 0:=Rm.qd (by omega);rw[e];exact Rm.Bd.getD ok.lV _
inductive Q8(vs:List V)(H:Hp)(Q:VK)(E:XK):Prop|mk (v:V) (r:Rw) (a:Addr) (z_0:vs=[v,.ref a]) (z_1:cI H v r) (z_2:nY r) (z_3:H a=some (.tup ((Pm.aP r.b r.rule).map V.int))) (z_4:yE H Q (FW r))
def Yk:Sp:=fun vs H Q E=>Q8  vs H Q E
abbrev Dn(P w K mg base):=Cal P w K mg base "top_of" 2 ["row","poly"] Yk
inductive Gv(vs:List V)(H:Hp)(Q:VK)(E:XK):Prop|mk (b:Int) (a c:Addr) (P t:List Int) (z_0:vs=[.int b,.ref a,.ref c]) (z_1:H a=some (.tup (P.map V.int))) (z_2:H c=some (.tup (t.map V.int))) (z_3:P.length<=40) (z_4:t.length<=40) (z_5:Pm.Mon P) (z_6:(∀x∈P,Rm.Bd 124000 x)) (z_7:(∀x∈t,Rm.Bd 300000 x)) (z_8:((b=0/\∃(g:List Int) (N:Int) (U V':Nat),Pm.GcZ P (Pm.co t) g N/\Rm.Bd V' N/\(∀k,Rm.Bd U (Pm.co g k))/\V'+U+57<=112100/\yE H Q g)∨
 (∃p:Nat,b=(p:Int)/\Om.cC p/\p<2097152/\Pm.Py p P/\Pm.Py p t/\Rz H Q p P t)))
def J2:Sp:=fun vs H Q E=>Gv  vs H Q E
abbrev mz(P w K mg base):=Cal P w K mg base "shared_divisor" 7 ["by","one","other"] J2
structure bU(b:Int)(f:Nat->Int)(L:List Int):Prop where
 mon:Pm.Mon L
 nu:∀k,Rm.tk b (Pm.co L k)=Pm.co L k
 kp:Pm.Kp b L f
 all:∀q,Pm.Kp b q f->Pm.Dv b L (Pm.co q)
def Tame(r:Rw):Prop:=r.b=0->∃d ua u:Nat,10<=u/\(∀x∈r.rule,Rm.Bd u x)/\(∃Q0,Pm.Mon Q0/\Pm.Kp 0 Q0 r.at/\Q0.length<=d+1)/\(∀n,n<=2*d->Rm.Bd ua (r.at n))/\d*(ua+d)+1+(u+400)+57<=112100
theorem nY.kp{r:Rw}(ok:nY r):Pm.Kp r.b (Pm.aP r.b r.rule) r.at:=Pm.Kp.aP (Pm.Mv ok.len)
theorem Lg{b:Int}{L:List Int}(h:Pm.Mon L)(hn:∀k,Rm.tk b (Pm.co L k)=Pm.co L k):Pm.Py b L:=⟨Pm.iD (fun z=>by have:=h.pos;rw[z]at this;exact absurd this (by decide)) (by rw[h.one];decide),fun x hx=>by
 obtain⟨k,hk,e⟩:=List.mem_iff_getElem.mp hx;have:=hn k
 rwa [Pm.ql hk,e]at this⟩
theorem qx(b:Int)(c:List Int)(h1:Rm.tk b 1=1)(k:Nat):Rm.tk b (Pm.co (Pm.aP b c) k)=Pm.co (Pm.aP b c) k:=by
 have h:∀x∈Pm.aP b c,Rm.tk b x=x:=fun x hx=>by
  rcases List.mem_append.mp hx with hx|hx
  ·obtain⟨j,_,e⟩:=Pm.eE hx;rw[e,Rm.gC]
  ·rw[List.mem_singleton.mp hx,h1]
 by_cases hk:k<(Pm.aP b c).length
 ·exact h _ (Pm.yQ hk)
 ·rw[Pm.bD (by omega),Pm.tk0]
theorem Jq{p:Nat}(hp:Om.cC p){r:Rw}(ok:nY r)(hb:r.b=(p:Int)){g L o:List Int}(hG:Pm.Gcd p (Pm.aP r.b r.rule) (FW r) g)(D:Pm.Div p (Pm.aP r.b r.rule) g o L):bU r.b r.at o/\o.length<=r.rule.length+1:=by
 have h1:=Pm.G8 hp;have hm:=Pm.dw r.b r.rule;have hd:Pm.Dv p g (Pm.co (Pm.aP r.b r.rule)):=hG.one.to fun _=>rfl;obtain⟨L',hL',hn',hl',e'⟩:=Pm.pC h1 hm hG.mon hd;have D':Pm.Div p (Pm.aP r.b r.rule) g L' []:=⟨Lg hL' hn',Pm.Py.nil _,hG.mon.pos,fun k=>by rw[Pm.eU,Int.add_zero];exact(e' k).symm⟩;obtain⟨eo,_⟩:=D.uniq hG.mon D';subst eo;have W:Pm.Wr p (Pm.aP p r.rule) (Pm.tp (Pm.aP p r.rule) r.at) g:=by
  rw[<-hb];refine⟨hG.mon,by rw[hb];rw[hb]at hd;exact hd,?_,?_⟩
  ·rw[hb];refine(hG.two.to (q:=FW r) fun _=>rfl).congr fun k=>?_;rw[Bl,hb,Rm.gC]
  ·obtain⟨u,v,e⟩:=hG.sum;refine⟨1,Pm.co u,Pm.co v,u.length+v.length,by rw[hb,h1];decide,(Pm.Fs.co u).mono (by omega),(Pm.Fs.co v).mono (by omega),fun k=>?_⟩;rw[Int.one_mul,hb];rw[hb]at e;rw[e k];refine Rm.aW rfl (Pm.iZ (fun _ _=>rfl) fun i _=>?_);rw[Bl,hb,Rm.gC]
 have ha:∀n,r.rule.length<=n->Rm.tk (p:Int) (r.at n)=Rm.tk p (Rm.S r.rule r.at n r.rule.length):=by
  rw[<-hb];exact Pm.Mv ok.len
 have K:=W.keeps (Dm.Dom.pr hp) ha hL' (by rw[<-hb];rw[<-hb]at e';exact e');refine⟨⟨hL',by rw[hb];exact hn',?_,fun q hq=>?_⟩,?_⟩
 ·rw[hb];refine(K o).mpr ⟨fun k=>if k=0 then 1 else 0,1,fun k hk=>if_neg (by omega),fun k=>?_⟩;rw[Pm.pU,if_pos (Nat.zero_le _),Int.one_mul,Nat.sub_zero]
 ·rw[hb]at hq ⊢;exact(K q).mp hq
 ·have:=hG.mon.pos;rw[Pm.aX]at hl';omega
inductive Jz(vs:List V)(H:Hp)(Q:VK)(E:XK):Prop|mk (v:V) (r:Rw) (z_0:vs=[v]) (z_1:cI H v r) (z_2:nY r) (z_3:ByP r.b) (z_4:Tame r) (z_5:∀t L H',Same H H'->H' t=some (.tup (List.map V.int L))->bU r.b r.at L->L.length<=r.rule.length+1->Q (.ref t) H')
def PX:Sp:=fun vs H Q E=>Jz  vs H Q E
abbrev wj(P w K mg base):=Cal P w K mg base "least_of" 8 ["row"] PX
def aQ(r:Rw)(L:List Int):Rw:=⟨r.b,Pm.cL r.b L,r.starts.take (L.length-1)⟩
inductive K8(vs:List V)(H:Hp)(Q:VK)(E:XK):Prop|mk (v:V) (r:Rw) (z_0:vs=[v]) (z_1:cI H v r) (z_2:nY r) (z_3:ByP r.b) (z_4:Tame r) (z_5:∀v' L H',Same H H'->cI H' v' (aQ r L)->bU r.b r.at L->L.length<=r.rule.length+1->Q v' H')
def Ow:Sp:=fun vs H Q E=>K8  vs H Q E
abbrev gK(P w K mg base):=Cal P w K mg base "shortest" 9 ["row"] Ow
theorem uD{n:Nat}{ix:List (Option Nat)}{te:TE}{σ:St}{H1:Hp}{Q:VK}(hz:n<=1000){rest:St}(hst:cst ix σ=none::rest)(P:Int->Prop)
  (he:∀H' k,Same H1 H'->k<n->∀kk:VK,(∀x H2,Same H' H2->P x->kk (.int x) H2)->te (some (.int (0+(k:Int)))::rest) H' kk)
  (hQ:∀D H' xs,H1 D=none->Same H1 H'->H' D=some (.lst (List.map V.int xs))->xs.length=n->(∀x∈xs,P x)->Q (.ref D) H'):tD ix (pO 0) Gf te σ Q (Itr 0 n) H1:=by
 have I:ItS (Itr 0 n) ((List.range n).map fun i=>V.int (0+(i:Nat))) H1:=pI;have lI:((List.range n).map fun i=>V.int (0+(i:Nat))).length=n:=by rw[List.length_map,List.length_range]
 constructor;intro D hD;refine⟨fun i m σ' H'=>m=n-i/\i<=n/\(∃o,σ'=o::rest)/\Same H1 H'/\∃xs:List Int,H' D=some (.lst (xs.map V.int))/\xs.length=i/\∀x∈xs,P x,⟨n,rfl,Nat.zero_le _,⟨none,hst⟩,Same.new hD _,[],aB,rfl,fun _ h=>nomatch h⟩,?_⟩;rintro i m σ' H' ⟨rfl,hi,⟨o,rfl⟩,g,xs,hl,lx,hP⟩;by_cases hlt:i<n
 ·refine .inr ⟨I.go i _ g (by rw[lI];exact hlt),fun x H2 y=>?_⟩;obtain⟨rfl,hx⟩:=I.yld i _ x H2 g y;have hx:=hx (by rw[lI];exact hlt);rw[List.getElem?_map,List.getElem?_range hlt]at hx;cases hx;change te (some (.int (0+(i:Int)))::rest) H2 _;refine he H2 i g hlt _ fun x H3 g3 hx=>⟨_,g3 _ _ hl,by rw[List.length_map,lx];exact bK (by omega),n-(i+1),by omega,rfl,hlt,⟨_,rfl⟩,Same.upd (g.trans g3) hD _,xs++[x],?_,by rw[List.length_append,lx];rfl,fun z hz=>?_⟩
  ·rw[aB,wV]
  ·rcases List.mem_append.mp hz with hz|hz
   ·exact hP z hz
   ·rw[List.mem_singleton.mp hz];exact hx
 ·have e:i=n:=by omega
  subst e;exact .inl ⟨I.stop _ _ g (by rw[lI];exact Nat.le_refl _),hQ D H' xs hD g hl lx hP⟩
theorem Lb{ns:List Int}{k:Int}(j:Nat)(h0:k<0)(e:k+(ns.length:Int)=(j:Int)):atI (ns.map V.int) k=some (.int (ns.getD j 0)):=by
 have hj:j<ns.length:=by omega
 unfold atI ixN;rw[List.length_map,if_neg (by omega),if_pos (by omega),show(k+(ns.length:Int)).toNat=j by omega];show(ns.map V.int)[j]?=_;rw[List.getElem?_map,List.getElem?_eq_getElem hj,List.getD_eq_getElem?_getD,List.getElem?_eq_getElem hj];rfl
theorem Lf{x:Int}{n:Nat}(h:Rm.Bd n x):∀k:Nat,Rm.Bd (n*k+1) (x^k)
 |0=>by rw[Int.pow_zero,Nat.mul_zero];exact Rm.Bd.of (by decide) (by decide)
 |k+1=>by
  rw[Int.pow_succ];exact((Lf h k).mul h).mono (by rw[Nat.mul_succ];omega)
def byF:List Int:=[0,0,0,2,3,5,7,11,101,997]
structure ByF(b:Int):Prop where
 lo:0<=b
 hi:b<1000
 one:Rm.tk b 1=1
 p:ByP b
theorem Yw:∀k<10,byF.getD k 0=0∨((byF.getD k 0).toNat∈Om.jM/\byF.getD k 0=((byF.getD k 0).toNat:Int)):=by decide +kernel
theorem Hi:∀k<10,0<=byF.getD k 0/\byF.getD k 0<1000/\Rm.tk (byF.getD k 0) 1=1:=by decide
theorem Rq{k:Nat}(h:k<10):ByF (byF.getD k 0):=⟨(Hi k h).1,(Hi k h).2.1,(Hi k h).2.2,(Yw k h).imp id fun z=>⟨_,z⟩⟩
theorem mO{b:Int}(hb:0<=b)(x:Int):fJ b (Rm.tk b x):=by
 by_cases h:b=0
 ·exact .inl h
 ·rw[Rm.iG h];exact .inr ⟨eX _ (by omega),eY _ (by omega)⟩
theorem fj{b x:Int}{n:Nat}(hb:ByF b)(hn:10<=n)(h:Rm.Bd n x):Rm.Bd n (Rm.tk b x):=
 Rm.w6 hb.lo ((Rm.Bd.of (n:=10) (by have:=hb.lo;omega) (by have:=hb.hi;omega)).mono hn) h
theorem Wg{rule:List Int}{f:Nat->Int}{n a c:Nat}(hr:∀k,Rm.Bd a (rule.getD k 0)):∀m:Nat,m<=16->(∀k,k<m->Rm.Bd c (f (n-1-k)))->Rm.Bd (a+c+4) (Rm.S rule f n m):=fun m hm h=>by
 have key:∀m,(∀k,k<m->Rm.Bd c (f (n-1-k)))->(Rm.S rule f n m).natAbs<=m*2^(a+c):=fun m=>by
  induction m with
  |zero=>intro _;exact Nat.zero_le _
  |succ m ih=>
   intro h;unfold Rm.S;have h1:=ih fun k hk=>h k (by omega);have h2:(rule.getD m 0*f (n-1-m)).natAbs<2^(a+c):=(hr m).mul (h m (by omega));have h3:=Int.natAbs_add_le (Rm.S rule f n m) (rule.getD m 0*f (n-1-m));rw[Nat.succ_mul];omega
 have k1:=key m h;have k2:m*2^(a+c)<=16*2^(a+c):=Nat.mul_le_mul_right _ hm;show(Rm.S rule f n m).natAbs<2^(a+c+4);by_cases h0:m=0
 ·rw[h0];exact Nat.pow_pos (by decide)
 ·have k3:(Rm.S rule f n m).natAbs<16*2^(a+c):=by
   obtain⟨m',rfl⟩:∃m',m=m'+1:=⟨m-1,by omega⟩;have q1:=key m' fun k hk=>h k (by omega);unfold Rm.S;have h2:(rule.getD m' 0*f (n-1-m')).natAbs<2^(a+c):=(hr m').mul (h m' (by omega));have h3:=Int.natAbs_add_le (Rm.S rule f n m') (rule.getD m' 0*f (n-1-m'));have q2:m'*2^(a+c)<=15*2^(a+c):=Nat.mul_le_mul_right _ (by omega);omega
  rw[Nat.pow_add];have:(2:Nat)^4=16:=by decide
  omega
theorem R4{b:Int}{rule starts:List Int}{a c:Nat}(hl:rule.length=starts.length)(h16:rule.length<=16)(hb:0<=b)(hb':Rm.Bd c b)(hr:∀x∈rule,Rm.Bd a x)(hs:∀x∈starts,Rm.Bd c x):
  ∀n,Rm.Bd (c+n*(a+4)) (Rm.at_ b rule starts n):=by
 intro n;induction n using Nat.strongRecOn with
 |ind n ih=>
  by_cases h:n<starts.length
  ·rw[Rm.qd h];exact(Rm.Bd.getD hs n).mono (by omega)
  ·rw[Rm.tM hl (by omega)];by_cases h0:rule.length=0
   ·rw[h0];exact Rm.w6 hb (hb'.mono (by omega)) (.zero _)
   ·have hn:0<n:=by omega
    have q:=Wg (rule:=rule) (f:=Rm.at_ b rule starts) (n:=n) (a:=a) (c:=c+(n-1)*(a+4)) (fun k=>Rm.Bd.getD hr k) rule.length h16 fun k hk=>by
     refine(ih (n-1-k) (by omega)).mono ?_;have:(n-1-k)*(a+4)<=(n-1)*(a+4):=Nat.mul_le_mul_right _ (by omega);omega
    have e:n*(a+4)=(n-1)*(a+4)+(a+4):=by
     obtain⟨m,rfl⟩:∃m,n=m+1:=⟨n-1,by omega⟩;rw[Nat.add_sub_cancel,Nat.succ_mul]
    exact Rm.w6 hb (hb'.mono (by omega)) (q.mono (by omega))
theorem zX{b x:Int}(h:fJ b x):Rm.tk b x=x:=by
 rcases h with rfl|⟨h1,h2⟩
 ·exact Rm.bH x
 ·rw[Rm.iG (by omega)];exact Int.emod_eq_of_lt h1 h2
theorem Mh{b x:Int}{n:Nat}(hb:ByF b)(hn:10<=n)(h0:b≠0)(h:fJ b x):Rm.Bd n x:=by
 have:=hb.hi;rcases h with z|z
 ·exact absurd z h0
 ·exact(Rm.Bd.of (n:=10) (by omega) (by omega)).mono hn
structure Bs(b:Int)(m:Nat)(r:Rw):Prop where
 by_:r.b=b
 len:r.rule.length=r.starts.length
 short:r.rule.length<=m
 m12:m<=12
 iU:∀x∈r.rule,fJ b x
 fY:∀x∈r.starts,fJ b x
 eV:∀x∈r.rule,Rm.Bd 13 x
 lV:∀x∈r.starts,Rm.Bd 31 x
theorem Bs.Hu{b:Int}{m:Nat}{r:Rw}(hb:ByF b)(h:Bs b m r)(n:Nat):Rm.Bd (31+n*17) (r.at n):=by
 have e:=h.by_;have:=h.short;have:=h.m12;have:=hb.lo;have:=hb.hi;exact R4 h.len (by omega) (by rw[e];exact hb.lo) (Rm.Bd.of (by omega) (by omega)) h.eV h.lV n
theorem Bs.Iz{b:Int}{m:Nat}{r:Rw}(hb:ByF b)(h:Bs b m r)(n:Nat):fJ b (r.at n):=by
 by_cases z:b=0
 ·exact .inl z
 ·have e:=h.by_;have h0:=hb.lo;have:=Rm.CV (b:=r.b) (rule:=r.rule) (starts:=r.starts) h.len (by omega) (fun x hx=>?_) n
  ·rw[e]at this;exact .inr (by have q:r.at n=Rm.at_ b r.rule r.starts n:=(by rw[<-e];rfl);rw[q];exact this)
  ·rcases h.fY x hx with y|y
   ·exact absurd y z
   ·rw[e];exact y
def uS(s:Nat):Nat:=13+12*s
structure RwS(b:Int)(r0:Rw)(s:Nat)(r:Rw):Prop where
 by_:r.b=b
 len:r.rule.length=r.starts.length
 short:r.rule.length<=12
 iU:∀x∈r.rule,fJ b x
 eV:∀x∈r.rule,Rm.Bd (uS s) x
 same:∀n,r.at n=r0.at n
theorem RwS.up{b:Int}{r0:Rw}{s:Nat}{r:Rw}(h:RwS b r0 s r):RwS b r0 (s+1) r:=
 ⟨h.by_,h.len,h.short,h.iU,fun x hx=>(h.eV x hx).mono (by unfold uS;omega),h.same⟩
theorem RwS.starts{b:Int}{r0:Rw}{s:Nat}{r:Rw}(h:RwS b r0 s r){x:Int}(hx:x∈r.starts):∃k,k<r.starts.length/\x=r0.at k:=by
 obtain⟨k,hk,e⟩:=List.mem_iff_getElem.mp hx;refine⟨k,hk,?_⟩;have e1:r.at k=r.starts.getD k 0:=Rm.qd hk;rw[<-h.same k,e1,List.getD_eq_getElem?_getD,List.getElem?_eq_getElem hk,<-e];rfl
theorem RwS.ok{b:Int}(hb:ByF b){m:Nat}{r0 r:Rw}{s:Nat}(h0:Bs b m r0)(h:RwS b r0 s r)(hs:s<=3):nY r:=by
 have e:=h.by_;have h12:=h.short;have hl:=h.len;refine⟨h.len,by omega,by rw[e];exact hb.lo,by rw[e];exact hb.hi,by rw[e];exact h.iU,fun x hx=>?_,fun x hx=>(h.eV x hx).mono (by unfold uS;omega),fun x hx=>?_⟩
 ·obtain⟨k,_,rfl⟩:=h.starts hx;rw[e];exact h0.Iz hb k
 ·obtain⟨k,hk,rfl⟩:=h.starts hx;exact(h0.Hu hb k).mono (by have:k*17<=12*17:=Nat.mul_le_mul_right _ (by omega);omega)
def D3(n:Int)(rule:List Int)(i k:Nat):Int:=(if k=0 then n else if k<=i then -(n*Pm.co rule (k-1))else 0)+(if k<i then Pm.co rule k else 0)
def dW(n:Int)(rule:List Int)(i:Nat):List Int:=Pm.ofF (rule.length+1) fun k=>D3 n rule i k
theorem cH(n:Int)(rule:List Int)(i:Nat):(dW n rule i).length=rule.length+1:=Pm.aM ..
theorem nO{n:Int}{rule:List Int}{i k:Nat}(h:k<rule.length+1):Pm.co (dW n rule i) k=D3 n rule i k:=by rw[dW,Pm.bI,if_pos h]
theorem Ey(n:Int)(rule:List Int):dW n rule 0=[n]++Pm.ofF rule.length fun _=>0:=by
 refine Pm.j9 (by rw[cH,List.length_append,Pm.aM];simp;omega) fun k=>?_;by_cases h:k<rule.length+1
 ·rw[nO h,Pm.bY,Pm.bI];unfold D3;rw[if_neg (Nat.not_lt_zero _),Int.add_zero];by_cases c:k=0
  ·rw[if_pos c,if_pos (by simp;omega),c];rfl
  ·rw[if_neg c,if_neg (by omega),if_neg (by simp;omega)];split<;>rfl
 ·rw[Pm.bD (by rw[cH];omega),Pm.bD (by rw[List.length_append,Pm.aM];simp;omega)]
theorem Ei{n:Int}{rule:List Int}{i:Nat}(hi:i<rule.length):
  ((dW n rule i).set i (Pm.co (dW n rule i) i+Pm.co rule i)).set (i+1) (Pm.co ((dW n rule i).set i (Pm.co (dW n rule i) i+Pm.co rule i)) (i+1)-n*Pm.co rule i)=dW n rule (i+1):=by
 refine Pm.j9 (by rw[List.length_set,List.length_set,cH,cH]) fun k=>?_;rw[Pm.sX _ _ _ _ (by rw[List.length_set,cH];omega),Pm.sX _ _ _ _ (by rw[cH];omega),Pm.sX _ _ _ _ (by rw[cH];omega)];by_cases h:k<rule.length+1
 ·rw[nO h,nO (by omega),nO (by omega),nO h,if_neg (by omega:¬i+1=i)];unfold D3;by_cases c:k=i+1
  ·rw[if_pos c,if_neg (by omega),if_neg (by omega),if_neg (by omega),if_neg (by omega),if_pos (by omega),if_neg (by omega),c,Nat.add_sub_cancel];omega
  ·rw[if_neg c];by_cases d:k=i
   ·rw[if_pos d,d,if_neg (Nat.lt_irrefl i),if_pos (by omega:i<i+1)];by_cases z:i=0
    ·rw[if_pos z,if_pos z];omega
    ·rw[if_neg z,if_neg z,if_pos (by omega),if_pos (by omega)];omega
   ·rw[if_neg d];by_cases z:k=0
    ·rw[if_pos z,if_pos z];by_cases y:k<i
     ·rw[if_pos y,if_pos (by omega)]
     ·rw[if_neg y,if_neg (by omega)]
    ·rw[if_neg z,if_neg z];by_cases y:k<i
     ·rw[if_pos (by omega:k<=i),if_pos y,if_pos (by omega:k<=i+1),if_pos (by omega:k<i+1)]
     ·rw[if_neg (by omega:¬k<=i),if_neg y,if_neg (by omega:¬k<=i+1),if_neg (by omega:¬k<i+1)]
 ·rw[if_neg (by omega),if_neg (by omega),Pm.bD (by rw[cH];omega),Pm.bD (by rw[cH];omega)]
theorem Kz{n:Int}{rule:List Int}{u:Nat}(hu:10<=u)(hn:Rm.Bd 10 n)(h:∀x∈rule,Rm.Bd u x)(i:Nat):∀x∈dW n rule i,Rm.Bd (u+12) x:=fun x hx=>by
 obtain⟨k,_,rfl⟩:=Pm.eE hx;unfold D3;refine(Rm.Bd.add (n:=u+11) ?_ ?_).mono (by omega)
 ·split
  ·exact hn.mono (by omega)
  ·split
   ·have:=(hn.mul (Pm.ju h (k-1))).mono (show 10+u<=u+11 by omega);unfold Rm.Bd at this⊢;rw[Int.natAbs_neg];exact this
   ·exact Rm.Bd.zero _
 ·split
  ·exact(Pm.ju h k).mono (by omega)
  ·exact Rm.Bd.zero _
def qW(b n:Int)(rule:List Int):List Int:=Pm.ofF (rule.length+1) fun k=>Rm.tk b (0-((if k<rule.length then 0-Pm.co rule k else 0)-n*(if k=0 then 1 else 0-Pm.co rule (k-1))))
theorem kO(b n:Int)(rule:List Int):(qW b n rule).length=rule.length+1:=Pm.aM ..
theorem Er{b n:Int}{r:Rw}(hl:r.rule.length=r.starts.length)(hs:∀x∈r.starts,fJ b x)(hb:r.b=b)(m:Nat):Rm.at_ b (qW b n r.rule) (r.row (r.rule.length+1)) m=r.at m:=by
 have e0:∀i,i<r.rule.length+1->(r.row (r.rule.length+1)).getD i 0=r.at i:=fun i hi=>Rm.AX _ _ _ hi;refine Rm.mR (by rw[kO,Rw.fD]) (g:=r.at) (fun i hi=>?_) (fun i hi=>?_) m
 ·rw[Rw.fD]at hi;exact(e0 i hi).symm
 ·rw[Rw.fD]at hi;have h1:r.at i=Rm.tk b (Rm.S r.rule r.at i r.rule.length):=by rw[<-hb];exact Rm.tM hl (by omega)
  rw[kO,h1,Pm.C8,Pm.C8];have e1:Rm.tk b (Pm.sm (r.rule.length+1) fun k=>Pm.co (qW b n r.rule) k*r.at (i-1-k))=Rm.tk b (Pm.sm (r.rule.length+1) fun k=>(if k<r.rule.length then Pm.co r.rule k*r.at (i-1-k)else 0)+n*(if k=0 then r.at (i-1)else -(Pm.co r.rule (k-1)*r.at (i-1-k)))):=Pm.jz fun k hk=>by
   rw[qW,Pm.bI,if_pos hk,Rm.cJ];refine congrArg (Rm.tk b) ?_;by_cases c:k=0
   ·rw[if_pos c,if_pos c,c];by_cases d:0<r.rule.length
    ·rw[if_pos d,if_pos d,Nat.sub_zero,Int.mul_one,show(0-(0-Pm.co r.rule 0-n))=Pm.co r.rule 0+n by omega,Int.add_mul]
    ·rw[if_neg d,if_neg d,Nat.sub_zero,Int.mul_one,show(0-(0-n))=n by omega,Int.zero_add]
   ·rw[if_neg c,if_neg c];by_cases d:k<r.rule.length
    ·rw[if_pos d,if_pos d,Int.sub_mul,Int.sub_mul,Int.mul_assoc,Int.sub_mul,Int.sub_mul,Int.mul_sub,Int.mul_neg];omega
    ·rw[if_neg d,if_neg d,Int.sub_mul,Int.sub_mul,Int.mul_assoc,Int.sub_mul,Int.mul_sub,Int.mul_neg];omega
  rw[e1,Pm.cQ,Pm.bG];have e2:Pm.sm (r.rule.length+1) (fun k=>if k<r.rule.length then Pm.co r.rule k*r.at (i-1-k)else 0)=Pm.sm r.rule.length fun k=>Pm.co r.rule k*r.at (i-1-k):=by
   rw[Pm.sm,if_neg (Nat.lt_irrefl _),Int.add_zero];exact Pm.aA fun k hk=>if_pos hk
  have e3:Pm.sm (r.rule.length+1) (fun k=>if k=0 then r.at (i-1)else -(Pm.co r.rule (k-1)*r.at (i-1-k)))=r.at (i-1) + -1*Pm.sm r.rule.length fun k=>Pm.co r.rule k*r.at (i-1-1-k):=by
   rw[Pm.dX,if_pos rfl,<-Pm.bG];congr 1;refine Pm.aA fun k _=>?_;rw[if_neg (by omega),Nat.add_sub_cancel,show i-1-(k+1)=i-1-1-k by omega];omega
  rw[e2,e3];have z:Rm.tk b (r.at (i-1) + -1*Pm.sm r.rule.length fun k=>Pm.co r.rule k*r.at (i-1-1-k))=0:=by
   have h2:r.at (i-1)=Rm.tk b (Rm.S r.rule r.at (i-1) r.rule.length):=by rw[<-hb];exact Rm.tM hl (by omega)
   rw[h2,Pm.C8,Rm.bJ,show ∀x:Int,x + -1*x=0 from fun x=>by omega,Pm.tk0]
  rw[<-Rm.dH,<-Rm.bh,z,Int.mul_zero,Pm.tk0,Int.add_zero]
theorem xO(b n:Int)(rule:List Int):(dW n rule rule.length).map (Rm.tk b)=qW b n rule:=by
 refine Pm.j9 (by rw[List.length_map,cH,kO]) fun k=>?_;by_cases hk:k<rule.length+1
 ·rw[Pm.qp (Pm.tk0 b),nO hk,qW,Pm.bI,if_pos hk];refine congrArg (Rm.tk b) ?_;unfold D3;by_cases c:k=0
  ·rw[if_pos c,if_pos c,Int.mul_one];split<;>omega
  ·rw[if_neg c,if_neg c,if_pos (by omega),Int.mul_sub,Int.mul_zero];split<;>omega
 ·rw[Pm.bD (by rw[List.length_map,cH];omega),Pm.bD (by rw[kO];omega)]
theorem RwS.longer{b:Int}{m:Nat}{r0:Rw}{s:Nat}{r:Rw}(hb:ByF b)(h0:Bs b m r0)(h:RwS b r0 s r)(hs3:s<=3)(hs:r.rule.length<12){n:Int}(hn:Rm.Bd 10 n):
  RwS b r0 (s+1) ⟨b,(dW n r.rule r.rule.length).map (Rm.tk b),r.row (r.rule.length+1)⟩:=by
 have e:=h.by_;have ok:=h.ok hb h0 hs3;refine⟨rfl,?_,?_,fun x hx=>?_,fun x hx=>?_,fun k=>?_⟩
 ·show((dW n r.rule r.rule.length).map (Rm.tk b)).length=(r.row (r.rule.length+1)).length;rw[List.length_map,cH,Rw.fD]
 ·show((dW n r.rule r.rule.length).map (Rm.tk b)).length<=12;rw[List.length_map,cH];omega
 ·obtain⟨y,_,rfl⟩:=List.mem_map.mp hx;exact mO hb.lo y
 ·obtain⟨y,hy,rfl⟩:=List.mem_map.mp hx;exact fj hb (by unfold uS;omega) ((Kz (by unfold uS;omega) hn h.eV _ y hy).mono (by unfold uS;omega))
 ·have:=Er (b:=b) (n:=n) (r:=r) h.len (fun x hx=>by have:=ok.fY x hx;rw[e]at this;exact this) e k;rw[<-h.same k,<-this];show Rm.at_ b ((dW n r.rule r.rule.length).map (Rm.tk b)) _ k=_;rw[xO]
theorem JB{J:It}{xs:List V}{ix:List (Option Nat)}{te:TE}{σ:St}{H1:Hp}{Q:VK}(I:ItS J xs H1)(hz:xs.length<=sizeLine){rest:St}(hst:cst ix σ=none::rest)(F:V->V)
  (he:∀(H':Hp) (x:V),Same H1 H'->x∈xs->∀k:VK,(∀H2,Same H' H2->k (F x) H2)->te (some x::rest) H' k)
  (hQ:∀D H',H1 D=none->Same H1 H'->H' D=some (.lst (xs.map F))->Q (.ref D) H'):
  tD ix (pO 0) Gf te σ Q J H1:=by
 constructor;intro D hD;refine⟨fun i m σ' H'=>m=xs.length-i/\i<=xs.length/\(∃o,σ'=o::rest)/\Same H1 H'/\H' D=some (.lst ((xs.take i).map F)),⟨xs.length,by simp,Nat.zero_le _,⟨none,hst⟩,Same.new hD _,by rw[aB];rfl⟩,?_⟩;rintro i m σ' H' ⟨rfl,hi,⟨o,rfl⟩,g,hl⟩;by_cases hlt:i<xs.length
 ·refine .inr ⟨I.go i _ g hlt,fun x H2 y=>?_⟩;obtain⟨rfl,hx⟩:=I.yld i _ x H2 g y;have hx:=hx hlt;have hm:x∈xs:=List.mem_of_getElem? hx;have et:xs.take (i+1)=xs.take i++[x]:=by rw[List.take_add_one,hx];rfl
  change te (some x::rest) H2 _;refine he H2 x g hm _ fun H3 g3=>⟨_,g3 _ _ hl,by rw[List.length_map,List.length_take];omega,xs.length-(i+1),by omega,rfl,hlt,⟨_,rfl⟩,Same.upd (g.trans g3) hD _,?_⟩;rw[aB,et,List.map_append];rfl
 ·have e:i=xs.length:=by omega
  subst e;rw[List.take_length]at hl;exact .inl ⟨I.stop _ _ g (Nat.le_refl _),hQ D H' hD g hl⟩
inductive JC(K:W.Frag)(vs:List V)(H:Hp)(Q:VK)(E:XK):Prop|mk (a:Addr) (ns:List Int) (k:Int) (z_0:vs=[.ref a,.int k]) (z_1:SqL K H a (ns.map V.int)) (z_2:0<=k) (z_3:k<=1000) (z_4:(∀x∈ns,PySem.Builtin.Int.intBits x<=1048576)) (z_5:∀c,Rm.Bd 1048576 c->Q (.int c) H)
def NK(K:W.Frag):Sp:=fun vs H Q E=>JC K vs H Q E
abbrev rE(P w K mg base):=Cal P w K mg base "_law_cell_at" 1 ["_law_script","_law_k"] (NK K)
def Vv(c k:Int):Int:=((c%2147483629+1)*(48271+69621*k+2*k*k)+k)%2147483647
def aaj(c k:Int):Int:=Vv c k*Vv c k%2147483629
def abf(c k:Int):Int:=aaj c k*(aaj c k+k+1)%2147483587/3
inductive PK(vs:List V)(H:Hp)(Q:VK)(E:XK):Prop|mk (c k:Int) (z_0:vs=[.int c,.int k]) (z_1:0<=k) (z_2:k<=1000) (z_3:∀x,0<=x->(x<2147483587/\x=abf c k)->Q (.int x) H)
def R5:Sp:=fun vs H Q E=>PK  vs H Q E
abbrev yW(P w K mg base):=Cal P w K mg base "_law_mix" 1 ["_law_cell","_law_k"] R5
inductive RV(vs:List V)(H:Hp)(Q:VK)(E:XK):Prop|mk (c:Int) (z_0:vs=[.int c]) (z_1:∀b H',Same H H'->ByF b->Q (.int b) H')
def Y6:Sp:=fun vs H Q E=>RV  vs H Q E
abbrev vC(P w K mg base):=Cal P w K mg base "_law_drawn_by" 2 ["_law_cell"] Y6
abbrev nJ(P w K mg base):=Cal P w K mg base "_law_taken" 1 ["_law_by","_law_number"] Gi
def Dc:List Int:=[0,1,-1,2,1,-2,3,0,1,5]
theorem GR:∀k<10,-8<Dc.getD k 0/\Dc.getD k 0<8:=by decide
inductive Nv(vs:List V)(H:Hp)(Q:VK)(E:XK):Prop|mk (b c k:Int) (z_0:vs=[.int b,.int c,.int k]) (z_1:ByF b) (z_2:Rm.Bd 1048576 c) (z_3:0<=k) (z_4:k<=30) (z_5:∀x H',Same H H'->fJ b x->Rm.Bd 31 x->(k<15->Rm.Bd 13 x/\(b=0->Rm.Bd 3 x))->Q (.int x) H')
def RP:Sp:=fun vs H Q E=>Nv  vs H Q E
abbrev lW(P w K mg base):=Cal P w K mg base "_law_one_number" 2 ["_law_by","_law_cell","_law_k"] RP
structure RwW(r:Rw)(c:Nat):Prop where
 len:r.rule.length=r.starts.length
 short:r.rule.length<=24
 by0:0<=r.b
 eV:∀x∈r.rule,Rm.Bd 60000 x
 K3:∀n,n<=c->∀x∈r.row n,Rm.Bd 61000000 x
theorem nY.w{r:Rw}(h:nY r){c:Nat}(hc:c<=1000):RwW r c:=⟨h.len,h.short,h.by0,h.eV,fun n hn=>h.K3 n (by omega)⟩
inductive Ep(vs:List V)(H:Hp)(Q:VK)(E:XK):Prop|mk (v:V) (r:Rw) (c:Int) (z_0:vs=[v,.int c]) (z_1:cI H v r) (z_2:RwW r c.toNat) (z_3:0<=c) (z_4:c<=900) (z_5:Told H Q ((r.row c.toNat).map V.int))
def GF:Sp:=fun vs H Q E=>Ep  vs H Q E
abbrev Af(P w K mg base):=Cal P w K mg base "_law_places" 2 ["_law_row","_law_count"] GF
inductive Hy(vs:List V)(H:Hp)(Q:VK)(E:XK):Prop|mk (b:Int) (m:Nat) (r0:Rw) (s:Nat) (v:V) (r:Rw) (n:Int) (z_0:vs=[v,.int n]) (z_1:cI H v r) (z_2:ByF b) (z_3:Bs b m r0) (z_4:RwS b r0 s r) (z_5:s<3) (z_6:r.rule.length<12) (z_7:Rm.Bd 10 n) (z_8:∀v' r' H',Same H H'->cI H' v' r'->RwS b r0 (s+1) r'->r'.rule.length=r.rule.length+1->Q v' H')
def KP:Sp:=fun vs H Q E=>Hy  vs H Q E
abbrev n6(P w K mg base):=Cal P w K mg base "_law_made_longer" 3 ["_law_row","_law_number"] KP
def uM:List Int:=[0,0,1,0,2,0,0,3]
theorem Ie:∀k<8,0<=uM.getD k 0/\uM.getD k 0<=3:=by decide
inductive Kw(K:W.Frag)(vs:List V)(H:Hp)(Q:VK)(E:XK):Prop|mk (a:Addr) (ns:List Int) (st b m:Int) (z_0:vs=[.ref a,.int st,.int b,.int m]) (z_1:SqL K H a (ns.map V.int)) (z_2:0<=st) (z_3:st<=500) (z_4:(∀x∈ns,PySem.Builtin.Int.intBits x<=1048576)) (z_5:ByF b) (z_6:0<=m) (z_7:m<=12) (z_8:∀v r0 s r H',Same H H'->cI H' v r->Bs b m.toNat r0->RwS b r0 s r->s<=3->r.rule.length<=m.toNat+s->Q v H')
def Nu(K:W.Frag):Sp:=fun vs H Q E=>Kw K vs H Q E
abbrev sU(P w K mg base):=Cal P w K mg base "_law_drawn_row" 4 ["_law_script","_law_start","_law_by","_law_most"] (Nu K)
theorem jY{n:Nat}{ix:List (Option Nat)}{te:TE}{σ:St}{H1:Hp}{Q:VK}(hz:n<=1000){rest:St}(hst:cst ix σ=none::rest)(f:Nat->Int)
  (he:∀H' k,Same H1 H'->k<n->∀kk:VK,(∀H2,Same H' H2->kk (.int (f k)) H2)->te (some (.int (0+(k:Int)))::rest) H' kk)
  (hQ:∀D H',H1 D=none->Same H1 H'->H' D=some (.lst ((Pm.ofF n f).map V.int))->Q (.ref D) H'):tD ix (pO 0) Gf te σ Q (Itr 0 n) H1:=by
 refine JB pI (by rw[List.length_map,List.length_range];exact Nat.le_of_lt (bK hz)) hst (fun x=>match x with | .int k=> .int (f k.toNat)|_=> .non) ?_ ?_
 ·intro H2 x g2 hx k hk;obtain⟨j,hj,rfl⟩:=List.mem_map.mp hx;have e1:(0+(j:Int)).toNat=j:=by omega
  refine he H2 j g2 (List.mem_range.mp hj) k fun H3 g3=>?_;have hk':k (V.int (f (0+(j:Int)).toNat)) H3:=hk H3 g3
  rwa [e1]at hk'
 ·intro D H' hD g hl;refine hQ D H' hD g ?_;rw[hl,Pm.ofF,List.map_map,List.map_map];refine congrArg (fun z=>some (HO.lst z)) (List.map_congr_left fun k _=>?_);show V.int (f (0+(k:Int)).toNat)=V.int (f k);rw[show(0+(k:Int)).toNat=k by omega]
theorem Fe{P0:Nat}(hP:P0∈Om.jM)(h2:2<=P0){a:Nat->Int}:∀(n:Nat) (P:List Int),P.length=n->Pm.Mon P->(∀k,Rm.tk P0 (Pm.co P k)=Pm.co P k)->Pm.Kp P0 P a->∃L,bU P0 a L/\L.length<=n:=fun n=>by
 induction n using Nat.strongRecOn with
 |ind n ih=>
  intro P hl hm hn hK;by_cases c:∀q,Pm.Kp P0 q a->Pm.Dv P0 P (Pm.co q)
  ·exact⟨P,⟨hm,hn,hK,c⟩,by omega⟩
  ·obtain⟨q,hq⟩:=Classical.not_forall.mp c;have hq1:Pm.Kp P0 q a:=Classical.byContradiction fun z=>hq fun y=>absurd y z;have hq2:¬Pm.Dv P0 P (Pm.co q):=fun z=>hq fun _=>z;have eq:∀k,Pm.co (q.map (Rm.tk (P0:Int))) k=Rm.tk P0 (Pm.co q k):=fun k=>Pm.qp (Pm.tk0 _) ..;obtain⟨s,r,D⟩:=Pm.Dt hm (p:=q.map (Rm.tk (P0:Int))) (fun k=>by rw[eq,Rm.gC]);have hr:Pm.Kp P0 r a:=(D.kp hK).mp (hq1.congr fun k=>by rw[eq,Rm.gC]);by_cases z:r=[]
   ·refine absurd ⟨Pm.co s,s.length,Pm.Fs.co s,fun k=>?_⟩ hq2;have:=D.eq k;rw[z,Pm.eU,Int.add_zero,eq,Rm.gC]at this;exact this.symm
   ·have M:=Pm.Fx hP h2 D.ry z;have hs:=D.short;obtain⟨L,h1,h3⟩:=ih r.length (by omega) _ M.len (M.mon z) (fun k=>M.py.co k) ((Pm.In2.scale M.to r).kp hr hr);exact⟨L,h1,by omega⟩
theorem K4{b:Int}(hB:ByP b){P:List Int}{a:Nat->Int}(hm:Pm.Mon P)(hn:∀k,Rm.tk b (Pm.co P k)=Pm.co P k)(hK:Pm.Kp b P a):∃L,bU b a L/\L.length<=P.length:=by
 rcases hB with rfl|⟨P0,hP,rfl⟩
 ·obtain⟨g,L,hL,hy,hk,hall,hl,_,G⟩:=Pm.Gr hm hK;have:=G.mon.pos;exact⟨L,⟨hL,fun k=>Rm.bH _,hk,hall⟩,by omega⟩
 ·exact Fe hP (iY P0 hP).1 _ P rfl hm hn hK
theorem bU.uniq{b:Int}(h1:Rm.tk b 1=1){f:Nat->Int}{L L':List Int}(h:bU b f L)(h':bU b f L'):L=L':=by
 have d:=h.all L' h'.kp;have d':=h'.all L h.kp;have l1:=d.len h1 h.mon h'.mon;have l2:=d'.len h1 h'.mon h.mon;refine Pm.j9 (by omega) fun k=>?_;rw[<-h.nu k,<-h'.nu k];exact(d.same h1 h.mon h'.mon (by omega) k).symm
theorem bU.congr{b:Int}{f f':Nat->Int}(e:∀n,f n=f' n){L:List Int}(h:bU b f L):bU b f' L:=by
 have:f=f':=funext e;rw[<-this];exact h
theorem bU.le{b:Int}(h1:Rm.tk b 1=1){f:Nat->Int}{L P:List Int}(h:bU b f L)(hm:Pm.Mon P)(hK:Pm.Kp b P f):L.length<=P.length:=(h.all P hK).len h1 h.mon hm
theorem zK{r:Rw}(hn:∀n,Rm.tk r.b (r.at n)=r.at n){L:List Int}(h:bU r.b r.at L)(hl:L.length<=r.starts.length+1)(n:Nat):(aQ r L).at n=r.at n:=by
 have hp:=h.mon.pos;refine Pm.vB h.nu h.mon h.kp hn (starts:=r.starts.take (L.length-1)) ?_ ?_ n
 ·rw[List.length_take];omega
 ·intro i hi;rw[List.length_take]at hi;have e:r.at i=r.starts.getD i 0:=Rm.qd (by omega);rw[e,List.getD_eq_getElem?_getD,List.getElem?_take,if_pos (by omega),<-List.getD_eq_getElem?_getD]
theorem nY.Iz{r:Rw}(ok:nY r)(n:Nat):fJ r.b (r.at n):=by
 by_cases h:r.b=0
 ·exact .inl h
 ·have h0:=ok.by0;refine .inr (Rm.CV ok.len (by omega) (fun x hx=>?_) n);rcases ok.fY x hx with z|z
  ·exact absurd z h
  ·exact z
theorem nY.Hh{r:Rw}(ok:nY r)(n:Nat):Rm.tk r.b (r.at n)=r.at n:=zX (ok.Iz n)
structure Mr(b:Int)(r:Rw)(ua u:Nat):Prop where
 hB:ByF b
 by_:r.b=b
 ok:nY r
 rA:r.rule.length<=12
 eV:∀x∈r.rule,Rm.Bd u x
 at_:∀n,n<=24->Rm.Bd ua (r.at n)
 u10:10<=u
 adS:10<=ua
 sz:12*(ua+12)+1+(u+400)+57<=112100
theorem Mr.tk{b:Int}{r:Rw}{ua u:Nat}(h:Mr b r ua u)(n:Nat):Rm.tk b (r.at n)=r.at n:=by
 have:=h.ok.Hh n;rw[h.by_]at this;exact this
theorem Mr.tame{b:Int}{r:Rw}{ua u:Nat}(h:Mr b r ua u):Tame r:=fun hz=>by
 have hl:=h.rA;have hk:=h.ok.kp;rw[hz]at hk;exact⟨12,ua,u,h.u10,h.eV,⟨_,Pm.dw _ _,hk,by rw[Pm.aX];omega⟩,fun n hn=>h.at_ n (by omega),h.sz⟩
theorem rD{r:Rw}{L:List Int}(hl:L.length<=r.rule.length+1)(ok:nY r):(aQ r L).rule.length=L.length-1/\(aQ r L).starts.length=L.length-1:=by
 have:=ok.len;refine⟨Pm.dR ..,?_⟩;show(r.starts.take (L.length-1)).length=_;rw[List.length_take];omega
theorem RwS.mr{b:Int}(hb:ByF b){m:Nat}{r0 r:Rw}{s:Nat}(h0:Bs b m r0)(h:RwS b r0 s r)(hs:s<=3):Mr b r 439 49:=
 ⟨hb,h.by_,h.ok hb h0 hs,h.short,fun x hx=>(h.eV x hx).mono (by unfold uS;omega),fun n hn=>by
  rw[h.same n];exact(h0.Hu hb n).mono (by omega),by decide,by decide,by decide⟩
theorem yu(r:Rw)(n:Nat):r.row n=Pm.ofF n r.at:=Rm.IG ..
theorem Oc(b b':Int)(p s p' s':List Int):PyData.eqv (.tuple [.int b,.tuple (p.map .int),.tuple (s.map .int)]) (.tuple [.int b',.tuple (p'.map .int),.tuple (s'.map .int)])=decide (b=b'/\p=p'/\s=s'):=by
 have e1:=AH p p';have e2:=AH s s';rw[PyData.eqv]at e1 e2;simp only[PyData.eqvAll,PyData.eqv,e1,e2,Bool.and_true,Bool.decide_and];rfl
theorem vY(b:Int)(p r:List Int):SeqAt.shaped (.tuple [.int b,.tuple (p.map .int),.tuple (r.map .int)])=true:=by
 have h1:=lu p;have h2:=lu r;have h3:=nR p;have h4:=nR r;simp only[SeqAt.shaped,PyData.canLay0,PyData.canLayAll0,PyData.depth,PyData.depthAll,h1,h2,Bool.true_and,Bool.and_true];exact decide_eq_true (by omega)
theorem Z6{K:W.Frag}{g:Bool->Bool}{H:Hp}{v v':V}{r r':Rw}{Q:VK}(h:cI H v r)(h':cI H v' r')(q:Q (.bl (g (decide (r.b=r'.b/\r.rule=r'.rule/\r.starts=r'.starts)))) H):Mw K g v v' H Q:=by
 obtain⟨a,x,y,rfl,ha,hx,hy⟩:=h;obtain⟨c,x',y',rfl,hc,hx',hy'⟩:=h';exact .inl ⟨_,_,.tup (SqT.of ha) (.cons (.int _) (.cons (.tup (SqT.of hx) (BJ.ints _)) (.cons (.tup (SqT.of hy) (BJ.ints _)) .nil))),.tup (SqT.of hc) (.cons (.int _) (.cons (.tup (SqT.of hx') (BJ.ints _)) (.cons (.tup (SqT.of hy') (BJ.ints _)) .nil))),
  vY ..,vY ..,by rw[Oc];exact q⟩
theorem A8{b:Int}(hb:ByF b){P L:List Int}{f:Nat->Int}(hm:Pm.Mon P)(hK:Pm.Kp b P f)(lst:bU b f L){u n:Nat}(hl:P.length<=n+1)(n12:n<=12)(u10:10<=u)(hu:b=0->∀k,Rm.Bd u (Pm.co P k))(k:Nat):Rm.Bd (u+13*(n+1)) (Pm.co L k):=by
 by_cases z:b=0
 ·subst z;obtain⟨g,L',hL,hy,hk,hall,hl',hE,G⟩:=Pm.Gr hm hK;have e:L=L':=lst.uniq hb.one ⟨hL,fun k=>Rm.bH _,hk,hall⟩;subst e;have:=Pm.CZ (P:=P) (L:=g) (g:=L) G.mon (fun k=>by rw[hE,Pm.eG]) (by omega) (u:=u) (e:=4) (hu rfl) (by show P.length<=16;omega) k;refine this.mono ?_;have g1:=G.mon.pos;have:L.length<=n+1:=by omega
  omega
 ·rw[<-lst.nu k];exact Mh hb (by omega) z (mO hb.lo _)
theorem Cr{r:Rw}{L:List Int}(hb:ByF r.b)(ok:nY r)(ll:L.length<=r.rule.length+1){U:Nat}(U10:10<=U)(hU:U<=60000)(h:∀k,Rm.Bd U (Pm.co L k)):nY (aQ r L)/\∀x∈(aQ r L).rule,Rm.Bd U x:=by
 obtain⟨l1,l2⟩:=rD ll ok;have bd:∀x∈(aQ r L).rule,Rm.Bd U x:=fun x hx=>by
  obtain⟨k,_,rfl⟩:=Pm.eE (show x∈Pm.ofF _ _ from hx);refine fj hb U10 ?_;rw[Int.zero_sub];exact Pm.uZ (h _)
 have hl:=ok.len;have hs:=ok.short;refine⟨⟨by omega,by omega,ok.by0,ok.by1,fun x hx=>?_,fun x hx=>ok.fY x (List.mem_of_mem_take hx),fun x hx=>(bd x hx).mono hU,fun x hx=>ok.lV x (List.mem_of_mem_take hx)⟩,bd⟩;obtain⟨k,_,rfl⟩:=Pm.eE (show x∈Pm.ofF _ _ from hx);exact mO ok.by0 _
structure TR(b:Int)(r:Rw)(a:Nat->Int)(L:List Int):Prop where
 by_:r.b=b
 ok:nY r
 same:∀n,r.at n=a n
 lst:bU b a L
 len:r.rule.length=L.length-1
 rA:r.rule.length<=12
theorem TR.congr{b:Int}{r:Rw}{a a':Nat->Int}{L:List Int}(h:TR b r a L)(e:∀n,a n=a' n):TR b r a' L:=⟨h.by_,h.ok,fun n=>(h.same n).trans (e n),h.lst.congr e,h.len,h.rA⟩
theorem jl{b:Int}{xs:List Int}(h:∀x∈xs,fJ b x):xs.map (Rm.tk b)=xs:=by
 exact(List.map_congr_left (f:=Rm.tk b) (g:=id) fun x hx=>zX (h x hx)).trans (List.map_id xs)
theorem Q6(rule:List Int)(n m:Nat):Rm.S rule (fun _=>0) n m=0:=by
 induction m with
 |zero=>rfl
 |succ m ih=>unfold Rm.S;rw[ih,Int.mul_zero];rfl
theorem Fz{b x:Int}{r:Rw}(hb:r.b=b)(hl:r.rule.length=r.starts.length)(n:Nat):(⟨b,r.rule,r.starts.map fun s=>Rm.tk b (x*s)⟩:Rw).at n=Rm.tk b (x*r.at n):=by
 refine Rm.mR (by rw[List.length_map];exact hl) (g:=fun n=>Rm.tk b (x*r.at n)) (fun i hi=>?_) (fun i hi=>?_) n
 ·rw[List.length_map]at hi;have e1:r.at i=r.starts.getD i 0:=Rm.qd hi;have e2:(r.starts.map fun s=>Rm.tk b (x*s)).getD i 0=Rm.tk b (x*r.starts.getD i 0):=Rm.getD_map (f:=fun s=>Rm.tk b (x*s)) (by rw[Int.mul_zero];exact Pm.tk0 b) _ _;rw[e1,e2]
 ·rw[List.length_map]at hi;have e1:r.at i=Rm.tk b (Rm.S r.rule r.at i r.rule.length):=by rw[<-hb];exact Rm.tM hl hi
  have q:=Rm.Rp b (rule:=r.rule) (f:=fun _=>0) (g:=r.at) (c:=x) (n:=i) r.rule.length;rw[Q6,Int.zero_add]at q;have e3:(fun j=>Rm.tk b (0+x*r.at j))=fun j=>Rm.tk b (x*r.at j):=funext fun j=>by rw[Int.zero_add]
  rw[e3]at q;rw[q];show Rm.tk b (x*r.at i)=_;rw[e1,Rm.bh]
theorem HZ{b x:Int}{P:List Int}{a:Nat->Int}(h:Pm.Kp b P a):Pm.Kp b P fun n=>Rm.tk b (x*a n):=fun n=>by
 have e:Rm.tk b (Pm.ks P (fun n=>Rm.tk b (x*a n)) n)=Rm.tk b (x*Pm.ks P a n):=by
  unfold Pm.ks;rw[<-Pm.bG];refine Pm.jz fun k _=>?_;rw[Rm.bh,Int.mul_left_comm]
 rw[e,<-Rm.bh,h n,Int.mul_zero,Pm.tk0]
theorem Mz{b:Int}{P:List Int}{f:Nat->Int}(h:Pm.Kp b P f):Pm.Kp b P fun n=>f (n+1):=fun n=>by
 have:Pm.ks P (fun n=>f (n+1)) n=Pm.ks P f (n+1):=Pm.aA fun k _=>by rw[show n+1+k=n+k+1 by omega]
 rw[this];exact h _
theorem wG{b:Int}{P:List Int}{f g:Nat->Int}(e:∀n,Rm.tk b (f n)=Rm.tk b (g n))(h:Pm.Kp b P f):Pm.Kp b P g:=fun n=>by
 rw[<-h n];exact Pm.jz fun k _=>by rw[<-Rm.bh,<-e,Rm.bh]
def smA(b:Int)(a:Nat->Int):Nat->Int:=fun n=>Rm.tk b (Pm.sm (n+1) a)
def DV(b:Int)(L:List Int):List Int:=Pm.mul b L [Rm.tk b (-1),1]
theorem Nj(b:Int):Pm.Mon [Rm.tk b (-1),1]:=⟨by simp,rfl⟩
theorem C9{b:Int}(h1:Rm.tk b 1=1){L:List Int}(hL:Pm.Mon L):Pm.Mon (DV b L)/\(DV b L).length=L.length+1:=by
 have:=Pm.IV h1 hL (Nj b);exact⟨this.1,by rw[DV,this.2];rfl⟩
theorem OD{b:Int}{L:List Int}{a:Nat->Int}(h:Pm.Kp b L a):Pm.Kp b (DV b L) (smA b a):=by
 refine Pm.Kp.Qo (wG (fun n=>?_) (Mz h));have e:Pm.ks [Rm.tk b (-1),1] (smA b a) n=Rm.tk b (-1)*smA b a n+smA b a (n+1):=by
  show 0+Pm.co [Rm.tk b (-1),1] 0*smA b a (n+0)+Pm.co [Rm.tk b (-1),1] 1*smA b a (n+1)=_;rw[Int.zero_add,show Pm.co [Rm.tk b (-1),1] 0=Rm.tk b (-1)from rfl,show Pm.co [Rm.tk b (-1),1] 1=1 from rfl,Int.one_mul,Nat.add_zero]
 rw[e];unfold smA;rw[Rm.dH,<-Rm.bJ,Rm.cJ,Rm.bh,Rm.bJ,show Pm.sm (n+1+1) a=Pm.sm (n+1) a+a (n+1)from rfl];congr 1;omega
theorem Ov{b:Int}(hb:ByF b){L:List Int}{u:Nat}(hu:10<=u)(hl:L.length<=13)(h:∀k,Rm.Bd u (Pm.co L k)):∀x∈DV b L,Rm.Bd (u+23) x:=fun x hx=>by
 refine(Pm.LV hb.lo hb.hi hu (p:=L) (q:=[Rm.tk b (-1),1]) (v:=10) (fun x hx=>?_) (fun x hx=>?_) x hx).mono (by omega)
 ·obtain⟨k,hk,e⟩:=List.mem_iff_getElem.mp hx;have:=h k;rw[Pm.ql hk,e]at this;exact this
 ·rcases List.mem_cons.mp hx with rfl|hx
  ·exact fj hb (by decide) (Rm.Bd.of (by decide) (by decide))
  ·rw[List.mem_singleton.mp hx];exact Rm.Bd.of (by decide) (by decide)
theorem Fv{b:Int}(hb:ByF b){L:List Int}{a:Nat->Int}(lst:bU b a L)(n:Nat):(⟨b,Pm.cL b (DV b L),Pm.ofF L.length (smA b a)⟩:Rw).at n=smA b a n:=by
 obtain⟨hm,hl⟩:=C9 hb.one lst.mon;refine Pm.vB (w:=DV b L) (fun k=>by rw[DV,Pm.mK,Rm.gC]) hm (OD lst.kp) (fun n=>Rm.gC _ _) (by rw[Pm.aM,hl];rfl) (fun i hi=>?_) n;rw[Pm.aM]at hi;exact(Pm.bI _ _ _).trans (if_pos hi)
def ahd(ns:List Int)(a:Nat->Int):Nat->Int:=fun n=>if n<ns.length then Pm.co ns n else a (n-ns.length)
abbrev zer(k:Nat):List Int:=Pm.ofF k fun _=>0
theorem Jy{b:Int}{lr ls ns:List Int}(hl:lr.length=ls.length)(n:Nat):(⟨b,lr++zer ns.length,ns++ls⟩:Rw).at n=ahd ns (⟨b,lr,ls⟩:Rw).at n:=by
 refine Rm.mR (by rw[List.length_append,List.length_append,Pm.aM];omega) (g:=ahd ns (⟨b,lr,ls⟩:Rw).at) (fun i hi=>?_) (fun i hi=>?_) n
 ·rw[List.length_append]at hi;have e:(ns++ls).getD i 0=Pm.co (ns++ls) i:=rfl;rw[e,Pm.bY];unfold ahd;by_cases c:i<ns.length
  ·rw[if_pos c,if_pos c]
  ·rw[if_neg c,if_neg c];exact Rm.qd (show i-ns.length<ls.length by omega)
 ·rw[List.length_append]at hi;have e0:ahd ns (⟨b,lr,ls⟩:Rw).at i=(⟨b,lr,ls⟩:Rw).at (i-ns.length):=if_neg (by omega);have e1:(⟨b,lr,ls⟩:Rw).at (i-ns.length)=Rm.tk b (Rm.S lr (⟨b,lr,ls⟩:Rw).at (i-ns.length) lr.length):=Rm.tM hl (show ls.length<=i-ns.length by omega);rw[e0,e1,Pm.C8,Pm.C8,List.length_append,Pm.aM];refine congrArg (Rm.tk b) ?_;rw[Pm.fG (m:=lr.length) (n:=lr.length+ns.length) (by omega) fun k h1 h2=>by
   rw[Pm.bY,if_neg (by omega),Pm.bI];split<;>rw[Int.zero_mul]]
  refine Pm.aA fun k hk=>?_;rw[Pm.bY,if_pos hk];congr 1;unfold ahd;rw[if_neg (by omega),show i-1-k-ns.length=i-ns.length-1-k by omega]
abbrev PF:=(Nat->Int)->(Nat->Int)->Nat->Int
def aci(b:Int)(f:PF)(L1 L2:List Int)(a c:Nat->Int):Rw:=⟨b,Pm.cL b (Pm.mul b L1 L2),Pm.ofF (L1.length-1+(L2.length-1)) fun n=>Rm.tk b (f a c n)⟩
theorem Fy{b:Int}(hb:ByF b){L1 L2:List Int}(m1:Pm.Mon L1)(m2:Pm.Mon L2):Pm.Mon (Pm.mul b L1 L2)/\(Pm.mul b L1 L2).length=L1.length-1+(L2.length-1)+1:=by
 have:=Pm.IV hb.one m1 m2;have h1:=m1.pos;have h2:=m2.pos;exact⟨this.1,by rw[this.2];omega⟩
theorem Rr{b:Int}(hb:ByF b){f:PF}{L1 L2:List Int}{a c:Nat->Int}(m1:Pm.Mon L1)(m2:Pm.Mon L2)(hk:Pm.Kp b (Pm.mul b L1 L2) fun n=>Rm.tk b (f a c n))(n:Nat):(aci b f L1 L2 a c).at n=Rm.tk b (f a c n):=by
 obtain⟨hm,hl⟩:=Fy hb m1 m2;refine Pm.vB (w:=Pm.mul b L1 L2) (a:=fun n=>Rm.tk b (f a c n)) (fun k=>by rw[Pm.mK,Rm.gC]) hm hk (fun n=>Rm.gC _ _) (by show(Pm.ofF _ _).length=_;rw[Pm.aM,hl];rfl) (fun i hi=>?_) n;have hi':i<L1.length-1+(L2.length-1):=by rw[<-Pm.aM (L1.length-1+(L2.length-1)) fun n=>Rm.tk b (f a c n)];exact hi
 exact(Pm.bI _ _ _).trans (if_pos hi')
theorem MS{b:Int}(hb:ByF b){L1 L2:List Int}{u v:Nat}(hu:10<=u)(hl:L1.length<=13)(h1:∀k,Rm.Bd u (Pm.co L1 k))(h2:∀k,Rm.Bd v (Pm.co L2 k)):∀x∈Pm.mul b L1 L2,Rm.Bd (u+v+13) x:=fun x hx=>by
 refine(Pm.LV hb.lo hb.hi hu (p:=L1) (q:=L2) (v:=v) (fun x hx=>?_) (fun x hx=>?_) x hx).mono (by omega)
 ·obtain⟨k,hk,e⟩:=List.mem_iff_getElem.mp hx;have:=h1 k;rw[Pm.ql hk,e]at this;exact this
 ·obtain⟨k,hk,e⟩:=List.mem_iff_getElem.mp hx;have:=h2 k;rw[Pm.ql hk,e]at this;exact this
theorem Ub{b:Int}{P:List Int}{a c:Nat->Int}(h1:Pm.Kp b P a)(h2:Pm.Kp b P c):Pm.Kp b P fun n=>a n+c n:=fun n=>by
 have e:Pm.ks P (fun n=>a n+c n) n=Pm.ks P a n+Pm.ks P c n:=by
  unfold Pm.ks;rw[<-Pm.cQ];exact Pm.aA fun k _=>Int.mul_add ..
 rw[e,<-Rm.bJ,<-Rm.dH,h1 n,h2 n];exact Pm.tk0 b
theorem RD{b:Int}{P:List Int}{f:Nat->Int}(h:Pm.Kp b P f):Pm.Kp b P fun n=>Rm.tk b (f n):=wG (fun n=>(Rm.gC b (f n)).symm) h
theorem TR.uniq{b:Int}(hb:ByF b){r r':Rw}{a:Nat->Int}{L L':List Int}(h:TR b r a L)(h':TR b r' a L'):r=r':=by
 have eL:L=L':=h.lst.uniq hb.one h'.lst;subst eL;have hp:=h.lst.mon.pos;have key:∀{q:Rw},TR b q a L->Pm.aP b q.rule=L:=fun {q} t=>by
  have hk:=t.ok.kp;rw[t.by_]at hk;have ea:q.at=a:=funext t.same;rw[ea]at hk;have hl:=t.len;have hm:=Pm.dw b q.rule;have l1:=Pm.aX b q.rule;refine Pm.j9 (by omega) fun k=>?_;rw[<-h.lst.nu k,<-qx b q.rule hb.one k];exact(h.lst.all _ hk).same hb.one h.lst.mon hm (by omega) k
 have e1:=key h;have e2:=key h';have rr:∀{q:Rw},TR b q a L->q.rule=Pm.cL b L:=fun {q} t=>by
  rw[<-key t];exact(Pm.qw fun x hx=>zX (by have:=t.ok.iU x hx;rw[t.by_]at this;exact this)).symm
 have es:∀{q:Rw},TR b q a L->q.starts=Pm.ofF (L.length-1) a:=fun {q} t=>by
  have hl:=t.ok.len;have hn:=t.len;refine Pm.j9 (by rw[Pm.aM];omega) fun k=>?_;rw[Pm.bI];by_cases d:k<L.length-1
  ·rw[if_pos d,<-t.same k];exact(Rm.qd (show k<q.starts.length by omega)).symm
  ·rw[if_neg d,Pm.bD (by omega)]
 obtain⟨qb,qr,qs⟩:=r;obtain⟨qb',qr',qs'⟩:=r';have b1:qb=b:=h.by_;have b2:qb'=b:=h'.by_;have r1:qr=_:=rr h;have r2:qr'=_:=rr h';have s1:qs=_:=es h;have s2:qs'=_:=es h';rw[b1,b2,r1,r2,s1,s2]
def fH:PF:=fun a c n=>Pm.sm (n+1) fun i=>a i*c (n-i)
theorem Ma(f:Nat->Int)(j:Nat):∀d,Pm.sm (j+d) f=Pm.sm j f+Pm.sm d fun i=>f (j+i)
 |0=>by rw[Nat.add_zero];exact(Int.add_zero _).symm
 |d+1=>by
  show Pm.sm (j+d) f+f (j+d)=Pm.sm j f+(Pm.sm d (fun i=>f (j+i))+f (j+d));rw[Ma f j d,Int.add_assoc]
def cvW(L:List Int)(c:Nat->Int)(j:Nat):Int:=Pm.sm L.length fun k=>if j<k then Pm.co L k*c (k-1-j)else 0
theorem NS(L:List Int)(a c:Nat->Int)(n:Nat):Pm.ks L (fH a c) n=Pm.sm (n+1) (fun i=>a i*Pm.ks L c (n-i))+Pm.ks (Pm.ofF L.length (cvW L c)) (fun n=>a (n+1)) n:=by
 have e1:∀k,fH a c (n+k)=Pm.sm (n+1) (fun i=>a i*c (n+k-i))+Pm.sm k (fun j=>a (n+1+j)*c (n+k-(n+1+j))):=fun k=>by
  unfold fH;rw[show n+k+1=n+1+k by omega,Ma]
 have e2:Pm.ks L (fH a c) n=Pm.sm L.length (fun k=>Pm.co L k*Pm.sm (n+1) (fun i=>a i*c (n+k-i)))+Pm.sm L.length (fun k=>Pm.co L k*Pm.sm k (fun j=>a (n+1+j)*c (n+k-(n+1+j)))):=by
  unfold Pm.ks;rw[<-Pm.cQ];exact Pm.aA fun k _=>by rw[e1,Int.mul_add]
 have e3:Pm.sm L.length (fun k=>Pm.co L k*Pm.sm (n+1) (fun i=>a i*c (n+k-i)))=Pm.sm (n+1) fun i=>a i*Pm.ks L c (n-i):=by
  have q1:Pm.sm L.length (fun k=>Pm.co L k*Pm.sm (n+1) (fun i=>a i*c (n+k-i)))=Pm.sm L.length fun k=>Pm.sm (n+1) fun i=>Pm.co L k*(a i*c (n+k-i)):=Pm.aA fun k _=>by rw[Pm.bG]
  rw[q1,Pm.lQ];refine Pm.aA fun i hi=>?_;unfold Pm.ks;rw[<-Pm.bG];exact Pm.aA fun k _=>by rw[show n+k-i=n-i+k by omega,Int.mul_left_comm]
 have e4:Pm.sm L.length (fun k=>Pm.co L k*Pm.sm k (fun j=>a (n+1+j)*c (n+k-(n+1+j))))=Pm.ks (Pm.ofF L.length (cvW L c)) (fun n=>a (n+1)) n:=by
  have q1:Pm.sm L.length (fun k=>Pm.co L k*Pm.sm k (fun j=>a (n+1+j)*c (n+k-(n+1+j))))=Pm.sm L.length fun k=>Pm.sm L.length fun j=>a (n+j+1)*(if j<k then Pm.co L k*c (k-1-j)else 0):=Pm.aA fun k hk=>by
   rw[Pm.fG (m:=k) (n:=L.length) (by omega) fun j h1 _=>by rw[if_neg (by omega),Int.mul_zero],<-Pm.bG];exact Pm.aA fun j hj=>by rw[if_pos hj,show n+1+j=n+j+1 by omega,show n+k-(n+j+1)=k-1-j by omega,Int.mul_left_comm]
  rw[q1,Pm.lQ];unfold Pm.ks;rw[Pm.aM];refine Pm.aA fun j hj=>?_;rw[Pm.bI,if_pos hj,Pm.bG,Int.mul_comm];rfl
 rw[e2,e3,e4]
theorem mQ{b:Int}{L1 L2:List Int}{a c:Nat->Int}(h1:Pm.Kp b L1 a)(h2:Pm.Kp b L2 c):Pm.Kp b (Pm.mul b L1 L2) fun n=>Rm.tk b (fH a c n):=by
 refine RD (Pm.Kp.Qo (wG (f:=Pm.ks (Pm.ofF L2.length (cvW L2 c)) fun n=>a (n+1)) (fun n=>?_) (((Mz h1).aa5 _).WK)));have z:Rm.tk b (Pm.sm (n+1) fun i=>a i*Pm.ks L2 c (n-i))=0:=Dm.Sv fun k _=>by rw[<-Rm.bh,h2,Int.mul_zero,Pm.tk0]
 rw[NS,<-Rm.bJ,z,Int.zero_add]
def bhd(rule sums:List Int)(k:Nat):Int:=Pm.sm (min (k-1) rule.length) fun i=>Pm.co rule i*Pm.co sums (k-2-i)
abbrev Le(x:Int)(n:Nat):Prop:=x.natAbs<=n
theorem Le.sm{f:Nat->Int}{c:Nat}:∀n:Nat,(∀k,k<n->Le (f k) c)->Le (Pm.sm n f) (n*c)
 |0,_=>Nat.zero_le _
 |n+1,h=>by
  have h1:=Le.sm n fun k hk=>h k (by omega);have h2:=h n (by omega);have h3:=Int.natAbs_add_le (Pm.sm n f) (f n);show(Pm.sm n f+f n).natAbs<=(n+1)*c;rw[Nat.succ_mul];unfold Le at h1 h2;omega
theorem Le.mul{x y:Int}{m n:Nat}(h1:Le x m)(h2:Le y n):Le (x*y) (m*n):=by
 show(x*y).natAbs<=m*n;rw[Int.natAbs_mul];exact Nat.mul_le_mul h1 h2
theorem Le.bd{x:Int}{n:Nat}(h:Le x (2^n)):Rm.Bd (n+1) x:=by
 show x.natAbs<2^(n+1);have:0<2^n:=Nat.pow_pos (by decide);rw[Nat.pow_succ];unfold Le at h;omega
theorem J3{Z:Nat}{rule sums:List Int}{k:Nat}(hk:1<=k)(hl:rule.length=k-1)(hr:∀i,i<k-1->Le (Pm.co rule i) (Z^(i+1)))(hs:∀i,i<k->Le (Pm.co sums i) (Z^(i+1))):Le ((Pm.co sums (k-1)-bhd rule sums k)/(k:Int)) (Z^k):=by
 have e1:Le (bhd rule sums k) ((k-1)*Z^k):=by
  unfold bhd;rw[hl,Nat.min_self];refine Le.sm (k-1) fun i hi=>?_;have:=(hr i hi).mul (hs (k-2-i) (by omega));rw[<-Nat.pow_add,show i+1+(k-2-i+1)=k by omega]at this;exact this
 have e2:=hs (k-1) (by omega);rw[show k-1+1=k by omega]at e2;obtain⟨m,rfl⟩:∃m,k=m+1:=⟨k-1,by omega⟩;rw[Nat.add_sub_cancel]at e1 e2⊢;generalize Pm.co sums m=s at e2;generalize bhd rule sums (m+1)=t at e1;generalize Z^(m+1)=z at e1 e2;have h3:Le (s-t) ((m+1)*z):=by
  unfold Le at *;rw[Nat.succ_mul];omega
 generalize s-t=d at h3;unfold Le at *;have h4:-(((m+1)*z:Nat):Int)<=d/\d<=(((m+1)*z:Nat):Int):=by omega
 rw[Int.natCast_mul]at h4;have p:(0:Int)<((m+1:Nat):Int):=by omega
 have h5:d/((m+1:Nat):Int)<=(z:Int):=by
  have:=Int.ediv_le_ediv p h4.2;rw[Int.mul_ediv_cancel_left _ (by omega)]at this;exact this
 have h6:-(z:Int)<=d/((m+1:Nat):Int):=by
  have:=Int.ediv_le_ediv p h4.1;rw[<-Int.mul_neg,Int.mul_ediv_cancel_left _ (by omega)]at this;exact this
 omega
theorem Ly{X:Nat}(hX:2<=X)(c:Nat):∀(n:Nat) (f:Nat->Int),(∀i,i<n->Le (f i) (c*X^(n-i)))->Le (Pm.sm n f) (c*(2*X^n))
 |0,_,_=>Nat.zero_le _
 |n+1,f,h=>by
  have h0:=h 0 (by omega);have h1:=Ly hX c n (fun i=>f (i+1)) fun i hi=>by have:=h (i+1) (by omega);rw[show n+1-(i+1)=n-i by omega]at this;exact this
  rw[Pm.dX];have h3:=Int.natAbs_add_le (f 0) (Pm.sm n fun i=>f (i+1));have e:X^(n+1-0)=X^n*X:=Nat.pow_succ ..;rw[e]at h0;have e2:c*(2*X^(n+1))=c*(X^n*X)+c*(X^n*X):=by rw[Nat.pow_succ,<-Nat.mul_add,<-Nat.two_mul]
  have e3:c*(2*X^n)<=c*(X^n*X):=Nat.mul_le_mul_left _ (by rw[Nat.mul_comm];exact Nat.mul_le_mul_left _ hX);unfold Le at *;omega
theorem MV{w:Nat}{rule sums:List Int}{k:Nat}(hk:1<=k)(k24:k<=130)(hr:∀i,Le (Pm.co rule i) (2^w))(hs:∀i,i<k-1->Le (Pm.co sums i) ((2^(w+3))^(i+1))):Le ((if k<=rule.length then(k:Int)*Pm.co rule (k-1)else 0)+bhd rule sums k) ((2^(w+3))^k):=by
 obtain⟨m,rfl⟩:∃m,k=m+1:=⟨k-1,by omega⟩;rw[Nat.add_sub_cancel]at hs⊢;have X2:2<=2^(w+3):=by
  have:0<2^w:=Nat.pow_pos (by decide);rw[Nat.pow_add];omega
 have e1:Le (bhd rule sums (m+1)) (2^w*(2*(2^(w+3))^m)):=by
  have e:bhd rule sums (m+1)=Pm.sm m fun i=>if i<rule.length then Pm.co rule i*Pm.co sums (m+1-2-i)else 0:=by
   unfold bhd;rw[Nat.add_sub_cancel,Pm.fG (m:=min m rule.length) (n:=m) (by omega) fun i h1 h2=>if_neg (by omega)];exact Pm.aA fun i hi=>(if_pos (by omega)).symm
  rw[e];refine Ly X2 _ m _ fun i hi=>?_;split
  ·have:=(hr i).mul (hs (m+1-2-i) (by omega));rw[show m+1-2-i+1=m-i by omega]at this;exact this
  ·exact Nat.zero_le _
 have e2:Le (if m+1<=rule.length then((m+1:Nat):Int)*Pm.co rule m else 0) ((m+1)*2^w):=by
  split
  ·have h1:Le ((m+1:Nat):Int) (m+1):=by unfold Le;omega
   exact h1.mul (hr m)
  ·exact Nat.zero_le _
 have h3:=Int.natAbs_add_le (if m+1<=rule.length then((m+1:Nat):Int)*Pm.co rule m else 0) (bhd rule sums (m+1));have kX:∀m,m+1<=6*8^m:=fun m=>by
  induction m with
  |zero=>decide
  |succ m ih=>rw[Nat.pow_succ];omega
 have p8:8^m<=(2^(w+3))^m:=Nat.pow_le_pow_left (by
  have:0<2^w:=Nat.pow_pos (by decide);rw[Nat.pow_add];omega) m
 have e5:(2^(w+3))^(m+1)=2^w*(2*(2^(w+3))^m)+2^w*(6*(2^(w+3))^m):=by
  rw[Nat.pow_succ,Nat.mul_comm,Nat.pow_add,<-Nat.mul_add,<-Nat.add_mul,Nat.mul_assoc]
 have e6:(m+1)*2^w<=2^w*(6*(2^(w+3))^m):=by
  rw[Nat.mul_comm];refine Nat.mul_le_mul_left _ (Nat.le_trans (kX m) (Nat.mul_le_mul_left _ p8))
 unfold Le at *;omega
theorem IW(f:Nat->Int):∀n,Nw.sm n f=Pm.sm n f
 |0=>rfl
 |n+1=>by show Nw.sm n f+f n=Pm.sm n f+f n;rw[IW f n]
theorem zH(rule sums:List Int)(k:Nat):bhd rule sums (k+1)=Nw.sm k fun i=>Pm.co rule i*Pm.co sums (k-1-i):=by
 unfold bhd;rw[IW,Nat.add_sub_cancel,show(fun i=>Pm.co rule i*Pm.co sums (k+1-2-i))=fun i=>Pm.co rule i*Pm.co sums (k-1-i)from funext fun i=>by rw[show k+1-2-i=k-1-i by omega]];by_cases h:k<=rule.length
 ·rw[Nat.min_eq_left h]
 ·rw[Nat.min_eq_right (by omega),Pm.fG (m:=rule.length) (n:=k) (by omega) fun i h1 _=>by rw[Pm.bD h1,Int.zero_mul]]
def sO:PF:=fun a c n=>a n*c n
theorem u5{rule starts:List Int}(hl:rule.length=starts.length)(i:Nat):Rm.at_ 0 rule starts (i+rule.length)=Nw.sm rule.length fun k=>Pm.co rule k*Rm.at_ 0 rule starts (i+rule.length-1-k):=by
 rw[Rm.tM hl (by omega),Rm.bH,Pm.C8,IW]
theorem wU{b:Int}{rule starts:List Int}(hl:rule.length=starts.length)(hr:∀x∈rule,fJ b x)(hs:∀x∈starts,fJ b x)(n:Nat):Rm.at_ b rule starts n=Rm.tk b (Rm.at_ 0 rule starts n):=by
 by_cases z:b=0
 ·rw[z,Rm.bH]
 ·have:=Rm.QK (p:=b) z hl n;rw[jl hr,jl hs]at this;exact this
theorem Pq{b:Int}{c d s1 s2 u1 u2 R:List Int}{N:Nat}(hc:c.length=s1.length)(hd:d.length=s2.length)(hcn:∀x∈c,fJ b x)(hdn:∀x∈d,fJ b x)(hs1:∀x∈s1,fJ b x)(hs2:∀x∈s2,fJ b x)(hN:N=c.length*d.length)(hR:R.length=N)
  (e1:∀k,k<N->Pm.co u1 k=(if k+1<=c.length then((k+1:Nat):Int)*Pm.co c k else 0)+bhd c u1 (k+1)) (e2:∀k,k<N->Pm.co u2 k=(if k+1<=d.length then((k+1:Nat):Int)*Pm.co d k else 0)+bhd d u2 (k+1))
  (e3:∀k,k<N->Pm.co R k=(Pm.co (Pm.ofF N fun k=>Pm.co u1 k*Pm.co u2 k) k-bhd R (Pm.ofF N fun k=>Pm.co u1 k*Pm.co u2 k) (k+1))/((k+1:Nat):Int)) (n:Nat):
  (⟨b,R.map (Rm.tk b),Pm.ofF N fun n=>Rm.tk b (sO (Rm.at_ b c s1) (Rm.at_ b d s2) n)⟩:Rw).at n=Rm.tk b (sO (Rm.at_ b c s1) (Rm.at_ b d s2) n):=by
 have own:∀{c:List Int} {k:Nat},(if k+1<=c.length then((k+1:Nat):Int)*Pm.co c k else 0)=((k+1:Nat):Int)*Pm.co c k:=fun {c k}=>by
  by_cases z:k+1<=c.length
  ·rw[if_pos z]
  ·rw[if_neg z,Pm.bD (by omega),Int.mul_zero]
 have main:=Nw.Hs (m:=c.length) (n:=d.length) (c:=Pm.co c) (d:=Pm.co d) (a:=Rm.at_ 0 c s1) (b:=Rm.at_ 0 d s2) (s:=Pm.co u1) (t:=Pm.co u2) (r:=Pm.co R) (fun k hk=>Pm.bD hk) (fun k hk=>Pm.bD hk) (u5 hc) (u5 hd)
  (fun k hk=>by rw[e1 k (by omega),own,zH]) (fun k hk=>by rw[e2 k (by omega),own,zH]) (fun k hk=>by
   rw[e3 k (by omega),zH,Pm.bI,if_pos (by omega)];refine congrArg (fun x=>(Pm.co u1 k*Pm.co u2 k-x)/_) (Nw.aA fun i hi=>?_);rw[Pm.bI,if_pos (by omega)])
 have ta:∀n,Rm.tk b (sO (Rm.at_ b c s1) (Rm.at_ b d s2) n)=Rm.tk b (Rm.at_ 0 c s1 n*Rm.at_ 0 d s2 n):=fun n=>by
  unfold sO;rw[wU hc hcn hs1,wU hd hdn hs2,Rm.cJ,Rm.bh]
 refine Rm.mR (b:=b) (rule:=R.map (Rm.tk b)) (starts:=Pm.ofF N fun n=>Rm.tk b (sO (Rm.at_ b c s1) (Rm.at_ b d s2) n)) (by rw[List.length_map,Pm.aM,hR]) (g:=fun n=>Rm.tk b (sO (Rm.at_ b c s1) (Rm.at_ b d s2) n)) (fun i hi=>?_) (fun i hi=>?_) n
 ·rw[Pm.aM]at hi;show _=Pm.co (Pm.ofF N fun n=>Rm.tk b (sO (Rm.at_ b c s1) (Rm.at_ b d s2) n)) i;rw[Pm.bI,if_pos hi]
 ·rw[Pm.aM]at hi;obtain⟨j,rfl⟩:∃j,i=j+N:=⟨i-N,by omega⟩;rw[ta,List.length_map,hR,Pm.C8,hN,main j,IW,<-hN];refine Pm.jz fun k hk=>?_;rw[Pm.qp (Pm.tk0 b),Rm.cJ];show _=Rm.tk b (Pm.co R k*Rm.tk b (sO _ _ (j+N-1-k)));rw[ta,Rm.bh]
theorem Ai{xs:List Int}{n:Nat}(h:n<xs.length):atI (xs.map V.int) (n:Int)=some (.int (Pm.co xs n)):=by
 rw[bB (by omega) (by omega),Int.toNat_natCast];rfl
theorem G7(n:Nat)(f:Nat->Int):(Pm.ofF n f).sum=Pm.sm n f:=by rw[Pm.ofF,Pm.tO]
theorem Km{b:Int}{c s1 u R:List Int}{e st N:Nat}(he:1<=e)(hc:c.length=s1.length)(hcn:∀x∈c,fJ b x)(hs1:∀x∈s1,fJ b x)(hN:N=c.length)(hR:R.length=N)
  (e1:∀k,k<e*N->Pm.co u k=(if k+1<=c.length then((k+1:Nat):Int)*Pm.co c k else 0)+bhd c u (k+1))
  (e3:∀k,k<N->Pm.co R k=(Pm.co (Pm.ofF N fun k=>Pm.co u (e*(k+1)-1)) k-bhd R (Pm.ofF N fun k=>Pm.co u (e*(k+1)-1)) (k+1))/((k+1:Nat):Int)) (n:Nat):
  (⟨b,R.map (Rm.tk b),Pm.ofF N fun n=>Rm.tk b (Rm.at_ b c s1 (st+e*n))⟩:Rw).at n=Rm.tk b (Rm.at_ b c s1 (st+e*n)):=by
 have own:∀{c:List Int} {k:Nat},(if k+1<=c.length then((k+1:Nat):Int)*Pm.co c k else 0)=((k+1:Nat):Int)*Pm.co c k:=fun {c k}=>by
  by_cases z:k+1<=c.length
  ·rw[if_pos z]
  ·rw[if_neg z,Pm.bD (by omega),Int.mul_zero]
 have main:=Nw.DR (m:=c.length) (e:=e) he (c:=Pm.co c) (a:=Rm.at_ 0 c s1) (s:=Pm.co u) (r:=Pm.co R) (fun k hk=>Pm.bD hk) (u5 hc)
  (fun k hk=>by rw[e1 k (by rw[hN];exact hk),own,zH]) (fun k hk=>by
   rw[e3 k (by omega),zH,Pm.bI,if_pos (by omega)];refine congrArg (fun x=>(Pm.co u (e*(k+1)-1)-x)/_) (Nw.aA fun i hi=>?_);rw[Pm.bI,if_pos (by omega)]) st
 have ta:∀n,Rm.tk b (Rm.at_ b c s1 n)=Rm.tk b (Rm.at_ 0 c s1 n):=fun n=>by rw[wU hc hcn hs1,Rm.gC]
 refine Rm.mR (b:=b) (rule:=R.map (Rm.tk b)) (starts:=Pm.ofF N fun n=>Rm.tk b (Rm.at_ b c s1 (st+e*n))) (by rw[List.length_map,Pm.aM,hR]) (g:=fun n=>Rm.tk b (Rm.at_ b c s1 (st+e*n))) (fun i hi=>?_) (fun i hi=>?_) n
 ·rw[Pm.aM]at hi;show _=Pm.co (Pm.ofF N fun n=>Rm.tk b (Rm.at_ b c s1 (st+e*n))) i;rw[Pm.bI,if_pos hi]
 ·rw[Pm.aM]at hi;obtain⟨j,rfl⟩:∃j,i=j+N:=⟨i-N,by omega⟩;rw[ta,List.length_map,hR,Pm.C8,hN,main j,IW,<-hN];refine Pm.jz fun k hk=>?_;rw[Pm.qp (Pm.tk0 b),Rm.cJ];show _=Rm.tk b (Pm.co R k*Rm.tk b (Rm.at_ b c s1 (st+e*(j+N-1-k))));rw[ta,Rm.bh]
structure Fb(b:Int)(f:Nat->Int)(n u c d:Nat):Prop where
 at_:∀k,Rm.Bd (c+d*k) (f k)
 tk:∀k,Rm.tk b (f k)=f k
 n12:n<=12
 u10:10<=u
 u59:u<=59000
 c10:10<=c
 kp:∃P,Pm.Mon P/\Pm.Kp b P f/\P.length<=n+1/\(b=0->∀k,Rm.Bd u (Pm.co P k))
structure Ri(b:Int)(r:Rw)(n u c d:Nat):Prop where
 hB:ByF b
 by_:r.b=b
 ok:nY r
 rA:r.rule.length<=12
 tame:Tame r
 fb:Fb b r.at n u c d
theorem Fb.least{b:Int}{f:Nat->Int}{n u c d:Nat}(h:Fb b f n u c d)(hb:ByF b){L:List Int}(lst:bU b f L)(k:Nat):Rm.Bd (u+13*(n+1)) (Pm.co L k):=by
 obtain⟨P,hm,hK,hl,hu⟩:=h.kp;exact A8 hb hm hK lst hl h.n12 h.u10 hu k
theorem Fb.len{b:Int}{f:Nat->Int}{n u c d:Nat}(h:Fb b f n u c d)(hb:ByF b){L:List Int}(lst:bU b f L):L.length<=n+1:=by
 obtain⟨P,hm,hK,hl,_⟩:=h.kp;exact Nat.le_trans (lst.le hb.one hm hK) hl
theorem Ri.byp{b:Int}{r:Rw}{n u c d:Nat}(h:Ri b r n u c d):ByP r.b:=by rw[h.by_];exact h.hB.p
theorem Ri.ex{b:Int}{r:Rw}{n u c d:Nat}(h:Ri b r n u c d):∃L,bU b r.at L/\L.length<=r.rule.length+1:=by
 have hk:=h.ok.kp;rw[h.by_]at hk;obtain⟨L,h1,h2⟩:=K4 h.hB.p (Pm.dw b r.rule) (qx b r.rule h.hB.one) hk;exact⟨L,h1,by rw[Pm.aX]at h2;exact h2⟩
theorem Ri.ll{b:Int}{r:Rw}{n u c d:Nat}(h:Ri b r n u c d){L:List Int}(lst:bU b r.at L):L.length<=r.rule.length+1:=by
 obtain⟨L',l1,l2⟩:=h.ex;rw[lst.uniq h.hB.one l1];exact l2
theorem Ri.sh{b:Int}{r:Rw}{n u c d:Nat}(h:Ri b r n u c d){L:List Int}(lst:bU b r.at L):nY (aQ r L)/\(∀x∈(aQ r L).rule,Rm.Bd (u+13*(n+1)) x)/\(aQ r L).at=r.at/\(aQ r L).rule.length=L.length-1/\(aQ r L).starts.length=L.length-1/\Pm.aP b (aQ r L).rule=L:=by
 have ll:=h.ll lst;have:=h.fb.n12;have:=h.fb.u10;have:=h.fb.u59;obtain⟨o1,o2⟩:=Cr (r:=r) (L:=L) (by rw[h.by_];exact h.hB) h.ok ll (U:=u+13*(n+1)) (by omega) (by omega) (h.fb.least h.hB lst);obtain⟨l1,l2⟩:=rD ll h.ok;have hl:=h.ok.len;refine⟨o1,o2,funext fun n=>zK h.ok.Hh (by rw[h.by_];exact lst) (by omega) n,l1,l2,?_⟩;show Pm.aP b (Pm.cL r.b L)=L;rw[h.by_];exact Pm.lX lst.nu lst.mon
theorem TR.rule{b:Int}(hb:ByF b){r:Rw}{a:Nat->Int}{L:List Int}(t:TR b r a L):r.rule=Pm.cL b L:=by
 have hk:=t.ok.kp;rw[t.by_]at hk;have ea:r.at=a:=funext t.same;rw[ea]at hk;have hp:=t.lst.mon.pos;have hl:=t.len;have hm:=Pm.dw b r.rule;have l1:=Pm.aX b r.rule;have e:Pm.aP b r.rule=L:=Pm.j9 (by omega) fun k=>by
  rw[<-t.lst.nu k,<-qx b r.rule hb.one k];exact(t.lst.all _ hk).same hb.one t.lst.mon hm (by omega) k
 rw[<-e];exact(Pm.qw fun x hx=>zX (by have:=t.ok.iU x hx;rw[t.by_]at this;exact this)).symm
theorem TR.ri{b:Int}(hb:ByF b){r:Rw}{f:Nat->Int}{L:List Int}(t:TR b r f L){n u c d:Nat}(h:Fb b f n u c d)(hs:n*(c+d*(2*n)+n)+(u+13*(n+1))+458<=112100):Ri b r n u c d:=by
 have ea:r.at=f:=funext t.same;have:=h.u10;refine⟨hb,t.by_,t.ok,t.rA,fun z=>?_,by rw[ea];exact h⟩;obtain⟨P,hm,hK,hl,hu⟩:=h.kp;have z':b=0:=by rw[<-t.by_];exact z
 rw[z']at hK;refine⟨n,c+d*(2*n),u+13*(n+1),by omega,fun x hx=>?_,⟨P,hm,by rw[ea];exact hK,hl⟩,fun k hk=>by rw[ea];exact(h.at_ k).mono (Nat.add_le_add_left (Nat.mul_le_mul_left _ hk) _),by omega⟩;rw[t.rule hb]at hx;obtain⟨k,_,rfl⟩:=Pm.eE (show x∈Pm.ofF _ _ from hx);refine fj hb (by omega) ?_;rw[Int.zero_sub];exact Pm.uZ (h.least hb t.lst _)
theorem Fb.more{b:Int}{f:Nat->Int}{n u c d n' u' c' d':Nat}(h:Fb b f n u c d)(h1:n<=n')(h2:u<=u')(h3:c<=c')(h4:d<=d')(h5:n'<=12)(h6:u'<=59000):Fb b f n' u' c' d':=by
 obtain⟨P,hm,hK,hl,hu⟩:=h.kp;exact⟨fun k=>(h.at_ k).mono (Nat.add_le_add h3 (Nat.mul_le_mul_right _ h4)),h.tk,h5,Nat.le_trans h.u10 h2,h6,Nat.le_trans h.c10 h3,P,hm,hK,by omega,fun z k=>(hu z k).mono h2⟩
structure Td(b:Int)(ns ms:List Int)(F:Nat->Int)(n z c d:Nat):Prop where
 hB:ByF b
 ln:ns.length<=n
 n12:n<=12
 lm:ms.length=ns.length
 bd:∀x∈ns,Rm.Bd z x
 z10:10<=z
 z59:z<=59000
 at_:∀k,Rm.Bd (c+d*k) (F k)
 c10:10<=c
 st:c+d*12<=10000
 sz:n*(c+d*(2*n)+n)+z+458<=112100
 eq:∀k,(⟨b,ns.map (Rm.tk b),ms.map (Rm.tk b)⟩:Rw).at k=F k
abbrev tdR(b:Int)(ns ms:List Int):Rw:=⟨b,ns.map (Rm.tk b),ms.map (Rm.tk b)⟩
theorem Td.ok{b:Int}{ns ms:List Int}{F:Nat->Int}{n z c d:Nat}(h:Td b ns ms F n z c d):nY (tdR b ns ms):=by
 have hb:=h.hB;have l1:=h.ln;have l2:=h.lm;have l3:=h.n12;have l4:=h.z59;refine⟨by show(ns.map _).length=(ms.map _).length;rw[List.length_map,List.length_map];omega,by show(ns.map _).length<=24;rw[List.length_map];omega,hb.lo,hb.hi,fun x hx=>?_,fun x hx=>?_,fun x hx=>?_,fun x hx=>?_⟩
 ·obtain⟨y,_,rfl⟩:=List.mem_map.mp hx;exact mO hb.lo _
 ·obtain⟨y,_,rfl⟩:=List.mem_map.mp hx;exact mO hb.lo _
 ·obtain⟨y,hy,rfl⟩:=List.mem_map.mp hx;exact fj hb (by decide) ((h.bd y hy).mono (by omega))
 ·obtain⟨k,hk,e⟩:=List.mem_iff_getElem.mp (show x∈ms.map (Rm.tk b)from hx);have e1:(tdR b ns ms).at k=(ms.map (Rm.tk b)).getD k 0:=Rm.qd hk;have e2:x=F k:=by rw[<-h.eq k];show x=(tdR b ns ms).at k;rw[e1,List.getD_eq_getElem?_getD,List.getElem?_eq_getElem hk,<-e];rfl
  rw[List.length_map]at hk;rw[e2];refine(h.at_ k).mono (Nat.le_trans (Nat.add_le_add_left (Nat.mul_le_mul_left d (show k<=12 by omega)) _) h.st)
theorem Td.fb{b:Int}{ns ms:List Int}{F:Nat->Int}{n z c d:Nat}(h:Td b ns ms F n z c d):Fb b F n z c d:=by
 have ok:=h.ok;have ea:(tdR b ns ms).at=F:=funext h.eq;have hk:=ok.kp;rw[ea]at hk;have l1:=h.ln;refine⟨h.at_,fun k=>by rw[<-ea];exact ok.Hh k,h.n12,h.z10,h.z59,h.c10,_,Pm.dw _ _,hk,?_,fun _=>Pm.ju (Pm.nA h.hB.lo h.hB.hi h.z10 fun x hx=>?_)⟩
 ·rw[Pm.aX];show(ns.map _).length+1<=n+1;rw[List.length_map];omega
 ·obtain⟨y,hy,rfl⟩:=List.mem_map.mp hx;exact fj h.hB h.z10 (h.bd y hy)
theorem Td.tame{b:Int}{ns ms:List Int}{F:Nat->Int}{n z c d:Nat}(h:Td b ns ms F n z c d):Tame (tdR b ns ms):=fun hz=>by
 have ea:(tdR b ns ms).at=F:=funext h.eq;obtain⟨P,hm,hK,hl,_⟩:=h.fb.kp;have hz':b=0:=hz;rw[hz']at hK;refine⟨n,c+d*(2*n),z,h.z10,fun x hx=>?_,⟨P,hm,by rw[ea];exact hK,hl⟩,fun k hk=>by rw[ea];exact(h.at_ k).mono (Nat.add_le_add_left (Nat.mul_le_mul_left _ hk) _),by have:=h.sz;omega⟩;obtain⟨y,hy,rfl⟩:=List.mem_map.mp hx;exact fj h.hB h.z10 (h.bd y hy)
theorem Td.tr{b:Int}{ns ms:List Int}{F:Nat->Int}{n z c d:Nat}(h:Td b ns ms F n z c d){L:List Int}(lst:bU b (tdR b ns ms).at L)(ll:L.length<=ns.length+1):TR b (aQ (tdR b ns ms) L) F L:=by
 have ea:(tdR b ns ms).at=F:=funext h.eq;have ok:=h.ok;have ll':L.length<=(tdR b ns ms).rule.length+1:=by show L.length<=(ns.map _).length+1;rw[List.length_map];exact ll
 have abr:bU b F L:=by rw[<-ea];exact lst
 have l1:=h.n12;have l2:=h.z59;have l3:=h.z10;have l4:=h.ln;obtain⟨o1,_⟩:=Cr (r:=tdR b ns ms) (L:=L) h.hB ok ll' (U:=z+13*(n+1)) (by omega) (by omega) (h.fb.least h.hB abr);obtain⟨m1,m2⟩:=rD ll' ok;refine⟨rfl,o1,fun k=>?_,abr,m1,by rw[m1];omega⟩;rw[zK ok.Hh lst (by have:=ok.len;omega),ea]
inductive Px(vs:List V)(H:Hp)(Q:VK)(E:XK):Prop|mk (v1 v2:V) (r1 r2:Rw) (z_0:vs=[v1,v2]) (z_1:cI H v1 r1) (z_2:cI H v2 r2) (z_3:r1.b=r2.b) (z_4:Q (.int r1.b) H)
def Qs:Sp:=fun vs H Q E=>Px  vs H Q E
abbrev oG(P w K mg base):=Cal P w K mg base "shared_by" 1 ["one","other"] Qs
theorem xW{J:It}{xs:List Int}{ix:List (Option Nat)}{te:TE}{σ:St}{H1:Hp}{Q:VK}(I:ItS J (xs.map V.int) H1)(hz:xs.length<=1000){rest:St}(hst:cst ix σ=none::rest)(f:Int->Int)
  (he:∀H' x,Same H1 H'->x∈xs->∀kk:VK,kk (.int (f x)) H'->te (some (.int x)::rest) H' kk)
  (hQ:∀D,H1 D=none->Q (.ref D) (upd H1 D (.lst ((xs.map f).map V.int)))):tD ix (pO 0) Gf te σ Q J H1:=by
 refine nj I (by rw[List.length_map];exact Nat.le_of_lt (bK hz)) hst (fun _=>true) (fun x=>match x with | .int k=> .int (f k)|_=> .non) ?_ ?_ ?_
 ·intro H2 x g2 hx k hk;exact hk
 ·intro H2 x g2 hx _ k hk;obtain⟨y,hy,rfl⟩:=List.mem_map.mp hx;exact he H2 y g2 hy k hk
 ·intro D hD;have el:(((xs.map V.int).filter fun _=>true).map fun x=>match x with | .int k=>V.int (f k)|_=>V.non)=(xs.map f).map V.int:=by
   rw[List.filter_eq_self.mpr (by simp),List.map_map,List.map_map];rfl
  rw[el];exact hQ D hD
def Ints(H:Hp)(a:Addr)(xs:List Int):Prop:=H a=some (.lst (xs.map V.int))∨H a=some (.tup (xs.map V.int))
theorem Ints.same{H H':Hp}{a:Addr}{xs:List Int}(h:Ints H a xs)(g:Same H H'):Ints H' a xs:=h.imp (g _ _) (g _ _)
theorem zQ{K:W.Frag}{a:Addr}{xs:List Int}{ix:List (Option Nat)}{te:TE}{σ:St}{H1:Hp}{Q:VK}(hA:Ints H1 a xs)(hz:xs.length<=1000){rest:St}(hst:cst ix σ=none::rest)(f:Int->Int)
  (he:∀H' x,Same H1 H'->x∈xs->∀kk:VK,kk (.int (f x)) H'->te (some (.int x)::rest) H' kk)
  (hQ:∀D,H1 D=none->Q (.ref D) (upd H1 D (.lst ((xs.map f).map V.int)))):∃a',V.ref a = .ref a'/\(((∃ys,SqL K H1 a' ys)/\tD ix (pO 0) Gf te σ Q (Itl K a') H1)∨((∃ys,SqT K H1 a' ys)/\tD ix (pO 0) Gf te σ Q (Itt K a') H1)):=by
 rcases hA with h|h
 ·exact⟨a,rfl,.inl ⟨⟨_,SqL.of h⟩,xW (Dk (SqL.of h)) hz hst f he hQ⟩⟩
 ·exact⟨a,rfl,.inr ⟨⟨_,SqT.of h⟩,xW (A9 (SqT.of h)) hz hst f he hQ⟩⟩
inductive M8(C:Addr)(vs:List V)(H:Hp)(Q:VK)(E:XK):Prop|mk (n:Int) (z_0:vs=[.int n]) (z_1:(n<=12->Q .non H)) (z_2:(12<n->E (.ref C) none H))
def RT(C:Addr):Sp:=fun vs H Q E=>M8 C vs H Q E
abbrev gj(P w K mg base aG):=Cal P w K mg base "refuse_long" 1 ["length"] (RT aG)
inductive N5(vs:List V)(H:Hp)(Q:VK)(E:XK):Prop|mk (b:Int) (a e:Addr) (ns ms:List Int) (F:Nat->Int) (n z c d:Nat) (z_0:vs=[.int b,.ref a,.ref e]) (z_1:Ints H a ns) (z_2:Ints H e ms) (z_3:Td b ns ms F n z c d) (z_4:∀v' r' L H',Same H H'->cI H' v' r'->TR b r' F L->Fb b F n z c d->L.length<=ns.length+1->Q v' H')
def Ss:Sp:=fun vs H Q E=>N5  vs H Q E
abbrev jg(P w K mg base):=Cal P w K mg base "told_row" 10 ["by","rule","starts"] Ss
theorem vW{m n:Nat}{a:Nat->Int}(h:n<m):atI ((Pm.ofF m a).map V.int) (n:Int)=some (.int (a n)):=by
 rw[bB (by omega) (by rw[Pm.aM];omega),Int.toNat_natCast];show some (V.int (Pm.co (Pm.ofF m a) n))=_;rw[Pm.bI,if_pos h]
inductive Xr(f:PF)(vs:List V)(H:Hp)(Q:VK)(E:XK):Prop|mk (l1 l2:Addr) (m:Nat) (a c:Nat->Int) (n:Nat) (z_0:vs=[.ref l1,.ref l2,.int (n:Int)]) (z_1:H l1=some (.lst ((Pm.ofF m a).map V.int))) (z_2:H l2=some (.lst ((Pm.ofF m c).map V.int))) (z_3:n<m) (z_4:m<=12) (z_5:(∀i,i<=12->Rm.Bd 20000 (a i))) (z_6:(∀i,i<=12->Rm.Bd 20000 (c i))) (z_7:∀H',Same H H'->Q (.int (f a c n)) H')
def Xu(f:PF):Sp:=fun vs H Q E=>Xr f vs H Q E
def sV:PF:=fun a c n=>a n+c n
abbrev oh(P w K mg base):=Cal P w K mg base "sum_place" 1 ["ours","theirs","n"] (Xu sV)
abbrev jm(P w K mg base):=Cal P w K mg base "product_place" 1 ["ours","theirs","n"] (Xu sO)
abbrev jU(P w K mg base):=Cal P w K mg base "rolled_place" 1 ["ours","theirs","n"] (Xu fH)
def aaZ(mg:Str->Option Value)(g:Addr)(f:PF):Prop:=(mg "sum_place" = some (.ref g)/\f=sV)∨(mg "rolled_place" = some (.ref g)/\f=fH)∨(mg "product_place" = some (.ref g)/\f=sO)
inductive J4(mg:Str->Option Value)(vs:List V)(H:Hp)(Q:VK)(E:XK):Prop|mk (f:PF) (v1 v2:V) (t g:Addr) (b:Int) (r1 r2:Rw) (ns:List Int) (n z c d:Nat) (z_0:vs=[v1,v2,.ref t,.ref g]) (z_1:aaZ mg g f) (z_2:cI H v1 r1) (z_3:cI H v2 r2) (z_4:nY r1) (z_5:nY r2) (z_6:r1.b=b) (z_7:(∀i,i<=12->Rm.Bd 20000 (r1.at i))) (z_8:(∀i,i<=12->Rm.Bd 20000 (r2.at i))) (z_9:Ints H t ns) (Uu:Td b ns (Pm.ofF ns.length (f r1.at r2.at)) (fun k=>Rm.tk b (f r1.at r2.at k)) n z c d) (UQ:∀v' r' L H',Same H H'->cI H' v' r'->TR b r' (fun k=>Rm.tk b (f r1.at r2.at k)) L->Fb b (fun k=>Rm.tk b (f r1.at r2.at k)) n z c d->L.length<=ns.length+1->Q v' H')
def PZ(mg:Str->Option Value):Sp:=fun vs H Q E=>J4 mg vs H Q E
abbrev qT(P w K mg base):=Cal P w K mg base "pair_row" 11 ["one","other","rule","pair_place"] (PZ mg)
def XH(C:Addr)(f:PF)(v1 v2:V)(H:Hp)(Q:VK)(E:XK):Prop:=∃(b:Int) (r1 r2:Rw) (n1 u1 c1 d1 n2 u2 c2 d2:Nat) (L1 L2:List Int),cI H v1 r1/\cI H v2 r2/\Ri b r1 n1 u1 c1 d1/\Ri b r2 n2 u2 c2 d2/\bU b r1.at L1/\bU b r2.at L2/\c1+d1*12<=20000/\c2+d2*12<=20000/\u1+u2<=50000/\
 (L1.length-1+(L2.length-1)<=12->∃n c d,L1.length-1+(L2.length-1)<=n/\n<=12/\Pm.Kp b (Pm.mul b L1 L2) (fun k=>Rm.tk b (f r1.at r2.at k))/\(∀k,Rm.Bd (c+d*k) (Rm.tk b (f r1.at r2.at k)))/\10<=c/\c+d*12<=10000/\n*(c+d*(2*n)+n)+(u1+u2+13*(n1+n2+3))+458<=112100/\
  ∀v' r' L' H',Same H H'->cI H' v' r'->TR b r' (fun k=>Rm.tk b (f r1.at r2.at k)) L'->Fb b (fun k=>Rm.tk b (f r1.at r2.at k)) n (u1+u2+13*(n1+n2+3)) c d->r'.rule.length<=L1.length-1+(L2.length-1)->Q v' H')/\
 (12<L1.length-1+(L2.length-1)->∀H',Same H H'->E (.ref C) none H')
inductive JM(C:Addr)(mg:Str->Option Value)(vs:List V)(H:Hp)(Q:VK)(E:XK):Prop|mk (f:PF) (v1 v2:V) (g:Addr) (z_0:vs=[v1,v2,.ref g]) (z_1:aaZ mg g f) (z_2:XH C f v1 v2 H Q E)
def M4(C:Addr)(mg:Str->Option Value):Sp:=fun vs H Q E=>JM C mg vs H Q E
theorem GC{L:List Int}{u v:Nat}(h:∀k,Rm.Bd u (Pm.co L k))(hv:u<=v):∀x∈L,Rm.Bd v x:=fun x hx=>by
 obtain⟨k,hk,e⟩:=List.mem_iff_getElem.mp hx;have:=h k;rw[Pm.ql hk,e]at this;exact this.mono hv
theorem Fb.few{b:Int}{f:Nat->Int}{n u c d:Nat}(h:Fb b f n u c d){z:Nat}(hz:c+d*12<=z)(i:Nat)(hi:i<=12):Rm.Bd z (f i):=(h.at_ i).mono (Nat.le_trans (Nat.add_le_add_left (Nat.mul_le_mul_left _ hi) _) hz)
abbrev oE(P w K mg base aG):=Cal P w K mg base "joint_row" 12 ["one","other","pair_place"] (M4 aG mg)
inductive Ot(C:Addr)(f:PF)(vs:List V)(H:Hp)(Q:VK)(E:XK):Prop|mk (v1 v2:V) (z_0:vs=[v1,v2]) (z_1:XH C f v1 v2 H Q E)
def LN(C:Addr)(f:PF):Sp:=fun vs H Q E=>Ot C f vs H Q E
abbrev xu(P w K mg base aG):=Cal P w K mg base "added" 13 ["one","other"] (LN aG sV)
abbrev wD(P w K mg base aG):=Cal P w K mg base "rolled" 13 ["one","other"] (LN aG fH)
theorem nD{b:Int}{L1 L2:List Int}{a c:Nat->Int}(h1:Pm.Kp b L1 a)(h2:Pm.Kp b L2 c):Pm.Kp b (Pm.mul b L1 L2) fun n=>Rm.tk b (sV a c n):=RD (Ub (h1.aa5 L2) (h2.Sw L1))
theorem NZ{rule sums:List Int}{x:Int}{k:Nat}(h:k-1<=sums.length):bhd rule (sums++[x]) k=bhd rule sums k:=by
 unfold bhd;exact Pm.aA fun i hi=>by rw[Pm.bY,if_pos (by omega)]
theorem JV{rule sums:List Int}{x:Int}{k:Nat}(h:k-1<=rule.length):bhd (rule++[x]) sums k=bhd rule sums k:=by
 unfold bhd;rw[List.length_append,Nat.min_eq_left (by omega),Nat.min_eq_left h];exact Pm.aA fun i hi=>by rw[Pm.bY,if_pos (by omega)]
inductive QH(vs:List V)(H:Hp)(Q:VK)(E:XK):Prop|mk (a c:Addr) (rule sums:List Int) (k:Nat) (z_0:vs=[.ref a,.ref c,.int (k:Int)]) (z_1:Ints H a rule) (z_2:Ints H c sums) (z_3:1<=k) (z_4:k<=130) (z_5:k-1<=sums.length) (z_6:(∀x∈rule,Rm.Bd 60000 x)) (z_7:(∀x∈sums,Rm.Bd 60000 x)) (z_8:∀H',Same H H'->Q (.int (bhd rule sums k)) H')
def XS:Sp:=fun vs H Q E=>QH  vs H Q E
abbrev jR(P w K mg base):=Cal P w K mg base "behind_first" 1 ["rule","sums","k"] XS
theorem Le.list{xs:List Int}{w z:Nat}(hz:(xs.length)*w+1<=z)(h:∀i,i<xs.length->Le (Pm.co xs i) ((2^w)^(i+1))):∀x∈xs,Rm.Bd z x:=fun x hx=>by
 obtain⟨k,hk,e⟩:=List.mem_iff_getElem.mp hx;have:=h k hk;rw[Pm.ql hk,e,<-Nat.pow_mul]at this;refine this.bd.mono ?_;have:w*(k+1)<=xs.length*w:=by rw[Nat.mul_comm];exact Nat.mul_le_mul_right _ hk
 omega
theorem Le.grow{xs:List Int}{x:Int}{n Z:Nat}(hl:xs.length=n)(h:∀i,i<n->Le (Pm.co xs i) (Z^(i+1)))(hx:Le x (Z^(n+1))):∀i,i<n+1->Le (Pm.co (xs++[x]) i) (Z^(i+1)):=fun i hi=>by
 rw[Pm.bY];by_cases d:i<n
 ·rw[if_pos (by omega)];exact h i d
 ·have e:i=n:=by omega
  subst e;rw[if_neg (by omega),hl,Nat.sub_self];exact hx
inductive Qx(vs:List V)(H:Hp)(Q:VK)(E:XK):Prop|mk (a:Addr) (rule:List Int) (n w:Nat) (z_0:vs=[.ref a,.int (n:Int)]) (z_1:H a=some (.tup (rule.map V.int))) (z_2:n<=120) (z_3:n*(w+3)+1<=60000) (z_4:w<=59500) (z_5:(∀i,Le (Pm.co rule i) (2^w))) (z_6:∀l sums H',Same H H'->H' l=some (.lst (sums.map V.int))->sums.length=n->(∀i,i<n->Le (Pm.co sums i) ((2^(w+3))^(i+1)))->(∀k,k<n->Pm.co sums k=(if k+1<=rule.length then((k+1:Nat):Int)*Pm.co rule k else 0)+bhd rule sums (k+1))->Q (.ref l) H')
def ZD:Sp:=fun vs H Q E=>Qx  vs H Q E
abbrev m7(P w K mg base):=Cal P w K mg base "power_sums" 2 ["rule","count"] ZD
inductive SM(vs:List V)(H:Hp)(Q:VK)(E:XK):Prop|mk (c:Addr) (sums:List Int) (n z:Nat) (z_0:vs=[.ref c]) (z_1:H c=some (.lst (sums.map V.int))) (z_2:sums.length=n) (z_3:n<=12) (z_4:n*z+1<=60000) (z_5:(∀i,i<n->Le (Pm.co sums i) ((2^z)^(i+1)))) (z_6:∀l rule H',Same H H'->H' l=some (.lst (rule.map V.int))->rule.length=n->(∀i,i<n->Le (Pm.co rule i) ((2^z)^(i+1)))->(∀k,k<n->Pm.co rule k=(Pm.co sums k-bhd rule sums (k+1))/((k+1:Nat):Int))->Q (.ref l) H')
def aae:Sp:=fun vs H Q E=>SM  vs H Q E
abbrev jL(P w K mg base):=Cal P w K mg base "rule_of_sums" 2 ["sums"] aae
def abh(C:Addr)(v1 v2:V)(H:Hp)(Q:VK)(E:XK):Prop:=∃(b:Int) (r1 r2:Rw) (n1 u1 c1 d1 n2 u2 c2 d2:Nat) (L1 L2:List Int),cI H v1 r1/\cI H v2 r2/\Ri b r1 n1 u1 c1 d1/\Ri b r2 n2 u2 c2 d2/\bU b r1.at L1/\bU b r2.at L2/\c1+d1*12<=20000/\c2+d2*12<=20000/\
 ((L1.length-1)*(L2.length-1)<=12->∃n c d,(L1.length-1)*(L2.length-1)<=n/\n<=12/\(∀k,Rm.Bd (c+d*k) (Rm.tk b (sO r1.at r2.at k)))/\10<=c/\c+d*12<=10000/\(u1+u2+13*(n1+n2+2)+6)*n+10<=59000/\n*(c+d*(2*n)+n)+((u1+u2+13*(n1+n2+2)+6)*n+10)+458<=112100/\
  ∀v' r' L' H',Same H H'->cI H' v' r'->TR b r' (fun k=>Rm.tk b (sO r1.at r2.at k)) L'->Fb b (fun k=>Rm.tk b (sO r1.at r2.at k)) n ((u1+u2+13*(n1+n2+2)+6)*n+10) c d->r'.rule.length<=(L1.length-1)*(L2.length-1)->Q v' H')/\
 (12<(L1.length-1)*(L2.length-1)->∀H',Same H H'->E (.ref C) none H')
inductive TQ(C:Addr)(vs:List V)(H:Hp)(Q:VK)(E:XK):Prop|mk (v1 v2:V) (z_0:vs=[v1,v2]) (z_1:abh C v1 v2 H Q E)
def Yd(C:Addr):Sp:=fun vs H Q E=>TQ C vs H Q E
abbrev nq(P w K mg base aG):=Cal P w K mg base "multiplied" 13 ["one","other"] (Yd aG)
inductive OX(vs:List V)(H:Hp)(Q:VK)(E:XK):Prop|mk (st e:Nat) (z_0:vs=[.int (st:Int),.int (e:Int)]) (z_1:st<=100) (z_2:1<=e) (z_3:e<=10) (z_4:Q .non H)
def Ra:Sp:=fun vs H Q E=>OX  vs H Q E
abbrev jC(P w K mg base):=Cal P w K mg base "refuse_far_steps" 1 ["start","step"] Ra
def EvG(v:V)(st e:Nat)(H:Hp)(Q:VK):Prop:=∃(b:Int) (r:Rw) (n u c d:Nat) (L:List Int),cI H v r/\Ri b r n u c d/\bU b r.at L/\st<=100/\1<=e/\e<=10/\(u+13*(n+1)+3)*(e*n)+10<=59000/\c+d*st+d*e*12<=10000/\n*(c+d*st+d*e*(2*n)+n)+((u+13*(n+1)+3)*(e*n)+10)+458<=112100/\
 ∀v' r' L' H',Same H H'->cI H' v' r'->TR b r' (fun k=>r.at (st+e*k)) L'->Fb b (fun k=>r.at (st+e*k)) n ((u+13*(n+1)+3)*(e*n)+10) (c+d*st) (d*e)->r'.rule.length<=L.length-1->Q v' H'
inductive La(vs:List V)(H:Hp)(Q:VK)(E:XK):Prop|mk (v:V) (st e:Nat) (z_0:vs=[v,.int (st:Int),.int (e:Int)]) (z_1:EvG v st e H Q)
def Ng:Sp:=fun vs H Q E=>La  vs H Q E
abbrev Jf(P w K mg base):=Cal P w K mg base "every" 11 ["row","start","step"] Ng
inductive Jd(vs:List V)(H:Hp)(Q:VK)(E:XK):Prop|mk (v:V) (b:Int) (r:Rw) (x:Int) (n u c d z:Nat) (z_0:vs=[v,.int x]) (z_1:cI H v r) (z_2:Ri b r n u c d) (z_3:Rm.Bd 10 x) (z_4:(∀y∈r.rule,Rm.Bd z y)) (z_5:10<=z) (z_6:z<=2000) (z_7:c+10+d*12<=2000) (z_8:12*(c+10+d*24+12)<=100000) (z_9:∀v' r' L H',Same H H'->cI H' v' r'->TR b r' (fun k=>Rm.tk b (x*r.at k)) L->Fb b (fun k=>Rm.tk b (x*r.at k)) n u (c+10) d->Q v' H')
def Ko:Sp:=fun vs H Q E=>Jd  vs H Q E
abbrev Du(P w K mg base):=Cal P w K mg base "scaled" 11 ["row","number"] Ko
theorem Jo{n m:Nat}(a:Nat->Int)(h:n<=m):(Pm.ofF m a).take n=Pm.ofF n a:=by
 rw[Pm.ofF,Pm.ofF,<-List.map_take,List.take_range,Nat.min_eq_left h]
inductive GQ(C:Addr)(vs:List V)(H:Hp)(Q:VK)(E:XK):Prop|mk (v:V) (b:Int) (r:Rw) (n u c d:Nat) (L:List Int) (z_0:vs=[v]) (z_1:cI H v r) (z_2:Ri b r n u c d) (z_3:bU b r.at L) (z_4:n+1<=12) (z_5:u+13*(n+1)+23<=59000) (z_6:c+1+(d+1)*12<=10000) (z_7:(n+1)*(c+1+(d+1)*(2*(n+1))+(n+1))+(u+13*(n+1)+23)+458<=112100) (z_8:∀v' r' L' H',Same H H'->cI H' v' r'->TR b r' (smA b r.at) L'->Fb b (smA b r.at) (n+1) (u+13*(n+1)+23) (c+1) (d+1)->Q v' H')
def KN(C:Addr):Sp:=fun vs H Q E=>GQ C vs H Q E
abbrev CM(P w K mg base aG):=Cal P w K mg base "summed" 11 ["row"] (KN aG)
inductive JT(C:Addr)(vs:List V)(H:Hp)(Q:VK)(E:XK):Prop|mk (v:V) (b:Int) (r:Rw) (n u c d:Nat) (L:List Int) (ln:Addr) (ns:List Int) (z_0:vs=[v,.ref ln]) (z_1:cI H v r) (z_2:Ri b r n u c d) (z_3:bU b r.at L) (z_4:H ln=some (.lst (ns.map V.int))) (z_5:n+ns.length<=12) (z_6:(∀x∈ns,fJ b x)) (z_7:(∀x∈ns,Rm.Bd c x)) (z_8:u+13*(n+1)<=59000) (z_9:c+d*12<=10000) (Uu:(n+ns.length)*(c+d*(2*(n+ns.length))+(n+ns.length))+(u+13*(n+1))+458<=112100) (UQ:∀v' r' L' H',Same H H'->cI H' v' r'->TR b r' (ahd ns r.at) L'->Fb b (ahd ns r.at) (n+ns.length) (u+13*(n+1)) c d->r'.rule.length<=L.length-1+ns.length->Q v' H')
def Ik(C:Addr):Sp:=fun vs H Q E=>JT C vs H Q E
abbrev u6(P w K mg base aG):=Cal P w K mg base "put_ahead" 11 ["row","numbers"] (Ik aG)
theorem TR.none{b:Int}(hb:ByF b){r:Rw}{f:Nat->Int}{L:List Int}(t:TR b r f L):(r.rule=[]/\r.starts=[])↔∀k,f k=0:=by
 have hl:=t.ok.len;constructor
 ·rintro⟨h1,h2⟩ k;rw[<-t.same k];have:r.at k=Rm.tk r.b (Rm.S r.rule r.at k r.rule.length):=Rm.tM hl (by rw[h2];exact Nat.zero_le _);rw[this,h1];exact Pm.tk0 _
 ·intro h;have:L.length<=([1]:List Int).length:=t.lst.le hb.one ⟨by decide,rfl⟩ fun n=>by
   have e:Pm.ks [1] f n=0:=Pm.iJ fun k _=>by rw[h,Int.mul_zero]
   rw[e];exact Pm.tk0 b
  have l1:=t.len;have e1:r.rule=[]:=List.length_eq_zero_iff.mp (by have:([1]:List Int).length=1:=rfl;omega);exact⟨e1,List.length_eq_zero_iff.mp (by rw[<-hl,e1];rfl)⟩
def Good(b:Int)(f:Nat->Int)(n u c d:Nat)(v:V)(H:Hp):Prop:=∃r,cI H v r/\Ri b r n u c d/\r.at=f
def zu(b:Int)(f:Nat->Int)(v:V)(H:Hp):Prop:=∃r L,cI H v r/\TR b r f L
def Res(b:Int)(f:Nat->Int)(v:V)(H:Hp):Prop:=v = .non∨zu b f v H
theorem Good.same{b:Int}{f:Nat->Int}{n u c d:Nat}{v:V}{H H':Hp}(h:Good b f n u c d v H)(g:Same H H'):Good b f n u c d v H':=by
 obtain⟨r,h1,h2,h3⟩:=h;exact⟨r,h1.same g,h2,h3⟩
theorem Res.congr{b:Int}{f f':Nat->Int}{v:V}{H:Hp}(h:Res b f v H)(e:∀k,f k=f' k):Res b f' v H:=h.imp id fun⟨r,L,h1,h2⟩=>⟨r,L,h1,h2.congr e⟩
theorem nF{b:Int}(hb:ByF b){f:Nat->Int}{n u c d:Nat}{v:V}{H:Hp}{r:Rw}{L:List Int}(hR:cI H v r)(t:TR b r f L)(h:Fb b f n u c d)(hs:n*(c+d*(2*n)+n)+(u+13*(n+1))+458<=112100):Good b f n u c d v H/\zu b f v H:=
 ⟨⟨r,hR,t.ri hb h hs,funext t.same⟩,r,L,hR,t⟩
theorem Good.fb{b:Int}{f:Nat->Int}{n u c d:Nat}{v:V}{H:Hp}(h:Good b f n u c d v H):Fb b f n u c d:=by
 obtain⟨r,_,h2,rfl⟩:=h;exact h2.fb
def Uj(n1 u1 c1 d1 n2 u2 c2 d2 n c d:Nat):Bool:=decide (c1+d1*12<=20000)&&decide (c2+d2*12<=20000)&&decide (u1+u2<=50000)&&(decide (n1+n2<=n)||decide (n=12))&&decide (n<=12)&&decide (10<=c)&&decide (c+d*12<=10000)&&decide (n*(c+d*(2*n)+n)+(u1+u2+13*(n1+n2+3)+13*(n+1))+458<=112100)
theorem xQ{C:Addr}{f:PF}{b:Int}{f1 f2:Nat->Int}{n1 u1 c1 d1 n2 u2 c2 d2:Nat}{v1 v2:V}{H:Hp}{Q:VK}{E:XK}(h1:Good b f1 n1 u1 c1 d1 v1 H)(h2:Good b f2 n2 u2 c2 d2 v2 H)(n c d:Nat)
  (hk:∀L1 L2,Pm.Kp b L1 f1->Pm.Kp b L2 f2->Pm.Kp b (Pm.mul b L1 L2) fun k=>Rm.tk b (f f1 f2 k)) (hat:∀k,Rm.Bd (c+d*k) (Rm.tk b (f f1 f2 k))) (ok:Uj n1 u1 c1 d1 n2 u2 c2 d2 n c d=true)
  (q:∀v' H',Same H H'->Good b (fun k=>Rm.tk b (f f1 f2 k)) n (u1+u2+13*(n1+n2+3)) c d v' H'->zu b (fun k=>Rm.tk b (f f1 f2 k)) v' H'->Q v' H') (qe:12<n1+n2->∀H',Same H H'->E (.ref C) none H'):XH C f v1 v2 H Q E:=by
 obtain⟨r1,hR1,M1,rfl⟩:=h1;obtain⟨r2,hR2,M2,rfl⟩:=h2;simp only[Uj,Bool.and_eq_true,Bool.or_eq_true,decide_eq_true_eq]at ok;obtain⟨⟨⟨⟨⟨⟨⟨k1,k2⟩,k3⟩,k4⟩,k5⟩,k6⟩,k7⟩,k8⟩:=ok;obtain⟨L1,wk,_⟩:=M1.ex;obtain⟨L2,tZ,_⟩:=M2.ex;have l1:=M1.fb.len M1.hB wk;have l2:=M2.fb.len M1.hB tZ;refine⟨b,r1,r2,n1,u1,c1,d1,n2,u2,c2,d2,L1,L2,hR1,hR2,M1,M2,wk,tZ,k1,k2,k3,fun hle=>⟨n,c,d,by omega,k5,hk L1 L2 wk.kp tZ.kp,hat,k6,k7,by omega,fun v' r' L' H' g' hR' hT' hF' _=>?_⟩,fun hgt=>qe (by omega)⟩;obtain⟨a1,a2⟩:=nF M1.hB hR' hT' hF' (by omega);exact q v' H' g' a1 a2
def Uc(n1 u1 c1 d1 n2 u2 c2 d2 n c d:Nat):Bool:=decide (c1+d1*12<=20000)&&decide (c2+d2*12<=20000)&&decide (n1*n2<=n)&&decide (n<=12)&&decide (10<=c)&&decide (c+d*12<=10000)&&decide ((u1+u2+13*(n1+n2+2)+6)*n+10<=58000)&&decide (n*(c+d*(2*n)+n)+((u1+u2+13*(n1+n2+2)+6)*n+10+13*(n+1))+458<=112100)
theorem RK{C:Addr}{b:Int}{f1 f2:Nat->Int}{n1 u1 c1 d1 n2 u2 c2 d2:Nat}{v1 v2:V}{H:Hp}{Q:VK}{E:XK}(h1:Good b f1 n1 u1 c1 d1 v1 H)(h2:Good b f2 n2 u2 c2 d2 v2 H)(n c d:Nat)(hat:∀k,Rm.Bd (c+d*k) (Rm.tk b (sO f1 f2 k)))(ok:Uc n1 u1 c1 d1 n2 u2 c2 d2 n c d=true)
  (q:∀v' H',Same H H'->Good b (fun k=>Rm.tk b (sO f1 f2 k)) n ((u1+u2+13*(n1+n2+2)+6)*n+10) c d v' H'->zu b (fun k=>Rm.tk b (sO f1 f2 k)) v' H'->Q v' H'):abh C v1 v2 H Q E:=by
 obtain⟨r1,hR1,M1,rfl⟩:=h1;obtain⟨r2,hR2,M2,rfl⟩:=h2;simp only[Uc,Bool.and_eq_true,decide_eq_true_eq]at ok;obtain⟨⟨⟨⟨⟨⟨⟨k1,k2⟩,k3⟩,k4⟩,k5⟩,k6⟩,k7⟩,k8⟩:=ok;obtain⟨L1,wk,_⟩:=M1.ex;obtain⟨L2,tZ,_⟩:=M2.ex;have l1:=M1.fb.len M1.hB wk;have l2:=M2.fb.len M1.hB tZ;have l12:(L1.length-1)*(L2.length-1)<=n1*n2:=Nat.mul_le_mul (by omega) (by omega);refine⟨b,r1,r2,n1,u1,c1,d1,n2,u2,c2,d2,L1,L2,hR1,hR2,M1,M2,wk,tZ,k1,k2,fun hle=>⟨n,c,d,by omega,k4,hat,k5,k6,by omega,by omega,fun v' r' L' H' g' hR' hT' hF' _=>?_⟩,fun hgt=>absurd hgt (by omega)⟩;obtain⟨a1,a2⟩:=nF M1.hB hR' hT' hF' (by omega);exact q v' H' g' a1 a2
theorem evW{b:Int}{f:Nat->Int}{n u c d:Nat}{v:V}{H:Hp}{Q:VK}(h:Good b f n u c d v H){st e:Nat}(hst:st<=100)(e1:1<=e)(e10:e<=10)(s1:(u+13*(n+1)+3)*(10*n)+10<=58000)(s2:c+d*100+d*10*12<=10000)(s3:n*(c+d*100+d*10*(2*n)+n)+((u+13*(n+1)+3)*(10*n)+10+13*(n+1))+458<=112100)
  (q:∀v' H',Same H H'->Good b (fun k=>f (st+e*k)) n ((u+13*(n+1)+3)*(10*n)+10) (c+d*100) (d*10) v' H'->zu b (fun k=>f (st+e*k)) v' H'->Q v' H'):EvG v st e H Q:=by
 obtain⟨r,hR,M,rfl⟩:=h;obtain⟨L,lst,_⟩:=M.ex;have i1:(u+13*(n+1)+3)*(e*n)<=(u+13*(n+1)+3)*(10*n):=Nat.mul_le_mul_left _ (Nat.mul_le_mul_right _ e10);have i2:d*st<=d*100:=Nat.mul_le_mul_left _ hst;have i3:d*e<=d*10:=Nat.mul_le_mul_left _ e10;have i4:d*e*12<=d*10*12:=Nat.mul_le_mul_right _ i3;have i5:n*(c+d*st+d*e*(2*n)+n)<=n*(c+d*100+d*10*(2*n)+n):=Nat.mul_le_mul_left _ (by have:=Nat.mul_le_mul_right (2*n) i3;omega);refine⟨b,r,n,u,c,d,L,hR,M,lst,hst,e1,e10,by omega,by omega,by omega,fun v' r' L' H' g' hR' hT' hF' _=>?_⟩;obtain⟨a1,a2⟩:=nF M.hB hR' hT' (hF'.more (n':=n) (u':=(u+13*(n+1)+3)*(10*n)+10) (c':=c+d*100) (d':=d*10) (Nat.le_refl _) (by omega) (by omega) i3 M.fb.n12 (by omega)) (by omega);exact q v' H' g' a1 a2
theorem Ih{b:Int}{a e:Nat->Int}{n1 u1 c1 d1 n2 u2 c2 d2 c d:Nat}(hb:ByF b)(h1:Fb b a n1 u1 c1 d1)(h2:Fb b e n2 u2 c2 d2)(k1:c1<=c)(k2:c2<=c)(k3:d1<=d)(k4:d2<=d)(k:Nat):Rm.Bd (c+1+d*k) (Rm.tk b (sV a e k)):=by
 have:=h1.c10;exact fj hb (by omega) ((Rm.Bd.add ((h1.at_ k).mono (Nat.add_le_add k1 (Nat.mul_le_mul_right _ k3))) ((h2.at_ k).mono (Nat.add_le_add k2 (Nat.mul_le_mul_right _ k4)))).mono (by omega))
theorem Ua{b:Int}(hb:ByF b){a e:Nat->Int}{n1 u1 n2 u2 c d c' d':Nat}(h1:Fb b a n1 u1 c d)(h2:Fb b e n2 u2 c' d')(k:Nat):Rm.Bd (c+c'+(d+d')*k) (Rm.tk b (sO a e k)):=by
 have:=h1.c10;refine fj hb (by omega) (((h1.at_ k).mul (h2.at_ k)).mono ?_);rw[Nat.add_mul];omega
theorem zO{b:Int}(hb:ByF b){a e:Nat->Int}{n1 u1 n2 u2 c1 d1 c2 d2 d:Nat}(h1:Fb b a n1 u1 c1 d1)(h2:Fb b e n2 u2 c2 d2)(k1:d1<=d)(k2:d2<=d)(k:Nat):Rm.Bd (c1+c2+1+(d+1)*k) (Rm.tk b (fH a e k)):=by
 have:=h1.c10;refine fj hb (by omega) ((Pm.Cm (c:=c1+c2+d*k) (k+1) fun i hi=>?_).mono (by rw[Nat.succ_mul];omega));refine(((h1.at_ i).mono (Nat.add_le_add_left (Nat.mul_le_mul_right i k1) _)).mul ((h2.at_ (k-i)).mono (Nat.add_le_add_left (Nat.mul_le_mul_right (k-i) k2) _))).mono ?_;have:d*k=d*i+d*(k-i):=by rw[<-Nat.mul_add];congr 1;omega
 omega
theorem RwS.ri{b:Int}(hb:ByF b){m:Nat}{r0 r:Rw}{s:Nat}(h0:Bs b m r0)(h:RwS b r0 s r)(hs:s<=3):Ri b r m 13 31 17:=by
 have M:=h.mr hb h0 hs;have es:r.at=r0.at:=funext h.same;have M00:=RwS.mr hb h0 (s:=0) (r:=r0) ⟨h0.by_,h0.len,by have:=h0.short;have:=h0.m12;omega,h0.iU,fun x hx=>(h0.eV x hx).mono (by decide),fun _=>rfl⟩ (by decide);have hK:=M00.ok.kp;rw[h0.by_,<-es]at hK;refine⟨hb,h.by_,M.ok,M.rA,M.tame,⟨fun k=>by rw[es,Nat.mul_comm];exact h0.Hu hb k,M.tk,h0.m12,by decide,by decide,by decide,_,Pm.dw _ _,hK,?_,fun _=>Pm.ju (Pm.nA hb.lo hb.hi (by decide) h0.eV)⟩⟩;rw[Pm.aX];have:=h0.short;omega
theorem RwS.good{b:Int}(hb:ByF b){m:Nat}{r0 r:Rw}{s:Nat}(h0:Bs b m r0)(h:RwS b r0 s r)(hs:s<=3){v:V}{H:Hp}(hR:cI H v r):Good b r.at m 13 31 17 v H:=⟨r,hR,h.ri hb h0 hs,rfl⟩
theorem gk(a c:Nat->Int):fH a c=Pm.cv a c:=funext fun n=>(Pm.gO a c n).symm
theorem Di(b:Int)(a c:Nat->Int)(k:Nat):Rm.tk b (fH a (fun k=>Rm.tk b (c k)) k)=Rm.tk b (fH a c k):=by
 rw[gk,gk];exact Pm.iZ (fun _ _=>rfl) fun _ _=>Rm.gC _ _
theorem JL(b:Int)(a c:Nat->Int)(k:Nat):Rm.tk b (fH (fun k=>Rm.tk b (a k)) c k)=Rm.tk b (fH a c k):=by
 rw[gk,gk];exact Pm.iZ (fun _ _=>Rm.gC _ _) fun _ _=>rfl
theorem ahW{C:Addr}{b:Int}{f:Nat->Int}{n u c d:Nat}{v:V}{H:Hp}{Q:VK}{E:XK}(h:Good b f n u c d v H){ln:Addr}{ns:List Int}(hln:H ln=some (.lst (ns.map V.int)))(hnum:∀x∈ns,fJ b x)(hbd:∀x∈ns,Rm.Bd c x)(hm:ns.length<=4)(k1:n+4<=12)(k2:u+13*(n+1)<=58000)(k3:c+d*12<=10000)(k4:(n+4)*(c+d*(2*(n+4))+(n+4))+(u+13*(n+1)+13*(n+5))+458<=112100)
  (q:∀v' H',Same H H'->Good b (ahd ns f) (n+4) (u+13*(n+1)) c d v' H'->zu b (ahd ns f) v' H'->Q v' H'):Ik C [v,.ref ln] H Q E:=by
 obtain⟨r,hR,M,rfl⟩:=h;obtain⟨L,lst,_⟩:=M.ex;have i1:(n+ns.length)*(c+d*(2*(n+ns.length))+(n+ns.length))<=(n+4)*(c+d*(2*(n+4))+(n+4)):=Nat.mul_le_mul (by omega) (by have:=Nat.mul_le_mul_left d (show 2*(n+ns.length)<=2*(n+4)by omega);omega);refine⟨v,b,r,n,u,c,d,L,ln,ns,rfl,hR,M,lst,hln,by omega,hnum,hbd,by omega,k3,by omega,fun v' r' L' H' g' hR' hT' hF' _=>?_⟩;obtain⟨a1,a2⟩:=nF M.hB hR' hT' (hF'.more (n':=n+4) (u':=u+13*(n+1)) (c':=c) (d':=d) (by omega) (Nat.le_refl _) (Nat.le_refl _) (Nat.le_refl _) k1 (by omega)) (by omega);exact q v' H' g' a1 a2
theorem TR.eV{b:Int}(hb:ByF b){r:Rw}{f:Nat->Int}{L:List Int}(t:TR b r f L){n u c d:Nat}(h:Fb b f n u c d):∀x∈r.rule,Rm.Bd (u+13*(n+1)) x:=fun x hx=>by
 have:=h.u10;rw[t.rule hb]at hx;obtain⟨k,_,rfl⟩:=Pm.eE (show x∈Pm.ofF _ _ from hx);refine fj hb (by omega) ?_;rw[Int.zero_sub];exact Pm.uZ (h.least hb t.lst _)
theorem Ew(b x:Int):Rm.tk b (Rm.tk b (-1)*Rm.tk b (Rm.tk b (-1)*x))=Rm.tk b (Rm.tk b 1*x):=by
 rw[Rm.bh,Rm.cJ b (-1),Int.mul_left_comm,Rm.cJ b (-1),Rm.cJ b 1];congr 1;omega
def Dw(C:Addr):(Hp->VK->XK->Prop)->Hp->VK->XK->Prop:=fun sp0 H Q _=>∃(b:Int) (f:Nat->Int),(∀Q' E',(∀v H2,Same H H2->zu b f v H2->Q' v H2)->(∀H2,Same H H2->E' (.ref C) none H2)->sp0 H Q' E')/\∀v H2,Same H H2->Res b f v H2->Q v H2
abbrev wL(P w K mg base aG):=Ze P w K mg base "_law_told" 16 ["_law_told_here"] (GV P w K mg base 15 (Dw aG))
inductive KJ(vs:List V)(H:Hp)(Q:VK)(E:XK):Prop|mk (v1 v2:V) (b:Int) (f:Nat->Int) (z_0:vs=[v1,v2]) (z_1:ByF b) (z_2:Res b f v1 H) (z_3:Res b f v2 H) (z_4:∀H',Same H H'->Q (.bl true) H')
def Pz:Sp:=fun vs H Q E=>KJ  vs H Q E
abbrev tV(P w K mg base):=Cal P w K mg base "_law_agree" 1 ["_law_one","_law_other"] Pz
theorem cI.aV{T:Addr}{H H':Hp}{v:V}{r:Rw}(h:cI H v r){ps:Array Value}(hT:H T=some (.tbl ps))(g:kj T H H'):cI H' v r:=by
 have ne:∀{a:Addr} {xs:List V},H a=some (.tup xs)->a≠T:=fun {a xs} e z=>by rw[z,hT]at e;cases e
 obtain⟨a,p,q,e,h1,h2,h3⟩:=h;exact⟨a,p,q,e,g _ _ (ne h1) h1,g _ _ (ne h2) h2,g _ _ (ne h3) h3⟩
theorem qF{H:Hp}{T:Addr}{q:Str}(h:iM H T q):∃ps,H T=some (.tbl ps):=by
 obtain⟨ps,e,_⟩:=h;exact⟨ps,e⟩
theorem Good.aV{T:Addr}{b:Int}{f:Nat->Int}{n u c d:Nat}{v:V}{H H':Hp}(h:Good b f n u c d v H){q:Str}(hT:iM H T q)(g:kj T H H'):Good b f n u c d v H':=by
 obtain⟨ps,e⟩:=qF hT;obtain⟨r,h1,h2,h3⟩:=h;exact⟨r,h1.aV e g,h2,h3⟩
theorem Res.aV{T:Addr}{b:Int}{f:Nat->Int}{v:V}{H H':Hp}(h:Res b f v H){q:Str}(hT:iM H T q)(g:kj T H H'):Res b f v H':=by
 obtain⟨ps,e⟩:=qF hT;exact h.imp id fun⟨r,L,h1,h2⟩=>⟨r,L,h1.aV e g,h2⟩
theorem nZ{T:Addr}{H H':Hp}(g:Same H H'):kj T H H':=fun b o _ h=>g b o h
theorem cj{T:Addr}{H H1 H2:Hp}(a:kj T H H1)(b:kj T H1 H2):kj T H H2:=fun c o n h=>b c o n (a c o n h)
abbrev KD(x:Str):Str:=(x++ ".<locals>.")++ "<lambda>"
theorem Al{C:Addr}{T:Addr}{qual:Str}{ix:List (Option Nat)}{tb:XK->TE}{σ:St}{H:Hp}{Q:VK}(b:Int)(f:Nat->Int)(hT:iM H T qual)(h:∀H1,kj T H H1->iM H1 T qual->∀Q' E',(∀v H2,Same H1 H2->zu b f v H2->Q' v H2)->(∀H2,Same H1 H2->E' (.ref C) none H2)->tb E' (cst ix σ) H1 Q')
  (q:∀v H2,kj T H H2->iM H2 T qual->Res b f v H2->Q v H2):LD T qual ix (Dw C) tb σ H Q:=
 ⟨hT,fun H1 g1 hT1=>⟨b,f,fun Q' E' k1 k2=>h H1 g1 hT1 Q' E' k1 k2,fun v H2 g2 hv=>q v H2 (cj g1 (nZ g2)) (hT1.same g2) hv⟩⟩
inductive O7(T:Addr)(vs:List V)(H:Hp)(Q:VK)(E:XK):Prop|mk (v1 v2 v3:V) (b:Int) (f1 f2 f3:Nat->Int) (z_0:vs=[v1,v2,v3]) (z_1:ByF b) (z_2:Good b f1 3 13 31 17 v1 H) (z_3:Good b f2 2 13 31 17 v2 H) (z_4:Good b f3 2 13 31 17 v3 H) (z_5:iM H T (KD "_law_sums")) (z_6:∀H',kj T H H'->iM H' T (KD "_law_sums")->Q (.bl true) H')
def Ml(T:Addr):Sp:=fun vs H Q E=>O7 T vs H Q E
inductive Pa(T:Addr)(vs:List V)(H:Hp)(Q:VK)(E:XK):Prop|mk (v1 v2:V) (st e:Nat) (b:Int) (f1 f2:Nat->Int) (z_0:vs=[v1,v2,.int (st:Int),.int (e:Int)]) (z_1:ByF b) (z_2:Good b f1 3 13 31 17 v1 H) (z_3:Good b f2 2 13 31 17 v2 H) (z_4:st<=100) (z_5:1<=e) (z_6:e<=10) (z_7:iM H T (KD "_law_every")) (z_8:∀H',kj T H H'->iM H' T (KD "_law_every")->Q (.bl true) H')
def LZ(T:Addr):Sp:=fun vs H Q E=>Pa T vs H Q E
def Qe(b:Int):Rw:=⟨b,[1],[1]⟩
theorem Ph{b:Int}(hb:ByF b)(n:Nat):(Qe b).at n=1:=by
 refine Rm.mR (b:=b) (rule:=[1]) (starts:=[1]) rfl (g:=fun _=>1) (fun i hi=>?_) (fun i hi=>?_) n
 ·have:i=0:=by simpa using hi
  subst this;rfl
 ·show 1=Rm.tk b (0+1*1);rw[Int.zero_add,Int.one_mul,hb.one]
theorem Gp{b:Int}(hb:ByF b){v:V}{H:Hp}(hR:cI H v (Qe b)):Good b (fun _=>1) 1 13 31 17 v H:=by
 have n1:fJ b 1:=by
  have:=mO hb.lo 1;rw[hb.one]at this;exact this
 have b1:∀{u:Nat},1<=u->Rm.Bd u 1:=fun h=>(Rm.Bd.of (n:=1) (by decide) (by decide)).mono h;have m1:∀{x:Int},x∈[1]->x=1:=fun h=>List.mem_singleton.mp h;have ok:nY (Qe b):=⟨rfl,by show 1<=24;decide,hb.lo,hb.hi,fun x hx=>by rw[m1 hx];exact n1,fun x hx=>by rw[m1 hx];exact n1,fun x hx=>by rw[m1 hx];exact b1 (by decide),fun x hx=>by rw[m1 hx];exact b1 (by decide)⟩;have ea:(Qe b).at=fun _=>1:=funext (Ph hb);have hk:=ok.kp;rw[ea]at hk;refine⟨Qe b,hR,⟨hb,rfl,ok,by show 1<=12;decide,fun z=>?_,?_⟩,ea⟩
 ·have z':b=0:=z;refine⟨1,31,13,by decide,fun x hx=>by rw[m1 hx];exact b1 (by decide),⟨_,Pm.dw _ _,by rw[ea,<-z'];exact hk,?_⟩,fun n _=>by rw[ea];exact b1 (by decide),by decide⟩;rw[Pm.aX];show 1+1<=1+1;decide
 ·rw[ea];refine⟨fun k=>b1 (by omega),fun _=>hb.one,by decide,by decide,by decide,by decide,_,Pm.dw _ _,hk,?_,fun _=>Pm.ju (Pm.nA hb.lo hb.hi (by decide) fun x hx=>by rw[m1 hx];exact b1 (by decide))⟩;rw[Pm.aX];show 1+1<=1+1;decide
theorem pY{T T':Addr}{H H':Hp}{q q':Str}(h:iM H T' q)(hT:iM H T q')(hne:T'≠T)(g:kj T H H'):iM H' T' q:=by
 obtain⟨ps,e,t,k⟩:=h;obtain⟨ps',e'⟩:=qF hT;refine⟨ps,g _ _ hne e,t,fun pos cv z=>?_⟩;obtain⟨c',oc,vs,t',a,b,r⟩:=k pos cv z;exact⟨c',oc,vs,t',a,g _ _ (fun y=>by rw[y,e']at b;cases b) b,r⟩
inductive Ol(K:W.Frag)(T:Str->Addr)(vs:List V)(H:Hp)(Q:VK)(E:XK):Prop|mk (a:Addr) (ns:List Int) (z_0:vs=[.ref a]) (z_1:SqL K H a (ns.map V.int)) (z_2:ns.length<=63) (z_3:(∀x∈ns,PySem.Builtin.Int.intBits x<=1048576)) (z_4:(∀y∈[("_law_sums" : Str),"_law_every","law"],∀q,iM H (T y) q)) (z_5:(∀y∈[("_law_sums" : Str),"_law_every","law"],∀z∈[("_law_sums" : Str),"_law_every","law"],T y=T z->y=z)) (z_6:∀H',Q (.bl true) H')
def HC(K:W.Frag)(T:Str->Addr):Sp:=fun vs H Q E=>Ol K T vs H Q E
section
variable {P:Program} {w:World} {K:W.Frag} {mg:Str->Option Value} {base:Heap}
variable {aG:Addr} (B:Bt mg) (M:Ms K mg base aG)
include B M
theorem Kv(F:Fn K mg "taken" BQ ["by","number"]):gR P w K mg base:=by
 refine F.cal K5 (fun vs H Q E h=>?_) (fun f cdv A outer s H vs Q E hr h=>?_)
 ·obtain⟨b,n,rfl,_⟩:=h;rfl
 ·obtain⟨b,n,rfl,h0,q⟩:=h;refine⟨_,(ao (jq (cg (xeq K hr) (pv 0) au (cB _))
   (aH (aU (pv 1)))
   cW)
   (aH (aU (aL fW (pv 1) (pv 0))))),?_⟩
  refine⟨_,rfl,_,rfl,?_⟩;refine qJ (fun c=>?_) (fun c=>?_)
  ·refine⟨_,rfl,?_⟩;have c':b=0:=dec_true c;have e:Rm.tk b n=n:=by rw[c',Rm.bH]
   rw[e]at q;exact q
  ·have c':¬b=0:=dec_false c;refine⟨_,rfl,_,rfl,_,_,rfl,rfl,(by omega:(0:Int)<b),?_⟩;rw[Rm.iG c']at q;exact q
theorem yr(F:Fn K mg "next_place" mH ["by","rule","before"])(aY:gR P w K mg base):sW P w K mg base:=by
 refine F.cal jd (fun vs H Q E h=>?_) (fun f cdv A outer s H vs Q E hr h=>?_)
 ·obtain⟨b,r,s,rule,before,rfl,_⟩:=h;rfl
 ·obtain⟨b,r,s',rule,before,rfl,hb,hR,hS,hl,hl2,hl3,bR,bS,q⟩:=h;refine⟨_,(ao (aJ (i:=3) jd.nd rfl (Or.inl rfl) au)
   (ao (n8 PassesOwn.never rfl (bW rfl B.cF (aF (aN (jy K) rfl B.cP boot_len (aK (pv 1) ak)) ak)) (bw (i:=4) jd.nd rfl (Or.inl rfl))
   (aH (aJ (i:=3) jd.nd rfl (Or.inl rfl) (aL (iQ K) (pv 3) (aL v_mul (bf (xix K) (pv 1) (pv 4) (fun _ _=>rfl)) (bf (xix K) (pv 2) (aL cD (aL cD (aN (jy K) rfl B.cP boot_len (aK (pv 2) ak)) au) (pv 4)) (fun _ _=>rfl)))))))
   (aH (aU (aq aY hr rfl (aK (pv 0) (aK (pv 3) ak))))))),?_⟩
  have lR:(rule.map V.int).length=rule.length:=List.length_map _;have lS:(before.map V.int).length=before.length:=List.length_map _;refine⟨_,rfl,.ref r,rule.length,rfl,.inr ⟨_,hR,lR.symm⟩,?_⟩;refine⟨(rule.length:Int),rfl,(by omega:-(2^62)<=(rule.length:Int)),(by omega:(rule.length:Int)<2^62),?_⟩;refine gw (lo:=0) (n:=(rule.length:Int).toNat) (fun i σ' H'=>∃o,σ'=[some (.int b),some (.ref r),some (.ref s'),some (.int (Rm.S rule (fun i=>before.getD i 0) before.length i)),o]/\H'=H) ⟨none,rfl,rfl⟩ ?_ ?_
  ·rintro i σ' H' hi ⟨o,rfl,rfl⟩;have hi':i<rule.length:=by omega
   have e0:(0:Int)+(i:Int)=(i:Int):=by omega
   have e1:(before.length:Int)-1-(0+(i:Int))=((before.length-1-i:Nat):Int):=by omega
   refine⟨_,rfl,?_⟩;refine⟨_,rfl,_,rfl,_,_,.inr hR,bB (ns:=rule) (by omega:(0:Int)<=0+(i:Int)) (by omega),?_⟩;refine⟨_,rfl,_,rfl,.ref s',before.length,rfl,.inl ⟨_,hS,lS.symm⟩,_,_,rfl,rfl,_,rfl,_,_,rfl,rfl,?_⟩;refine⟨_,_,.inl hS,bB (ns:=before) (by omega:(0:Int)<=(before.length:Int)-1-(0+(i:Int))) (by omega),?_⟩;refine⟨qM (Rm.Bd.getD bR _) (Rm.Bd.getD bS _) (by decide),?_⟩;refine⟨some (.int (0+(i:Int))),?_,rfl⟩;rw[e1,e0,Int.toNat_natCast,Int.toNat_natCast];rfl
  ·rintro σ' H' ⟨o,rfl,rfl⟩;refine⟨_,rfl,_,rfl,b,_,rfl,hb,?_⟩;rw[show(rule.length:Int).toNat=rule.length from Int.toNat_natCast _];exact q
theorem uO(F:Fn K mg "first_places" jQ ["row","count"])(mU:sW P w K mg base):iu P w K mg base:=by
 refine F.cal d7 (fun vs H Q E h=>?_) (fun f cdv A outer s H vs Q E hr h=>?_)
 ·obtain⟨v,r,c,rfl,_⟩:=h;rfl
 ·obtain⟨v,r,c,rfl,⟨a,p,p2,rfl,hA,hR,hS⟩,ok,hc0,hc1,q⟩:=h;refine⟨_,(ao (aJ (i:=2) d7.nd rfl (Or.inl rfl) (bf (xix K) (pv 0) au (fun _ _=>rfl)))
   (ao (aJ (i:=3) d7.nd rfl (Or.inl rfl) (bf (xix K) (pv 0) au (fun _ _=>rfl)))
   (ao (aJ (i:=4) d7.nd rfl (Or.inl rfl) (bf (xix K) (pv 0) au (fun _ _=>rfl)))
   (ao (aJ (i:=5) d7.nd rfl (Or.inl rfl) (Ir (bV (xlist K) rfl B.wg boot_list (aF (pF (xsl K) (pv 4) uI (uG (pv 1))) ak))))
   (ao (jF PassesOwn.never (cg zx (aN (jy K) rfl B.cP boot_len (aK (pv 5) ak)) (pv 1) (cB _))
   (aH (jx (uH K (pv 5) (aq mU hr rfl (aK (pv 2) (aK (pv 3) (aK (pv 5) ak))))))))
   (aH (aU (pv 5)))))))),?_⟩
  have hl:=ok.len;have hl2:=ok.short;have lS:(r.starts.map V.int).length=r.starts.length:=List.length_map _;refine⟨_,rfl,_,_,.inr (SqT.of hA),rfl,?_⟩;refine⟨_,rfl,_,_,.inr (SqT.of hA),rfl,?_⟩;refine⟨_,rfl,_,_,.inr (SqT.of hA),rfl,?_⟩;have Yo:yC (r.starts.map V.int) none (some c)=(r.row (min c.toNat r.starts.length)).map V.int:=by
   have e:r.row (min c.toNat r.starts.length)=r.starts.take (min c.toNat r.starts.length):=Rm.j8 (Nat.min_le_right _ _);rw[e];have e2:c=((c.toNat:Nat):Int):=by omega
   unfold yC;rw[e2,HT.kZ,HT.iW,List.drop_zero,Nat.sub_zero,lS,List.map_take,Int.toNat_natCast]
  refine Bar.by (fun v H1=>∃l,v = .ref l/\Same H H1/\H l=none/\H1 l=some (.lst ((r.row (min c.toNat r.starts.length)).map V.int))) (fun kk hkk=>?_) ?_
  ·refine⟨_,rfl,_,rfl,_,rfl,?_⟩;by_cases hw:r.starts.length<=c.toNat
   ·-- the whole of it
    refine .inr (.inr ⟨_,SqT.of hS,?_,?_⟩)
    ·have e2:c=((c.toNat:Nat):Int):=by omega
     rw[e2,HT.kZ,HT.iW,lS];omega
    ·refine⟨p2,_,rfl,.inr (SqT.of hS),fun l hl1=>hkk _ _ ⟨l,rfl,Same.new hl1 _,hl1,?_⟩⟩;rw[aB,Nat.min_eq_right hw];have e:r.row r.starts.length=r.starts:=(Rm.j8 (Nat.le_refl _)).trans (List.take_length ..);rw[e]
   ·refine .inr (.inl ⟨_,SqT.of hS,?_,fun p3 hp3=>?_⟩)
    ·have e2:c=((c.toNat:Nat):Int):=by omega
     rw[e2,HT.kZ,HT.iW,lS];omega
    ·refine⟨p3,_,rfl,.inr (SqT.of aB),fun l hl1=>?_⟩;have g3:=Same.new hp3 (.tup (yC (r.starts.map V.int) none (some c)));refine hkk _ _ ⟨l,rfl,g3.trans (Same.new hl1 _),g3.free hl1,?_⟩;rw[aB,Yo]
  rintro v H1 ⟨l,rfl,g1,hl1,hr1⟩;refine⟨fun m σ' H'=>∃n:Nat,m=c.toNat-n/\min c.toNat r.starts.length<=n/\n<=c.toNat/\σ'=[some (.ref a),some (.int c),some (.int r.b),some (.ref p),some (.ref p2),some (.ref l)]/\Same H H'/\H' l=some (.lst ((r.row n).map V.int)),
   ⟨_,min c.toNat r.starts.length,rfl,Nat.le_refl _,Nat.min_le_left _ _,rfl,g1,hr1⟩,?_⟩
  rintro m σ' H' ⟨n,rfl,h1,h2,rfl,g,hL⟩;have lL:((r.row n).map V.int).length=n:=by rw[List.length_map,Rw.fD]
  refine⟨_,rfl,.ref l,n,rfl,.inl ⟨_,SqL.of hL,lL.symm⟩,_,rfl,_,_,rfl,rfl,_,rfl,?_⟩;refine qJ (fun cc=>?_) (fun cc=>?_)
  ·have hn:n<c.toNat:=by have:=dec_true cc;omega
   refine⟨_,fun _ _ z=>z,?_⟩;refine⟨_,rfl,.inl ⟨rfl,_,SqL.of hL⟩,_,rfl,_,rfl,_,rfl,r.b,p,l,r.rule,r.row n,rfl,ok.by0,SqT.of (g _ _ hR),SqL.of hL,?_,hl2,?_,ok.eV,ok.K3 n (by omega),?_⟩
   ·rw[Rw.fD];omega
   ·rw[Rw.fD];omega
   ·refine⟨l,_,_,rfl,rfl,hL,?_,?_⟩
    ·rw[lL];exact bK (by omega)
    ·refine⟨c.toNat-(n+1),by omega,n+1,rfl,by omega,by omega,rfl,g.upd hl1 _,?_⟩;rw[aB,Rw.fD];have e:r.row (n+1)=r.row n++[Rm.tk r.b (Rm.S r.rule (fun i=>(r.row n).getD i 0) n r.rule.length)]:=by
      show _++[if n<r.starts.length then r.starts.getD n 0 else _]=_;rw[if_neg (by omega)];rfl
     rw[e,List.map_append];rfl
  ·have hn:n=c.toNat:=by have:=dec_false cc;omega
   subst hn;refine⟨_,rfl,?_⟩;exact q l H' g hl1 hL
theorem Bp(F:Fn K mg "is_prime" sI ["number"]):vQ P w K mg base:=by
 refine F.cal oV (fun vs H Q E h=>?_) (fun f cdv A outer s H vs Q E hr h=>?_)
 ·obtain⟨n,rfl,_⟩:=h;rfl
 ·obtain⟨n,rfl,hn,q⟩:=h;refine⟨_,(ao (jq (cg zx (pv 0) au (cB _))
   (aH (aU rN))
   cW)
   (ao (aJ (i:=1) oV.nd rfl (Or.inl rfl) au)
   (ao (jF PassesOwn.never (cg QF (aL v_mul (pv 1) (pv 1)) (pv 0) (cB _))
   (ao (jq (cg (xeq K hr) (aL fW (pv 0) (pv 1)) au (cB _))
   (aH (aU rN))
   cW)
   (aH (aJ (i:=1) oV.nd rfl (Or.inl rfl) (aL (iQ K) (pv 1) au)))))
   (aH (aU rN))))),?_⟩
  refine⟨_,rfl,_,_,rfl,rfl,_,rfl,?_⟩;refine qJ (fun c=>?_) (fun c=>?_)
  ·have c':(n:Int)<2:=dec_true c;exact q false ⟨fun z=>absurd z (by decide),fun z=>by have:=z.1;omega⟩
  ·have c':¬(n:Int)<2:=dec_false c;refine⟨fun m σ' H'=>∃d:Nat,σ'=[some (.int n),some (.int (d:Int))]/\H'=H/\2<=d/\d<=n+1/\m=n+2-d/\∀e:Nat,2<=e->e<d->¬e∣n,⟨_,2,rfl,rfl,by omega,by omega,rfl,fun e h1 h2=>by omega⟩,?_⟩;rintro m σ' H' ⟨d,rfl,rfl,h2,hdn,rfl,hd⟩;refine⟨_,rfl,_,rfl,mulL (by omega) (by omega),_,rfl,_,_,rfl,rfl,_,rfl,?_⟩;refine qJ (fun c2=>?_) (fun c2=>?_)
   ·have c2':(d:Int)*d<=n:=dec_true c2;have c2n:d*d<=n:=by exact_mod_cast c2'
    have hdl:d*1<=d*d:=Nat.mul_le_mul_left d (by omega);refine⟨_,fun _ _ z=>z,?_⟩;refine⟨_,rfl,_,rfl,_,_,rfl,rfl,(by omega:(0:Int)<(d:Int)),?_⟩;refine⟨_,rfl,?_⟩;refine qJ (fun c3=>?_) (fun c3=>?_)
    ·have c3':(n:Int)%(d:Int)=0:=dec_true c3;have hdv:d∣n:=Int.ofNat_dvd.mp (Int.dvd_of_emod_eq_zero c3');exact q false ⟨fun z=>absurd z (by decide),fun z=>absurd z (Om.FY h2 c2n hdv)⟩
    ·have c3':¬(n:Int)%(d:Int)=0:=dec_false c3;refine⟨_,rfl,?_⟩;exact⟨n+2-(d+1),by omega,d+1,by simp,rfl,by omega,by omega,rfl,fun e h1 h3=>by
      rcases Nat.lt_or_ge e d with z|z
      ·exact hd e h1 z
      ·have:e=d:=by omega
       subst this;exact fun z=>c3' (Int.emod_eq_zero_of_dvd (Int.ofNat_dvd.mpr z))⟩
   ·have c2':¬(d:Int)*d<=n:=dec_false c2;have c2n:¬d*d<=n:=fun z=>c2' (by exact_mod_cast z);exact q true ⟨fun _=>Om.uz (by omega) fun e h1 h3 hdv=>by
     by_cases c4:e<d
     ·exact hd e h1 c4 hdv
     ·have:d*d<=e*e:=Nat.mul_le_mul (by omega) (by omega);omega,fun _=>rfl⟩
theorem vI(F:Fn K mg "prime_above" kW ["number"])(qR:vQ P w K mg base):qC P w K mg base:=by
 refine F.cal jN (fun vs H Q E h=>?_) (fun f cdv A outer s H vs Q E hr h=>?_)
 ·obtain⟨n,q,rfl,_⟩:=h;rfl
 ·obtain⟨n,q',rfl,hq,hnq,hqb,q⟩:=h;refine⟨_,(ao (aJ (i:=1) jN.nd rfl (Or.inl rfl) (aL (iQ K) (pv 0) au))
   (ao (jF PassesOwn.never (mC (mj (aq qR hr rfl (aK (pv 1) ak))))
   (aH (aJ (i:=1) jN.nd rfl (Or.inl rfl) (aL (iQ K) (pv 1) au))))
   (aH (aU (pv 1))))),?_⟩
  refine⟨_,rfl,?_⟩;refine⟨fun m σ' H'=>∃f:Nat,σ'=[some (.int n),some (.int (f:Int))]/\H'=H/\n<f/\f<=q'/\m=q'-f,⟨_,n+1,rfl,rfl,by omega,by omega,rfl⟩,?_⟩;rintro m σ' H' ⟨f,rfl,rfl,h1,h2,rfl⟩;refine⟨_,rfl,f,rfl,by omega,fun b hb=>?_⟩;refine⟨b,rfl,?_⟩;cases b with
  |false=>
   refine⟨_,fun _ _ z=>z,?_⟩;refine⟨_,rfl,?_⟩;have hne:f≠q':=fun e=>absurd (hb.mpr (e▸hq)) (by decide);exact⟨q'-(f+1),by omega,f+1,rfl,rfl,by omega,by omega,rfl⟩
  |true=>
   refine⟨_,rfl,?_⟩;exact q f (hb.mp rfl) h1 h2
theorem Ed(F:Fn K mg "inverse" uT ["prime","number"])(aY:gR P w K mg base):yK P w K mg base:=by
 refine F.cal gG (fun vs H Q E h=>?_) (fun f cdv A outer s H vs Q E hr h=>?_)
 ·obtain⟨P,a,rfl,_⟩:=h;rfl
 ·obtain⟨P',a,rfl,hP,hPb,h0,h1,q⟩:=h;have hr2:2<=P'/\P'<2097152:=⟨hP.1,hPb⟩;refine⟨_,(ao (aJ (i:=2) gG.nd rfl (Or.inl rfl) au)
   (ao (aJ (i:=3) gG.nd rfl (Or.inl rfl) (pv 1))
   (ao (aJ (i:=4) gG.nd rfl (Or.inl rfl) (aL cD (pv 0) au))
   (ao (jF PassesOwn.never (cg wM (pv 4) au (cB _))
   (ao (zZ (jq (cg (xeq K hr) (aL fW (pv 4) au) au (cB _))
   (aH (aJ (i:=2) gG.nd rfl (Or.inl rfl) (aq aY hr rfl (aK (pv 0) (nQ (aL v_mul (pv 2) (pv 3)) ak)))))
   cW))
   (ao (aJ (i:=3) gG.nd rfl (Or.inl rfl) (aq aY hr rfl (aK (pv 0) (nQ (aL v_mul (pv 3) (pv 3)) ak))))
   (aH (aJ (i:=4) gG.nd rfl (Or.inl rfl) (aL Cq (pv 4) au))))))
   (aH (aU (pv 2))))))),?_⟩
  refine⟨_,rfl,?_⟩;refine⟨_,rfl,_,_,rfl,rfl,?_⟩;have e0:((P':Int)-2).toNat=P'-2:=by omega
  refine⟨fun m σ' H'=>∃power square left:Int,σ'=[some (.int P'),some (.int a),some (.int power),some (.int square),some (.int left)]/\H'=H/\m=left.toNat/\0<=power/\power<2097152/\0<=square/\square<2097152/\0<=left/\Om.Keeps P' a (P'-2) power square left.toNat,
   ⟨_,1,a,(P':Int)-2,rfl,rfl,rfl,by decide,by decide,by omega,by omega,by omega,by rw[e0];exact Om.Av _ _ _⟩,?_⟩
  rintro m σ' H' ⟨power,square,left,rfl,rfl,rfl,p0,p1,s0,s1,l0,hk⟩;refine⟨_,rfl,_,_,rfl,rfl,_,rfl,?_⟩;refine qJ (fun c=>?_) (fun c=>?_)
  ·have c':0<left:=dec_true c;refine⟨_,fun _ _ z=>z,?_⟩;have hpos:(0:Int)<(P':Int):=by omega
   have tkP:∀n,Rm.tk (P':Int) n=n%(P':Int):=fun n=>Rm.iG (by omega) n;refine Lh.by (fun σ' H2=>∃power':Int,σ'=[some (.int P'),some (.int a),some (.int power'),some (.int square),some (.int left)]/\H2=H'/\((left%2=1/\power'=power*square%(P':Int))∨(¬left%2=1/\power'=power))) (fun N hN=>?_) ?_
   ·refine⟨_,rfl,_,_,rfl,rfl,(by decide:(0:Int)<2),_,rfl,?_⟩;refine qJ (fun c2=>?_) (fun c2=>?_)
    ·refine⟨_,rfl,_,rfl,_,rfl,mulL (by omega) (by omega),P',_,rfl,by omega,?_⟩;exact hN _ _ ⟨_,rfl,rfl,.inl ⟨dec_true c2,tkP _⟩⟩
    ·exact hN _ _ ⟨_,rfl,rfl,.inr ⟨dec_false c2,rfl⟩⟩
   rintro σ' H2 ⟨power',rfl,rfl,hp⟩;refine⟨_,rfl,_,rfl,_,rfl,mulL (by omega) (by omega),P',_,rfl,by omega,?_⟩;refine⟨_,rfl,_,_,rfl,rfl,⟨by decide,by decide⟩,?_⟩;have b1:=eX (square*square) hpos;have b2:=eY (square*square) hpos;have b3:=eX (power*square) hpos;have b4:=eY (power*square) hpos;have el:(left/2).toNat=left.toNat/2:=by omega
   refine⟨_,?_,power',square*square%(P':Int),left/2,by rw[tkP];rfl,rfl,rfl,?_,?_,b1,by omega,by omega,?_⟩
   ·omega
   ·rcases hp with⟨_,rfl⟩|⟨_,rfl⟩
    ·exact b3
    ·exact p0
   ·rcases hp with⟨_,rfl⟩|⟨_,rfl⟩
    ·omega
    ·exact p1
   ·rw[el];rcases hp with⟨hodd,rfl⟩|⟨hodd,rfl⟩
    ·exact Om.GZ hk (by omega)
    ·exact Om.DF hk (by omega)
  ·have c':left=0:=by have:=dec_false c;omega
   subst c';refine⟨_,rfl,?_⟩;exact q power p0 p1 (Om.E5 hk)
theorem Pk(F:Fn K mg "over" Hf ["by","one","other"])(aY:gR P w K mg base)(uq:yK P w K mg base):Hz P w K mg base:=by
 refine F.cal PJ (fun vs H Q E h=>?_) (fun f cdv A outer s H vs Q E hr h=>?_)
 ·obtain⟨P,one,other,rfl,_⟩:=h;rfl
 ·obtain⟨P',one,other,rfl,hP,hPb,o0,o1,q⟩:=h;refine⟨_,(ao (jq (cg (xeq K hr) (pv 0) au (cB _))
   (aH tY)
   cW)
   (ao (jq (cg (xeq K hr) (aq aY hr rfl (aK (pv 0) (aK (pv 2) ak))) au (cB _))
   (aH tY)
   cW)
   (aH (aU (aq aY hr rfl (aK (pv 0) (nQ (aL v_mul (pv 1) (aq uq hr rfl (aK (pv 0) (aK (pv 2) ak)))) ak))))))),?_⟩
  have hr2:2<=P'/\P'<2097152:=⟨hP.1,hPb⟩;refine⟨_,rfl,_,rfl,?_⟩;refine qJ (fun c=>absurd (dec_true c) (by omega)) (fun _=>?_);have tkP:∀n,Rm.tk (P':Int) n=n%(P':Int):=fun n=>Rm.iG (by omega) n;refine⟨_,rfl,_,rfl,P',other,rfl,by omega,_,rfl,?_⟩;have et:Rm.tk (P':Int) other=other:=by rw[tkP];exact Int.emod_eq_of_lt (by omega) o1
  rw[et];refine qJ (fun c2=>absurd (dec_true c2) (by omega)) (fun _=>?_);refine⟨_,rfl,_,rfl,_,rfl,_,rfl,P',other,rfl,hP,hPb,o0,o1,fun x x0 x1 hx=>?_⟩;refine⟨mulR (by omega) (by omega),P',_,rfl,by omega,?_⟩;rw[tkP,Om.mod_mul (rfl:one%(P':Int)=one%(P':Int)) hx];exact q
theorem Ek(F:Fn K mg "trimmed" vd ["numbers"]):mX P w K mg base:=by
 refine F.cal sJ (fun vs H Q E h=>?_) (fun f cdv A outer s H vs Q E hr h=>?_)
 ·obtain⟨l,xs,rfl,_⟩:=h;rfl
 ·obtain⟨l,xs,rfl,hL,q⟩:=h;refine⟨_,(ao (aJ (i:=1) sJ.nd rfl (Or.inl rfl) (aN (jy K) rfl B.cP boot_len (aK (pv 0) ak)))
   (ao (jF PassesOwn.never (PW.pt (Qq (cg wM (pv 1) au (cB _)) (O5 (cg (xeq K hr) (bf (xix K) (pv 0) (aL cD (pv 1) au) (fun _ _=>rfl)) au (cB _)))))
   (aH (aJ (i:=1) sJ.nd rfl (Or.inl rfl) (aL cD (pv 1) au))))
   (aH (aU (bV (j7 K) rfl B.ig boot_tuple (aF (pF (xsl K) (pv 0) uI (uG (pv 1))) ak)))))),?_⟩
  have lL:(xs.map V.int).length=xs.length:=List.length_map _;refine⟨_,rfl,.ref l,xs.length,rfl,.inl ⟨_,hL,lL.symm⟩,?_⟩;refine⟨fun m σ' H'=>∃n:Nat,m=n/\n<=xs.length/\σ'=[some (.ref l),some (.int (n:Int))]/\H'=H/\Pm.trim (xs.take n)=Pm.trim xs,⟨_,xs.length,rfl,Nat.le_refl _,rfl,rfl,by rw[List.take_length]⟩,?_⟩;rintro m σ' H' ⟨n,e0,hn,rfl,rfl,ht⟩;refine⟨_,rfl,_,_,rfl,rfl,_,rfl,?_⟩;refine qJ (fun c=>?_) (fun c=>Ao ?_)
  ·have h0:0<n:=by have:=dec_true c;omega
   have e1:((n:Int)-1).toNat=n-1:=by omega
   refine⟨_,rfl,_,rfl,_,_,rfl,rfl,_,_,.inl hL,bB (ns:=xs) (by omega:(0:Int)<=(n:Int)-1) (by omega),_,rfl,?_⟩;refine qJ (fun c2=>?_) (fun c2=>?_)
   ·have hz:=dec_true c2;rw[e1]at hz;refine⟨_,fun _ _ z=>z,?_⟩;refine⟨_,rfl,_,_,rfl,rfl,?_⟩;refine⟨n-1,by omega,n-1,rfl,by omega,?_,rfl,Gx h0 hn ht hz⟩;rw[show((n-1:Nat):Int)=(n:Int)-1 by omega];rfl
   ·have hz:=dec_false c2;rw[e1]at hz;refine⟨_,rfl,_,rfl,_,rfl,.inl ⟨_,hL,fun p hp=>?_⟩⟩;refine⟨p,_,rfl,.inl ⟨SqL.of aB,fun p2 hp2=>?_⟩⟩;refine q p2 _ ((Same.new hp _).trans (Same.new hp2 _)) ?_;rw[aB,Ds,<-List.map_take,yS hn ht (.inr hz)]
  ·have h0:n=0:=by have:=dec_false c;omega
   refine⟨_,rfl,_,rfl,_,rfl,.inl ⟨_,hL,fun p hp=>?_⟩⟩;refine⟨p,_,rfl,.inl ⟨SqL.of aB,fun p2 hp2=>?_⟩⟩;refine q p2 _ ((Same.new hp _).trans (Same.new hp2 _)) ?_;rw[aB,Ds,<-List.map_take,yS hn ht (.inl h0)]
theorem JY(F:Fn K mg "times" B4 ["by","one","other"])(aY:gR P w K mg base)(dD:mX P w K mg base):AK P w K mg base:=by
 refine F.cal uc (fun vs H Q E h=>?_) (fun f cdv A outer s H vs Q E hr h=>?_)
 ·obtain⟨b,a,c,p,r,rfl,_⟩:=h;rfl
 ·obtain⟨b,a,c,p,r,rfl,hb,hA,hC,zA,zC,bA,bC,q⟩:=h;refine⟨_,(ao (aJ (i:=3) uc.nd rfl (Or.inl rfl) (aL v_mul (jE (gF au ak)) (aL (iQ K) (aN (jy K) rfl B.cP boot_len (aK (pv 1) ak)) (aN (jy K) rfl B.cP boot_len (aK (pv 2) ak)))))
   (ao (n8 PassesOwn.never rfl (bW rfl B.cF (aF (aN (jy K) rfl B.cP boot_len (aK (pv 1) ak)) ak)) (bw (i:=4) uc.nd rfl (Or.inl rfl))
   (aH (n8 PassesOwn.never rfl (bW rfl B.cF (aF (aN (jy K) rfl B.cP boot_len (aK (pv 2) ak)) ak)) (bw (i:=5) uc.nd rfl (Or.inl rfl))
   (aH (vq (aq aY hr rfl (aK (pv 0) (nQ (aL (iQ K) (bf (xix K) (pv 3) (aL (iQ K) (pv 4) (pv 5)) (fun _ _=>rfl)) (aL v_mul (bf (xix K) (pv 1) (pv 4) (fun _ _=>rfl)) (bf (xix K) (pv 2) (pv 5) (fun _ _=>rfl)))) ak))) (zf (pv 3) (aL (iQ K) (pv 4) (pv 5)) set_list))))))
   (aH (aU (aq dD hr rfl (aK (pv 3) ak)))))),?_⟩
  have lP:(p.map V.int).length=p.length:=List.length_map _;have lR:(r.map V.int).length=r.length:=List.length_map _;refine⟨(by show 1<=sizeLine;decide),fun l0 h0=>?_⟩;have g0:=Same.new h0 (.lst [.int 0]);refine⟨_,rfl,.ref a,p.length,rfl,.inr ⟨_,SqT.of (g0 _ _ hA),lP.symm⟩,_,rfl,.ref c,r.length,rfl,.inr ⟨_,SqT.of (g0 _ _ hC),lR.symm⟩,?_⟩;have en:((p.length:Int)+(r.length:Int)).toNat=p.length+r.length:=by omega
  refine⟨_,aB,(by omega:-(2^63)<=(p.length:Int)+(r.length:Int)),(by omega:(p.length:Int)+(r.length:Int)<2^63),?_,fun l hl=>?_⟩
  ·rw[en];show 1*(p.length+r.length)<=sizeLine;rw[Nat.one_mul];exact Nat.le_of_lt (bK (by omega))
  have g1:=g0.trans (Same.new hl (.lst (List.replicate ((p.length:Int)+(r.length:Int)).toNat [V.int 0]).flatten));have hl0:H l=none:=g0.free hl;refine⟨_,rfl,.ref a,p.length,rfl,.inr ⟨_,SqT.of (g1 _ _ hA),lP.symm⟩,?_⟩;refine⟨(p.length:Int),rfl,(by omega:-(2^62)<=(p.length:Int)),(by omega:(p.length:Int)<2^62),?_⟩;refine gw (lo:=0) (n:=(p.length:Int).toNat) (fun i σ' H'=>∃o4 o5 L,σ'=[some (.int b),some (.ref a),some (.ref c),some (.ref l),o4,o5]/\Same H H'/\H' l=some (.lst (L.map V.int))/\L.length=p.length+r.length/\∀k,Pm.co L k=Rm.tk b (Pm.W (Pm.co p) (Pm.co r) i 0 k))
   ⟨_,_,Pm.ofF (p.length+r.length) (fun _=>0),rfl,g1,(by rw[aB,en,fR]),Pm.aM _ _,fun k=>by rw[Pm.bI,Pm.Q7,Pm.tk0];split<;>rfl⟩ ?_ ?_
  ·rintro i σ' H' hi ⟨o4,o5,L,rfl,g,hL,zL,hW⟩;have hi':i<p.length:=by omega
   refine⟨_,rfl,.ref c,r.length,rfl,.inr ⟨_,SqT.of (g _ _ hC),lR.symm⟩,?_⟩;refine⟨(r.length:Int),rfl,(by omega:-(2^62)<=(r.length:Int)),(by omega:(r.length:Int)<2^62),?_⟩;refine gw (lo:=0) (n:=(r.length:Int).toNat) (fun k σ' H'=>∃o5 L,σ'=[some (.int b),some (.ref a),some (.ref c),some (.ref l),some (.int (0+(i:Int))),o5]/\Same H H'/\H' l=some (.lst (L.map V.int))/\L.length=p.length+r.length/\∀j,Pm.co L j=Rm.tk b (Pm.W (Pm.co p) (Pm.co r) i k j))
    ⟨_,L,rfl,g,hL,zL,hW⟩ ?_ ?_
   ·rintro k σ' H2 hk ⟨o5,L,rfl,g,hL,zL,hW⟩;have hk':k<r.length:=by omega
    have lL:(L.map V.int).length=L.length:=List.length_map _;have e1:(0+(i:Int)+(0+(k:Int))).toNat=i+k:=by omega
    have e2:(0+(i:Int)).toNat=i:=by omega
    have e3:(0+(k:Int)).toNat=k:=by omega
    refine⟨_,rfl,_,rfl,_,rfl,_,rfl,_,_,.inl (SqL.of hL),bB (ns:=L) (by omega:(0:Int)<=0+(i:Int)+(0+(k:Int))) (by omega),?_⟩;refine⟨_,rfl,_,rfl,_,_,.inr (SqT.of (g _ _ hA)),bB (ns:=p) (by omega:(0:Int)<=0+(i:Int)) (by omega),?_⟩;refine⟨_,rfl,_,rfl,_,_,.inr (SqT.of (g _ _ hC)),bB (ns:=r) (by omega:(0:Int)<=0+(k:Int)) (by omega),?_⟩;refine⟨qM (Rm.Bd.getD bA _) (Rm.Bd.getD bC _) (by decide),?_⟩;refine⟨b,_,rfl,hb,?_⟩;refine⟨_,rfl,_,rfl,_,rfl,l,_,_,i+k,rfl,rfl,hL,zF (by omega) (by rw[lL];omega),?_⟩;refine⟨_,L.set (i+k) _,rfl,g.upd hl0 _,(by rw[aB,jo]),(by rw[List.length_set];exact zL),fun j=>?_⟩;rw[Pm.sX _ _ _ _ (by omega),Pm.Qz,e1,e2,e3];by_cases ej:j=i+k
    ·have hw:=hW j;rw[if_pos ej,if_pos ej];rw[ej]at hw⊢;rw[<-Rm.bJ b (Pm.W (Pm.co p) (Pm.co r) i k (i+k)),<-hw];rfl
    ·rw[if_neg ej,if_neg ej,Int.add_zero];exact hW j
   ·rintro σ' H2 ⟨o5,L,rfl,g,hL,zL,hW⟩;refine⟨_,_,L,rfl,g,hL,zL,fun k=>?_⟩;rw[hW k,Int.toNat_natCast,Pm.WG fun k hk=>Pm.bD hk]
  ·rintro σ' H' ⟨o4,o5,L,rfl,g,hL,zL,hW⟩;refine⟨_,rfl,l,L,rfl,SqL.of hL,fun t H2 g2 ht=>q t H2 (g.trans g2) ?_⟩;have e:Pm.trim L=Pm.mul b p r:=by
    refine Pm.qG fun k=>?_;rw[hW k,Int.toNat_natCast,Pm.Nf fun k hk=>Pm.bD hk,Pm.bI];split
    ·rfl
    ·rw[<-Pm.mK,Pm.mul,Pm.jk,Pm.bI,if_neg (by assumption)]
   rw[<-e];exact ht
theorem DB(F:Fn K mg "divided" uh ["by","one","other"])(aY:gR P w K mg base)(dD:mX P w K mg base):pW P w K mg base:=by
 refine F.cal gP (fun vs H Q E h=>?_) (fun f cdv A outer s H vs Q E hr h=>?_)
 ·obtain⟨b,a,c,P,M,rfl,_⟩:=h;rfl
 ·obtain⟨b,a,c,P,M,rfl,hb,hb1,hA,hC,zA,zC,hM,nP,bA,bC,q⟩:=h;refine⟨_,(ao (aJ (i:=3) gP.nd rfl (Or.inl rfl) (aL cD (aN (jy K) rfl B.cP boot_len (aK (pv 2) ak)) au))
   (ao (aJ (i:=4) gP.nd rfl (Or.inl rfl) (aL v_mul (jE (gF au ak)) (aN (Ge rfl) rfl B.YQ boot_max (gF au (nQ (aL cD (aN (jy K) rfl B.cP boot_len (aK (pv 1) ak)) (pv 3)) ak)))))
   (ao (aJ (i:=5) gP.nd rfl (Or.inl rfl) (bV (xlist K) rfl B.wg boot_list (aK (pv 1) ak)))
   (ao (n8 PassesOwn.never rfl (FT rfl B.cF (nQ (aL cD (aN (jy K) rfl B.cP boot_len (aK (pv 4) ak)) au) (MJ (Ab sS au) (MJ (Ab sS au) ak)))) (bw (i:=6) gP.nd rfl (Or.inl rfl))
   (ao (aJ (i:=7) gP.nd rfl (Or.inl rfl) (bf (xix K) (pv 5) (aL (iQ K) (pv 6) (pv 3)) (fun _ _=>rfl)))
   (ao (vq (pv 7) (zf (pv 4) (pv 6) set_list))
   (aH (n8 PassesOwn.never rfl (bW rfl B.cF (aF (aN (jy K) rfl B.cP boot_len (aK (pv 2) ak)) ak)) (bw (i:=8) gP.nd rfl (Or.inl rfl))
   (aH (vq (aq aY hr rfl (aK (pv 0) (nQ (aL cD (bf (xix K) (pv 5) (aL (iQ K) (pv 6) (pv 8)) (fun _ _=>rfl)) (aL v_mul (pv 7) (bf (xix K) (pv 2) (pv 8) (fun _ _=>rfl)))) ak))) (zf (pv 5) (aL (iQ K) (pv 6) (pv 8)) set_list))))))))
   (aH (aU (jH (aF (aq dD hr rfl (aK (pv 4) ak)) (aF (aq dD hr rfl (aK (pv 5) ak)) ak))))))))),?_⟩
  have lP:(P.map V.int).length=P.length:=List.length_map _;have lM:(M.map V.int).length=M.length:=List.length_map _;have hMp:=hM.pos;refine⟨_,rfl,.ref c,M.length,rfl,.inr ⟨_,SqT.of hC,lM.symm⟩,_,_,rfl,rfl,?_⟩;refine⟨(by show 1<=sizeLine;decide),fun l0 h0=>?_⟩;have g0:=Same.new h0 (.lst [.int 0]);refine⟨_,rfl,.ref a,P.length,rfl,.inr ⟨_,SqT.of (g0 _ _ hA),lP.symm⟩,_,rfl,_,_,rfl,rfl,_,_,rfl,?_⟩;have en:(if(P.length:Int)-((M.length:Int)-1)>0 then(P.length:Int)-((M.length:Int)-1)else 0).toNat=P.length-(M.length-1):=(max_zero P.length M.length).resolve_right (by omega);refine⟨_,aB,?_,?_,?_,fun lo hlo=>?_⟩
  ·split<;>omega
  ·split<;>omega
  ·rw[en];show 1*(P.length-(M.length-1))<=sizeLine;rw[Nat.one_mul];exact Nat.le_of_lt (bK (by omega))
  rw[en,fR];have acq:H lo=none:=g0.free hlo;have g1:=g0.trans (Same.new hlo (.lst ((Pm.ofF (P.length-(M.length-1)) fun _=>0).map V.int)));have hO0:(upd (upd H l0 (.lst [.int 0])) lo (.lst ((Pm.ofF (P.length-(M.length-1)) fun _=>0).map V.int))) lo=some (.lst ((Pm.ofF (P.length-(M.length-1)) fun _=>0).map V.int)):=aB;generalize upd (upd H l0 (.lst [.int 0])) lo (.lst ((Pm.ofF (P.length-(M.length-1)) fun _=>0).map V.int))=H1 at g1 hO0;refine⟨_,rfl,a,_,rfl,.inr (SqT.of (g1 _ _ hA)),fun ll hll=>?_⟩;have acg:H ll=none:=g1.free hll;have hne:lo≠ll:=fO hO0 hll;have gll:=Same.new hll (.lst (P.map V.int));have g2:=g1.trans gll;have hO2:=gll _ _ hO0;have hL2:(upd H1 ll (.lst (P.map V.int))) ll=some (.lst (P.map V.int)):=aB;generalize upd H1 ll (.lst (P.map V.int))=H2 at gll g2 hO2 hL2;generalize hn:P.length-(M.length-1)=n at hO2;refine⟨_,rfl,.ref lo,n,rfl,.inl ⟨_,SqL.of hO2,by rw[List.length_map,Pm.aM]⟩,_,_,rfl,rfl,_,rfl,_,rfl,(n:Int)-1,-1,rfl,⟨by omega,by omega,by omega,by omega⟩,?_⟩;refine Kd (lo:=(n:Int)-1) (n:=((n:Int)-1-(-1)).toNat) (fun i σ' H'=>∃o6 o7 o8 O L,σ'=[some (.int b),some (.ref a),some (.ref c),some (.int ((M.length:Int)-1)),some (.ref lo),some (.ref ll),o6,o7,o8]/\Same H H'/\H' lo=some (.lst (List.map V.int O))/\H' ll=some (.lst (List.map V.int L))/\Pm.HW b P M (n-i) O L/\(∀k,Rm.Bd (300000+i*124001) (Pm.co O k))/\∀k,Rm.Bd (300000+i*124001) (Pm.co L k))
   ⟨_,_,_,_,P,rfl,g2,hO2,hL2,(by rw[Nat.sub_zero,<-hn];exact Pm.HW.start nP),fun k=>by rw[Pm.bI];split<;>exact Rm.Bd.zero _,fun k=>(Pm.ju bA k).mono (by omega)⟩ ?_ ?_
  ·rintro i σ' H' hi ⟨o6,o7,o8,O,L,rfl,g,hO,hL,I,bO,bL⟩;have hi':i<n:=by omega
   have hs:n-i=n-(i+1)+1:=by omega
   rw[hs]at I;generalize es:n-(i+1)=s at I;have esI:(n:Int)-1-(i:Int)=(s:Int):=by omega
   rw[esI];have hlL:=I.ll;have hlO:=I.ol;have lO:(O.map V.int).length=O.length:=List.length_map _;have e1:((s:Int)+((M.length:Int)-1)).toNat=s+(M.length-1):=by omega
   refine⟨_,rfl,_,rfl,_,rfl,_,_,.inl (SqL.of hL),bB (ns:=L) (by omega:(0:Int)<=(s:Int)+((M.length:Int)-1)) (by omega),?_⟩;rw[e1];have hF:Rm.Bd (300000+i*124001) (L.getD (s+(M.length-1)) 0):=bL _;have eF:L.getD (s+(M.length-1)) 0=Pm.co L (s+(M.length-1)):=rfl;rw[eF]at hF⊢;generalize hf:Pm.co L (s+(M.length-1))=f at hF;refine⟨_,rfl,_,rfl,_,rfl,lo,_,_,s,rfl,rfl,hO,zF rfl (by rw[lO];omega),?_⟩;have hO3:(upd H' lo (.lst ((O.map V.int).set s (.int f)))) lo=some (.lst ((O.set s f).map V.int)):=by rw[aB,jo]
   have hL3:(upd H' lo (.lst ((O.map V.int).set s (.int f)))) ll=some (.lst (L.map V.int)):=by rw[cM hne.symm];exact hL
   have g3:=g.upd acq (.lst ((O.map V.int).set s (.int f)));generalize upd H' lo (.lst ((O.map V.int).set s (.int f)))=H3 at hO3 hL3 g3;refine⟨_,rfl,.ref c,M.length,rfl,.inr ⟨_,SqT.of (g3 _ _ hC),lM.symm⟩,?_⟩;refine⟨(M.length:Int),rfl,(by omega:-(2^62)<=(M.length:Int)),(by omega:(M.length:Int)<2^62),?_⟩;refine gw (lo:=0) (n:=(M.length:Int).toNat) (fun t σ' H'=>∃o8 L',σ'=[some (.int b),some (.ref a),some (.ref c),some (.int ((M.length:Int)-1)),some (.ref lo),some (.ref ll),some (.int (s:Int)),some (.int f),o8]/\Same H H'/\H' lo=some (.lst ((O.set s f).map V.int))/\H' ll=some (.lst (List.map V.int L'))/\L'.length=L.length/\∀k,Pm.co L' k=Pm.lf b f s t L M k)
    ⟨_,L,rfl,g3,hO3,hL3,rfl,fun k=>(Pm.PD ..).symm⟩ ?_ ?_
   ·rintro t σ' H4 ht ⟨o8,L',rfl,g4,hO4,hL4,zL',eL'⟩;have ht':t<M.length:=by omega
    have lL':(L'.map V.int).length=L'.length:=List.length_map _;have e2:((s:Int)+(0+(t:Int))).toNat=s+t:=by omega
    have e3:(0+(t:Int)).toNat=t:=by omega
    refine⟨_,rfl,_,rfl,_,rfl,_,rfl,_,_,.inl (SqL.of hL4),bB (ns:=L') (by omega:(0:Int)<=(s:Int)+(0+(t:Int))) (by omega),?_⟩;refine⟨_,rfl,_,rfl,_,rfl,_,_,.inr (SqT.of (g4 _ _ hC)),bB (ns:=M) (by omega:(0:Int)<=0+(t:Int)) (by omega),?_⟩;refine⟨qM hF (Rm.Bd.getD bC _) (by have:i*124001<=40*124001:=Nat.mul_le_mul_right _ (by omega);omega),_,_,rfl,rfl,?_⟩;refine⟨b,_,rfl,hb,?_⟩;refine⟨_,rfl,_,rfl,_,rfl,ll,_,_,s+t,rfl,rfl,hL4,zF (by omega) (by rw[lL'];omega),?_⟩;refine⟨_,L'.set (s+t) _,rfl,g4.upd acg _,(by rw[cM hne];exact hO4),(by rw[aB,jo]),(by rw[List.length_set];exact zL'),fun k=>?_⟩;rw[Pm.sX _ _ _ _ (by omega),Pm.M9,e2,e3,<-eL' k];by_cases ek:k=s+t
    ·rw[if_pos ek,if_pos ek,ek];rfl
    ·rw[if_neg ek,if_neg ek]
   ·rintro σ' H4 ⟨o8,L',rfl,g4,hO4,hL4,zL',eL'⟩;rw[Int.toNat_natCast]at eL';refine⟨_,_,_,O.set s f,L',rfl,g4,hO4,hL4,?_,fun k=>?_,fun k=>?_⟩
    ·rw[<-hf];rw[<-hf]at eL';exact I.step hM (by omega) zL' eL'
    ·rw[Pm.sX _ _ _ _ (by omega)];split
     ·exact hF.mono (by omega)
     ·exact(bO k).mono (by omega)
    ·rw[eL' k];exact(Pm.QC hb hb1 (by omega) hF bL bC k).mono (by omega)
  ·rintro σ' H' ⟨o6,o7,o8,O,L,rfl,g,hO,hL,I,bO,bL⟩;have e9:((n:Int)-1-(-1)).toNat=n:=by omega
   rw[e9]at I bO bL;rw[Nat.sub_self]at I;refine⟨_,rfl,lo,O,rfl,SqL.of hO,fun t1 H3 g3 h3=>?_⟩;refine⟨_,rfl,ll,L,rfl,SqL.of (g3 _ _ hL),fun t2 H4 g4 h4=>?_⟩;refine⟨(by show 2<=sizeLine;decide),fun t ht=>?_⟩;have gt:=Same.new ht (.tup [.ref t1,.ref t2]);have hz:300000+n*124001<=5300000:=by have:n*124001<=40*124001:=Nat.mul_le_mul_right _ (by omega);omega
   refine q t t1 t2 (Pm.trim O) (Pm.trim L) _ (g.trans (g3.trans (g4.trans gt))) aB (gt _ _ (g4 _ _ h3)) (gt _ _ h4) (I.stop hM) (fun z hz'=>(Hj bO z hz').mono hz) (fun z hz'=>(Hj bL z hz').mono hz) ?_;have:=Pm.fL O;have:=I.ol;omega
theorem JD(F:Fn K mg "monic" BX ["prime","poly"])(wA:Hz P w K mg base):Gy P w K mg base:=by
 refine F.cal Dj (fun vs H Q E h=>?_) (fun f cdv A outer s H vs Q E hr h=>?_)
 ·obtain⟨P,a,p,rfl,_⟩:=h;rfl
 ·obtain⟨P',a,p,rfl,hP,hPb,hA,zA,pP,q⟩:=h;refine⟨_,(ao (jq (cg (xeq K hr) (aN (jy K) rfl B.cP boot_len (aK (pv 1) ak)) au (cB _))
   (aH (aU (jH ak)))
   cW)
   (ao (aJ (i:=2) Dj.nd rfl (Or.inr rfl) (bf (xix K) (pv 1) (aL cD (aN (jy K) rfl B.cP boot_len (aK (pv 1) ak)) au) (fun _ _=>rfl)))
   (aH (aU (bV (j7 K) rfl B.ig boot_tuple (aF (dz (sc:=Ib) (N:=["number","last","prime"]) (ix:=[none,some 2,some 0]) cT rfl (MX K (pv 1)) (fun cl C s₀ H₀ ex=>⟨(bw (i:=0) jB rfl (Or.inl rfl)),cV,(aq wA hr rfl (aK (pv 2) (aK (pv 0) (aK (pv 1) ak))))⟩)) ak)))))),?_⟩
  have hr2:2<=P'/\P'<2097152:=⟨hP.1,hPb⟩;have lP:(p.map V.int).length=p.length:=List.length_map _;refine⟨_,rfl,.ref a,p.length,rfl,.inr ⟨_,SqT.of hA,lP.symm⟩,_,rfl,?_⟩;refine qJ (fun c=>?_) (fun c=>?_)
  ·have c':(p.length:Int)=0:=dec_true c;have e:p=[]:=List.eq_nil_of_length_eq_zero (by omega);subst e;exact⟨Nat.zero_le _,fun t ht=>q t [] _ (Same.new ht _) aB (Pm.yp.nil _)⟩
  ·have c':¬(p.length:Int)=0:=dec_false c;have hn:p≠[]:=fun e=>c' (by rw[e];rfl);have hpos:0<p.length:=by omega
   have e1:((p.length:Int)-1).toNat=p.length-1:=by omega
   refine⟨_,rfl,_,rfl,.ref a,p.length,rfl,.inr ⟨_,SqT.of hA,lP.symm⟩,_,_,rfl,rfl,_,_,.inr (SqT.of hA),bB (ns:=p) (by omega:(0:Int)<=(p.length:Int)-1) (by omega),?_⟩;rw[e1];have l0:=Pm.vm hn pP.tr;have l1:=pP.co (p.length-1);rw[Rm.iG (by omega)]at l1;have r0:0<=Pm.co p (p.length-1):=by rw[<-l1];exact Int.emod_nonneg _ (by omega)
   have r1:Pm.co p (p.length-1)<(P':Int):=by rw[<-l1];exact Int.emod_lt_of_pos _ (by omega)
   refine⟨_,rfl,a,rfl,.inr ⟨⟨_,SqT.of hA⟩,wI hA (by omega) rfl (fun x=>x*(Pm.co p (p.length-1))^(P'-2)%(P':Int)) ?_ ?_⟩⟩
   ·intro H2 x g2 hx k hk;exact⟨_,rfl,_,rfl,_,rfl,P',x,_,rfl,hP,hPb,by show 0<Pm.co p (p.length-1);omega,r1,hk⟩
   ·intro D hD;refine⟨D,_,rfl,.inl ⟨SqL.of aB,fun t ht=>?_⟩⟩;exact q t (Pm.iH P' p) _ ((Same.new hD _).trans (Same.new ht _)) aB (Pm.GY hP pP hn)
theorem Bg(F:Fn K mg "greatest" rW ["by","one","other"])(uN:Gy P w K mg base)(fZ:pW P w K mg base):qQ P w K mg base:=by
 refine F.cal gZ (fun vs H Q E h=>?_) (fun f cdv A outer s H vs Q E hr h=>?_)
 ·obtain⟨P,a,c,p,r,rfl,_⟩:=h;rfl
 ·obtain⟨P',a,c,p,r,rfl,hP,hPb,hA,hC,zA,zC,pP,pR,hne,q⟩:=h;refine⟨_,(ao (aJ (i:=3) gZ.nd rfl (Or.inl rfl) (aq uN hr rfl (aK (pv 0) (aK (pv 1) ak))))
   (ao (aJ (i:=4) gZ.nd rfl (Or.inl rfl) (aq uN hr rfl (aK (pv 0) (aK (pv 2) ak))))
   (ao (jF PassesOwn.never (cg wM (aN (jy K) rfl B.cP boot_len (aK (pv 4) ak)) au (cB _))
   (ao (aJ (i:=5) gZ.nd rfl (Or.inl rfl) (bf (xix K) (aq fZ hr rfl (aK (pv 0) (aK (pv 3) (aK (pv 4) ak)))) au (fun _ _=>rfl)))
   (ao (aJ (i:=3) gZ.nd rfl (Or.inl rfl) (pv 4))
   (aH (aJ (i:=4) gZ.nd rfl (Or.inl rfl) (aq uN hr rfl (aK (pv 0) (aK (pv 5) ak))))))))
   (aH (aU (pv 3)))))),?_⟩
  have hr2:2<=P'/\P'<2097152:=⟨hP.1,hPb⟩;refine⟨_,rfl,_,rfl,P',a,p,rfl,hP,hPb,hA,by omega,pP,fun tg g0 H1 g1 hG mG=>?_⟩;refine⟨_,rfl,_,rfl,P',c,r,rfl,hP,hPb,g1 _ _ hC,by omega,pR,fun ts s0 H2 g2 hS' mS=>?_⟩;have lg0:=mG.len;have ls0:=mS.len;refine⟨fun m σ' H'=>∃(o5:Option V) (tg ts:Addr) (g s:List Int),m=s.length/\σ'=[some (.int P'),some (.ref a),some (.ref c),some (.ref tg),some (.ref ts),o5]/\Same H H'/\H' tg=some (.tup (g.map V.int))/\H' ts=some (.tup (s.map V.int))/\Pm.JR P' p r g s/\g.length<=max p.length r.length/\s.length<=max p.length r.length,
   ⟨_,_,tg,ts,g0,s0,rfl,rfl,g1.trans g2,g2 _ _ hG,hS',Pm.JR.start mG mS hne,by omega,by omega⟩,?_⟩
  rintro m σ' H' ⟨o5,tg,ts,gg,ss,rfl,rfl,g,hG,hS',I,zg,zs⟩;have lS:(ss.map V.int).length=ss.length:=List.length_map _;refine⟨_,rfl,.ref ts,ss.length,rfl,.inr ⟨_,SqT.of hS',lS.symm⟩,_,_,rfl,rfl,_,rfl,?_⟩;refine qJ (fun cc=>?_) (fun cc=>?_)
  ·have hs:ss≠[]:=fun e=>by have:=dec_true cc;rw[e]at this;simp at this
   have hMs:=I.sm_ hs;refine⟨_,fun _ _ z=>z,?_⟩;refine⟨_,rfl,_,rfl,_,rfl,P',tg,ts,gg,ss,rfl,by omega,by omega,hG,hS',by omega,by omega,hMs,I.gy.co,(fun x hx=>(PB hr2.1 hr2.2 I.gy x hx).mono (by decide)),PB hr2.1 hr2.2 I.sy,fun t x y o l H3 g3 hT hX hY D _ _ _=>?_⟩;refine⟨_,_,.inr (SqT.of hT),rfl,?_⟩;refine⟨_,rfl,?_⟩;have hsh:=D.short;refine⟨_,rfl,_,rfl,P',y,l,rfl,hP,hPb,hY,by omega,D.ry,fun tm m H4 g4 hM mM=>?_⟩;have lm:=mM.len;exact⟨m.length,by omega,_,ts,tm,ss,m,rfl,rfl,g.trans (g3.trans g4),(g3.trans g4) _ _ hS',hM,I.step hs D mM,zs,by omega⟩
  ·have hs:ss=[]:=List.eq_nil_of_length_eq_zero (by have:=dec_false cc;omega);refine⟨_,rfl,?_⟩;exact q tg gg H' g hG (I.stop hs) zg
theorem DY(F:Fn K mg "nearest" vA ["modulus","number"]):uQ P w K mg base:=by
 refine F.cal vR (fun vs H Q E h=>?_) (fun f cdv A outer s H vs Q E hr h=>?_)
 ·obtain⟨M,x,rfl,_⟩:=h;rfl
 ·obtain⟨M,x,rfl,hM,q⟩:=h;refine⟨_,(ao (aJ (i:=2) vR.nd rfl (Or.inl rfl) (aL fW (pv 1) (pv 0)))
   (aH (aU (wX (cg wM (aL v_mul au (pv 2)) (pv 0) (cB _)) (aL cD (pv 2) (pv 0)) (pv 2))))),?_⟩
  refine⟨_,rfl,_,rfl,_,_,rfl,rfl,hM,?_⟩;refine⟨_,rfl,mulL (by decide) (by decide),_,rfl,_,_,rfl,rfl,_,rfl,?_⟩;refine qJ (fun c=>?_) (fun c=>?_)
  ·have c':2*(x%M)>M:=dec_true c;refine⟨_,rfl,_,rfl,_,_,rfl,rfl,?_⟩;have e:Pm.nr M x=x%M-M:=if_pos c';rw[e]at q;exact q
  ·have c':¬2*(x%M)>M:=dec_false c;refine⟨_,rfl,?_⟩;have e:Pm.nr M x=x%M:=if_neg c';rw[e]at q;exact q
theorem Jc(F:Fn K mg "joined" yg ["modulus","number","prime","rest"])(wA:Hz P w K mg base)(aY:gR P w K mg base)(j6:uQ P w K mg base):CN P w K mg base:=by
 refine F.cal yG (fun vs H Q E h=>?_) (fun f cdv A outer s H vs Q E hr h=>?_)
 ·obtain⟨M,t,p,s,rfl,_⟩:=h;rfl
 ·obtain⟨M,t,p,s',rfl,hp,hpb,hM,hpM,q⟩:=h;refine⟨_,(ao (aJ (i:=4) yG.nd rfl (Or.inl rfl) (aq wA hr rfl (aK (pv 2) (aF (aq aY hr rfl (aK (pv 2) (nQ (aL cD (pv 3) (pv 1)) ak))) (aF (aq aY hr rfl (aK (pv 2) (aK (pv 0) ak))) ak)))))
   (aH (aU (aq j6 hr rfl (nQ (aL v_mul (pv 0) (pv 2)) (nQ (aL (iQ K) (pv 1) (aL v_mul (pv 0) (pv 4))) ak)))))),?_⟩
  have h2:=hp.1;have hp0:(p:Int)≠0:=by omega
  have r0:=Int.emod_nonneg M hp0;have r1:=Int.emod_lt_of_pos M (show(0:Int)<p by omega);have rn:M%(p:Int)≠0:=fun z=>hpM (Int.dvd_of_emod_eq_zero z);have et:Rm.tk (p:Int) M=M%(p:Int):=Rm.iG hp0 M;refine⟨_,rfl,_,rfl,_,rfl,_,rfl,_,_,rfl,rfl,p,_,rfl,by omega,?_⟩;refine⟨_,rfl,_,rfl,p,M,rfl,by omega,?_⟩;refine⟨p,_,_,rfl,hp,hpb,by rw[et];omega,by rw[et];exact r1,?_⟩;have hw:=Pm.Ke (M:=M) (t:=t) (s:=s') hp;refine⟨_,rfl,_,rfl,mulR (by omega) (by omega),?_⟩;refine⟨_,rfl,_,rfl,_,rfl,mulR (by show -(2^64)<Pm.jw M t p s';omega) (by show Pm.jw M t p s'<2^64;omega),?_⟩;exact⟨_,_,rfl,Int.mul_pos hM (by omega),q⟩
theorem xM(F:Fn K mg "taken_poly" mY ["prime","poly"])(dD:mX P w K mg base)(aY:gR P w K mg base):sY P w K mg base:=by
 refine F.cal xq (fun vs H Q E h=>?_) (fun f cdv A outer s H vs Q E hr h=>?_)
 ·obtain⟨p,a,P,rfl,_⟩:=h;rfl
 ·obtain⟨p,a,P',rfl,hp,hA,zA,q⟩:=h;refine⟨_,(aH (aU (aq dD hr rfl (aF (dz (sc:=vH) (N:=["number","prime"]) (ix:=[none,some 0]) cT rfl (MX K (pv 1)) (fun cl C s₀ H₀ ex=>⟨(bw (i:=0) jB rfl (Or.inl rfl)),cV,(aq aY hr rfl (aK (pv 1) (aK (pv 0) ak)))⟩)) ak)))),?_⟩;refine⟨_,rfl,a,rfl,.inr ⟨⟨_,SqT.of hA⟩,wI hA (by omega) rfl (fun x=>Rm.tk p x) ?_ ?_⟩⟩
  ·intro H2 x g2 hx k hk;exact⟨_,rfl,_,rfl,p,x,rfl,by omega,hk⟩
  ·intro D hD;refine⟨D,_,rfl,SqL.of aB,fun t1 H3 g3 h3=>?_⟩;exact q t1 H3 ((Same.new hD _).trans g3) h3
theorem D9(F:Fn K mg "divides" uo ["monic_one","poly"])(fZ:pW P w K mg base):yI P w K mg base:=by
 refine F.cal D5 (fun vs H Q E h=>?_) (fun f cdv A outer s H vs Q E hr h=>?_)
 ·obtain⟨m,a,M,P,rfl,_⟩:=h;rfl
 ·obtain⟨m,a,M,P',rfl,hMm,hA,zM,zP,hM,bM,bP,q⟩:=h;refine⟨_,(aH (aU (mW (xeq K hr) (bf (xix K) (aq fZ hr rfl (gF au (aK (pv 1) (aK (pv 0) ak)))) au (fun _ _=>rfl)) (jH ak) (cB _)))),?_⟩;refine⟨_,rfl,_,rfl,0,a,m,P',M,rfl,by decide,by decide,hA,hMm,zP,zM,hM,fun k=>Rm.bH _,bP,bM,fun t x y o l H3 g3 hT hX hY D _ _ _=>?_⟩;refine⟨_,_,.inr (SqT.of hT),rfl,?_⟩;refine⟨Nat.zero_le _,fun t0 ht0=>?_⟩;have g4:=Same.new ht0 (.tup []);refine abx (ns:=l) (ms:=[]) (SqT.of (g4 _ _ hY)) (SqT.of aB) ?_;exact q _ _ (g3.trans g4) (by show decide (l=[])=true↔_;rw[decide_eq_true_iff];exact D.dv hM)
theorem qN(F:Fn K mg "whole_greatest" iT ["one","other"])(pX:yI P w K mg base)(kY:qC P w K mg base)(jh:qQ P w K mg base)(jD:sY P w K mg base)(j6:uQ P w K mg base)(yq:CN P w K mg base):lZ P w K mg base:=by
 refine F.cal aR (fun vs H Q E h=>?_) (fun f cdv A outer s H vs Q E hr h=>?_)
 ·obtain⟨a,c,P,t,g,N,U,V',rfl,_⟩:=h;rfl
 ·obtain⟨a,c,P',t,g,N,U,V',rfl,hA,hC,zP,zt,hP,bP,bt,G,hV,hU,hUV,q⟩:=h;refine⟨_,(ao (aJ (i:=2) aR.nd rfl (Or.inl rfl) (pv 0))
   (ao (aJ (i:=3) aR.nd rfl (Or.inr rfl) au)
   (ao (aJ (i:=4) aR.nd rfl (Or.inr rfl) (tW rfl B.cY))
   (ao (aJ (i:=5) aR.nd rfl (Or.inl rfl) rN)
   (ao (jF PassesOwn.never (PW.pt (Hw (mC (mj (pv 5))) (Hw (mC (mj (aq pX hr rfl (aK (pv 2) (aK (pv 0) ak))))) (MG (mC (mj (aq pX hr rfl (aK (pv 2) (aK (pv 1) ak)))))))))
   (ao (aJ (i:=4) aR.nd rfl (Or.inr rfl) (aq kY hr rfl (aK (pv 4) ak)))
   (ao (aJ (i:=6) aR.nd rfl (Or.inr rfl) (aq jh hr rfl (aK (pv 4) (aF (aq jD hr rfl (aK (pv 4) (aK (pv 0) ak))) (aF (aq jD hr rfl (aK (pv 4) (aK (pv 1) ak))) ak)))))
   (aH (jq (cg zx (aN (jy K) rfl B.cP boot_len (aK (pv 6) ak)) (aN (jy K) rfl B.cP boot_len (aK (pv 2) ak)) (cB _))
   (ao (aJ (i:=2) aR.nd rfl (Or.inl rfl) (bV (j7 K) rfl B.ig boot_tuple (aF (dz (sc:=qH) (N:=["rest","prime"]) (ix:=[none,some 4]) cT rfl (MX K (pv 6)) (fun cl C s₀ H₀ ex=>⟨(bw (i:=0) jB rfl (Or.inl rfl)),cV,(aq j6 hr rfl (aK (pv 1) (aK (pv 0) ak)))⟩)) ak)))
   (ao (aJ (i:=3) aR.nd rfl (Or.inr rfl) (pv 4))
   (aH (aJ (i:=5) aR.nd rfl (Or.inl rfl) rN))))
   (aH (zZ (jq (cg (xeq K hr) (aN (jy K) rfl B.cP boot_len (aK (pv 6) ak)) (aN (jy K) rfl B.cP boot_len (aK (pv 2) ak)) (cB _))
   (ao (aJ (i:=7) aR.nd rfl (Or.inr rfl) (pv 2))
   (ao (aJ (i:=2) aR.nd rfl (Or.inl rfl) (bV (j7 K) rfl B.ig boot_tuple (aF (dz (sc:=pZ) (N:=["k","before","modulus","prime","seen"]) (ix:=[none,some 7,some 3,some 4,some 6]) cT rfl (bW rfl B.cF (aF (aN (jy K) rfl B.cP boot_len (aK (pv 6) ak)) ak)) (fun cl C s₀ H₀ ex=>⟨(bw (i:=0) jB rfl (Or.inl rfl)),cV,(aq yq hr rfl (aK (pv 2) (aF (bf (xix K) (pv 1) (pv 0) (fun _ _=>rfl)) (aK (pv 3) (aF (bf (xix K) (pv 4) (pv 0) (fun _ _=>rfl)) ak)))))⟩)) ak)))
   (ao (aJ (i:=3) aR.nd rfl (Or.inr rfl) (aL v_mul (pv 3) (pv 4)))
   (aH (aJ (i:=5) aR.nd rfl (Or.inl rfl) (mW (xeq K hr) (pv 2) (pv 7) (cB _)))))))
   cW))))))))
   (aH (aU (pv 2)))))))),?_⟩
  have hgP:g.length<=P'.length:=G.one.len rfl G.mon hP;refine⟨_,rfl,?_⟩;refine⟨Q5 H a c P' g N,⟨_,_,_,a,P',1,1000000,true,0,0,rfl,rfl,Same.refl _,hA,Pm.WgI.start hP hgP _,Om.many,by omega,by omega⟩,?_⟩;rintro m σ' H' ⟨o6,o7,tt,told,M,prime,ripe,bad,good,rfl,rfl,gg,hT,I,RM,hbig,acX⟩;have bT:=Zr I bP acX;have zT:=I.le;refine⟨_,rfl,ripe,rfl,?_⟩;refine qJ (fun cr=>?b1) (fun cr=>?n1)
  case' b1=>
   have hne:¬(ripe=true/\told=g):=fun z=>by rw[z.1]at cr;exact absurd cr (by decide)
   have gx:=gg;have hTx:=hT;generalize H'=Hx at gx hTx⊢
  case' n1=>
   refine⟨_,rfl,_,rfl,tt,a,told,P',rfl,hT,gg _ _ hA,by omega,zP,I.mon,bT,(fun x hx=>(bP x hx).mono (by decide)),fun b1 H1 g1 e1=>?_⟩;refine⟨b1,rfl,?_⟩;refine qJ (fun c1=>?b2) (fun c1=>?n2)
  case' b2=>
   have hne:¬(ripe=true/\told=g):=fun z=>by
    have:b1=true:=e1.mpr (by rw[z.2];exact G.one);rw[this]at c1;exact absurd c1 (by decide)
   have gx:=gg.trans g1;have hTx:=g1 _ _ hT;generalize H1=Hx at gx hTx⊢
  case' n2=>
   refine⟨_,rfl,_,rfl,tt,c,told,t,rfl,g1 _ _ hT,(gg.trans g1) _ _ hC,by omega,zt,I.mon,bT,bt,fun b2 H2 g2 e2=>?_⟩;refine⟨b2,rfl,?_⟩;refine qJ (fun c2=>?b3) (fun c2=>?n3)
  case n3=>
   have hb1:b1=true:=by cases b1<;>first|rfl|exact absurd rfl c1
   have hb2:b2=true:=by cases b2<;>first|rfl|exact absurd rfl c2
   have e:=G.told I.mon (e1.mp hb1) (e2.mp hb2) I.ge;subst e;refine⟨_,rfl,?_⟩;exact q tt H2 (gg.trans (g1.trans g2)) ((g1.trans g2) _ _ hT)
  case' b3=>
   have hne:¬(ripe=true/\told=g):=fun z=>by
    have:b2=true:=e2.mpr (by rw[z.2];exact G.two);rw[this]at c2;exact absurd c2 (by decide)
   have gx:=gg.trans (g1.trans g2);have hTx:=(g1.trans g2) _ _ hT;generalize H2=Hx at gx hTx⊢
  all_goals
   have hfew:=I.few G.ne hV hU hne;obtain⟨k,hk'⟩:∃k,6000-(bad+good)=k+1:=⟨6000-(bad+good)-1,by omega⟩;rw[hk']at RM;obtain⟨q0,hq0,adF,adU,hnext⟩:=RM.next;refine⟨_,fun _ _ z=>z,?_⟩;refine⟨_,rfl,prime,q0,rfl,hq0,adF,by omega,fun p hp hlt hle=>?_⟩;have hN:=hnext p hle;refine⟨_,rfl,_,rfl,_,rfl,p,a,P',rfl,by omega,gx _ _ hA,by omega,fun t1 H3 g3 h3=>?_⟩;refine⟨_,rfl,_,rfl,p,c,t,rfl,by omega,(gx.trans g3) _ _ hC,by omega,fun t2 H4 g4 h4=>?_⟩;have l1:=FD p P';have l2:=FD p t;refine⟨p,t1,t2,_,_,rfl,hp,by omega,g4 _ _ h3,h4,by omega,by omega,MB p P',MB p t,fun _=>QY hp hP,fun ts s' H5 g5 hS hG hsl=>?_⟩;have sn:=G.seen hp (HL p P') (HL p t) hG;have lS:(s'.map V.int).length=s'.length:=List.length_map _;have lT:(told.map V.int).length=told.length:=List.length_map _;have gy:=gx.trans (g3.trans (g4.trans g5));have hTy:=(g3.trans (g4.trans g5)) _ _ hTx;refine⟨_,rfl,.ref ts,s'.length,rfl,.inr ⟨_,SqT.of hS,lS.symm⟩,_,rfl,.ref tt,told.length,rfl,.inr ⟨_,SqT.of hTy,lT.symm⟩,_,_,rfl,rfl,_,rfl,?_⟩;refine qJ (fun d1=>?_) (fun d1=>?_)
   ·have d1':(s'.length:Int)<told.length:=dec_true d1;refine⟨_,rfl,ts,rfl,.inr ⟨⟨_,SqT.of hS⟩,wI hS (by omega) rfl (fun x=>Pm.nr p x) ?_ ?_⟩⟩
    ·intro H6 x g6 hx kk hk;exact⟨_,rfl,_,rfl,p,x,rfl,by omega,hk⟩
    ·intro D hD;refine⟨D,_,rfl,.inl ⟨SqL.of aB,fun tn ht=>?_⟩⟩;obtain⟨ED,vh,hbg,I'⟩:=I.anew hp hlt (by omega) (by omega) sn (by omega);refine⟨_,rfl,?_⟩;exact⟨6000-(ED+vh),by omega,_,_,tn,s'.map (Pm.nr p),p,p,true,ED,vh,rfl,rfl,gy.trans ((Same.new hD _).trans (Same.new ht _)),aB,I',(by rw[hbg,show 6000-(bad+good+1)=k by omega];exact hN),by omega,by omega⟩
   ·have d1':¬(s'.length:Int)<told.length:=dec_false d1;refine Lh.by (fun σ' H2=>∃m',m'<6000-(bad+good)/\Q5 H a c P' g N m' σ' H2) (fun N0 hN0=>?_) (fun σ' H2 z=>z);refine⟨_,rfl,.ref ts,s'.length,rfl,.inr ⟨_,SqT.of hS,lS.symm⟩,_,rfl,.ref tt,told.length,rfl,.inr ⟨_,SqT.of hTy,lT.symm⟩,_,rfl,?_⟩;refine qJ (fun d2=>?_) (fun d2=>?_)
    ·have d2':(s'.length:Int)=told.length:=dec_true d2;have hl:s'.length=told.length:=by omega
     have hpM:¬(p:Int)∣M:=fun z=>by have:=I.div p hp z;omega
     refine⟨_,rfl,?_⟩;refine⟨_,rfl,.ref ts,s'.length,rfl,.inr ⟨_,SqT.of hS,lS.symm⟩,?_⟩;refine⟨(s'.length:Int),rfl,(by omega:-(2^62)<=(s'.length:Int)),(by omega:(s'.length:Int)<2^62),?_⟩;rw[Int.toNat_natCast];refine ud (n:=s'.length) (by omega) rfl (fun k=>Pm.jn M (told.getD k 0) p (s'.getD k 0)) ?_ ?_
     ·intro H6 k6 g6 hk6 kk hk;have e1:(0+(k6:Int)).toNat=k6:=by omega
      refine⟨_,rfl,_,rfl,_,rfl,_,_,.inr (SqT.of (g6 _ _ hTy)),bB (ns:=told) (by omega:(0:Int)<=0+(k6:Int)) (by omega),?_⟩;refine⟨_,rfl,_,rfl,_,rfl,_,_,.inr (SqT.of (g6 _ _ hS)),bB (ns:=s') (by omega:(0:Int)<=0+(k6:Int)) (by omega),?_⟩;rw[e1];exact⟨M,_,p,_,rfl,hp,by omega,I.pos,hpM,hk⟩
     ·intro D hD;refine⟨D,_,rfl,.inl ⟨SqL.of aB,fun tn ht=>?_⟩⟩;have gn:=(Same.new hD (.lst ((Pm.ofF s'.length fun k=>Pm.jn M (told.getD k 0) p (s'.getD k 0)).map V.int))).trans (Same.new ht (.tup ((Pm.ofF s'.length fun k=>Pm.jn M (told.getD k 0) p (s'.getD k 0)).map V.int)));refine⟨_,rfl,_,rfl,mulR (by omega) (by omega),?_⟩;refine⟨_,rfl,_,rfl,?_⟩;refine abx (ns:=Pm.ofF s'.length fun k=>Pm.jn M (told.getD k 0) p (s'.getD k 0)) (ms:=told) (SqT.of aB) (SqT.of (gn _ _ hTy)) ?_;obtain⟨ED,vh,hbg,I'⟩:=I.join (mD:=Pm.ofF s'.length fun k=>Pm.jn M (told.getD k 0) p (s'.getD k 0)) (OV:=decide ((Pm.ofF s'.length fun k=>Pm.jn M (told.getD k 0) p (s'.getD k 0))=told)) hp hlt (by omega) (by omega) sn hl (by rw[Pm.aM];exact hl) (fun k6 hk6=>⟨Pm.jw M (told.getD k6 0) p (s'.getD k6 0),Pm.Zd hp hpM,by rw[Pm.bI,if_pos (by omega)];rfl⟩) (decide_eq_true_iff);exact hN0 _ _ ⟨6000-(ED+vh),by omega,_,_,tn,_,M*p,p,_,ED,vh,rfl,rfl,gy.trans gn,aB,I',(by rw[hbg,show 6000-(bad+good+1)=k by omega];exact hN),by omega,by omega⟩
    ·have d2':¬(s'.length:Int)=told.length:=dec_false d2;have I':=I.stay hp hlt (by omega) sn (by omega);exact hN0 _ _ ⟨6000-(bad+1+good),by omega,_,_,tt,told,M,p,ripe,bad+1,good,rfl,rfl,gy,hTy,I',(by rw[show 6000-(bad+1+good)=k by omega];exact hN),by omega,by omega⟩
theorem D8(F:Fn K mg "of_rule" uf ["by","rule"])(aY:gR P w K mg base):qg P w K mg base:=by
 refine F.cal rB (fun vs H Q E h=>?_) (fun f cdv A outer s H vs Q E hr h=>?_)
 ·obtain⟨b,a,c,rfl,_⟩:=h;rfl
 ·obtain⟨b,a,c,rfl,hb,hA,zA,q⟩:=h;refine⟨_,(ao (aJ (i:=2) rB.nd rfl (Or.inr rfl) (aN (jy K) rfl B.cP boot_len (aK (pv 1) ak)))
   (ao (IZ (i:=3) (hN:=rB.nd) (hi':=rfl) (hx:=(Or.inl rfl)) (sc:=BP) (N:=["k","by","length","rule"]) (ix:=[none,some 0,some 2,some 1]) cT rfl (bW rfl B.cF (aK (pv 2) ak)) (fun cl C s₀ H₀ ex=>⟨(bw (i:=0) jB rfl (Or.inl rfl)),cV,(aq aY hr rfl (aK (pv 1) (nQ (aL cD au (bf (xix K) (pv 3) (aL cD (aL cD (pv 2) au) (pv 0)) (fun _ _=>rfl))) ak)))⟩))
   (aH (aU (bV (j7 K) rfl B.ig boot_tuple (nQ (aL (iQ K) (pv 3) (jE (gF au ak))) ak)))))),?_⟩
  have lC:(c.map V.int).length=c.length:=List.length_map _;refine⟨_,rfl,.ref a,c.length,rfl,.inr ⟨_,SqT.of hA,lC.symm⟩,?_⟩;refine⟨_,rfl,(c.length:Int),rfl,(by omega:-(2^62)<=(c.length:Int)),(by omega:(c.length:Int)<2^62),?_⟩;rw[Int.toNat_natCast];refine ud (n:=c.length) (by omega) rfl (fun k=>Rm.tk b (0-Pm.co c (c.length-1-k))) ?_ ?_
  ·intro H2 k g2 hk kk hkk;have e1:((c.length:Int)-1-(0+(k:Int))).toNat=c.length-1-k:=by omega
   refine⟨_,rfl,_,rfl,_,rfl,_,_,rfl,rfl,_,rfl,_,_,rfl,rfl,_,_,.inr (SqT.of (g2 _ _ hA)),bB (ns:=c) (by omega:(0:Int)<=(c.length:Int)-1-(0+(k:Int))) (by omega),_,_,rfl,rfl,?_⟩;refine⟨b,_,rfl,hb,?_⟩;rw[e1];exact hkk
  ·intro D hD;have g1:=Same.new hD (.lst ((Pm.ofF c.length fun k=>Rm.tk b (0-Pm.co c (c.length-1-k))).map V.int));refine⟨_,rfl,(by show 1<=sizeLine;decide),fun l2 hl2=>?_⟩;have g2:=Same.new hl2 (.lst [.int 1]);refine .inl ⟨_,_,g2 _ _ aB,aB,?_,fun l3 hl3=>?_⟩
   ·rw[List.length_map,Pm.aM];exact Nat.le_of_lt (bK (by show _+1<=1000;omega))
   refine⟨l3,_,rfl,.inl ⟨SqL.of aB,fun t ht=>?_⟩⟩;refine q t _ (g1.trans (g2.trans ((Same.new hl3 _).trans (Same.new ht _)))) ?_;rw[aB,Pm.aP,wV]
theorem DN(F:Fn K mg "rule_of" uY ["by","poly"])(aY:gR P w K mg base):oZ P w K mg base:=by
 refine F.cal wu (fun vs H Q E h=>?_) (fun f cdv A outer s H vs Q E hr h=>?_)
 ·obtain⟨b,a,p,rfl,_⟩:=h;rfl
 ·obtain⟨b,a,p,rfl,hb,hA,z0,zA,q⟩:=h;refine⟨_,(ao (aJ (i:=2) wu.nd rfl (Or.inr rfl) (aL cD (aN (jy K) rfl B.cP boot_len (aK (pv 1) ak)) au))
   (aH (aU (bV (j7 K) rfl B.ig boot_tuple (aF (dz (sc:=Ce) (N:=["k","by","length","poly"]) (ix:=[none,some 0,some 2,some 1]) cT rfl (bW rfl B.cF (aK (pv 2) ak)) (fun cl C s₀ H₀ ex=>⟨(bw (i:=0) jB rfl (Or.inl rfl)),cV,(aq aY hr rfl (aK (pv 1) (nQ (aL cD au (bf (xix K) (pv 3) (aL cD (aL cD (pv 2) au) (pv 0)) (fun _ _=>rfl))) ak)))⟩)) ak))))),?_⟩
  have lC:(p.map V.int).length=p.length:=List.length_map _;refine⟨_,rfl,.ref a,p.length,rfl,.inr ⟨_,SqT.of hA,lC.symm⟩,_,_,rfl,rfl,?_⟩;refine⟨_,rfl,(p.length:Int)-1,rfl,(by omega:-(2^62)<=(p.length:Int)-1),(by omega:(p.length:Int)-1<2^62),?_⟩;rw[show((p.length:Int)-1).toNat=p.length-1 by omega];refine ud (n:=p.length-1) (by omega) rfl (fun k=>Rm.tk b (0-Pm.co p (p.length-1-1-k))) ?_ ?_
  ·intro H2 k g2 hk kk hkk;have e1:((p.length:Int)-1-1-(0+(k:Int))).toNat=p.length-1-1-k:=by omega
   refine⟨_,rfl,_,rfl,_,rfl,_,_,rfl,rfl,_,rfl,_,_,rfl,rfl,_,_,.inr (SqT.of (g2 _ _ hA)),bB (ns:=p) (by omega:(0:Int)<=(p.length:Int)-1-1-(0+(k:Int))) (by omega),_,_,rfl,rfl,?_⟩;refine⟨b,_,rfl,hb,?_⟩;rw[e1];exact hkk
  ·intro D hD;refine⟨D,_,rfl,.inl ⟨SqL.of aB,fun t ht=>?_⟩⟩;exact q t _ ((Same.new hD _).trans (Same.new ht _)) aB
theorem GJ(F:Fn K mg "top_of" xK ["row","poly"])(aY:gR P w K mg base)(dD:mX P w K mg base):Dn P w K mg base:=by
 refine F.cal jZ (fun vs H Q E h=>?_) (fun f cdv A outer s H vs Q E hr h=>?_)
 ·obtain⟨v,r,a,rfl,_⟩:=h;rfl
 ·obtain⟨v,r,a,rfl,⟨a0,p,p2,rfl,hA,hR,hS⟩,ok,hP,q⟩:=h;refine⟨_,(ao (aJ (i:=2) jZ.nd rfl (Or.inl rfl) (bf (xix K) (pv 0) au (fun _ _=>rfl)))
   (ao (aJ (i:=3) jZ.nd rfl (Or.inr rfl) (bf (xix K) (pv 0) au (fun _ _=>rfl)))
   (ao (aJ (i:=4) jZ.nd rfl (Or.inl rfl) (jE ak))
   (ao (n8 PassesOwn.never rfl (bW rfl B.cF (aF (aN (jy K) rfl B.cP boot_len (aK (pv 3) ak)) ak)) (bw (i:=5) jZ.nd rfl (Or.inr rfl))
   (ao (IZ (i:=6) (hN:=jZ.nd) (hi':=rfl) (hx:=(Or.inl rfl)) (sc:=Eb) (N:=["j","k","poly","starts"]) (ix:=[none,some 5,some 1,some 3]) cT rfl (pJ rfl B.cF (nQ (aL (iQ K) (pv 5) au) (aF (aN (jy K) rfl B.cP boot_len (aK (pv 1) ak)) ak))) (fun cl C s₀ H₀ ex=>⟨(bw (i:=0) jB rfl (Or.inl rfl)),cV,(aL v_mul (bf (xix K) (pv 2) (pv 0) (fun _ _=>rfl)) (bf (xix K) (pv 3) (aL cD (aL cD (pv 0) au) (pv 1)) (fun _ _=>rfl)))⟩))
   (aH (jx (uH K (pv 4) (aq aY hr rfl (aK (pv 2) (aF (aN (SD K rfl) rfl B.Gj boot_sum (aK (pv 6) ak)) ak))))))))
   (aH (aU (aq dD hr rfl (aK (pv 4) ak)))))))),?_⟩
  have hl:=ok.len;have hs:=ok.short;have lS:(r.starts.map V.int).length=r.starts.length:=List.length_map _;have lP:((Pm.aP r.b r.rule).map V.int).length=r.rule.length+1:=by rw[List.length_map,Pm.aX]
  refine⟨_,rfl,_,_,.inr (SqT.of hA),rfl,?_⟩;refine⟨_,rfl,_,_,.inr (SqT.of hA),rfl,?_⟩;refine⟨Nat.zero_le _,fun l0 h0=>?_⟩;have g0:=Same.new h0 (.lst []);refine⟨_,rfl,.ref p2,r.starts.length,rfl,.inr ⟨_,SqT.of (g0 _ _ hS),lS.symm⟩,?_⟩;refine⟨(r.starts.length:Int),rfl,(by omega:-(2^62)<=(r.starts.length:Int)),(by omega:(r.starts.length:Int)<2^62),?_⟩;refine gw (lo:=0) (n:=(r.starts.length:Int).toNat) (fun i σ' H'=>∃o5 o6,σ'=[some (.ref a0),some (.ref a),some (.int r.b),some (.ref p2),some (.ref l0),o5,o6]/\Same H H'/\H' l0=some (.lst ((Pm.ofF i fun k=>Rm.tk r.b (Pm.tp (Pm.aP r.b r.rule) r.at k)).map V.int)))
   ⟨_,_,rfl,g0,aB⟩ ?_ ?_
  ·rintro i σ' H' hi ⟨o5,o6,rfl,g,hL⟩;have hi':i<r.starts.length:=by omega
   refine⟨_,rfl,_,rfl,.ref a,r.rule.length+1,rfl,.inr ⟨_,SqT.of (g _ _ hP),lP.symm⟩,?_⟩;refine⟨_,_,rfl,⟨by omega,by omega,by omega,by omega⟩,?_⟩;rw[show(((r.rule.length+1:Nat):Int)-(0+(i:Int)+1)).toNat=r.rule.length-i by omega];refine yM (lo:=0+(i:Int)+1) (n:=r.rule.length-i) (by omega) rfl (fun k=>Pm.co (Pm.aP r.b r.rule) (i+1+k)*r.at k) ?_ ?_
   ·intro H2 k g2 hk kk hkk;have e1:(0+(i:Int)+1+(k:Int)).toNat=i+1+k:=by omega
    have e2:(0+(i:Int)+1+(k:Int)-1-(0+(i:Int))).toNat=k:=by omega
    have lq:(Pm.aP r.b r.rule).length=r.rule.length+1:=Pm.aX ..;refine⟨_,rfl,_,rfl,_,_,.inr (SqT.of (g2 _ _ (g _ _ hP))),bB (ns:=Pm.aP r.b r.rule) (by omega:(0:Int)<=0+(i:Int)+1+(k:Int)) (by omega),?_⟩;refine⟨_,rfl,_,rfl,_,_,rfl,rfl,_,rfl,_,_,rfl,rfl,_,_,.inr (SqT.of (g2 _ _ (g _ _ hS))),bB (ns:=r.starts) (by omega:(0:Int)<=0+(i:Int)+1+(k:Int)-1-(0+(i:Int))) (by omega),?_⟩;refine⟨qM (Rm.Bd.getD ok.vp _) (Rm.Bd.getD ok.lV _) (by decide),?_⟩;rw[e1,e2];have e3:r.at k=r.starts.getD k 0:=Rm.qd (by omega);rw[e3]at hkk;exact hkk
   ·intro D hD;have g3:=Same.new hD (.lst ((Pm.ofF (r.rule.length-i) fun k=>Pm.co (Pm.aP r.b r.rule) (i+1+k)*r.at k).map V.int));have hL3:=g3 _ _ hL;have lL:((Pm.ofF i fun k=>Rm.tk r.b (Pm.tp (Pm.aP r.b r.rule) r.at k)).map V.int).length=i:=by rw[List.length_map,Pm.aM]
    refine⟨_,rfl,.inl ⟨rfl,_,SqL.of hL3⟩,_,rfl,_,rfl,D,_,rfl,SqL.of aB,r.b,_,rfl,ok.by0,?_⟩;refine⟨l0,_,_,rfl,rfl,hL3,?_,?_⟩
    ·rw[lL];exact bK (by omega)
    ·refine⟨_,_,rfl,(g.trans g3).upd h0 _,?_⟩;rw[aB,Pm.Cv,wV];have e4:Pm.tp (Pm.aP r.b r.rule) r.at i=(Pm.ofF (r.rule.length-i) fun k=>Pm.co (Pm.aP r.b r.rule) (i+1+k)*r.at k).sum:=by
      unfold Pm.tp;rw[Pm.ofF,Pm.tO,Pm.aX,Nat.add_sub_cancel]
     rw[e4]
  ·rintro σ' H' ⟨o5,o6,rfl,g,hL⟩;refine⟨_,rfl,l0,_,rfl,SqL.of hL,fun t1 H3 g3 h3=>?_⟩;refine q t1 H3 (g.trans g3) ?_;rw[h3,FW,hl,Int.toNat_natCast]
theorem rK(F:Fn K mg "shared_divisor" iK ["by","one","other"])(iR:lZ P w K mg base)(jh:qQ P w K mg base):mz P w K mg base:=by
 refine F.cal rH (fun vs H Q E h=>?_) (fun f cdv A outer s H vs Q E hr h=>?_)
 ·obtain⟨b,a,c,P,t,rfl,_⟩:=h;rfl
 ·obtain⟨b,a,c,P',t,rfl,hA,hC,zP,zt,hP,bP,bt,h⟩:=h;refine⟨_,(aH (aU (wX (cg (xeq K hr) (pv 0) au (cB _)) (aq iR hr rfl (aK (pv 1) (aK (pv 2) ak))) (aq jh hr rfl (aK (pv 0) (aK (pv 1) (aK (pv 2) ak))))))),?_⟩;refine⟨_,rfl,_,rfl,?_⟩;refine qJ (fun c0=>?_) (fun c0=>?_)
  ·have c0':b=0:=dec_true c0;rcases h with⟨_,g,N,U,V',G,hV,hU,hUV,q⟩|⟨p,rfl,hp,_⟩
   ·exact⟨_,rfl,_,rfl,a,c,P',t,g,N,U,V',rfl,hA,hC,zP,zt,hP,bP,bt,G,hV,hU,hUV,q⟩
   ·have:=hp.1;omega
  ·have c0':¬b=0:=dec_false c0;rcases h with⟨z,_⟩|⟨p,rfl,hp,hpb,yP,yt,q⟩
   ·exact absurd z c0'
   ·exact⟨_,rfl,_,rfl,_,rfl,p,a,c,P',t,rfl,hp,hpb,hA,hC,zP,zt,yP,yt,fun _ z=>by have:=hP.pos;rw[z]at this;exact absurd this (by decide),q⟩
theorem Bu(F:Fn K mg "least_of" rF ["row"])(eZ:qg P w K mg base)(xJ:Dn P w K mg base)(fZ:pW P w K mg base)(iI:mz P w K mg base):wj P w K mg base:=by
 refine F.cal lY (fun vs H Q E h=>?_) (fun f cdv A outer s H vs Q E hr h=>?_)
 ·obtain⟨v,r,rfl,_⟩:=h;rfl
 ·obtain⟨v,r,rfl,⟨a0,p,p2,rfl,hA,hR,hS⟩,ok,hB,hT,q⟩:=h;refine⟨_,(ao (aJ (i:=1) lY.nd rfl (Or.inl rfl) (bf (xix K) (pv 0) au (fun _ _=>rfl)))
   (ao (aJ (i:=2) lY.nd rfl (Or.inl rfl) (aq eZ hr rfl (aK (pv 1) (aF (bf (xix K) (pv 0) au (fun _ _=>rfl)) ak))))
   (ao (aJ (i:=3) lY.nd rfl (Or.inl rfl) (aq xJ hr rfl (aK (pv 0) (aK (pv 2) ak))))
   (aH (aU (bf (xix K) (aq fZ hr rfl (aK (pv 1) (aK (pv 2) (aF (aq iI hr rfl (aK (pv 1) (aK (pv 2) (aK (pv 3) ak)))) ak)))) au (fun _ _=>rfl))))))),?_⟩
  have hs:=ok.short;have hb1:=ok.by1;have hm:=Pm.dw r.b r.rule;have lq:(Pm.aP r.b r.rule).length=r.rule.length+1:=Pm.aX ..;refine⟨_,rfl,_,_,.inr (SqT.of hA),rfl,?_⟩;refine⟨_,rfl,_,rfl,_,_,.inr (SqT.of hA),rfl,r.b,p,r.rule,rfl,ok.by0,hR,by omega,fun tP H1 g1 hP=>?_⟩;refine⟨_,rfl,_,rfl,.ref a0,r,tP,rfl,⟨a0,p,p2,rfl,g1 _ _ hA,g1 _ _ hR,g1 _ _ hS⟩,ok,hP,fun tT H2 g2 hTp=>?_⟩;have hP2:=g2 _ _ hP;have lt:=JG r;refine⟨_,rfl,_,rfl,_,rfl,_,rfl,_,rfl,r.b,tP,tT,Pm.aP r.b r.rule,FW r,rfl,hP2,hTp,by omega,by omega,hm,(fun x hx=>(ok.vp x hx).mono (by decide)),Og ok,?_⟩;have nP:=qx r.b r.rule hB.one;by_cases h0:r.b=0
  ·obtain⟨d,ua,u,adq,hur,hQ0,hua,hsz⟩:=hT h0;have hK:=ok.kp;rw[h0]at hK;rw[h0]at hm lq;obtain⟨g,L,N,hL,hLy,hKL,hall,hlen,hE,G,hV,hU⟩:=Pm.Nt hm hK hQ0 hua (u:=u) (e:=5) (U:=u+400) (fun k=>by have:=Pm.nA ok.by0 ok.by1 adq hur;rw[h0]at this;exact Pm.ju this k) (by rw[lq];omega) (by rw[lq];omega);have eT:Pm.co (FW r)=Pm.tp (Pm.aP 0 r.rule) r.at:=funext fun k=>by rw[Bl,h0,Rm.bH]
   refine .inl ⟨h0,g,N,_,_,by rw[h0,eT];exact G,hV,hU,by omega,fun tg H3 g3 hg=>?_⟩;have hgl:g.length<=r.rule.length+1:=by have:=hL.pos;omega
   have bg:∀x∈g,Rm.Bd 124000 x:=fun x hx=>by
    obtain⟨k,hk,e⟩:=List.mem_iff_getElem.mp hx;have:=hU k;rw[Pm.ql hk,e]at this;exact this.mono (by omega)
   refine⟨r.b,tP,tg,Pm.aP r.b r.rule,g,rfl,ok.by0,by omega,g3 _ _ hP2,hg,by rw[h0];omega,by omega,G.mon,nP,(fun x hx=>(ok.vp x hx).mono (by decide)),bg,fun t x y o l H4 g4 ht hx hy D _ _ _=>?_⟩;refine⟨_,_,.inr (SqT.of ht),rfl,?_⟩;have D':Pm.Div r.b (Pm.aP r.b r.rule) g L []:=⟨by rw[h0];exact hLy,Pm.Py.nil _,G.mon.pos,fun k=>by rw[Pm.eU,Int.add_zero,h0,hE k]⟩;obtain⟨eo,_⟩:=D.uniq G.mon D';subst eo;exact q x o H4 (g1.trans (g2.trans (g3.trans g4))) hx ⟨hL,fun k=>by rw[h0];exact Rm.bH _,by rw[h0];exact hKL,by rw[h0];exact hall⟩ (by have:=G.mon.pos;omega)
  ·obtain⟨P0,hP0,hb⟩:=hB.resolve_left h0;have hp:=Ec hP0;have hr:=iY P0 hP0;have yP:Pm.Py (P0:Int) (Pm.aP r.b r.rule):=by rw[<-hb];exact Lg hm nP
   have yt:Pm.Py (P0:Int) (FW r):=by rw[<-hb];exact Pm.Py.ofF ..
   refine .inr ⟨P0,hb,hp,by omega,yP,yt,fun tg g H3 g3 hg hG hgl=>?_⟩;have bg:∀x∈g,Rm.Bd 124000 x:=PB hr.1 (by omega) hG.py;refine⟨r.b,tP,tg,Pm.aP r.b r.rule,g,rfl,ok.by0,by omega,g3 _ _ hP2,hg,by omega,by omega,hG.mon,nP,(fun x hx=>(ok.vp x hx).mono (by decide)),bg,fun t x y o l H4 g4 ht hx hy D _ _ _=>?_⟩;refine⟨_,_,.inr (SqT.of ht),rfl,?_⟩;rw[hb]at D;rw[<-hb]at D;obtain⟨hl1,hl2⟩:=Jq hp ok hb hG (by rw[hb]at D ⊢;exact D);exact q x o H4 (g1.trans (g2.trans (g3.trans g4))) hx hl1 hl2
theorem Bc(F:Fn K mg "shortest" qY ["row"])(rP:wj P w K mg base)(fV:oZ P w K mg base):gK P w K mg base:=by
 refine F.cal oW (fun vs H Q E h=>?_) (fun f cdv A outer s H vs Q E hr h=>?_)
 ·obtain⟨v,r,rfl,_⟩:=h;rfl
 ·obtain⟨v,r,rfl,⟨a0,p,p2,rfl,hA,hR,hS⟩,ok,hB,hT,q⟩:=h;refine⟨_,(ao (aJ (i:=1) oW.nd rfl (Or.inl rfl) (aq rP hr rfl (aK (pv 0) ak)))
   (ao (aJ (i:=2) oW.nd rfl (Or.inl rfl) (aq fV hr rfl (aF (bf (xix K) (pv 0) au (fun _ _=>rfl)) (aK (pv 1) ak))))
   (aH (aU (jH (aF (bf (xix K) (pv 0) au (fun _ _=>rfl)) (aK (pv 2) (aF (bV (j7 K) rfl B.ig boot_tuple (aF (pF (xsl K) (bf (xix K) (pv 0) au (fun _ _=>rfl)) uI (uG (aN (jy K) rfl B.cP boot_len (aK (pv 2) ak)))) ak)) ak)))))))),?_⟩
  have hs:=ok.short;have hl:=ok.len;have lS:(r.starts.map V.int).length=r.starts.length:=List.length_map _;refine⟨_,rfl,.ref a0,r,rfl,⟨a0,p,p2,rfl,hA,hR,hS⟩,ok,hB,hT,fun tL L H1 g1 hL lst ll=>?_⟩;have hLp:=lst.mon.pos;refine⟨_,rfl,_,_,.inr (SqT.of (g1 _ _ hA)),rfl,_,rfl,r.b,tL,L,rfl,ok.by0,hL,hLp,by omega,fun tR H2 g2 hR2=>?_⟩;have lR:((Pm.cL r.b L).map V.int).length=L.length-1:=by rw[List.length_map,Pm.dR]
  have hA2:=(g1.trans g2) _ _ hA;have hS2:=(g1.trans g2) _ _ hS;refine⟨_,rfl,_,_,.inr (SqT.of hA2),rfl,_,rfl,_,rfl,_,_,.inr (SqT.of hA2),rfl,?_⟩;refine⟨_,rfl,.ref tR,L.length-1,rfl,.inr ⟨_,SqT.of hR2,lR.symm⟩,?_⟩;refine⟨_,rfl,?_⟩;by_cases hw:r.starts.length<=L.length-1
  ·refine .inr (.inr ⟨_,SqT.of hS2,?_,?_⟩)
   ·rw[HT.kZ,HT.iW,lS];omega
   ·refine⟨p2,_,rfl,.inr ⟨SqT.of hS2,?_⟩⟩;refine⟨(by show 3<=sizeLine;decide),fun t ht=>?_⟩;have g3:=Same.new ht (.tup [.int r.b,.ref tR,.ref p2]);refine q (.ref t) L _ (g1.trans (g2.trans g3)) ⟨t,tR,p2,rfl,aB,g3 _ _ hR2,?_⟩ lst ll;show _=some (HO.tup ((r.starts.take (L.length-1)).map V.int));rw[List.take_of_length_le hw];exact g3 _ _ hS2
  ·refine .inr (.inl ⟨_,SqT.of hS2,?_,fun p3 hp3=>?_⟩)
   ·rw[HT.kZ,HT.iW,lS];omega
   ·refine⟨p3,_,rfl,.inr ⟨SqT.of aB,?_⟩⟩;have g3:=Same.new hp3 (.tup (yC (r.starts.map V.int) none (some ((L.length-1:Nat):Int))));refine⟨(by show 3<=sizeLine;decide),fun t ht=>?_⟩;have g4:=Same.new ht (.tup [.int r.b,.ref tR,.ref p3]);refine q (.ref t) L _ (g1.trans (g2.trans (g3.trans g4))) ⟨t,tR,p3,rfl,aB,(g3.trans g4) _ _ hR2,?_⟩ lst ll;show _=some (HO.tup ((r.starts.take (L.length-1)).map V.int));rw[List.map_take,<-Ds];exact g4 _ _ aB
theorem Aq(F:Fn K mg "_law_cell_at" rC ["_law_script","_law_k"]):rE P w K mg base:=by
 refine F.cal AZ (fun vs H Q E h=>?_) (fun f cdv A outer s H vs Q E hr h=>?_)
 ·obtain⟨a,ns,k,rfl,_⟩:=h;rfl
 ·obtain⟨a,ns,k,rfl,hS,h0,h1,hB,q⟩:=h;refine⟨_,(ao (jq (cg zx (pv 1) (aN (jy K) rfl B.cP boot_len (aK (pv 0) ak)) (cB _))
   (aH (aU (bf (xix K) (pv 0) (pv 1) (fun _ _=>rfl))))
   cW)
   (aH (aU (aL v_mul (aL (iQ K) (aL v_mul (pv 1) au) au) (aL (iQ K) (pv 1) au))))),?_⟩
  have hl:(ns.map V.int).length=ns.length:=List.length_map _;refine⟨_,rfl,_,rfl,.ref a,ns.length,rfl,.inl ⟨_,hS,hl.symm⟩,_,_,rfl,rfl,_,rfl,?_⟩;refine qJ (fun c=>?_) (fun c=>?_)
  ·have c':k<(ns.length:Int):=dec_true c;refine⟨_,rfl,_,rfl,ns.map V.int,.int (ns.getD k.toNat 0),.inl hS,bB h0 c',q _ ?_⟩;exact intBits_le_iff.mp (hB _ (Pm.yQ (by omega)))
  ·refine⟨_,rfl,mulR (by decide) (by decide),_,rfl,mulR (by show -(2^64)<k+31;omega) (by show k+31<2^64;omega),q _ ?_⟩;refine(Rm.Bd.mul (m:=40) (n:=40) (Rm.Bd.of (by omega) (by omega)) (Rm.Bd.of (by omega) (by omega))).mono (by decide)
theorem Oi(F:Fn K mg "_law_mix" Ji ["_law_cell","_law_k"]):yW P w K mg base:=by
 refine F.cal Bb (fun vs H Q E h=>?_) (fun f cdv A outer s H vs Q E hr h=>?_)
 ·obtain⟨c,k,rfl,_⟩:=h;rfl
 ·obtain⟨c,k,rfl,h0,h1,q⟩:=h;refine⟨_,(ao (aJ (i:=2) Bb.nd rfl (Or.inl rfl) (aL fW (aL (iQ K) (aL v_mul (aL (iQ K) (aL fW (pv 0) au) au) (aL (iQ K) (aL (iQ K) au (aL v_mul au (pv 1))) (aL v_mul (aL v_mul au (pv 1)) (pv 1)))) (pv 1)) au))
   (ao (aJ (i:=2) Bb.nd rfl (Or.inl rfl) (aL fW (aL v_mul (pv 2) (pv 2)) au))
   (aH (aU (aL Cq (aL fW (aL v_mul (pv 2) (aL (iQ K) (aL (iQ K) (pv 2) (pv 1)) au)) au) au))))),?_⟩
  have b1:0<=c%2147483629:=eX _ (by decide);have b2:c%2147483629<2147483629:=eY _ (by decide);refine⟨_,rfl,_,_,rfl,rfl,(by decide:(0:Int)<2147483629),?_⟩;refine⟨_,rfl,mulL (by decide) (by decide),_,rfl,mulL (by decide) (by decide),_,rfl,mulR (by omega) (by omega),?_⟩;refine⟨mulL (by show -(2^64)<c%2147483629+1;omega) (by show c%2147483629+1<2^64;omega),_,rfl,_,_,rfl,rfl,(by decide:(0:Int)<2147483647),?_⟩;dsimp only;have m0:=eX ((c%2147483629+1)*(48271+69621*k+2*k*k)+k) (show(0:Int)<2147483647 by decide);have m1:=eY ((c%2147483629+1)*(48271+69621*k+2*k*k)+k) (show(0:Int)<2147483647 by decide);generalize hy:((c%2147483629+1)*(48271+69621*k+2*k*k)+k)%2147483647=y at m0 m1;refine⟨_,rfl,_,rfl,mulL (by omega) (by omega),_,_,rfl,rfl,(by decide:(0:Int)<2147483629),?_⟩;dsimp only;have n0:=eX (y*y) (show(0:Int)<2147483629 by decide);have n1:=eY (y*y) (show(0:Int)<2147483629 by decide);generalize hz:y*y%2147483629=z at n0 n1;refine⟨_,rfl,_,rfl,_,rfl,mulL (by omega) (by omega),_,_,rfl,rfl,(by decide:(0:Int)<2147483587),_,_,rfl,rfl,⟨by decide,by decide⟩,?_⟩;have l0:=eX (z*(z+k+1)) (show(0:Int)<2147483587 by decide);have l1:=eY (z*(z+k+1)) (show(0:Int)<2147483587 by decide);generalize hw:z*(z+k+1)%2147483587=w at l0 l1;exact q _ (by omega) ⟨by omega,by unfold abf aaj Vv;rw[hy,hz,hw]⟩
theorem yH(F:Fn K mg "_law_drawn_by" oK ["_law_cell"])(iB:yW P w K mg base):vC P w K mg base:=by
 refine F.cal yF (fun vs H Q E h=>?_) (fun f cdv A outer s H vs Q E hr h=>?_)
 ·obtain⟨c,rfl,_⟩:=h;rfl
 ·obtain⟨c,rfl,q⟩:=h;refine⟨_,(aH (aU (bf (xix K) (jE (gF au (gF au (gF au (gF au (gF au (gF au (gF au (gF au (gF au (gF au ak))))))))))) (aL fW (aq iB hr rfl (aK (pv 0) (gF au ak))) au) (fun _ _=>rfl)))),?_⟩;refine⟨(by show 10<=sizeLine;decide),fun p hp=>?_⟩;refine⟨_,rfl,c,1,rfl,by decide,by decide,fun x h0 h1=>?_⟩;have e0:=eX x (show(0:Int)<10 by decide);have e1:=eY x (show(0:Int)<10 by decide);refine⟨_,_,rfl,rfl,(by decide:(0:Int)<10),_,_,.inl (SqL.of aB),bB (ns:=byF) e0 e1,?_⟩;exact q _ _ (Same.new hp _) (Rq (by omega))
theorem E8(F:Fn K mg "_law_taken" wK ["_law_by","_law_number"]):nJ P w K mg base:=by
 refine F.cal FN (fun vs H Q E h=>?_) (fun f cdv A outer s H vs Q E hr h=>?_)
 ·obtain⟨b,n,rfl,_⟩:=h;rfl
 ·obtain⟨b,n,rfl,h0,q⟩:=h;refine⟨_,(ao (jq (cg (xeq K hr) (pv 0) au (cB _))
   (aH (aU (pv 1)))
   cW)
   (aH (aU (aL fW (pv 1) (pv 0))))),?_⟩
  refine⟨_,rfl,_,rfl,?_⟩;refine qJ (fun c=>?_) (fun c=>?_)
  ·refine⟨_,rfl,?_⟩;have c':b=0:=dec_true c;have e:Rm.tk b n=n:=by rw[c',Rm.bH]
   rw[e]at q;exact q
  ·have c':¬b=0:=dec_false c;refine⟨_,rfl,_,rfl,_,_,rfl,rfl,(by omega:(0:Int)<b),?_⟩;rw[Rm.iG c']at q;exact q
theorem vO(F:Fn K mg "_law_one_number" lK ["_law_by","_law_cell","_law_k"])(iB:yW P w K mg base)(cO:nJ P w K mg base):lW P w K mg base:=by
 refine F.cal jJ (fun vs H Q E h=>?_) (fun f cdv A outer s H vs Q E hr h=>?_)
 ·obtain⟨b,c,k,rfl,_⟩:=h;rfl
 ·obtain⟨b,c,k,rfl,hb,hc,h0,h1,q⟩:=h;refine⟨_,(ao (aJ (i:=3) jJ.nd rfl (Or.inl rfl) (aL cD (aL (iQ K) (aL fW (aL v_mul (aL (iQ K) (pv 1) au) (aL E4 (aL (iQ K) (pv 2) au) au)) (aL cD (aL v_mul au (aL E4 au au)) au)) au) (aL E4 au au)))
   (ao (aJ (i:=4) jJ.nd rfl (Or.inl rfl) (bf (xix K) (jE (gF au (gF au (MJ (Ab sS au) (gF au (gF au (MJ (Ab sS au) (gF au (gF au (gF au (gF au ak))))))))))) (aL fW (aq iB hr rfl (aK (pv 1) (nQ (aL (iQ K) au (pv 2)) ak))) au) (fun _ _=>rfl)))
   (aH (aU (aq cO hr rfl (aK (pv 0) (aF (bf (xix K) (jE (aK (pv 4) (aK (pv 3) ak))) (bV Fo rfl B.Ww boot_int (aF (Nz (mW wM (pv 0) au (cB _)) (CD (Ln (mW wM (pv 2) au (cB _)) (CD (mW (xeq K hr) (aL fW (aq iB hr rfl (aK (pv 1) (nQ (aL (iQ K) au (pv 2)) ak))) au) au (cB _)))))) ak)) (fun _ _=>rfl)) ak))))))),?_⟩
  have hp7:Rm.Bd (6*7+1) ((k+3)^7):=Lf (Rm.Bd.of (by omega) (by omega)) 7;refine⟨_,rfl,_,rfl,_,_,rfl,rfl,⟨by decide,by decide,by show(k+3).natAbs<2^64;omega⟩,qM (m:=1048577) (n:=43) (Rm.Bd.add hc ((Rm.Bd.of (n:=1) (by decide) (by decide)).mono (by decide))) hp7 (by decide),?_⟩;refine⟨_,_,rfl,rfl,⟨by decide,by decide,by decide⟩,mulL (by decide) (by decide),_,_,rfl,rfl,_,_,rfl,rfl,(by decide:(0:Int)<2*10^(9:Int).toNat-1),?_⟩;refine⟨_,_,rfl,rfl,⟨by decide,by decide,by decide⟩,_,_,rfl,rfl,?_⟩;dsimp only;have f0:=eX ((c+1)*(k+3)^(7:Int).toNat) (show(0:Int)<2*10^(9:Int).toNat-1 by decide);have f1:=eY ((c+1)*(k+3)^(7:Int).toNat) (show(0:Int)<2*10^(9:Int).toNat-1 by decide);have ef:(2*10^(9:Int).toNat-1:Int)=1999999999:=by decide
  have eg:(10^(9:Int).toNat:Int)=1000000000:=by decide
  generalize Us:(c+1)*(k+3)^(7:Int).toNat%(2*10^(9:Int).toNat-1)+1-10^(9:Int).toNat=far;have adg:Rm.Bd 31 far:=by
   rw[ef]at f0 f1 Us;rw[eg]at Us;generalize (c+1)*(k+3)^(7:Int).toNat%1999999999=w at f0 f1 Us;exact Rm.Bd.of (by omega) (by omega)
  clear f0 f1 Us;refine⟨_,rfl,_,rfl,(by show 10<=sizeLine;decide),fun p hp=>?_⟩;refine⟨_,rfl,_,rfl,c,20+k,rfl,by omega,by omega,fun x x0 x1=>?_⟩;have e0:=eX x (show(0:Int)<10 by decide);have e1:=eY x (show(0:Int)<10 by decide);refine⟨_,_,rfl,rfl,(by decide:(0:Int)<10),_,_,.inl (SqL.of aB),bB (ns:=Dc) e0 e1,?_⟩;have bs:=GR (x%10).toNat (by omega);generalize Dc.getD (x%10).toNat 0=sm at bs;have bsm:Rm.Bd 3 sm:=Rm.Bd.of (by omega) (by omega);have g1:=Same.new hp (.lst ([.int 0,.int 1,.int (-1),.int 2,.int 1,.int (-2),.int 3,.int 0,.int 1,.int 5]));generalize upd H p (.lst ([.int 0,.int 1,.int (-1),.int 2,.int 1,.int (-2),.int 3,.int 0,.int 1,.int 5]))=H1 at g1;refine⟨_,rfl,_,rfl,_,rfl,(by show 2<=sizeLine;decide),fun p2 hp2=>?_⟩;have g2:=Same.new hp2 (.lst [.int sm,.int far]);have g12:=g1.trans g2;have hL:(upd H1 p2 (.lst [.int sm,.int far])) p2=some (.lst ([sm,far].map V.int)):=aB;generalize upd H1 p2 (.lst [.int sm,.int far])=H2 at g2 g12 hL;have fin:∀t:Bool,(t=true->b≠0∨15<=k)->∃v,atI ([sm,far].map V.int) (if t=true then 1 else 0)=some (.int v)/\Q (.int (Rm.tk b v)) H2:=fun t ht=>by
   cases t
   ·exact⟨_,bB (ns:=[sm,far]) (by decide) (by show(0:Int)<2;decide),q _ _ g12 (mO hb.lo _) (fj hb (by decide) (bsm.mono (by decide))) fun _=>⟨fj hb (by decide) (bsm.mono (by decide)),fun z=>by rw[z,Rm.bH];exact bsm⟩⟩
   ·refine⟨_,bB (ns:=[sm,far]) (by decide) (by show(1:Int)<2;decide),q _ _ g12 (mO hb.lo _) (fj hb (by decide) adg) fun h15=>?_⟩;rcases ht rfl with z|z
    ·exact⟨Mh hb (by decide) z (mO hb.lo _),fun y=>absurd y z⟩
    ·omega
  have fT:∀h,∃v,atI ([sm,far].map V.int) 1=some (.int v)/\Q (.int (Rm.tk b v)) H2:=fun h=>fin true fun _=>h;refine⟨_,rfl,_,_,rfl,rfl,_,rfl,?_⟩;refine qJ (fun cb=> .inr ⟨_,rfl,?_⟩) (fun _=>?_)
  ·have hb7:b≠0∨15<=k:= .inl (by have:=dec_true cb;omega);exact⟨_,_,.inl (SqL.of hL),(fT hb7).choose_spec.1,b,_,rfl,hb.lo,(fT hb7).choose_spec.2⟩
  refine⟨_,rfl,_,_,rfl,rfl,_,rfl,?_⟩;refine qJ (fun ck=>?_) (fun _=> .inr ⟨_,rfl,_,_,.inl (SqL.of hL),(fin false (fun z=>nomatch z)).choose_spec.1,b,_,rfl,hb.lo,(fin false (fun z=>nomatch z)).choose_spec.2⟩);have abl:b≠0∨15<=k:= .inr (by have:=dec_true ck;omega);refine⟨_,rfl,_,rfl,c,50+k,rfl,by omega,by omega,fun x2 _ _=>?_⟩;refine⟨_,_,rfl,rfl,(by decide:(0:Int)<7),?_⟩;exact .inr ⟨_,rfl,_,_,.inl (SqL.of hL),(fin _ fun _=>abl).choose_spec.1,b,_,rfl,hb.lo,(fin _ fun _=>abl).choose_spec.2⟩
theorem D4(F:Fn K mg "_law_places" uK ["_law_row","_law_count"])(cO:nJ P w K mg base):Af P w K mg base:=by
 refine F.cal je (fun vs H Q E h=>?_) (fun f cdv A outer s H vs Q E hr h=>?_)
 ·obtain⟨v,r,c,rfl,_⟩:=h;rfl
 ·obtain⟨v,r,c,rfl,⟨a,p,p2,rfl,hA,hR,hS⟩,ok,hc0,hc1,q⟩:=h;refine⟨_,(ao (vq (pv 0) (RB K (n:=3) rfl (nU (bw (i:=2) je.nd rfl (Or.inl rfl)) (nU (bw (i:=3) je.nd rfl (Or.inr rfl)) (nU (bw (i:=4) je.nd rfl (Or.inl rfl)) IL)))))
   (ao (aJ (i:=5) je.nd rfl (Or.inr rfl) (Ir (bV (xlist K) rfl B.wg boot_list (aF (pF (xsl K) (pv 4) uI (uG (pv 1))) ak))))
   (ao (jF PassesOwn.never (cg zx (aN (jy K) rfl B.cP boot_len (aK (pv 5) ak)) (pv 1) (cB _))
   (ao (aJ (i:=6) je.nd rfl (Or.inl rfl) (aN (SD K rfl) rfl B.Gj boot_sum (aF (dz (sc:=BR) (N:=["_law_k","_law_found","_law_rule"]) (ix:=[none,some 5,some 3]) cT rfl (bW rfl B.cF (aF (aN (jy K) rfl B.cP boot_len (aK (pv 3) ak)) ak)) (fun cl C s₀ H₀ ex=>⟨(bw (i:=0) jB rfl (Or.inl rfl)),cV,(aL v_mul (bf (xix K) (pv 2) (pv 0) (fun _ _=>rfl)) (bf (xix K) (pv 1) (aL cD (Ab sS au) (pv 0)) (fun _ _=>rfl)))⟩)) ak)))
   (aH (jx (uH K (pv 5) (aq cO hr rfl (aK (pv 2) (aK (pv 6) ak))))))))
   (aH (aU (pv 5)))))),?_⟩
  have hl:=ok.len;have hl2:=ok.short;have lS:(r.starts.map V.int).length=r.starts.length:=List.length_map _;have lR:(r.rule.map V.int).length=r.rule.length:=List.length_map _;refine⟨_,rfl,a,_,rfl,SqT.of hA,rfl,_,_,rfl,_,_,rfl,_,_,rfl,rfl,?_⟩;have Yo:yC (r.starts.map V.int) none (some c)=(r.row (min c.toNat r.starts.length)).map V.int:=by
   have e:r.row (min c.toNat r.starts.length)=r.starts.take (min c.toNat r.starts.length):=Rm.j8 (Nat.min_le_right _ _);rw[e];have e2:c=((c.toNat:Nat):Int):=by omega
   unfold yC;rw[e2,HT.kZ,HT.iW,List.drop_zero,Nat.sub_zero,lS,List.map_take,Int.toNat_natCast]
  refine Bar.by (fun v H1=>∃l,v = .ref l/\Same H H1/\H l=none/\H1 l=some (.lst ((r.row (min c.toNat r.starts.length)).map V.int))) (fun kk hkk=>?_) ?_
  ·refine⟨_,rfl,_,rfl,_,rfl,?_⟩;by_cases hw:r.starts.length<=c.toNat
   ·refine .inr (.inr ⟨_,SqT.of hS,?_,?_⟩)
    ·have e2:c=((c.toNat:Nat):Int):=by omega
     rw[e2,HT.kZ,HT.iW,lS];omega
    ·refine⟨p2,_,rfl,.inr (SqT.of hS),fun l hl1=>hkk _ _ ⟨l,rfl,Same.new hl1 _,hl1,?_⟩⟩;rw[aB,Nat.min_eq_right hw];have e:r.row r.starts.length=r.starts:=(Rm.j8 (Nat.le_refl _)).trans (List.take_length ..);rw[e]
   ·refine .inr (.inl ⟨_,SqT.of hS,?_,fun p3 hp3=>?_⟩)
    ·have e2:c=((c.toNat:Nat):Int):=by omega
     rw[e2,HT.kZ,HT.iW,lS];omega
    ·refine⟨p3,_,rfl,.inr (SqT.of aB),fun l hl1=>?_⟩;have g3:=Same.new hp3 (.tup (yC (r.starts.map V.int) none (some c)));refine hkk _ _ ⟨l,rfl,g3.trans (Same.new hl1 _),g3.free hl1,?_⟩;rw[aB,Yo]
  rintro v H1 ⟨l,rfl,g1,hl1,hr1⟩;refine⟨fun m σ' H'=>∃(n:Nat) (o6:Option V),m=c.toNat-n/\min c.toNat r.starts.length<=n/\n<=c.toNat/\σ'=[some (.ref a),some (.int c),some (.int r.b),some (.ref p),some (.ref p2),some (.ref l),o6]/\Same H H'/\H' l=some (.lst ((r.row n).map V.int)),
   ⟨_,min c.toNat r.starts.length,_,rfl,Nat.le_refl _,Nat.min_le_left _ _,rfl,g1,hr1⟩,?_⟩
  rintro m σ' H' ⟨n,o6,rfl,h1,h2,rfl,g,hL⟩;have lL:((r.row n).map V.int).length=n:=by rw[List.length_map,Rw.fD]
  have lN:(r.row n).length=n:=Rw.fD ..;refine⟨_,rfl,.ref l,n,rfl,.inl ⟨_,SqL.of hL,lL.symm⟩,_,rfl,_,_,rfl,rfl,_,rfl,?_⟩;refine qJ (fun cc=>?_) (fun cc=>?_)
  ·have hn:n<c.toNat:=by have:=dec_true cc;omega
   refine⟨_,fun _ _ z=>z,?_⟩;refine⟨_,rfl,.ref p,r.rule.length,rfl,.inr ⟨_,SqT.of (g _ _ hR),lR.symm⟩,?_⟩;refine⟨(r.rule.length:Int),rfl,(by omega:-(2^62)<=(r.rule.length:Int)),(by omega:(r.rule.length:Int)<2^62),?_⟩;rw[Int.toNat_natCast];refine ud (n:=r.rule.length) (by omega) rfl (fun k=>r.rule.getD k 0*(r.row n).getD (n-1-k) 0) ?_ ?_
   ·intro H2 k g2 hk kk hkk;refine⟨_,rfl,_,rfl,_,_,.inr (SqT.of (g2 _ _ (g _ _ hR))),bB (ns:=r.rule) (by omega:(0:Int)<=0+(k:Int)) (by omega),?_⟩;refine⟨_,rfl,_,rfl,_,rfl,_,_,rfl,rfl,_,_,.inl (SqL.of (g2 _ _ hL)),Lb (ns:=r.row n) (n-1-k) (by omega) (by rw[lN];omega),?_⟩;refine⟨qM (Rm.Bd.getD ok.eV _) (Rm.Bd.getD (ok.K3 n (by omega)) _) (by decide),?_⟩;rw[show(0+(k:Int)).toNat=k by omega];exact hkk
   ·intro D hD;have gD:=Same.new hD (.lst ((Pm.ofF r.rule.length fun k=>r.rule.getD k 0*(r.row n).getD (n-1-k) 0).map V.int));refine⟨D,_,rfl,SqL.of aB,?_⟩;have es:(Pm.ofF r.rule.length fun k=>r.rule.getD k 0*(r.row n).getD (n-1-k) 0).sum=Rm.S r.rule (fun i=>(r.row n).getD i 0) n r.rule.length:=Tp r.rule (fun i=>(r.row n).getD i 0) n r.rule.length;rw[es];have hL3:=gD _ _ hL;generalize upd H' D (.lst ((Pm.ofF r.rule.length fun k=>r.rule.getD k 0*(r.row n).getD (n-1-k) 0).map V.int))=H3 at gD hL3;refine⟨_,rfl,.inl ⟨rfl,_,SqL.of hL3⟩,_,rfl,_,rfl,r.b,_,rfl,ok.by0,?_⟩;refine⟨l,_,_,rfl,rfl,hL3,?_,?_⟩
    ·rw[lL];exact bK (by omega)
    ·refine⟨c.toNat-(n+1),by omega,n+1,_,rfl,by omega,by omega,rfl,(g.trans gD).upd hl1 _,?_⟩;rw[aB];have e:r.row (n+1)=r.row n++[Rm.tk r.b (Rm.S r.rule (fun i=>(r.row n).getD i 0) n r.rule.length)]:=by
      show _++[if n<r.starts.length then r.starts.getD n 0 else _]=_;rw[if_neg (by omega)];rfl
     rw[e,List.map_append];rfl
  ·have hn:n=c.toNat:=by have:=dec_false cc;omega
   subst hn;exact⟨_,rfl,q l H' g hl1 hL⟩
theorem uE(F:Fn K mg "_law_made_longer" jV ["_law_row","_law_number"])(uV:Af P w K mg base)(cO:nJ P w K mg base):n6 P w K mg base:=by
 refine F.cal cN (fun vs H Q E h=>?_) (fun f cdv A outer s H vs Q E hr h=>?_)
 ·obtain⟨b,m,r0,s,v,r,n,rfl,_⟩:=h;rfl
 ·obtain⟨b,m,r0,s',v,r,n,rfl,hRI,hb,h0,ok,hs,hsh,hn,q⟩:=h;refine⟨_,(ao (vq (pv 0) (RB K (n:=3) rfl (nU (bw (i:=2) cN.nd rfl (Or.inr rfl)) (nU (bw (i:=3) cN.nd rfl (Or.inl rfl)) (nU (bw (i:=4) cN.nd rfl (Or.inl rfl)) IL)))))
   (ao (aJ (i:=5) cN.nd rfl (Or.inl rfl) (aq uV hr rfl (aK (pv 0) (nQ (aL (iQ K) (aN (jy K) rfl B.cP boot_len (aK (pv 3) ak)) au) ak))))
   (ao (aJ (i:=6) cN.nd rfl (Or.inl rfl) (aL (iQ K) (jE (aK (pv 1) ak)) (aL v_mul (jE (gF au ak)) (aN (jy K) rfl B.cP boot_len (aK (pv 3) ak)))))
   (ao (n8 PassesOwn.never rfl (bW rfl B.cF (aF (aN (jy K) rfl B.cP boot_len (aK (pv 3) ak)) ak)) (bw (i:=7) cN.nd rfl (Or.inl rfl))
   (ao (vq (aL (iQ K) (bf (xix K) (pv 6) (pv 7) (fun _ _=>rfl)) (bf (xix K) (pv 3) (pv 7) (fun _ _=>rfl))) (zf (pv 6) (pv 7) set_list))
   (aH (vq (aL cD (bf (xix K) (pv 6) (aL (iQ K) (pv 7) au) (fun _ _=>rfl)) (aL v_mul (pv 1) (bf (xix K) (pv 3) (pv 7) (fun _ _=>rfl)))) (zf (pv 6) (aL (iQ K) (pv 7) au) set_list)))))
   (aH (aU (jH (aK (pv 2) (aF (bV (j7 K) rfl B.ig boot_tuple (aF (dz (sc:=tK) (N:=["_law_one","_law_by"]) (ix:=[none,some 2]) cT rfl (MX K (pv 6)) (fun cl C s₀ H₀ ex=>⟨(bw (i:=0) jB rfl (Or.inl rfl)),cV,(aq cO hr rfl (aK (pv 1) (aK (pv 0) ak)))⟩)) ak)) (aF (bV (j7 K) rfl B.ig boot_tuple (aK (pv 5) ak)) ak)))))))))),?_⟩
  obtain⟨a,p,p2,rfl,hA,hR,hS⟩:=id hRI;have hO:=ok.ok hb h0 (by omega);have eb:=ok.by_;have lR:(r.rule.map V.int).length=r.rule.length:=List.length_map _;refine⟨_,rfl,a,_,rfl,SqT.of hA,rfl,_,_,rfl,_,_,rfl,_,_,rfl,rfl,?_⟩;refine⟨_,rfl,_,rfl,.ref p,r.rule.length,rfl,.inr ⟨_,SqT.of hR,lR.symm⟩,.ref a,r,(r.rule.length:Int)+1,rfl,hRI,hO.w (by omega),by omega,by omega,fun l1 H1 g1 hl1 h1=>?_⟩;rw[show((r.rule.length:Int)+1).toNat=r.rule.length+1 by omega]at h1;refine⟨_,rfl,(by show 1<=sizeLine;decide),fun l2 hl2=>?_⟩;have g2:=Same.new hl2 (.lst [.int n]);refine⟨(by show 1<=sizeLine;decide),fun l3 hl3=>?_⟩;have g3:=Same.new hl3 (.lst [.int 0]);have h2:(upd (upd H1 l2 (.lst [.int n])) l3 (.lst [.int 0])) l2=some (.lst [.int n]):=g3 _ _ aB;have h3:(upd (upd H1 l2 (.lst [.int n])) l3 (.lst [.int 0])) l3=some (.lst [.int 0]):=aB;have g13:=g2.trans g3;generalize upd (upd H1 l2 (.lst [.int n])) l3 (.lst [.int 0])=H3 at g13 h2 h3;refine⟨_,rfl,.ref p,r.rule.length,rfl,.inr ⟨_,SqT.of (g13 _ _ (g1 _ _ hR)),lR.symm⟩,?_⟩;refine⟨_,h3,by omega,by omega,?_,fun l4 hl4=>?_⟩
  ·show 1*(r.rule.length:Int).toNat<=sizeLine;rw[Nat.one_mul];exact Nat.le_of_lt (bK (by omega))
  rw[show(r.rule.length:Int).toNat=r.rule.length from Int.toNat_natCast _,fR];have g4:=Same.new hl4 (.lst ((Pm.ofF r.rule.length fun _=>0).map V.int));have h2':=g4 _ _ h2;have h4:(upd H3 l4 (.lst ((Pm.ofF r.rule.length fun _=>0).map V.int))) l4=some (.lst ((Pm.ofF r.rule.length fun _=>0).map V.int)):=aB;have g14:=g13.trans g4;generalize upd H3 l4 (.lst ((Pm.ofF r.rule.length fun _=>0).map V.int))=H4 at g4 g14 h2' h4;refine .inl ⟨_,_,h2',h4,?_,fun l5 hl5=>?_⟩
  ·rw[List.length_map,Pm.aM];exact Nat.le_of_lt (bK (by show 1+_<=1000;omega))
  have g5:=Same.new hl5 (.lst ([.int n]++(Pm.ofF r.rule.length fun _=>0).map V.int));have e5:([.int n]++(Pm.ofF r.rule.length fun _=>0).map V.int:List V)=(dW n r.rule 0).map V.int:=by rw[Ey,List.map_append];rfl
  have h5:(upd H4 l5 (.lst ([.int n]++(Pm.ofF r.rule.length fun _=>0).map V.int))) l5=some (.lst ((dW n r.rule 0).map V.int)):=by rw[aB,e5]
  have g15:=g1.trans (g14.trans g5);have f5:H l5=none:=(g1.trans g14).free hl5;have f51:H1 l5=none:=g14.free hl5;have abK:=g14.trans g5;generalize upd H4 l5 (.lst ([.int n]++(Pm.ofF r.rule.length fun _=>0).map V.int))=H5 at g5 h5 g15 abK;refine⟨_,rfl,.ref p,r.rule.length,rfl,.inr ⟨_,SqT.of (g15 _ _ hR),lR.symm⟩,?_⟩;refine⟨(r.rule.length:Int),rfl,(by omega:-(2^62)<=(r.rule.length:Int)),(by omega:(r.rule.length:Int)<2^62),?_⟩;refine gw (lo:=0) (n:=(r.rule.length:Int).toNat) (fun i σ' H'=>∃o7,σ'=[some (.ref a),some (.int n),some (.int r.b),some (.ref p),some (.ref p2),some (.ref l1),some (.ref l5),o7]/\Same H H'/\Same H1 H'/\H' l5=some (.lst ((dW n r.rule i).map V.int))) ⟨_,rfl,g15,abK,h5⟩ ?_ ?_
  ·rintro i σ' H' hi ⟨o7,rfl,g,gg,hL⟩;have hi':i<r.rule.length:=by omega
   have e1:(0+(i:Int)).toNat=i:=by omega
   have e2:(0+(i:Int)+1).toNat=i+1:=by omega
   have lL:(dW n r.rule i).length=r.rule.length+1:=cH ..;refine⟨_,rfl,_,rfl,_,_,.inl (SqL.of hL),bB (ns:=dW n r.rule i) (by omega:(0:Int)<=0+(i:Int)) (by omega),?_⟩;refine⟨_,rfl,_,rfl,_,_,.inr (SqT.of (g _ _ hR)),bB (ns:=r.rule) (by omega:(0:Int)<=0+(i:Int)) (by omega),?_⟩;refine⟨_,rfl,_,rfl,l5,_,_,i,rfl,rfl,hL,zF (by omega) (by rw[List.length_map];omega),?_⟩;rw[jo,e1];have gu:=g.upd f5 (.lst (((dW n r.rule i).set i ((dW n r.rule i).getD i 0+r.rule.getD i 0)).map V.int));have ggu:=gg.upd f51 (.lst (((dW n r.rule i).set i ((dW n r.rule i).getD i 0+r.rule.getD i 0)).map V.int));have hL2:(upd H' l5 (.lst (((dW n r.rule i).set i ((dW n r.rule i).getD i 0+r.rule.getD i 0)).map V.int))) l5=some (.lst (((dW n r.rule i).set i ((dW n r.rule i).getD i 0+r.rule.getD i 0)).map V.int)):=aB;generalize upd H' l5 (.lst (((dW n r.rule i).set i ((dW n r.rule i).getD i 0+r.rule.getD i 0)).map V.int))=H6 at gu ggu hL2;refine⟨_,rfl,_,rfl,_,_,.inl (SqL.of hL2),bB (ns:=(dW n r.rule i).set i ((dW n r.rule i).getD i 0+r.rule.getD i 0)) (by omega:(0:Int)<=0+(i:Int)+1) (by rw[List.length_set];omega),?_⟩;refine⟨_,rfl,_,rfl,_,rfl,_,_,.inr (SqT.of (gu _ _ hR)),bB (ns:=r.rule) (by omega:(0:Int)<=0+(i:Int)) (by omega),?_⟩;refine⟨qM hn (Rm.Bd.getD hO.eV _) (by decide),_,_,rfl,rfl,?_⟩;refine⟨_,rfl,_,rfl,l5,_,_,i+1,rfl,rfl,hL2,zF (by omega) (by rw[List.length_map,List.length_set];omega),?_⟩;rw[jo,e1,e2];refine⟨_,rfl,gu.upd f5 _,ggu.upd f51 _,?_⟩;rw[aB,<-Ei hi'];rfl
  ·rintro σ' H' ⟨o7,rfl,g,gg,hL⟩;rw[Int.toNat_natCast]at hL;have lL:(dW n r.rule r.rule.length).length=r.rule.length+1:=cH ..;refine⟨_,rfl,_,rfl,l5,rfl,.inl ⟨⟨_,SqL.of hL⟩,?_⟩⟩;refine JN hL (by omega) rfl (fun x=>Rm.tk r.b x) ?_ ?_
   ·intro H2 x g2 hx k hk;exact⟨_,rfl,_,rfl,r.b,x,rfl,hO.by0,hk⟩
   ·intro D hD;have gD:=Same.new hD (.lst (((dW n r.rule r.rule.length).map fun x=>Rm.tk r.b x).map V.int));refine⟨D,_,rfl,.inl ⟨SqL.of aB,fun t1 ht1=>?_⟩⟩;have gt1:=Same.new ht1 (.tup (((dW n r.rule r.rule.length).map fun x=>Rm.tk r.b x).map V.int));refine⟨_,rfl,l1,_,rfl,.inl ⟨SqL.of (gt1 _ _ (gD _ _ (gg _ _ h1))),fun t2 ht2=>?_⟩⟩;have gt2:=Same.new ht2 (.tup ((r.row (r.rule.length+1)).map V.int));refine⟨(by show 3<=sizeLine;decide),fun t3 ht3=>?_⟩;have gt3:=Same.new ht3 (.tup [.int r.b,.ref t1,.ref t2]);have fin:=ok.longer hb h0 (by omega) hsh hn;rw[<-eb]at fin;refine q _ ⟨r.b,(dW n r.rule r.rule.length).map (Rm.tk r.b),r.row (r.rule.length+1)⟩ _ (g.trans (gD.trans (gt1.trans (gt2.trans gt3)))) ⟨t3,t1,t2,rfl,aB,gt3 _ _ (gt2 _ _ aB),gt3 _ _ aB⟩ (by rw[<-eb];exact fin) (by show((dW n r.rule r.rule.length).map (Rm.tk r.b)).length=_;rw[List.length_map,cH])
theorem yx(F:Fn K mg "_law_drawn_row" mL ["_law_script","_law_start","_law_by","_law_most"])(fM:rE P w K mg base)(iB:yW P w K mg base)(dJ:lW P w K mg base)(jP:n6 P w K mg base)(cO:nJ P w K mg base):sU P w K mg base:=by
 refine F.cal cZ (fun vs H Q E h=>?_) (fun f cdv A outer s H vs Q E hr h=>?_)
 ·obtain⟨a,ns,st,b,m,rfl,_⟩:=h;rfl
 ·obtain⟨a,ns,st,b,m,rfl,hS,s0,s1,hB,hb,m0,m1,q⟩:=h;refine⟨_,(ao (aJ (i:=4) cZ.nd rfl (Or.inl rfl) (aq fM hr rfl (aK (pv 0) (aK (pv 1) ak))))
   (ao (aJ (i:=5) cZ.nd rfl (Or.inl rfl) (aL fW (aq iB hr rfl (aK (pv 4) (gF au ak))) (aL (iQ K) (pv 3) au)))
   (ao (aJ (i:=6) cZ.nd rfl (Or.inr rfl) (aq fM hr rfl (aK (pv 0) (nQ (aL (iQ K) (pv 1) au) ak))))
   (ao (aJ (i:=7) cZ.nd rfl (Or.inl rfl) (bV (j7 K) rfl B.ig boot_tuple (aF (dz (sc:=vD) (N:=["_law_k","_law_by","_law_mine"]) (ix:=[none,some 2,some 6]) cT rfl (bW rfl B.cF (aK (pv 5) ak)) (fun cl C s₀ H₀ ex=>⟨(bw (i:=0) jB rfl (Or.inl rfl)),cV,(aq dJ hr rfl (aK (pv 1) (aK (pv 2) (aK (pv 0) ak))))⟩)) ak)))
   (ao (aJ (i:=9) cZ.nd rfl (Or.inl rfl) (jH (aK (pv 2) (aK (pv 7) (aF (bV (j7 K) rfl B.ig boot_tuple (aF (dz (sc:=vM) (N:=["_law_k","_law_by","_law_mine"]) (ix:=[none,some 2,some 6]) cT rfl (bW rfl B.cF (aK (pv 5) ak)) (fun cl C s₀ H₀ ex=>⟨(bw (i:=0) jB rfl (Or.inl rfl)),cV,(aq dJ hr rfl (aK (pv 1) (aK (pv 2) (nQ (aL (iQ K) au (pv 0)) ak))))⟩)) ak)) ak)))))
   (ao (n8 PassesOwn.never rfl (bW rfl B.cF (aF (bf (xix K) (jE (gF au (gF au (gF au (gF au (gF au (gF au (gF au (gF au ak))))))))) (aL fW (aq iB hr rfl (aK (pv 4) (gF au ak))) au) (fun _ _=>rfl)) ak)) (bw (i:=8) cZ.nd rfl (Or.inl rfl))
   (aH (zZ (jq (cg zx (aN (jy K) rfl B.cP boot_len (aF (bf (xix K) (pv 9) au (fun _ _=>rfl)) ak)) au (cB _))
   (aH (aJ (i:=9) cZ.nd rfl (Or.inl rfl) (aq jP hr rfl (aK (pv 9) (aF (aq cO hr rfl (aK (pv 2) (nQ (aL cD (aL fW (aq iB hr rfl (aK (pv 4) (nQ (aL (iQ K) au (pv 8)) ak))) au) au) ak))) ak)))))
   cW))))
   (aH (aU (pv 9))))))))),?_⟩
  refine⟨_,rfl,_,rfl,a,ns,st,rfl,hS,s0,by omega,hB,fun c hc=>?_⟩;refine⟨_,rfl,c,2,rfl,by decide,by decide,fun x x0 x1=>?_⟩;refine⟨_,rfl,_,_,rfl,rfl,(by show 0<m+1;omega),?_⟩;have k0:=eX x (show 0<m+1 by omega);have k1:=eY x (show 0<m+1 by omega);dsimp only;generalize x%(m+1)=sz at k0 k1;refine⟨_,rfl,_,rfl,a,ns,st+1,rfl,hS,by omega,by omega,hB,fun c2 hc2=>?_⟩;obtain⟨N,rfl⟩:∃N:Nat,sz=(N:Int):=⟨sz.toNat,by omega⟩;refine⟨_,rfl,N,rfl,(by omega:-(2^62)<=(N:Int)),(by omega:(N:Int)<2^62),?_⟩;rw[Int.toNat_natCast];refine uD (n:=N) (by omega) rfl (fun x=>fJ b x/\Rm.Bd 13 x) ?_ ?_
  ·intro H2 k g2 hk kk hkk;exact⟨_,rfl,_,rfl,_,rfl,b,c2,0+(k:Int),rfl,hb,hc2,by omega,by omega,fun x H3 g3 h1 _ h2=>hkk x H3 g3 ⟨h1,(h2 (by omega)).1⟩⟩
  intro D H1 rule hD g1 hD1 lr hr;refine⟨D,_,rfl,.inl ⟨SqL.of hD1,fun t1 ht1=>?_⟩⟩;have gt1:=Same.new ht1 (.tup (rule.map V.int));have h1:(upd H1 t1 (.tup (rule.map V.int))) t1=some (.tup (rule.map V.int)):=aB;have g2:=g1.trans gt1;generalize upd H1 t1 (.tup (rule.map V.int))=H2 at gt1 h1 g2;refine⟨_,rfl,_,rfl,_,rfl,N,rfl,(by omega:-(2^62)<=(N:Int)),(by omega:(N:Int)<2^62),?_⟩;rw[Int.toNat_natCast];refine uD (n:=N) (by omega) rfl (fun x=>fJ b x/\Rm.Bd 31 x) ?_ ?_
  ·intro H3 k g3 hk kk hkk;exact⟨_,rfl,_,rfl,_,rfl,b,c2,15+(0+(k:Int)),rfl,hb,hc2,by omega,by omega,fun x H3 g3 h1 h2 _=>hkk x H3 g3 ⟨h1,h2⟩⟩
  intro D2 H3 starts hD2 g3 hD3 ls hs;refine⟨D2,_,rfl,.inl ⟨SqL.of hD3,fun t2 ht2=>?_⟩⟩;have gt2:=Same.new ht2 (.tup (starts.map V.int));refine⟨(by show 3<=sizeLine;decide),fun t3 ht3=>?_⟩;have gt3:=Same.new ht3 (.tup [.int b,.ref t1,.ref t2]);have gA:=g2.trans (g3.trans (gt2.trans gt3));have R0:cI (upd (upd H3 t2 (.tup (starts.map V.int))) t3 (.tup [.int b,.ref t1,.ref t2])) (.ref t3) ⟨b,rule,starts⟩:=⟨t3,t1,t2,rfl,aB,gt3 _ _ (gt2 _ _ (g3 _ _ h1)),gt3 _ _ aB⟩;generalize upd (upd H3 t2 (.tup (starts.map V.int))) t3 (.tup [.int b,.ref t1,.ref t2])=H4 at gA R0;have B0:Bs b m.toNat ⟨b,rule,starts⟩:=⟨rfl,lr.trans ls.symm,(by show rule.length<=m.toNat;omega),by omega,fun x hx=>(hr x hx).1,fun x hx=>(hs x hx).1,fun x hx=>(hr x hx).2,fun x hx=>(hs x hx).2⟩;have S0:RwS b ⟨b,rule,starts⟩ 0 ⟨b,rule,starts⟩:=⟨rfl,lr.trans ls.symm,(by show rule.length<=12;omega),fun x hx=>(hr x hx).1,fun x hx=>(hr x hx).2,fun _=>rfl⟩;have lr0:rule.length<=m.toNat:=by omega
  refine⟨(by show 8<=sizeLine;decide),fun p8 hp8=>?_⟩;have g8:=Same.new hp8 (.lst (uM.map V.int));refine⟨_,rfl,c,3,rfl,by decide,by decide,fun y y0 y1=>?_⟩;have e0:=eX y (show(0:Int)<8 by decide);have e1:=eY y (show(0:Int)<8 by decide);refine⟨_,_,rfl,rfl,(by decide:(0:Int)<8),_,_,.inl (SqL.of aB),bB (ns:=uM) e0 e1,?_⟩;have ty:=Ie (y%8).toNat (by omega);generalize uM.getD (y%8).toNat 0=T at ty;have g9:=gA.trans g8;have R1:=R0.same g8;have eH:(upd H4 p8 (.lst [.int 0,.int 0,.int 1,.int 0,.int 2,.int 0,.int 0,.int 3]))=upd H4 p8 (.lst (uM.map V.int)):=rfl;rw[eH];generalize upd H4 p8 (.lst (uM.map V.int))=H5 at g9 R1;refine⟨T,rfl,(by omega:-(2^62)<=T),(by omega:T<2^62),?_⟩;refine gw (lo:=0) (n:=T.toNat) (fun i σ' H'=>∃(v:V) (r:Rw) (o8:Option V),σ'=[some (.ref a),some (.int st),some (.int b),some (.int m),some (.int c),some (.int N),some (.int c2),some (.ref t1),o8,some v]/\Same H H'/\cI H' v r/\RwS b ⟨b,rule,starts⟩ i r/\r.rule.length<=m.toNat+i) ⟨.ref t3,_,_,rfl,g9,R1,S0,lr0⟩ ?_ ?_
  ·rintro i σ' H' hi ⟨v,r,o8,rfl,g,hR,ok,lm⟩;obtain⟨ra,rp,rq,rfl,hA,hP,hQ2⟩:=id hR;refine Lh.by (fun σ' H'=>∃(v:V) (r:Rw) (o8:Option V),σ'=[some (.ref a),some (.int st),some (.int b),some (.int m),some (.int c),some (.int N),some (.int c2),some (.ref t1),o8,some v]/\Same H H'/\cI H' v r/\RwS b ⟨b,rule,starts⟩ (i+1) r/\r.rule.length<=m.toNat+(i+1)) (fun NN hNN=>?_) (fun σ' H' z=>z);refine⟨_,rfl,_,_,.inr (SqT.of hA),rfl,.ref rp,r.rule.length,rfl,.inr ⟨_,SqT.of hP,(List.length_map _).symm⟩,_,_,rfl,rfl,_,rfl,?_⟩;refine qJ (fun cc=>?_) (fun cc=>hNN _ _ ⟨_,r,_,rfl,g,hR,ok.up,by omega⟩);have hsh:r.rule.length<12:=by have:=dec_true cc;omega
   refine⟨_,rfl,_,rfl,_,rfl,_,rfl,c,4+(0+(i:Int)),rfl,by omega,by omega,fun y2 _ _=>?_⟩;have z0:=eX y2 (show(0:Int)<5 by decide);have z1:=eY y2 (show(0:Int)<5 by decide);refine⟨_,_,rfl,rfl,(by decide:(0:Int)<5),_,_,rfl,rfl,b,_,rfl,hb.lo,?_⟩;refine⟨b,m.toNat,_,i,_,r,_,rfl,hR,hb,B0,ok,by omega,hsh,fj hb (by decide) (Rm.Bd.of (by show -(2^10)<y2%5-2;omega) (by show y2%5-2<2^10;omega)),fun v' r' H2 g2 R2 ok2 l2=>?_⟩;exact hNN _ _ ⟨v',r',_,rfl,g.trans g2,R2,ok2,by omega⟩
  ·rintro σ' H' ⟨v,r,o8,rfl,g,hR,ok,lm⟩;exact⟨_,rfl,q v _ _ r H' g hR B0 ok (by omega) lm⟩
theorem Ag(F:Fn K mg "shared_by" oA ["one","other"]):oG P w K mg base:=by
 refine F.cal zY (fun vs H Q E h=>?_) (fun f cdv A outer s H vs Q E hr h=>?_)
 ·obtain⟨v1,v2,r1,r2,rfl,_⟩:=h;rfl
 ·obtain⟨v1,v2,r1,r2,rfl,⟨a1,p1,q1,rfl,hA1,_,_⟩,⟨a2,p2,q2,rfl,hA2,_,_⟩,e,q⟩:=h;refine⟨_,(ao (jq (cg (xne K hr) (bf (xix K) (pv 0) au (fun _ _=>rfl)) (bf (xix K) (pv 1) au (fun _ _=>rfl)) (cB _))
   (aH tY)
   cW)
   (aH (aU (bf (xix K) (pv 0) au (fun _ _=>rfl))))),?_⟩
  refine⟨_,rfl,_,_,.inr (SqT.of hA1),rfl,_,rfl,_,_,.inr (SqT.of hA2),rfl,_,rfl,?_⟩;rw[decide_eq_true e];refine Ao ?_;exact⟨_,rfl,_,_,.inr (SqT.of hA1),rfl,q⟩
theorem vG(F:Fn K mg "refuse_long" lF ["length"]):gj P w K mg base aG:=by
 refine F.MP vK (fun vs H Q E h=>?_) (fun f cdv A outer s H vs Q E hr h=>?_)
 ·obtain⟨n,rfl,_⟩:=h;rfl
 ·obtain⟨n,rfl,q1,q2⟩:=h;refine⟨_,(aH (jq (cg wM (pv 0) (tW rfl B.ni) (cB _))
   (aH (J0 M.FQ rfl (gF Qu ak)))
   cW)),?_⟩
  refine⟨_,rfl,_,_,rfl,rfl,_,rfl,?_⟩;exact qJ (fun c=>⟨(by show 1<=sizeLine;decide),q2 (dec_true c)⟩) (fun c=>q1 (by have:=dec_false c;omega))
theorem Ca(F:Fn K mg "told_row" su ["by","rule","starts"])(aY:gR P w K mg base)(bF:gK P w K mg base):jg P w K mg base:=by
 refine F.cal oU (fun vs H Q E h=>?_) (fun f cdv A outer s H vs Q E hr h=>?_)
 ·obtain⟨b,a,e,ns,ms,F,n,z,c,d,rfl,_⟩:=h;rfl
 ·obtain⟨b,a,e,ns,ms,F0,n,z,c,d,rfl,hA,hC,hD0,q⟩:=h;have hb0:=hD0.hB.lo;have zn:ns.length<=1000:=by have:=hD0.ln;have:=hD0.n12;omega
  have zm:ms.length<=1000:=by have:=hD0.lm;omega
  refine⟨_,(ao (aJ (i:=3) oU.nd rfl (Or.inl rfl) (bV (j7 K) rfl B.ig boot_tuple (aF (dz (sc:=Ae) (N:=["number","by"]) (ix:=[none,some 0]) cT rfl (MX K (pv 1)) (fun cl C s₀ H₀ ex=>⟨(bw (i:=0) jB rfl (Or.inl rfl)),cV,(aq aY hr rfl (aK (pv 1) (aK (pv 0) ak)))⟩)) ak)))
   (ao (aJ (i:=4) oU.nd rfl (Or.inl rfl) (bV (j7 K) rfl B.ig boot_tuple (aF (dz (sc:=yV) (N:=["number","by"]) (ix:=[none,some 0]) cT rfl (MX K (pv 2)) (fun cl C s₀ H₀ ex=>⟨(bw (i:=0) jB rfl (Or.inl rfl)),cV,(aq aY hr rfl (aK (pv 1) (aK (pv 0) ak)))⟩)) ak)))
   (aH (aU (aq bF hr rfl (Qg (jH (aK (pv 0) (aK (pv 3) (aK (pv 4) ak)))) ak)))))),?_⟩
  refine⟨_,rfl,zQ hA zn rfl (Rm.tk b) ?_ ?_⟩
  ·intro H2 x g2 hx kk hkk;exact⟨_,rfl,_,rfl,b,x,rfl,hb0,hkk⟩
  intro D hD;have gD:=Same.new hD (.lst ((ns.map (Rm.tk b)).map V.int));refine⟨D,_,rfl,.inl ⟨SqL.of aB,fun t1 ht1=>?_⟩⟩;have g1:=Same.new ht1 (.tup ((ns.map (Rm.tk b)).map V.int));have h1:(upd (upd H D (.lst ((ns.map (Rm.tk b)).map V.int))) t1 (.tup ((ns.map (Rm.tk b)).map V.int))) t1=some (.tup ((ns.map (Rm.tk b)).map V.int)):=aB;have gD1:=gD.trans g1;generalize upd (upd H D (.lst ((ns.map (Rm.tk b)).map V.int))) t1 (.tup ((ns.map (Rm.tk b)).map V.int))=H1 at gD1 h1;refine⟨_,rfl,zQ (hC.same gD1) zm rfl (Rm.tk b) ?_ ?_⟩
  ·intro H2 x g2 hx kk hkk;exact⟨_,rfl,_,rfl,b,x,rfl,hb0,hkk⟩
  intro D2 hD2;have gD2:=Same.new hD2 (.lst ((ms.map (Rm.tk b)).map V.int));refine⟨D2,_,rfl,.inl ⟨SqL.of aB,fun t2 ht2=>?_⟩⟩;have g2:=Same.new ht2 (.tup ((ms.map (Rm.tk b)).map V.int));have h2:(upd (upd H1 D2 (.lst ((ms.map (Rm.tk b)).map V.int))) t2 (.tup ((ms.map (Rm.tk b)).map V.int))) t2=some (.tup ((ms.map (Rm.tk b)).map V.int)):=aB;have Wn:=gD2.trans g2;have h12:=Wn _ _ h1;generalize upd (upd H1 D2 (.lst ((ms.map (Rm.tk b)).map V.int))) t2 (.tup ((ms.map (Rm.tk b)).map V.int))=H2 at Wn h2 h12;refine⟨_,rfl,_,rfl,_,rfl,(by show 3<=sizeLine;decide),fun t3 ht3=>?_⟩;have g3:=Same.new ht3 (.tup [.int b,.ref t1,.ref t2]);refine⟨.ref t3,⟨b,ns.map (Rm.tk b),ms.map (Rm.tk b)⟩,rfl,⟨t3,t1,t2,rfl,aB,g3 _ _ h12,g3 _ _ h2⟩,hD0.ok,hD0.hB.p,hD0.tame,fun v' L H4 g4 hR lst ll=>?_⟩;have ll':L.length<=ns.length+1:=by have:(ns.map (Rm.tk b)).length=ns.length:=List.length_map _;rw[<-this];exact ll
  exact q v' _ L H4 (gD1.trans (Wn.trans (g3.trans g4))) hR (hD0.tr lst ll') hD0.fb ll'
theorem zE(F:Fn K mg "sum_place" oR ["ours","theirs","n"]):oh P w K mg base:=by
 refine F.cal Ac (fun vs H Q E h=>?_) (fun f cdv A outer s H vs Q E hr h=>?_)
 ·obtain⟨l1,l2,m,a,c,n,rfl,_⟩:=h;rfl
 ·obtain⟨l1,l2,m,a,c,n,rfl,h1,h2,hn,hm,b1,b2,q⟩:=h;refine⟨_,(aH (aU (aL (iQ K) (bf (xix K) (pv 0) (pv 2) (fun _ _=>rfl)) (bf (xix K) (pv 1) (pv 2) (fun _ _=>rfl))))),?_⟩;exact⟨_,rfl,_,rfl,_,_,.inl (SqL.of h1),vW hn,_,rfl,_,rfl,_,_,.inl (SqL.of h2),vW hn,q _ (Same.refl _)⟩
theorem sZ(F:Fn K mg "product_place" jr ["ours","theirs","n"]):jm P w K mg base:=by
 refine F.cal tE (fun vs H Q E h=>?_) (fun f cdv A outer s H vs Q E hr h=>?_)
 ·obtain⟨l1,l2,m,a,c,n,rfl,_⟩:=h;rfl
 ·obtain⟨l1,l2,m,a,c,n,rfl,h1,h2,hn,hm,b1,b2,q⟩:=h;refine⟨_,(aH (aU (aL v_mul (bf (xix K) (pv 0) (pv 2) (fun _ _=>rfl)) (bf (xix K) (pv 1) (pv 2) (fun _ _=>rfl))))),?_⟩;exact⟨_,rfl,_,rfl,_,V.int (a n),.inl (SqL.of h1),vW hn,_,rfl,_,rfl,_,V.int (c n),.inl (SqL.of h2),vW hn,qM (b1 n (by omega)) (b2 n (by omega)) (by decide),q _ (Same.refl _)⟩
theorem uR(F:Fn K mg "rolled_place" jW ["ours","theirs","n"]):jU P w K mg base:=by
 refine F.cal ug (fun vs H Q E h=>?_) (fun f cdv A outer s H vs Q E hr h=>?_)
 ·obtain⟨l1,l2,m,a,c,n,rfl,_⟩:=h;rfl
 ·obtain⟨l1,l2,m,a,c,n,rfl,h1,h2,hn,hm,b1,b2,q⟩:=h;refine⟨_,(aH (aU (aN (SD K rfl) rfl B.Gj boot_sum (aF (dz (sc:=tG) (N:=["i","n","ours","theirs"]) (ix:=[none,some 2,some 0,some 1]) cT rfl (bW rfl B.cF (nQ (aL (iQ K) (pv 2) au) ak)) (fun cl C s₀ H₀ ex=>⟨(bw (i:=0) jB rfl (Or.inl rfl)),cV,(aL v_mul (bf (xix K) (pv 2) (pv 0) (fun _ _=>rfl)) (bf (xix K) (pv 3) (aL cD (pv 1) (pv 0)) (fun _ _=>rfl)))⟩)) ak)))),?_⟩;refine⟨_,rfl,(n:Int)+1,rfl,(by omega:-(2^62)<=(n:Int)+1),(by omega:(n:Int)+1<2^62),?_⟩;rw[show((n:Int)+1).toNat=n+1 by omega];refine jY (n:=n+1) (by omega) rfl (fun i=>a i*c (n-i)) ?_ ?_
  ·intro H8 k g8 hk kk hkk;refine⟨_,rfl,_,rfl,_,V.int (a k),.inl (SqL.of (g8 _ _ h1)),(by rw[Int.zero_add];exact vW (by omega)),_,rfl,_,rfl,_,rfl,_,_,rfl,rfl,_,V.int (c (n-k)),.inl (SqL.of (g8 _ _ h2)),(by rw[Int.zero_add,show(n:Int)-(k:Int)=((n-k:Nat):Int)by omega];exact vW (by omega)),qM (b1 k (by omega)) (b2 (n-k) (by omega)) (by decide),hkk _ (Same.refl _)⟩
  ·intro D H8 hD g8 h8;refine⟨D,Pm.ofF (n+1) fun i=>a i*c (n-i),rfl,SqL.of h8,?_⟩;rw[G7];exact q _ g8
theorem Bj(F:Fn K mg "pair_row" sH ["one","other","rule","pair_place"])(bZ:iu P w K mg base)(cA:jg P w K mg base)(gU:oh P w K mg base)(dU:jU P w K mg base)(dB:jm P w K mg base):qT P w K mg base:=by
 refine F.cal lU (fun vs H Q E h=>?_) (fun f cdv A outer s H vs Q E hr h=>?_)
 ·obtain⟨f0,v1,v2,t,g,b,r1,r2,ns,n,z,c,d,rfl,_⟩:=h;rfl
 ·obtain⟨f0,v1,v2,t,g,b,r1,r2,ns,n,z,c,d,rfl,hg,hR1,hR2,ok1,ok2,eb,w1',w3',hT,hD0,q⟩:=h;refine⟨_,(ao (aJ (i:=4) lU.nd rfl (Or.inl rfl) (aN (jy K) rfl B.cP boot_len (aK (pv 2) ak)))
   (ao (aJ (i:=5) lU.nd rfl (Or.inr rfl) (aq bZ hr rfl (aK (pv 0) (aK (pv 4) ak))))
   (ao (aJ (i:=6) lU.nd rfl (Or.inr rfl) (aq bZ hr rfl (aK (pv 1) (aK (pv 4) ak))))
   (aH (aU (aq cA hr rfl (aF (bf (xix K) (pv 0) au (fun _ _=>rfl)) (aK (pv 2) (aF (dz (sc:=za) (N:=["n","ours","pair_place","theirs"]) (ix:=[none,some 5,some 3,some 6]) cT rfl (bW rfl B.cF (aK (pv 4) ak)) (fun cl C s₀ H₀ ex=>⟨(bw (i:=0) jB rfl (Or.inl rfl)),cV,(EB gU dU dB hr (pv 2) (aK (pv 1) (aK (pv 3) (aK (pv 0) ak))))⟩)) ak))))))))),?_⟩
  have n12:ns.length<=12:=Nat.le_trans hD0.ln hD0.n12;have lT:(ns.map V.int).length=ns.length:=List.length_map _;refine⟨_,rfl,.ref t,ns.length,rfl,hT.elim (fun h=> .inl ⟨_,SqL.of h,lT.symm⟩) (fun h=> .inr ⟨_,SqT.of h,lT.symm⟩),?_⟩;refine⟨_,rfl,_,rfl,v1,r1,(ns.length:Int),rfl,hR1,ok1,by omega,by omega,fun l1 H1 g1 f1 h1=>?_⟩;rw[Int.toNat_natCast,yu]at h1;refine⟨_,rfl,_,rfl,v2,r2,(ns.length:Int),rfl,hR2.same g1,ok2,by omega,by omega,fun l2 H2 g2 f2 h2=>?_⟩;rw[Int.toNat_natCast,yu]at h2;have g12:=g1.trans g2;obtain⟨a1,p1,q1,rfl,hA1,hP1,hS1⟩:=id (hR1.same g12);have h12:=g2 _ _ h1;refine⟨_,rfl,_,_,.inr (SqT.of hA1),rfl,_,rfl,_,rfl,(ns.length:Int),rfl,(by omega:-(2^62)<=(ns.length:Int)),(by omega:(ns.length:Int)<2^62),?_⟩;rw[Int.toNat_natCast];refine jY (n:=ns.length) (by omega) rfl (f0 r1.at r2.at) ?_ ?_
  ·intro H8 k g8 hk kk hkk;rcases hg with⟨hm,ef⟩|⟨hm,ef⟩|⟨hm,ef⟩
   ·subst ef;exact⟨_,rfl,.inl ⟨⟨g,hm,rfl⟩,_,rfl,_,rfl,_,rfl,l1,l2,ns.length,r1.at,r2.at,k,by rw[Int.zero_add],g8 _ _ h12,g8 _ _ h2,hk,n12,w1',w3',hkk⟩⟩
   ·subst ef;exact⟨_,rfl,.inr (.inl ⟨⟨g,hm,rfl⟩,_,rfl,_,rfl,_,rfl,l1,l2,ns.length,r1.at,r2.at,k,by rw[Int.zero_add],g8 _ _ h12,g8 _ _ h2,hk,n12,w1',w3',hkk⟩)⟩
   ·subst ef;exact⟨_,rfl,.inr (.inr ⟨⟨g,hm,rfl⟩,_,rfl,_,rfl,_,rfl,l1,l2,ns.length,r1.at,r2.at,k,by rw[Int.zero_add],g8 _ _ h12,g8 _ _ h2,hk,n12,w1',w3',hkk⟩)⟩
  ·intro D H8 hD g8 h8;subst eb;refine⟨r1.b,t,D,ns,Pm.ofF ns.length (f0 r1.at r2.at),_,n,z,c,d,rfl,(hT.same g12).same g8,.inl h8,hD0,fun v' r' L' H' g' hR' hT' hF' hl'=>?_⟩;exact q v' r' L' H' (g12.trans (g8.trans g')) hR' hT' hF' hl'
theorem Ad(F:Fn K mg "joint_row" oY ["one","other","pair_place"])(gW:oG P w K mg base)(bF:gK P w K mg base)(bN:gj P w K mg base aG)(qO:AK P w K mg base)(eZ:qg P w K mg base)(jf:qT P w K mg base)(fV:oZ P w K mg base):oE P w K mg base aG:=by
 refine F.MP iC (fun vs H Q E h=>?_) (fun f cdv A outer s H vs Q E hr h=>?_)
 ·obtain⟨f0,v1,v2,g,rfl,_⟩:=h;rfl
 ·obtain⟨f0,v1,v2,g,rfl,hg,b,r1,r2,n1,u1,c1,d1,n2,u2,c2,d2,L1,L2,hR1,hR2,M1,M2,wk,tZ,hw1,hw2,adV,q1,q2⟩:=h;refine⟨_,(ao (aJ (i:=3) iC.nd rfl (Or.inl rfl) (aq gW hr rfl (aK (pv 0) (aK (pv 1) ak))))
   (ao (aJ (i:=4) iC.nd rfl (Or.inl rfl) (aq bF hr rfl (aK (pv 0) ak)))
   (ao (aJ (i:=5) iC.nd rfl (Or.inl rfl) (aq bF hr rfl (aK (pv 1) ak)))
   (ao (jx (kE bN hr rfl (nQ (aL (iQ K) (aN (jy K) rfl B.cP boot_len (aF (bf (xix K) (pv 4) au (fun _ _=>rfl)) ak)) (aN (jy K) rfl B.cP boot_len (aF (bf (xix K) (pv 5) au (fun _ _=>rfl)) ak))) ak)))
   (ao (aJ (i:=6) iC.nd rfl (Or.inl rfl) (aq qO hr rfl (aK (pv 3) (aF (aq eZ hr rfl (aK (pv 3) (aF (bf (xix K) (pv 4) au (fun _ _=>rfl)) ak))) (aF (aq eZ hr rfl (aK (pv 3) (aF (bf (xix K) (pv 5) au (fun _ _=>rfl)) ak))) ak)))))
   (aH (aU (aq jf hr rfl (aK (pv 4) (aK (pv 5) (aF (aq fV hr rfl (aK (pv 3) (aK (pv 6) ak))) (aK (pv 2) ak)))))))))))),?_⟩
  have e1:=M1.by_;have e2:=M2.by_;have hb:=M1.hB;have hb0:=hb.lo;have k1:=wk.mon.pos;have k2:=tZ.mon.pos;have s1:=M1.rA;have s2:=M2.rA;have ll1:=M1.ll wk;have ll2:=M2.ll tZ;refine⟨_,rfl,_,rfl,v1,v2,r1,r2,rfl,hR1,hR2,by rw[e1,e2],?_⟩;rw[e1];refine⟨_,rfl,v1,r1,rfl,hR1,M1.ok,M1.byp,M1.tame,fun x1 L1' H1 g1 hS1 Hv _=>?_⟩;have eL1:L1'=L1:=by
   rw[e1]at Hv;exact Hv.uniq hb.one wk
  subst eL1;refine⟨_,rfl,v2,r2,rfl,hR2.same g1,M2.ok,M2.byp,M2.tame,fun x2 L2' H2 g2 hS2 IB _=>?_⟩;have eL2:L2'=L2:=by
   rw[e2]at IB;exact IB.uniq hb.one tZ
  subst eL2;obtain⟨ok1,_,ea1,l1,_,eP1⟩:=M1.sh wk;obtain⟨ok2,_,ea2,l2,_,eP2⟩:=M2.sh tZ;have R7:=hS1.same g2;obtain⟨a1,p1,t1,rfl,hC1,hP1,hT1⟩:=id R7;obtain⟨a2,p2,t2,rfl,hC2,hP2,hT2⟩:=id hS2;have lS1:((aQ r1 L1').rule.map V.int).length=L1'.length-1:=by rw[List.length_map,l1]
  have lS2:((aQ r2 L2').rule.map V.int).length=L2'.length-1:=by rw[List.length_map,l2]
  refine⟨_,rfl,_,_,.inr (SqT.of hC1),rfl,.ref p1,L1'.length-1,rfl,.inr ⟨_,SqT.of hP1,lS1.symm⟩,_,rfl,_,_,.inr (SqT.of hC2),rfl,.ref p2,L2'.length-1,rfl,.inr ⟨_,SqT.of hP2,lS2.symm⟩,?_⟩;refine⟨((L1'.length-1:Nat):Int)+((L2'.length-1:Nat):Int),rfl,fun hle=>?_,fun hlt=>q2 (by omega) _ (g1.trans g2)⟩;have hle':L1'.length-1+(L2'.length-1)<=12:=by omega
  obtain⟨n,c,d,hn,n12,hK,bd,c10,hst,hsz,q⟩:=q1 hle';have bc1:=M1.fb.least hb wk;have bc2:=M2.fb.least hb tZ;have u1':=M1.fb.u10;have m1:=M1.fb.n12;have m2:=M2.fb.n12;refine⟨_,rfl,_,rfl,_,rfl,_,_,.inr (SqT.of hC1),rfl,b,p1,(aQ r1 L1').rule,rfl,hb0,hP1,by omega,fun t3 H3 g3 h3=>?_⟩;refine⟨_,rfl,_,rfl,_,_,.inr (SqT.of (g3 _ _ hC2)),rfl,b,p2,(aQ r2 L2').rule,rfl,hb0,g3 _ _ hP2,by omega,fun t4 H4 g4 h4=>?_⟩;rw[eP1]at h3;rw[eP2]at h4;refine⟨b,t3,t4,L1',L2',rfl,hb0,g4 _ _ h3,h4,by omega,by omega,GC bc1 (by omega),GC bc2 (by omega),fun t5 H5 g5 h5=>?_⟩;have g35:=g3.trans (g4.trans g5);obtain⟨hm,hl2⟩:=Fy hb wk.mon tZ.mon;refine⟨_,rfl,_,rfl,_,rfl,_,rfl,b,t5,Pm.mul b L1' L2',rfl,hb0,h5,by omega,by omega,fun t6 H6 g6 h6=>?_⟩;have g36:=g35.trans g6;have eR:(Pm.cL b (Pm.mul b L1' L2')).map (Rm.tk b)=Pm.cL b (Pm.mul b L1' L2'):=jl fun y hy=>by
   obtain⟨k,_,rfl⟩:=Pm.eE (show y∈Pm.ofF _ _ from hy);exact mO hb0 _
  have lR:(Pm.cL b (Pm.mul b L1' L2')).length=L1'.length-1+(L2'.length-1):=by rw[Pm.dR,hl2];rfl
  refine⟨_,rfl,f0,.ref a1,.ref a2,t6,g,b,aQ r1 L1',aQ r2 L2',Pm.cL b (Pm.mul b L1' L2'),n,u1+u2+13*(n1+n2+3),c,d,rfl,hg,R7.same g36,hS2.same g36,ok1,ok2,e1,by rw[ea1];exact M1.fb.few hw1,by rw[ea2];exact M2.fb.few hw2,.inr h6,?_,fun v' r' L' H' g' hR' hT' hF' hl'=>?_⟩
  ·rw[ea1,ea2];refine⟨hb,by omega,n12,by rw[Pm.aM],fun x hx=>?_,by omega,by omega,bd,c10,hst,hsz,fun k=>?_⟩
   ·obtain⟨k,_,rfl⟩:=Pm.eE (show x∈Pm.ofF _ _ from hx);refine fj hb (by omega) ?_;rw[Int.zero_sub];exact Pm.uZ (Pm.ju (fun x hx=>(MS hb (by omega) (by omega) bc1 bc2 x hx).mono (by omega)) _)
   ·rw[eR,lR,show(Pm.ofF (L1'.length-1+(L2'.length-1)) (f0 r1.at r2.at)).map (Rm.tk b)=Pm.ofF (L1'.length-1+(L2'.length-1)) fun n=>Rm.tk b (f0 r1.at r2.at n)from List.map_map ..];exact Rr hb wk.mon tZ.mon hK k
  ·rw[ea1,ea2]at hT' hF';have hln:=hT'.len;rw[lR]at hl';exact q v' r' L' H' (g1.trans (g2.trans (g36.trans g'))) hR' hT' hF' (by omega)
theorem Jv(F:Fn K mg "added" Bq ["one","other"])(gH:oE P w K mg base aG)(gU:oh P w K mg base):xu P w K mg base aG:=by
 refine F.MP KY (fun vs H Q E h=>?_) (fun f cdv A outer s H vs Q E hr h=>?_)
 ·obtain⟨v1,v2,rfl,_⟩:=h;rfl
 ·obtain⟨v1,v2,rfl,q⟩:=h;refine⟨_,(aH (aU (kE gH hr rfl (aK (pv 0) (aK (pv 1) (aK (xU gU rfl) ak)))))),?_⟩;exact⟨_,rfl,_,rfl,fun g hg=>⟨sV,v1,v2,g,rfl,.inl ⟨hg,rfl⟩,q⟩⟩
theorem Hg(F:Fn K mg "rolled" wZ ["one","other"])(gH:oE P w K mg base aG)(dU:jU P w K mg base):wD P w K mg base aG:=by
 refine F.MP Hq (fun vs H Q E h=>?_) (fun f cdv A outer s H vs Q E hr h=>?_)
 ·obtain⟨v1,v2,rfl,_⟩:=h;rfl
 ·obtain⟨v1,v2,rfl,q⟩:=h;refine⟨_,(aH (aU (kE gH hr rfl (aK (pv 0) (aK (pv 1) (aK (xU dU rfl) ak)))))),?_⟩;exact⟨_,rfl,_,rfl,fun g hg=>⟨fH,v1,v2,g,rfl,.inr (.inl ⟨hg,rfl⟩),q⟩⟩
theorem vo(F:Fn K mg "behind_first" jT ["rule","sums","k"]):jR P w K mg base:=by
 refine F.cal mJ (fun vs H Q E h=>?_) (fun f cdv A outer s H vs Q E hr h=>?_)
 ·obtain⟨a,c,rule,sums,k,rfl,_⟩:=h;rfl
 ·obtain⟨a,c,rule,sums,k,rfl,hA,hC,k1,k24,hl,b1,b2,q⟩:=h;refine⟨_,(ao (aJ (i:=3) mJ.nd rfl (Or.inl rfl) (aN (E6 rfl) rfl B.Ys boot_min (nQ (aL cD (pv 2) au) (aF (aN (jy K) rfl B.cP boot_len (aK (pv 0) ak)) ak))))
   (aH (aU (aN (SD K rfl) rfl B.Gj boot_sum (aF (dz (sc:=tu) (N:=["i","k","rule","sums"]) (ix:=[none,some 2,some 0,some 1]) cT rfl (bW rfl B.cF (aK (pv 3) ak)) (fun cl C s₀ H₀ ex=>⟨(bw (i:=0) jB rfl (Or.inl rfl)),cV,(aL v_mul (bf (xix K) (pv 2) (pv 0) (fun _ _=>rfl)) (bf (xix K) (pv 3) (aL cD (aL cD (pv 1) au) (pv 0)) (fun _ _=>rfl)))⟩)) ak))))),?_⟩
  have lR:(rule.map V.int).length=rule.length:=List.length_map _;refine⟨_,rfl,_,_,rfl,rfl,_,rfl,.ref a,rule.length,rfl,hA.elim (fun h=> .inl ⟨_,SqL.of h,lR.symm⟩) (fun h=> .inr ⟨_,SqT.of h,lR.symm⟩),(k:Int)-1,(rule.length:Int),rfl,?_⟩;have em:(if(rule.length:Int)<(k:Int)-1 then(rule.length:Int)else(k:Int)-1)=((min (k-1) rule.length:Nat):Int):=by split<;>omega
  rw[em];refine⟨_,rfl,((min (k-1) rule.length:Nat):Int),rfl,(by omega:-(2^62)<=((min (k-1) rule.length:Nat):Int)),(by omega:((min (k-1) rule.length:Nat):Int)<2^62),?_⟩;rw[Int.toNat_natCast];refine jY (n:=min (k-1) rule.length) (by omega) rfl (fun i=>Pm.co rule i*Pm.co sums (k-2-i)) ?_ ?_
  ·intro H2 i g2 hi kk hkk;exact⟨_,rfl,_,rfl,_,V.int (Pm.co rule i),(hA.same g2).imp SqL.of SqT.of,(by rw[Int.zero_add];exact Ai (by omega)),_,rfl,_,rfl,_,_,rfl,rfl,_,rfl,_,_,rfl,rfl,_,V.int (Pm.co sums (k-2-i)),(hC.same g2).imp SqL.of SqT.of,(by rw[Int.zero_add,show(k:Int)-2-(i:Int)=((k-2-i:Nat):Int)by omega];exact Ai (by omega)),qM (Pm.ju b1 i) (Pm.ju b2 (k-2-i)) (by decide),hkk _ (Same.refl _)⟩
  ·intro D H8 hD g8 h8;refine⟨D,Pm.ofF (min (k-1) rule.length) fun i=>Pm.co rule i*Pm.co sums (k-2-i),rfl,SqL.of h8,?_⟩;rw[G7];exact q _ g8
theorem wW(F:Fn K mg "power_sums" m6 ["rule","count"])(dO:jR P w K mg base):m7 P w K mg base:=by
 refine F.cal jc (fun vs H Q E h=>?_) (fun f cdv A outer s H vs Q E hr h=>?_)
 ·obtain⟨a,rule,n,w,rfl,_⟩:=h;rfl
 ·obtain⟨a,rule,n,w,rfl,hA,n12,hnw,hw,br,q⟩:=h;refine⟨_,(ao (aJ (i:=2) jc.nd rfl (Or.inl rfl) (jE ak))
   (ao (n8 PassesOwn.never rfl (pJ rfl B.cF (gF au (nQ (aL (iQ K) (pv 1) au) ak))) (bw (i:=3) jc.nd rfl (Or.inl rfl))
   (ao (aJ (i:=4) jc.nd rfl (Or.inl rfl) (Ir (wX (cg QF (pv 3) (aN (jy K) rfl B.cP boot_len (aK (pv 0) ak)) (cB _)) (aL v_mul (pv 3) (bf (xix K) (pv 0) (aL cD (pv 3) au) (fun _ _=>rfl))) au)))
   (aH (jx (uH K (pv 2) (aL (iQ K) (pv 4) (aq dO hr rfl (aK (pv 0) (aK (pv 2) (aK (pv 3) ak))))))))))
   (aH (aU (pv 2))))),?_⟩
  have lR:(rule.map V.int).length=rule.length:=List.length_map _;have b1:∀x∈rule,Rm.Bd 60000 x:=fun x hx=>by
   obtain⟨k,hk,e⟩:=List.mem_iff_getElem.mp hx;have:=br k;rw[Pm.ql hk,e]at this;exact this.bd.mono (by omega)
  refine⟨(by show 0<=sizeLine;decide),fun l hl=>?_⟩;refine⟨_,rfl,1,(n:Int)+1,rfl,⟨by omega,by omega,by omega,by omega⟩,?_⟩;rw[show((n:Int)+1-1).toNat=n by omega];refine gw (lo:=1) (n:=n) (fun i σ' H'=>∃(o3 o4:Option V) (sums:List Int),σ'=[some (.ref a),some (.int (n:Int)),some (.ref l),o3,o4]/\Same H H'/\H' l=some (.lst (sums.map V.int))/\sums.length=i/\(∀j,j<i->Le (Pm.co sums j) ((2^(w+3))^(j+1)))/\∀k,k<i->Pm.co sums k=(if k+1<=rule.length then((k+1:Nat):Int)*Pm.co rule k else 0)+bhd rule sums (k+1)) ⟨none,none,[],rfl,Same.new hl _,aB,rfl,fun j hj=>absurd hj (by omega),fun j hj=>absurd hj (by omega)⟩ ?_ ?_
  ·rintro i σ' H' hi ⟨o3,o4,sums,rfl,g,hL,ls,bd,eqs⟩;rw[show(1:Int)+(i:Int)=((i+1:Nat):Int)by omega];have hA':=g _ _ hA;refine Bar.by (fun v H1=>v = .int (if i+1<=rule.length then((i+1:Nat):Int)*Pm.co rule i else 0)/\H1=H') (fun kk hkk=>?_) ?_
   ·refine⟨_,rfl,_,rfl,.ref a,rule.length,rfl,.inr ⟨_,SqT.of hA',lR.symm⟩,_,_,rfl,rfl,_,rfl,?_⟩;refine qJ (fun c=>?_) (fun c=>?_)
    ·have c':i+1<=rule.length:=by have:=dec_true c;omega
     have hk:=hkk (.int (if i+1<=rule.length then((i+1:Nat):Int)*Pm.co rule i else 0)) H' ⟨rfl,rfl⟩;rw[if_pos c']at hk;exact⟨_,rfl,_,rfl,_,rfl,_,_,rfl,rfl,_,V.int (Pm.co rule i),.inr (SqT.of hA'),(by rw[show((i+1:Nat):Int)-1=(i:Int)by omega];exact Ai (by omega)),qM (m:=10) (Rm.Bd.of (by omega) (by omega)) (Pm.ju b1 i) (by decide),hk⟩
    ·have c':¬i+1<=rule.length:=by have:=dec_false c;omega
     have hk:=hkk (.int (if i+1<=rule.length then((i+1:Nat):Int)*Pm.co rule i else 0)) H' ⟨rfl,rfl⟩;rw[if_neg c']at hk;exact hk
   rintro _ _ ⟨rfl,rfl⟩;have st:=MV (w:=w) (rule:=rule) (sums:=sums) (k:=i+1) (by omega) (by omega) br (fun j hj=>bd j (by omega));rw[Nat.add_sub_cancel]at st;have adI:sums.length*(w+3)<=n*(w+3):=Nat.mul_le_mul_right _ (by omega);refine⟨_,rfl,.inl ⟨rfl,_,SqL.of hL⟩,_,rfl,_,rfl,_,rfl,_,rfl,a,l,rule,sums,i+1,rfl,.inr hA',.inl hL,by omega,by omega,by omega,b1,Le.list (w:=w+3) (by omega) (fun j hj=>bd j (by omega)),fun H2 g2=>?_⟩;have hL2:=g2 _ _ hL;refine⟨l,_,_,rfl,rfl,hL2,?_,?_⟩
   ·rw[List.length_map,ls];exact bK (by omega)
   ·refine⟨_,_,sums++[(if i+1<=rule.length then((i+1:Nat):Int)*Pm.co rule i else 0)+bhd rule sums (i+1)],rfl,(g.trans g2).upd hl _,by rw[aB,List.map_append];rfl,by rw[List.length_append,ls];rfl,Le.grow ls bd st,fun k hk=>?_⟩;rw[NZ (by omega)];by_cases d:k<i
    ·rw[Pm.bY,if_pos (by omega)];exact eqs k d
    ·have e:k=i:=by omega
     subst e;rw[Pm.bY,if_neg (by omega),ls,Nat.sub_self];rfl
  ·rintro σ' H' ⟨o3,o4,sums,rfl,g,hL,ls,bd,eqs⟩;exact⟨_,rfl,q l sums H' g hL ls bd eqs⟩
theorem uU(F:Fn K mg "rule_of_sums" jO ["sums"])(dO:jR P w K mg base):jL P w K mg base:=by
 refine F.cal jt (fun vs H Q E h=>?_) (fun f cdv A outer s H vs Q E hr h=>?_)
 ·obtain⟨c,sums,n,z,rfl,_⟩:=h;rfl
 ·obtain⟨c,sums,n,z,rfl,hC,hn,n12,hz,bs,q⟩:=h;refine⟨_,(ao (aJ (i:=1) jt.nd rfl (Or.inl rfl) (jE ak))
   (ao (n8 PassesOwn.never rfl (pJ rfl B.cF (gF au (nQ (aL (iQ K) (aN (jy K) rfl B.cP boot_len (aK (pv 0) ak)) au) ak))) (bw (i:=2) jt.nd rfl (Or.inl rfl))
   (aH (jx (uH K (pv 1) (aL Cq (aL cD (bf (xix K) (pv 0) (aL cD (pv 2) au) (fun _ _=>rfl)) (aq dO hr rfl (aK (pv 1) (aK (pv 0) (aK (pv 2) ak))))) (pv 2))))))
   (aH (aU (pv 1))))),?_⟩
  have lS:(sums.map V.int).length=n:=by rw[List.length_map,hn]
  have adT:sums.length*z<=n*z:=Nat.mul_le_mul_right _ (by omega);have b2:∀x∈sums,Rm.Bd 60000 x:=Le.list (w:=z) (by omega) (fun j hj=>bs j (by omega));refine⟨(by show 0<=sizeLine;decide),fun l hl=>?_⟩;have gl:=Same.new hl (.lst []);refine⟨_,rfl,.ref c,n,rfl,.inl ⟨_,SqL.of (gl _ _ hC),lS.symm⟩,1,(n:Int)+1,rfl,⟨by omega,by omega,by omega,by omega⟩,?_⟩;rw[show((n:Int)+1-1).toNat=n by omega];refine gw (lo:=1) (n:=n) (fun i σ' H'=>∃(o2:Option V) (rule:List Int),σ'=[some (.ref c),some (.ref l),o2]/\Same H H'/\H' l=some (.lst (rule.map V.int))/\rule.length=i/\(∀j,j<i->Le (Pm.co rule j) ((2^z)^(j+1)))/\∀k,k<i->Pm.co rule k=(Pm.co sums k-bhd rule sums (k+1))/((k+1:Nat):Int)) ⟨none,[],rfl,gl,aB,rfl,fun j hj=>absurd hj (by omega),fun j hj=>absurd hj (by omega)⟩ ?_ ?_
  ·rintro i σ' H' hi ⟨o2,rule,rfl,g,hL,lr,bd,eqs⟩;rw[show(1:Int)+(i:Int)=((i+1:Nat):Int)by omega];have hC':=g _ _ hC;have st:=J3 (Z:=2^z) (rule:=rule) (sums:=sums) (k:=i+1) (by omega) (by omega) (fun j hj=>bd j (by omega)) (fun j hj=>bs j (by omega));rw[Nat.add_sub_cancel]at st;have adH:rule.length*z<=n*z:=Nat.mul_le_mul_right _ (by omega);refine⟨_,rfl,.inl ⟨rfl,_,SqL.of hL⟩,_,rfl,_,rfl,_,_,rfl,rfl,_,V.int (Pm.co sums i),.inl (SqL.of hC'),(by rw[show((i+1:Nat):Int)-1=(i:Int)by omega];exact Ai (by omega)),_,rfl,_,rfl,_,rfl,l,c,rule,sums,i+1,rfl,.inl hL,.inl hC',by omega,by omega,by omega,Le.list (w:=z) (by omega) (fun j hj=>bd j (by omega)),b2,fun H2 g2=>?_⟩;have hL2:=g2 _ _ hL;refine⟨_,_,rfl,rfl,_,rfl,_,_,rfl,rfl,⟨by omega,by show((i+1:Nat):Int)<1073741824;omega⟩,l,_,_,rfl,rfl,hL2,?_,?_⟩
   ·rw[List.length_map,lr];exact bK (by omega)
   ·refine⟨_,rule++[(Pm.co sums i-bhd rule sums (i+1))/((i+1:Nat):Int)],rfl,(g.trans g2).upd hl _,by rw[aB,List.map_append];rfl,by rw[List.length_append,lr];rfl,Le.grow lr bd st,fun k hk=>?_⟩;rw[JV (by omega)];by_cases d:k<i
    ·rw[Pm.bY,if_pos (by omega)];exact eqs k d
    ·have e:k=i:=by omega
     subst e;rw[Pm.bY,if_neg (by omega),lr,Nat.sub_self];rfl
  ·rintro σ' H' ⟨o2,rule,rfl,g,hL,lr,bd,eqs⟩;exact⟨_,rfl,q l rule H' g hL lr bd eqs⟩
theorem xR(F:Fn K mg "multiplied" mV ["one","other"])(gW:oG P w K mg base)(bF:gK P w K mg base)(bN:gj P w K mg base aG)(dZ:m7 P w K mg base)(dN:jL P w K mg base)(jf:qT P w K mg base)(dB:jm P w K mg base):nq P w K mg base aG:=by
 refine F.MP dF (fun vs H Q E h=>?_) (fun f cdv A outer s H vs Q E hr h=>?_)
 ·obtain⟨v1,v2,rfl,_⟩:=h;rfl
 ·obtain⟨v1,v2,rfl,hU⟩:=h;refine⟨_,(ao (jx (aq gW hr rfl (aK (pv 0) (aK (pv 1) ak))))
   (ao (aJ (i:=2) dF.nd rfl (Or.inl rfl) (aq bF hr rfl (aK (pv 0) ak)))
   (ao (aJ (i:=3) dF.nd rfl (Or.inl rfl) (aq bF hr rfl (aK (pv 1) ak)))
   (ao (aJ (i:=4) dF.nd rfl (Or.inl rfl) (aL v_mul (aN (jy K) rfl B.cP boot_len (aF (bf (xix K) (pv 2) au (fun _ _=>rfl)) ak)) (aN (jy K) rfl B.cP boot_len (aF (bf (xix K) (pv 3) au (fun _ _=>rfl)) ak))))
   (ao (jx (kE bN hr rfl (aK (pv 4) ak)))
   (ao (aJ (i:=5) dF.nd rfl (Or.inr rfl) (aq dZ hr rfl (aF (bf (xix K) (pv 2) au (fun _ _=>rfl)) (aK (pv 4) ak))))
   (ao (aJ (i:=6) dF.nd rfl (Or.inr rfl) (aq dZ hr rfl (aF (bf (xix K) (pv 3) au (fun _ _=>rfl)) (aK (pv 4) ak))))
   (ao (aJ (i:=7) dF.nd rfl (Or.inl rfl) (aq dN hr rfl (aF (dz (sc:=vL) (N:=["k","our_sums","their_sums"]) (ix:=[none,some 5,some 6]) cT rfl (bW rfl B.cF (aK (pv 4) ak)) (fun cl C s₀ H₀ ex=>⟨(bw (i:=0) jB rfl (Or.inl rfl)),cV,(aL v_mul (bf (xix K) (pv 1) (pv 0) (fun _ _=>rfl)) (bf (xix K) (pv 2) (pv 0) (fun _ _=>rfl)))⟩)) ak)))
   (aH (aU (aq jf hr rfl (aK (pv 2) (aK (pv 3) (aK (pv 7) (aK (xU dB rfl) ak))))))))))))))),?_⟩
  obtain⟨b,r1,r2,n1,u1,c1,d1,n2,u2,c2,d2,L1,L2,hR1,hR2,M1,M2,wk,tZ,hw1,hw2,q1,q2⟩:=hU;have e1:=M1.by_;have e2:=M2.by_;have hb:=M1.hB;have s1:=M1.rA;have s2:=M2.rA;have ll1:=M1.ll wk;have ll2:=M2.ll tZ;refine⟨_,rfl,_,rfl,v1,v2,r1,r2,rfl,hR1,hR2,by rw[e1,e2],?_⟩;refine⟨_,rfl,v1,r1,rfl,hR1,M1.ok,M1.byp,M1.tame,fun x1 L1' H1 g1 hS1 Hv _=>?_⟩;have eL1:L1'=L1:=by
   rw[e1]at Hv;exact Hv.uniq hb.one wk
  subst eL1;refine⟨_,rfl,v2,r2,rfl,hR2.same g1,M2.ok,M2.byp,M2.tame,fun x2 L2' H2 g2 hS2 IB _=>?_⟩;have eL2:L2'=L2:=by
   rw[e2]at IB;exact IB.uniq hb.one tZ
  subst eL2;obtain⟨ok1,acT,ea1,l1,_,_⟩:=M1.sh wk;obtain⟨ok2,ade,ea2,l2,_,_⟩:=M2.sh tZ;have R7:=hS1.same g2;obtain⟨a1,p1,t1,rfl,hC1,hP1,hT1⟩:=id R7;obtain⟨a2,p2,t2,rfl,hC2,hP2,hT2⟩:=id hS2;have lS1:((aQ r1 L1').rule.map V.int).length=L1'.length-1:=by rw[List.length_map,l1]
  have lS2:((aQ r2 L2').rule.map V.int).length=L2'.length-1:=by rw[List.length_map,l2]
  refine⟨_,rfl,_,_,.inr (SqT.of hC1),rfl,.ref p1,L1'.length-1,rfl,.inr ⟨_,SqT.of hP1,lS1.symm⟩,_,rfl,_,_,.inr (SqT.of hC2),rfl,.ref p2,L2'.length-1,rfl,.inr ⟨_,SqT.of hP2,lS2.symm⟩,mulL (by omega) (by omega),?_⟩;rw[<-Int.natCast_mul];generalize hn:(L1'.length-1)*(L2'.length-1)=N at q1 q2;refine⟨_,rfl,(N:Int),rfl,fun hle=>?_,fun hlt=>q2 (by omega) _ (g1.trans g2)⟩;obtain⟨n,c,d,Nn,n12,bd,c10,hst,hz,hsz,q⟩:=q1 (by omega);have N12:N<=12:=by omega
  have br1:∀i,Le (Pm.co (aQ r1 L1').rule i) (2^(u1+13*(n1+1))):=fun i=>Nat.le_of_lt (Pm.ju acT i);have br2:∀i,Le (Pm.co (aQ r2 L2').rule i) (2^(u2+13*(n2+1))):=fun i=>Nat.le_of_lt (Pm.ju ade i);generalize adP:u1+13*(n1+1)=w1 at br1;generalize adN:u2+13*(n2+1)=w2 at br2;have eu:u1+u2+13*(n1+n2+2)+6=w1+3+(w2+3):=by omega
  rw[eu]at hz hsz q;have z1:N*(w1+3+(w2+3))<=(w1+3+(w2+3))*n:=by rw[Nat.mul_comm];exact Nat.mul_le_mul_left _ Nn
  have z2:N*(w1+3)<=N*(w1+3+(w2+3)):=Nat.mul_le_mul_left _ (by omega);have z3:N*(w2+3)<=N*(w1+3+(w2+3)):=Nat.mul_le_mul_left _ (by omega);have w1b:w1<=59500:=by have:=M1.fb.u59;have:=M1.fb.n12;omega
  have w2b:w2<=59500:=by have:=M2.fb.u59;have:=M2.fb.n12;omega
  refine⟨_,rfl,_,_,.inr (SqT.of hC1),rfl,_,rfl,p1,(aQ r1 L1').rule,N,w1,rfl,hP1,by omega,by omega,w1b,br1,fun l5 s5 H5 g5 h5 ls1 bs1 eq1=>?_⟩;refine⟨_,rfl,_,_,.inr (SqT.of (g5 _ _ hC2)),rfl,_,rfl,p2,(aQ r2 L2').rule,N,w2,rfl,g5 _ _ hP2,by omega,by omega,w2b,br2,fun l6 s6 H6 g6 h6 ls2 bs2 eq2=>?_⟩;have h56:=g6 _ _ h5;have bu1:∀x∈s5,Rm.Bd 60000 x:=Le.list (w:=w1+3) (by rw[ls1];omega) (fun j hj=>bs1 j (by omega));have bu2:∀x∈s6,Rm.Bd 60000 x:=Le.list (w:=w2+3) (by rw[ls2];omega) (fun j hj=>bs2 j (by omega));refine⟨_,rfl,(N:Int),rfl,(by omega:-(2^62)<=(N:Int)),(by omega:(N:Int)<2^62),?_⟩;rw[Int.toNat_natCast];refine jY (n:=N) (by omega) rfl (fun k=>Pm.co s5 k*Pm.co s6 k) ?_ ?_
  ·intro H7 k g7 hk kk hkk;exact⟨_,rfl,_,rfl,_,V.int (Pm.co s5 k),.inl (SqL.of (g7 _ _ h56)),(by rw[Int.zero_add];exact Ai (by omega)),_,rfl,_,rfl,_,V.int (Pm.co s6 k),.inl (SqL.of (g7 _ _ h6)),(by rw[Int.zero_add];exact Ai (by omega)),qM (Pm.ju bu1 k) (Pm.ju bu2 k) (by decide),hkk _ (Same.refl _)⟩
  ·intro D H7 hD g7 h7;refine⟨D,Pm.ofF N fun k=>Pm.co s5 k*Pm.co s6 k,N,w1+3+(w2+3),rfl,h7,Pm.aM ..,N12,by omega,fun i hi=>?_,fun l8 rule H8 g8 h8 lr br eq3=>?_⟩
   ·rw[Pm.bI,if_pos hi,show(2:Nat)^(w1+3+(w2+3))=2^(w1+3)*2^(w2+3)from Nat.pow_add ..,Nat.mul_pow];exact(bs1 i hi).mul (bs2 i hi)
   ·have g38:=g5.trans (g6.trans (g7.trans g8));have hpa:=Pq (b:=b) (c:=(aQ r1 L1').rule) (d:=(aQ r2 L2').rule) (s1:=(aQ r1 L1').starts) (s2:=(aQ r2 L2').starts) (u1:=s5) (u2:=s6) (R:=rule) (N:=N) ok1.len ok2.len (fun x hx=>by have:=ok1.iU x hx;rw[show(aQ r1 L1').b=b from e1]at this;exact this) (fun x hx=>by have:=ok2.iU x hx;rw[show(aQ r2 L2').b=b from e2]at this;exact this) (fun x hx=>by have:=ok1.fY x hx;rw[show(aQ r1 L1').b=b from e1]at this;exact this) (fun x hx=>by have:=ok2.fY x hx;rw[show(aQ r2 L2').b=b from e2]at this;exact this) (by rw[l1,l2];exact hn.symm) lr eq1 eq2 eq3;have f1:Rm.at_ b (aQ r1 L1').rule (aQ r1 L1').starts=r1.at:=by rw[<-ea1,<-e1];rfl
    have f2:Rm.at_ b (aQ r2 L2').rule (aQ r2 L2').starts=r2.at:=by rw[<-ea2,<-e2];rfl
    rw[f1,f2]at hpa;refine⟨_,rfl,_,rfl,_,rfl,fun g hg=>⟨sO,.ref a1,.ref a2,l8,g,b,aQ r1 L1',aQ r2 L2',rule,n,(w1+3+(w2+3))*n+10,c,d,rfl,.inr (.inr ⟨hg,rfl⟩),R7.same g38,hS2.same g38,ok1,ok2,e1,by rw[ea1];exact M1.fb.few hw1,by rw[ea2];exact M2.fb.few hw2,.inl h8,?_,fun v' r' L' H' g' hR' hT' hF' hl'=>?_⟩⟩
    ·rw[ea1,ea2];refine⟨hb,by omega,n12,by rw[Pm.aM],Le.list (w:=w1+3+(w2+3)) (by rw[lr];omega) (fun i hi=>br i (by omega)),by omega,hz,bd,c10,hst,hsz,fun k=>?_⟩;rw[lr,show(Pm.ofF N (sO r1.at r2.at)).map (Rm.tk b)=Pm.ofF N fun n=>Rm.tk b (sO r1.at r2.at n)from List.map_map ..];exact hpa k
    ·rw[ea1,ea2]at hT' hF';have hln:=hT'.len;exact q v' r' L' H' (g1.trans (g2.trans (g38.trans g'))) hR' hT' hF' (by omega)
theorem ou(F:Fn K mg "refuse_far_steps" fQ ["start","step"]):jC P w K mg base:=by
 refine F.cal oF (fun vs H Q E h=>?_) (fun f cdv A outer s H vs Q E hr h=>?_)
 ·obtain⟨st,e,rfl,_⟩:=h;rfl
 ·obtain⟨st,e,rfl,h1,h2,h3,q⟩:=h;refine⟨_,(aH (jq (PW.pt (Hw (cg zx (pv 0) au (cB _)) (Hw (cg wM (pv 0) (tW rfl B.dM) (cB _)) (Hw (cg zx (pv 1) au (cB _)) (MG (cg wM (pv 1) (tW rfl B.fU) (cB _)))))))
   (aH tY)
   cW)),?_⟩
  refine⟨_,rfl,_,_,rfl,rfl,_,rfl,?_⟩;rw[decide_eq_false (by omega:¬(st:Int)<0)];refine Ao ⟨_,rfl,_,_,rfl,rfl,_,rfl,?_⟩;rw[decide_eq_false (by omega:¬(st:Int)>100)];refine Ao ⟨_,rfl,_,_,rfl,rfl,_,rfl,?_⟩;rw[decide_eq_false (by omega:¬(e:Int)<1)];refine Ao ⟨_,rfl,_,_,rfl,rfl,_,rfl,?_⟩;rw[decide_eq_false (by omega:¬(e:Int)>10)];exact Ao q
theorem J1(F:Fn K mg "every" AW ["row","start","step"])(f9:jC P w K mg base)(bF:gK P w K mg base)(dZ:m7 P w K mg base)(bZ:iu P w K mg base)(dN:jL P w K mg base)(cA:jg P w K mg base):Jf P w K mg base:=by
 refine F.cal nK (fun vs H Q E h=>?_) (fun f cdv A outer s H vs Q E hr h=>?_)
 ·obtain⟨v,st,e,rfl,_⟩:=h;rfl
 ·obtain⟨v,st,e,rfl,hU⟩:=h;refine⟨_,(ao (jx (aq f9 hr rfl (aK (pv 1) (aK (pv 2) ak))))
   (ao (aJ (i:=3) nK.nd rfl (Or.inl rfl) (aq bF hr rfl (aK (pv 0) ak)))
   (ao (aJ (i:=4) nK.nd rfl (Or.inl rfl) (aN (jy K) rfl B.cP boot_len (aF (bf (xix K) (pv 3) au (fun _ _=>rfl)) ak)))
   (ao (aJ (i:=5) nK.nd rfl (Or.inr rfl) (aq dZ hr rfl (aF (bf (xix K) (pv 3) au (fun _ _=>rfl)) (nQ (aL v_mul (pv 2) (pv 4)) ak))))
   (ao (aJ (i:=6) nK.nd rfl (Or.inr rfl) (aq bZ hr rfl (aK (pv 3) (nQ (aL (iQ K) (pv 1) (aL v_mul (pv 2) (pv 4))) ak))))
   (ao (aJ (i:=7) nK.nd rfl (Or.inl rfl) (aq dN hr rfl (aF (dz (sc:=Fp) (N:=["k","step","sums"]) (ix:=[none,some 2,some 5]) cT rfl (pJ rfl B.cF (gF au (nQ (aL (iQ K) (pv 4) au) ak))) (fun cl C s₀ H₀ ex=>⟨(bw (i:=0) jB rfl (Or.inl rfl)),cV,(bf (xix K) (pv 2) (aL cD (aL v_mul (pv 1) (pv 0)) au) (fun _ _=>rfl))⟩)) ak)))
   (aH (aU (aq cA hr rfl (aF (bf (xix K) (pv 0) au (fun _ _=>rfl)) (aK (pv 7) (aF (dz (sc:=Fd) (N:=["k","found","start","step"]) (ix:=[none,some 6,some 1,some 2]) cT rfl (bW rfl B.cF (aK (pv 4) ak)) (fun cl C s₀ H₀ ex=>⟨(bw (i:=0) jB rfl (Or.inl rfl)),cV,(bf (xix K) (pv 1) (aL (iQ K) (pv 2) (aL v_mul (pv 3) (pv 0))) (fun _ _=>rfl))⟩)) ak)))))))))))),?_⟩
  obtain⟨b,r,n,u,c,d,L0,hR,M0,abS,hst,e1,e10,hz,acU,hsz,q⟩:=hU;have eb:=M0.by_;subst eb;have hb:=M0.hB;have ok:=M0.ok;have n12:=M0.fb.n12;have u10:=M0.fb.u10;have u59:=M0.fb.u59;refine⟨_,rfl,_,rfl,st,e,rfl,hst,e1,e10,?_⟩;refine⟨_,rfl,v,r,rfl,hR,ok,hb.p,M0.tame,fun x1 L H1 g1 hS lst ll=>?_⟩;have eL:L=L0:=lst.uniq hb.one abS;subst eL;have lL:=M0.fb.len hb lst;have lp:=lst.mon.pos;obtain⟨okS,bdS,eaS,l1,l2,_⟩:=M0.sh lst;obtain⟨c1,p1,t1,rfl,hC1,hP1,hT1⟩:=id hS;have lS:((aQ r L).rule.map V.int).length=L.length-1:=by rw[List.length_map,l1]
  generalize hN:L.length-1=N at l1 l2 lS;have Nn:N<=n:=by omega
  have eN:e*N<=e*n:=Nat.mul_le_mul_left _ Nn;have eN2:e*N<=10*12:=Nat.mul_le_mul e10 (by omega);have NeN:N<=e*N:=Nat.le_mul_of_pos_left _ e1;refine⟨_,rfl,_,_,.inr (SqT.of hC1),rfl,.ref p1,N,rfl,.inr ⟨_,SqT.of hP1,lS.symm⟩,?_⟩;have sz1:(e*N)*(u+13*(n+1)+3)+1<=60000:=by
   have:(e*N)*(u+13*(n+1)+3)<=(u+13*(n+1)+3)*(e*n):=by rw[Nat.mul_comm];exact Nat.mul_le_mul_left _ eN
   omega
  refine⟨_,rfl,_,_,.inr (SqT.of hC1),rfl,_,rfl,_,rfl,mulL (by omega) (by omega),p1,(aQ r L).rule,e*N,u+13*(n+1),by rw[Int.natCast_mul];rfl,hP1,by omega,sz1,by omega,fun i=>Nat.le_of_lt (Pm.ju bdS i),fun l5 sums H5 g5 h5 ls bs eqs=>?_⟩;have hS5:=hS.same g5;refine⟨_,rfl,_,rfl,_,rfl,_,rfl,mulL (by omega) (by omega),.ref c1,aQ r L,(st:Int)+(e:Int)*(N:Int),rfl,hS5,okS,by rw[<-Int.natCast_mul];omega,by rw[<-Int.natCast_mul];omega,fun l6 H6 g6 f6 h6=>?_⟩;rw[show((st:Int)+(e:Int)*(N:Int)).toNat=st+e*N by rw[<-Int.natCast_mul];omega,yu,eaS]at h6;have h56:=g6 _ _ h5;refine⟨_,rfl,1,(N:Int)+1,rfl,⟨by omega,by omega,by omega,by omega⟩,?_⟩;rw[show((N:Int)+1-1).toNat=N by omega];refine yM (lo:=1) (n:=N) (by omega) rfl (fun k=>Pm.co sums (e*(k+1)-1)) ?_ ?_
  ·intro H7 k g7 hk kk hkk;have t1:1<=e*(k+1):=Nat.mul_pos e1 (by omega);have t2:(e:Int)*(1+(k:Int))=((e*(k+1):Nat):Int):=by rw[Int.natCast_mul,Int.natCast_add,Int.add_comm];rfl
   have t3:e*(k+1)<=e*N:=Nat.mul_le_mul_left _ hk;refine⟨_,rfl,_,rfl,_,rfl,mulL (by omega) (by omega),_,_,rfl,rfl,_,V.int (Pm.co sums (e*(k+1)-1)),.inl (SqL.of (g7 _ _ h56)),?_,hkk⟩;rw[t2,show((e*(k+1):Nat):Int)-1=((e*(k+1)-1:Nat):Int)by omega];exact Ai (by omega)
  intro D hD;have gD:=Same.new hD (.lst ((Pm.ofF N fun k=>Pm.co sums (e*(k+1)-1)).map V.int));refine⟨D,Pm.ofF N fun k=>Pm.co sums (e*(k+1)-1),N,(u+13*(n+1)+3)*e,rfl,aB,Pm.aM ..,by omega,?_,fun i hi=>?_,fun l7 R H7 g7 h7 lr br eq3=>?_⟩
  ·rw[Nat.mul_comm,Nat.mul_assoc,Nat.mul_comm _ (e*N)];exact sz1
  ·rw[Pm.bI,if_pos hi];have t1:1<=e*(i+1):=Nat.mul_pos e1 (by omega);have t3:e*(i+1)<=e*N:=Nat.mul_le_mul_left _ hi;have:=bs (e*(i+1)-1) (by omega);rw[Nat.sub_add_cancel t1,<-Nat.pow_mul]at this;rw[<-Nat.pow_mul,Nat.mul_assoc];exact this
  have g17:=g1.trans (g5.trans (g6.trans (gD.trans g7)));have h67:=g7 _ _ (gD _ _ h6);obtain⟨a0,q1,q2,rfl,hA0,_,_⟩:=id (hR.same g17);refine⟨_,rfl,_,_,.inr (SqT.of hA0),rfl,_,rfl,_,rfl,(N:Int),rfl,(by omega:-(2^62)<=(N:Int)),(by omega:(N:Int)<2^62),?_⟩;rw[Int.toNat_natCast];refine jY (n:=N) (by omega) rfl (fun k=>r.at (st+e*k)) ?_ ?_
  ·intro H8 k g8 hk kk hkk;have t3:e*(k+1)<=e*N:=Nat.mul_le_mul_left _ hk;rw[Nat.mul_succ]at t3;refine⟨_,rfl,_,rfl,_,rfl,_,rfl,mulL (by omega) (by omega),_,V.int (r.at (st+e*k)),.inl (SqL.of (g8 _ _ h67)),?_,hkk _ (Same.refl _)⟩;rw[show(st:Int)+(e:Int)*(0+(k:Int))=((st+e*k:Nat):Int)by rw[Int.zero_add,Int.natCast_add,Int.natCast_mul]];rw[Ai (by rw[Pm.aM];omega),Pm.bI,if_pos (by omega)]
  intro D2 H8 hD2 g8 h8;have hzz:R.length*((u+13*(n+1)+3)*e)+1<=(u+13*(n+1)+3)*(e*n)+10:=by
   rw[lr,Nat.mul_comm,Nat.mul_assoc];have:=Nat.mul_le_mul_left (u+13*(n+1)+3) eN;omega
  have bR:∀x∈R,Rm.Bd ((u+13*(n+1)+3)*(e*n)+10) x:=Le.list hzz fun i hi=>br i (by omega);have hev:=Km (b:=r.b) (c:=(aQ r L).rule) (s1:=(aQ r L).starts) (u:=sums) (R:=R) (e:=e) (st:=st) (N:=N) e1 okS.len okS.iU okS.fY l1.symm lr eqs eq3;have f1:Rm.at_ r.b (aQ r L).rule (aQ r L).starts=r.at:=by rw[<-eaS];rfl
  rw[f1]at hev;refine⟨r.b,l7,D2,R,_,fun k=>r.at (st+e*k),n,(u+13*(n+1)+3)*(e*n)+10,c+d*st,d*e,rfl,.inl (g8 _ _ h7),.inl h8,⟨hb,by omega,n12,by rw[Pm.aM,lr],bR,by omega,hz,fun k=>?_,by have:=M0.fb.c10;omega,acU,hsz,fun k=>?_⟩,fun v' r' L' H9 g9 hR9 hT9 hF9 hl9=>?_⟩
  ·refine(M0.fb.at_ (st+e*k)).mono ?_;rw[Nat.mul_add,Nat.mul_assoc,Nat.add_assoc];exact Nat.le_refl _
  ·rw[show(Pm.ofF N fun k=>r.at (st+e*k)).map (Rm.tk r.b)=Pm.ofF N fun k=>Rm.tk r.b (r.at (st+e*k))from List.map_map ..,hev k,ok.Hh]
  ·have:=hT9.len;exact q v' r' L' H9 (g17.trans (g8.trans g9)) hR9 hT9 hF9 (by omega)
theorem IX(F:Fn K mg "scaled" xG ["row","number"])(cA:jg P w K mg base):Du P w K mg base:=by
 refine F.cal Gd (fun vs H Q E h=>?_) (fun f cdv A outer s H vs Q E hr h=>?_)
 ·obtain⟨v,b,r,x,n,u,c,d,z,rfl,_⟩:=h;rfl
 ·obtain⟨v,b,r,x,n,u,c,d,z,rfl,hR,hM,hx,hz,z10,z2,hc,hsz,q⟩:=h;refine⟨_,(aH (aU (aq cA hr rfl (aF (bf (xix K) (pv 0) au (fun _ _=>rfl)) (aF (bf (xix K) (pv 0) au (fun _ _=>rfl)) (aF (dz (sc:=Dz) (N:=["start","number"]) (ix:=[none,some 1]) cT rfl (MX K (bf (xix K) (pv 0) au (fun _ _=>rfl))) (fun cl C s₀ H₀ ex=>⟨(bw (i:=0) jB rfl (Or.inl rfl)),cV,(aL v_mul (pv 1) (pv 0))⟩)) ak)))))),?_⟩;obtain⟨a,p,p2,rfl,hA,hP,hS⟩:=id hR;have hl:=hM.ok.len;have h12:=hM.rA;have eb:=hM.by_;have c10:=hM.fb.c10;refine⟨_,rfl,_,_,.inr (SqT.of hA),rfl,_,rfl,_,_,.inr (SqT.of hA),rfl,_,rfl,_,_,.inr (SqT.of hA),rfl,p2,rfl,.inr ⟨⟨_,SqT.of hS⟩,xW (A9 (SqT.of hS)) (by omega) rfl (fun s=>x*s) ?_ ?_⟩⟩
  ·intro H2 y g2 hy kk hkk;exact⟨_,rfl,_,rfl,qM hx (hM.ok.lV y hy) (by decide),hkk⟩
  intro D hD;have gD:=Same.new hD (.lst ((r.starts.map fun s=>x*s).map V.int));have e1:r.rule.map (Rm.tk b)=r.rule:=jl fun y hy=>by have:=hM.ok.iU y hy;rw[eb]at this;exact this
  have e2:(r.starts.map fun s=>x*s).map (Rm.tk b)=r.starts.map fun s=>Rm.tk b (x*s):=by rw[List.map_map];rfl
  have bd:∀k,Rm.Bd (c+10+d*k) (Rm.tk b (x*r.at k)):=fun k=>fj hM.hB (by omega) ((hx.mul (hM.fb.at_ k)).mono (by omega));rw[eb];refine⟨b,p,D,r.rule,r.starts.map fun s=>x*s,fun k=>Rm.tk b (x*r.at k),12,z,c+10,d,rfl,.inr (gD _ _ hP),.inl aB,⟨hM.hB,h12,by decide,by rw[List.length_map];omega,hz,z10,by omega,bd,by omega,by omega,by show 12*(c+10+d*24+12)+z+458<=112100;omega,fun k=>by rw[e1,e2];exact Fz eb hl k⟩,fun v' r' L H' g' hR' hT _ _=>?_⟩;obtain⟨P,hm,hK,hl,hu⟩:=hM.fb.kp;exact q v' r' L H' (gD.trans g') hR' hT ⟨bd,fun k=>Rm.gC _ _,hM.fb.n12,hM.fb.u10,hM.fb.u59,by omega,P,hm,HZ hK,hl,hu⟩
theorem Ft(F:Fn K mg "summed" yj ["row"])(bF:gK P w K mg base)(bN:gj P w K mg base aG)(qO:AK P w K mg base)(aY:gR P w K mg base)(eZ:qg P w K mg base)(bZ:iu P w K mg base)(cA:jg P w K mg base)(fV:oZ P w K mg base):CM P w K mg base aG:=by
 refine F.MP kJ (fun vs H Q E h=>?_) (fun f cdv A outer s H vs Q E hr h=>?_)
 ·obtain⟨v,b,r,n,u,c,d,L,rfl,_⟩:=h;rfl
 ·obtain⟨v,b,r,n,u,c,d,L,rfl,hR,hM,lst,n11,hz,hc,hsz,q⟩:=h;refine⟨_,(ao (aJ (i:=1) kJ.nd rfl (Or.inl rfl) (bf (xix K) (pv 0) au (fun _ _=>rfl)))
   (ao (aJ (i:=2) kJ.nd rfl (Or.inl rfl) (aq bF hr rfl (aK (pv 0) ak)))
   (ao (aJ (i:=3) kJ.nd rfl (Or.inl rfl) (aL (iQ K) (aN (jy K) rfl B.cP boot_len (aF (bf (xix K) (pv 2) au (fun _ _=>rfl)) ak)) au))
   (ao (jx (kE bN hr rfl (aK (pv 3) ak)))
   (ao (aJ (i:=4) kJ.nd rfl (Or.inl rfl) (aq qO hr rfl (aK (pv 1) (aF (aq eZ hr rfl (aK (pv 1) (aF (bf (xix K) (pv 2) au (fun _ _=>rfl)) ak))) (Qg (jH (aF (aq aY hr rfl (aK (pv 1) (MJ (Ab sS au) ak))) (gF au ak))) ak)))))
   (ao (aJ (i:=5) kJ.nd rfl (Or.inr rfl) (aq bZ hr rfl (aK (pv 2) (aK (pv 3) ak))))
   (aH (aU (aq cA hr rfl (aK (pv 1) (aF (aq fV hr rfl (aK (pv 1) (aK (pv 4) ak))) (aF (dz (sc:=Dy) (N:=["n","found"]) (ix:=[none,some 5]) cT rfl (bW rfl B.cF (aK (pv 3) ak)) (fun cl C s₀ H₀ ex=>⟨(bw (i:=0) jB rfl (Or.inl rfl)),cV,(aN (SD K rfl) rfl B.Gj boot_sum (aF (pF (xsl K) (pv 1) uI (uG (aL (iQ K) (pv 0) au))) ak))⟩)) ak)))))))))))),?_⟩
  obtain⟨a,p,p2,rfl,hA,hP,hS⟩:=id hR;have eb:=hM.by_;have hb:=hM.hB;have h12:=hM.rA;have hlp:=lst.mon.pos;have hb0:=hM.hB.lo;have ll:=hM.ll lst;have lL:=hM.fb.len hb lst;have u10:=hM.fb.u10;have c10:=hM.fb.c10;refine⟨_,rfl,_,_,.inr (SqT.of hA),rfl,?_⟩;refine⟨_,rfl,.ref a,r,rfl,hR,hM.ok,hM.byp,hM.tame,fun v2 L2 H2 g2 hR2 tZ ll2=>?_⟩;have eL:L2=L:=by
   rw[eb]at tZ;exact tZ.uniq hM.hB.one lst
  subst eL;obtain⟨ok2,_,ea2,l1,l2,eP⟩:=hM.sh lst;obtain⟨a2,s1,s2,rfl,hA2,hP2,hS2⟩:=id hR2;have lS:((aQ r L2).rule.map V.int).length=L2.length-1:=by rw[List.length_map,l1]
  refine⟨_,rfl,_,_,.inr (SqT.of hA2),rfl,.ref s1,L2.length-1,rfl,.inr ⟨_,SqT.of hP2,lS.symm⟩,?_⟩;have eN:((L2.length-1:Nat):Int)+1=(L2.length:Int):=by omega
  refine⟨_,rfl,((L2.length-1:Nat):Int)+1,rfl,fun hle=>?_,fun hlt=>absurd hlt (by omega)⟩;rw[eb];refine⟨_,rfl,_,rfl,_,rfl,_,_,.inr (SqT.of hA2),rfl,b,s1,(aQ r L2).rule,rfl,hb0,hP2,by omega,fun t3 H3 g3 h3=>?_⟩;refine⟨_,rfl,_,rfl,b,-1,rfl,hb0,(by show 2<=sizeLine;decide),fun t4 ht4=>?_⟩;have g4:=Same.new ht4 (.tup ([Rm.tk b (-1),1].map V.int));rw[eP]at h3;have bc:=hM.fb.least hb lst;refine⟨b,t3,t4,L2,[Rm.tk b (-1),1],rfl,hb0,g4 _ _ h3,aB,by omega,(by show 2<=400;decide),GC bc (by omega),fun x hx=>?_,fun t5 H5 g5 h5=>?_⟩
  ·rcases List.mem_cons.mp hx with rfl|hx
   ·exact fj hM.hB (by decide) ((Rm.Bd.of (n:=1) (by decide) (by decide)).mono (by decide))
   ·rw[List.mem_singleton.mp hx];exact(Rm.Bd.of (n:=1) (by decide) (by decide)).mono (by decide)
  have g25:=g3.trans (g4.trans g5);refine⟨_,rfl,_,rfl,.ref a2,aQ r L2,((L2.length-1:Nat):Int)+1,rfl,hR2.same g25,ok2,by omega,by omega,fun l6 H6 g6 f6 h6=>?_⟩;have adh:(aQ r L2).row (((L2.length-1:Nat):Int)+1).toNat=Pm.ofF L2.length r.at:=by
   rw[eN,Int.toNat_natCast,yu,ea2]
  rw[adh]at h6;obtain⟨hm,hl2⟩:=C9 hM.hB.one lst.mon;refine⟨_,rfl,_,rfl,_,rfl,b,t5,DV b L2,rfl,hb0,g6 _ _ h5,by omega,by omega,fun t7 H7 g7 h7=>?_⟩;have h67:=g7 _ _ h6;refine⟨_,rfl,((L2.length-1:Nat):Int)+1,rfl,(by omega:-(2^62)<=((L2.length-1:Nat):Int)+1),(by omega:((L2.length-1:Nat):Int)+1<2^62),?_⟩;rw[show(((L2.length-1:Nat):Int)+1).toNat=L2.length by omega];refine jY (n:=L2.length) (by omega) rfl (fun n=>Pm.sm (n+1) r.at) ?_ ?_
  ·intro H8 k g8 hk kk hkk;refine⟨_,rfl,_,rfl,_,rfl,.inl ⟨_,SqL.of (g8 _ _ h67),fun l9 hl9=>?_⟩⟩;have eC:yC ((Pm.ofF L2.length r.at).map V.int) none (some (0+(k:Int)+1))=(Pm.ofF (k+1) r.at).map V.int:=by
    rw[show 0+(k:Int)+1=((k+1:Nat):Int)by omega,Ds,<-List.map_take,Jo _ (by omega)]
   rw[eC];refine⟨l9,Pm.ofF (k+1) r.at,rfl,SqL.of aB,?_⟩;rw[Pm.ofF,Pm.tO];exact hkk _ (Same.new hl9 _)
  ·intro D H8 hD g8 h8;have e1:(Pm.cL b (DV b L2)).map (Rm.tk b)=Pm.cL b (DV b L2):=jl fun y hy=>by
    obtain⟨k,_,rfl⟩:=Pm.eE (show y∈Pm.ofF _ _ from hy);exact mO hb0 _
   have e2:(Pm.ofF L2.length fun n=>Pm.sm (n+1) r.at).map (Rm.tk b)=Pm.ofF L2.length (smA b r.at):=by
    rw[Pm.ofF,Pm.ofF,List.map_map];rfl
   have lR:(Pm.cL b (DV b L2)).length=L2.length:=by rw[Pm.dR,hl2];rfl
   refine⟨b,t7,D,Pm.cL b (DV b L2),Pm.ofF L2.length fun n=>Pm.sm (n+1) r.at,smA b r.at,n+1,u+13*(n+1)+23,c+1,d+1,rfl,.inr (g8 _ _ h7),.inl h8,⟨hb,by omega,n11,by rw[Pm.aM,lR],fun x hx=>?_,by omega,hz,fun k=>?_,by omega,hc,hsz,fun k=>by rw[e1,e2];exact Fv hb lst k⟩,fun v' r' L' H' g' hR' hT hF _=>?_⟩
   ·obtain⟨k,_,rfl⟩:=Pm.eE (show x∈Pm.ofF _ _ from hx);refine fj hb (by omega) ?_;rw[Int.zero_sub];exact Pm.uZ (Pm.ju (Ov hb (by omega) (by omega) bc) _)
   ·refine fj hb (by omega) ((Pm.Cm (c:=c+d*k) (k+1) fun i hi=>(hM.fb.at_ i).mono (Nat.add_le_add_left (Nat.mul_le_mul_left _ (by omega)) _)).mono ?_);rw[Nat.succ_mul];omega
   ·exact q v' r' L' H' (g2.trans (g25.trans (g6.trans (g7.trans (g8.trans g'))))) hR' hT hF
theorem yO(F:Fn K mg "put_ahead" oO ["row","numbers"])(bF:gK P w K mg base)(bN:gj P w K mg base aG)(cA:jg P w K mg base):u6 P w K mg base aG:=by
 refine F.MP m5 (fun vs H Q E h=>?_) (fun f cdv A outer s H vs Q E hr h=>?_)
 ·obtain⟨v,b,r,n,u,c,d,L,ln,ns,rfl,_⟩:=h;rfl
 ·obtain⟨v,b,r,n,u,c,d,L,ln,ns,rfl,hR,hM,lst,hN,n12,hn,hnb,hz,hc,hsz,q⟩:=h;refine⟨_,(ao (aJ (i:=2) m5.nd rfl (Or.inl rfl) (aq bF hr rfl (aK (pv 0) ak)))
   (ao (jx (kE bN hr rfl (nQ (aL (iQ K) (aN (jy K) rfl B.cP boot_len (aF (bf (xix K) (pv 2) au (fun _ _=>rfl)) ak)) (aN (jy K) rfl B.cP boot_len (aK (pv 1) ak))) ak)))
   (ao (aJ (i:=3) m5.nd rfl (Or.inl rfl) (aL (iQ K) (bV (xlist K) rfl B.wg boot_list (aF (bf (xix K) (pv 2) au (fun _ _=>rfl)) ak)) (aL v_mul (jE (gF au ak)) (aN (jy K) rfl B.cP boot_len (aK (pv 1) ak)))))
   (aH (aU (aq cA hr rfl (aF (bf (xix K) (pv 0) au (fun _ _=>rfl)) (aK (pv 3) (nQ (aL (iQ K) (bV (xlist K) rfl B.wg boot_list (aK (pv 1) ak)) (bV (xlist K) rfl B.wg boot_list (aF (bf (xix K) (pv 2) au (fun _ _=>rfl)) ak))) ak))))))))),?_⟩
  obtain⟨a,p,p2,rfl,hA,hP,hS⟩:=id hR;have eb:=hM.by_;have hb:=hM.hB;have h12:=hM.rA;have hlp:=lst.mon.pos;have hb0:=hM.hB.lo;have lL:=hM.fb.len hb lst;have u10:=hM.fb.u10;have lN:(ns.map V.int).length=ns.length:=List.length_map _;refine⟨_,rfl,.ref a,r,rfl,hR,hM.ok,hM.byp,hM.tame,fun v2 L2 H2 g2 hR2 tZ ll2=>?_⟩;have eL:L2=L:=by
   rw[eb]at tZ;exact tZ.uniq hM.hB.one lst
  subst eL;obtain⟨ok2,bd2,ea2,l1,l2,_⟩:=hM.sh lst;obtain⟨a2,s1,s2,rfl,hA2,hP2,hS2⟩:=id hR2;have lS:((aQ r L2).rule.map V.int).length=L2.length-1:=by rw[List.length_map,l1]
  have hN2:=g2 _ _ hN;refine⟨_,rfl,_,_,.inr (SqT.of hA2),rfl,.ref s1,L2.length-1,rfl,.inr ⟨_,SqT.of hP2,lS.symm⟩,_,rfl,.ref ln,ns.length,rfl,.inl ⟨_,SqL.of hN2,lN.symm⟩,?_⟩;refine⟨((L2.length-1:Nat):Int)+(ns.length:Int),rfl,fun hle=>?_,fun hlt=>absurd hlt (by omega)⟩;refine⟨_,rfl,_,_,.inr (SqT.of hA2),rfl,s1,_,rfl,.inr (SqT.of hP2),fun l3 hl3=>?_⟩;have g3:=Same.new hl3 (.lst ((aQ r L2).rule.map V.int));refine⟨(by show 1<=sizeLine;decide),fun l4 hl4=>?_⟩;have g4:=Same.new hl4 (.lst [.int 0]);have h4:(upd (upd H2 l3 (.lst ((aQ r L2).rule.map V.int))) l4 (.lst [.int 0])) l4=some (.lst [.int 0]):=aB;have h3:(upd (upd H2 l3 (.lst ((aQ r L2).rule.map V.int))) l4 (.lst [.int 0])) l3=some (.lst ((aQ r L2).rule.map V.int)):=g4 _ _ aB;have g34:=g3.trans g4;generalize upd (upd H2 l3 (.lst ((aQ r L2).rule.map V.int))) l4 (.lst [.int 0])=H4 at g34 h3 h4;refine⟨_,rfl,.ref ln,ns.length,rfl,.inl ⟨_,SqL.of (g34 _ _ hN2),lN.symm⟩,?_⟩;refine⟨_,h4,by omega,by omega,?_,fun l5 hl5=>?_⟩
  ·show 1*(ns.length:Int).toNat<=sizeLine;rw[Nat.one_mul];exact Nat.le_of_lt (bK (by omega))
  rw[show(ns.length:Int).toNat=ns.length from Int.toNat_natCast _,fR];have g5:=Same.new hl5 (.lst ((zer ns.length).map V.int));have h5:(upd H4 l5 (.lst ((zer ns.length).map V.int))) l5=some (.lst ((zer ns.length).map V.int)):=aB;have h35:=g5 _ _ h3;have g35:=g34.trans g5;generalize upd H4 l5 (.lst ((zer ns.length).map V.int))=H5 at g35 h5 h35;refine .inl ⟨_,_,h35,h5,?_,fun l6 hl6=>?_⟩
  ·rw[List.length_map,List.length_map,Pm.aM];exact Nat.le_of_lt (bK (by omega))
  rw[<-List.map_append];have g6:=Same.new hl6 (.lst (((aQ r L2).rule++zer ns.length).map V.int));have h6:(upd H5 l6 (.lst (((aQ r L2).rule++zer ns.length).map V.int))) l6=some (.lst (((aQ r L2).rule++zer ns.length).map V.int)):=aB;have g36:=g35.trans g6;generalize upd H5 l6 (.lst (((aQ r L2).rule++zer ns.length).map V.int))=H6 at g36 h6;refine⟨_,rfl,_,_,.inr (SqT.of ((g2.trans g36) _ _ hA)),rfl,_,rfl,?_⟩;refine⟨_,rfl,ln,_,rfl,.inl (SqL.of (g36 _ _ hN2)),fun l7 hl7=>?_⟩;have g7:=Same.new hl7 (.lst (ns.map V.int));refine⟨_,rfl,_,_,.inr (SqT.of (g7 _ _ (g36 _ _ hA2))),rfl,s2,_,rfl,.inr (SqT.of (g7 _ _ (g36 _ _ hS2))),fun l8 hl8=>?_⟩;have g8:=Same.new hl8 (.lst ((aQ r L2).starts.map V.int));refine .inl ⟨_,_,g8 _ _ aB,aB,?_,fun l9 hl9=>?_⟩
  ·rw[List.length_map,List.length_map,l2];exact Nat.le_of_lt (bK (by omega))
  rw[<-List.map_append];have g9:=Same.new hl9 (.lst ((ns++(aQ r L2).starts).map V.int));have g79:=g7.trans (g8.trans g9);rw[eb];have n0:fJ b 0:=by
   by_cases z:b=0
   ·exact .inl z
   ·exact .inr ⟨Int.le_refl _,by omega⟩
  have e1:((aQ r L2).rule++zer ns.length).map (Rm.tk b)=(aQ r L2).rule++zer ns.length:=jl fun y hy=>by
   rcases List.mem_append.mp hy with z|z
   ·have:=ok2.iU y z;rw[show(aQ r L2).b=b from eb]at this;exact this
   ·obtain⟨k,_,rfl⟩:=Pm.eE z;exact n0
  have e2:(ns++(aQ r L2).starts).map (Rm.tk b)=ns++(aQ r L2).starts:=jl fun y hy=>by
   rcases List.mem_append.mp hy with z|z
   ·exact hn y z
   ·have:=ok2.fY y z;rw[show(aQ r L2).b=b from eb]at this;exact this
  have ea:∀k,(⟨b,(aQ r L2).rule++zer ns.length,ns++(aQ r L2).starts⟩:Rw).at k=ahd ns r.at k:=fun k=>by
   rw[Jy (by omega),<-ea2];unfold ahd;split
   ·rfl
   ·show Rm.at_ b _ _ _=Rm.at_ r.b _ _ _;rw[eb]
  refine⟨b,l6,l9,(aQ r L2).rule++zer ns.length,ns++(aQ r L2).starts,ahd ns r.at,n+ns.length,u+13*(n+1),c,d,rfl,.inl (g79 _ _ h6),.inl aB,⟨hb,by rw[List.length_append,Pm.aM];omega,n12,by rw[List.length_append,List.length_append,Pm.aM];omega,fun x hx=>?_,by omega,hz,fun k=>?_,hM.fb.c10,hc,hsz,fun k=>by rw[e1,e2];exact ea k⟩,fun v' r' L' H' g' hR' hT' hF' hl'=>?_⟩
  ·rcases List.mem_append.mp hx with z|z
   ·exact bd2 x z
   ·obtain⟨k,_,rfl⟩:=Pm.eE z;exact Rm.Bd.zero _
  ·unfold ahd;split
   ·exact(Pm.ju hnb _).mono (Nat.le_add_right _ _)
   ·exact(hM.fb.at_ _).mono (Nat.add_le_add_left (Nat.mul_le_mul_left _ (by omega)) _)
  ·rw[List.length_append,Pm.aM]at hl';have hlen:=hT'.len;exact q v' r' L' H' (g2.trans (g36.trans (g79.trans g'))) hR' hT' hF' (by omega)
theorem KQ(F:Fn K mg "_law_told" Bw ["_law_told_here"]):wL P w K mg base aG:=by
 refine F.acC tQ (fun s vs H Q E h=>?_) (fun f cdv A outer s H vs Q E hr h=>?_)
 ·obtain⟨f,sp0,rfl,_⟩:=h;rfl
 ·obtain⟨f,sp0,rfl,hL,b,g,h0,q⟩:=h;refine⟨_,(ao (aJ (i:=1) tQ.nd rfl (Or.inl rfl) Lq)
   (ao (Cd (i:=0) (v:=1) hL hr rfl rfl rfl rfl (Or.inl rfl) tQ.nd rfl (Or.inl rfl) rfl M.G6 (fun a=>(aH (aJ (i:=1) tQ.nd rfl (Or.inl rfl) Lq))))
   (aH (aU (pv 1))))),?_⟩
  refine⟨rfl,h0 _ _ (fun v H2 g2 hv=>?_) fun H2 g2=>⟨_,rfl,M.rM,fun a=>?_⟩⟩
  ·exact⟨_,rfl,q v H2 g2 (.inr hv)⟩
  ·exact⟨_,rfl,q .non H2 g2 (.inl rfl)⟩
theorem Fj(F:Fn K mg "_law_agree" wR ["_law_one","_law_other"]):tV P w K mg base:=by
 refine F.cal EJ (fun vs H Q E h=>?_) (fun f cdv A outer s H vs Q E hr h=>?_)
 ·obtain⟨v1,v2,b,f,rfl,_⟩:=h;rfl
 ·obtain⟨v1,v2,b,f,rfl,hb,h1,h2,q⟩:=h;refine⟨_,(aH (aU (Nz (Lr (Mu (pv 0))) (Nz (Lr (Mu (pv 1))) (CD (mW (xeq K hr) (pv 0) (pv 1) (cB _))))))),?_⟩;refine⟨_,rfl,_,rfl,?_⟩;rcases h1 with rfl|⟨r1,L1,hR1,T1⟩
  ·rw[decide_eq_true rfl];exact WD (q H (Same.refl _))
  have n1:v1≠ .non:=by obtain⟨a,_,_,rfl,_⟩:=hR1;exact fun z=>nomatch z
  rw[decide_eq_false n1];refine Ao ⟨_,rfl,_,rfl,?_⟩;rcases h2 with rfl|⟨r2,L2,hR2,T2⟩
  ·rw[decide_eq_true rfl];exact WD (q H (Same.refl _))
  have n2:v2≠ .non:=by obtain⟨a,_,_,rfl,_⟩:=hR2;exact fun z=>nomatch z
  rw[decide_eq_false n2];have e:r1=r2:=TR.uniq hb T1 T2;subst e;refine Ao ⟨_,rfl,_,rfl,Z6 hR1 hR2 ?_⟩;rw[decide_eq_true ⟨rfl,rfl,rfl⟩];exact q H (Same.refl _)
theorem KW{T:Str->Addr}(MK:MkD mg base "_law_sums" (T "_law_sums"))(KB:K.In base)(F:Fn K mg "_law_sums" Ba ["_law_one","_law_two","_law_three"])(d9:xu P w K mg base aG)(cU:wL P w K mg base aG)(dg:nq P w K mg base aG)(dY:tV P w K mg base)(fu:wD P w K mg base aG):Cal P w K mg base "_law_sums" 17 ["_law_one","_law_two","_law_three"] (Ml (T "_law_sums")):=by
 refine F.aaL MK KB iy (fun vs H Q E h=>?_) (fun f cdv A outer s H vs Q E hM hr h=>?_)
 ·obtain⟨v1,v2,v3,b,f1,f2,f3,rfl,_⟩:=h;rfl
 ·obtain⟨v1,v2,v3,b,f1,f2,f3,rfl,hb,h1,h2,h3,hT,q⟩:=h;refine⟨_,(ao (aJ (i:=3) iy.nd rfl (Or.inr rfl) (aq d9 hr rfl (aK (pv 1) (aK (pv 2) ak))))
   (ao (aJ (i:=4) iy.nd rfl (Or.inl rfl) (dh (N:=["_law_one","_law_both"]) (ix:=[some 0,some 3]) cU hr rfl hM iV (fun f cd cl A outer s₀ H₀ E hr=>(aZ dg hr rfl (aK (pv 0) (aK (pv 1) ak)))) rfl))
   (ao (aJ (i:=5) iy.nd rfl (Or.inl rfl) (dh (N:=["_law_one","_law_two","_law_three"]) (ix:=[some 0,some 1,some 2]) cU hr rfl hM iV (fun f cd cl A outer s₀ H₀ E hr=>(aZ d9 hr rfl (aF (aZ dg hr rfl (aK (pv 0) (aK (pv 1) ak))) (aF (aZ dg hr rfl (aK (pv 0) (aK (pv 2) ak))) ak)))) rfl))
   (ao (jq (mC (mj (aq dY hr rfl (aK (pv 4) (aK (pv 5) ak)))))
   (aH (aU rN))
   cW)
   (ao (aJ (i:=4) iy.nd rfl (Or.inl rfl) (dh (N:=["_law_one","_law_both"]) (ix:=[some 0,some 3]) cU hr rfl hM iV (fun f cd cl A outer s₀ H₀ E hr=>(aZ fu hr rfl (aK (pv 0) (aK (pv 1) ak)))) rfl))
   (ao (aJ (i:=5) iy.nd rfl (Or.inl rfl) (dh (N:=["_law_one","_law_two","_law_three"]) (ix:=[some 0,some 1,some 2]) cU hr rfl hM iV (fun f cd cl A outer s₀ H₀ E hr=>(aZ d9 hr rfl (aF (aZ fu hr rfl (aK (pv 0) (aK (pv 1) ak))) (aF (aZ fu hr rfl (aK (pv 0) (aK (pv 2) ak))) ak)))) rfl))
   (ao (jq (mC (mj (aq dY hr rfl (aK (pv 4) (aK (pv 5) ak)))))
   (aH (aU rN))
   cW)
   (ao (aJ (i:=4) iy.nd rfl (Or.inl rfl) (dh (N:=["_law_three","_law_one","_law_two"]) (ix:=[some 2,some 0,some 1]) cU hr rfl hM iV (fun f cd cl A outer s₀ H₀ E hr=>(aZ d9 hr rfl (aF (aZ d9 hr rfl (aK (pv 1) (aK (pv 2) ak))) (aK (pv 0) ak)))) rfl))
   (ao (aJ (i:=5) iy.nd rfl (Or.inl rfl) (dh (N:=["_law_one","_law_both"]) (ix:=[some 0,some 3]) cU hr rfl hM iV (fun f cd cl A outer s₀ H₀ E hr=>(aZ d9 hr rfl (aK (pv 0) (aK (pv 1) ak)))) rfl))
   (ao (jq (mC (mj (aq dY hr rfl (aK (pv 4) (aK (pv 5) ak)))))
   (aH (aU rN))
   cW)
   (ao (aJ (i:=4) iy.nd rfl (Or.inl rfl) (dh (N:=["_law_three","_law_one","_law_two"]) (ix:=[some 2,some 0,some 1]) cU hr rfl hM iV (fun f cd cl A outer s₀ H₀ E hr=>(aZ fu hr rfl (aF (aZ fu hr rfl (aK (pv 1) (aK (pv 2) ak))) (aK (pv 0) ak)))) rfl))
   (ao (aJ (i:=5) iy.nd rfl (Or.inl rfl) (dh (N:=["_law_one","_law_two","_law_three"]) (ix:=[some 0,some 1,some 2]) cU hr rfl hM iV (fun f cd cl A outer s₀ H₀ E hr=>(aZ fu hr rfl (aK (pv 0) (aF (aZ fu hr rfl (aK (pv 1) (aK (pv 2) ak))) ak)))) rfl))
   (aH (aU (aq dY hr rfl (aK (pv 4) (aK (pv 5) ak))))))))))))))))),?_⟩
  refine⟨_,rfl,_,rfl,v2,v3,rfl,xQ h2 h3 4 32 17 (fun _ _=>nD) (Ih hb h2.fb h3.fb (Nat.le_refl _) (Nat.le_refl _) (Nat.le_refl _) (Nat.le_refl _)) (by decide) (fun v4 H4 g4 h4 _=>?_) (fun z=>absurd z (by decide))⟩;have h14:=h1.same g4;have h24:=h2.same g4;have h34:=h3.same g4;have hT4:=hT.same g4;refine Al b (fun k=>Rm.tk b (sO f1 (fun k=>Rm.tk b (sV f2 f3 k)) k)) hT4 (fun H5 g5 hT5 Q' E' k1 k2=>?_) fun v5 H5 g5 hT5 r5=>?_
  ·exact⟨_,rfl,_,rfl,v1,v4,rfl,RK (h14.aV hT4 g5) (h4.aV hT4 g5) 12 63 34 (Ua hb h1.fb h4.fb) (by decide) fun v H2 g2 _ t=>k1 v H2 g2 t⟩
  have l17:(17:Nat)<=17:=Nat.le_refl _;have l18:(18:Nat)<=18:=Nat.le_refl _;have h15:=h14.aV hT4 g5;have h25:=h24.aV hT4 g5;have h35:=h34.aV hT4 g5;have h45:=h4.aV hT4 g5;refine Al b (fun k=>Rm.tk b (sV (fun k=>Rm.tk b (sO f1 f2 k)) (fun k=>Rm.tk b (sO f1 f3 k)) k)) hT5 (fun H6 g6 hT6 Q' E' k1 k2=>?_) fun v6 H6 g6 hT6 r6=>?_
  ·exact⟨_,rfl,_,rfl,v1,v2,rfl,RK (h15.aV hT5 g6) (h25.aV hT5 g6) 6 62 34 (Ua hb h1.fb h2.fb) (by decide) fun va Ha ga hA _=>⟨_,rfl,_,rfl,v1,v3,rfl,RK ((h15.aV hT5 g6).same ga) ((h35.aV hT5 g6).same ga) 6 62 34 (Ua hb h1.fb h3.fb) (by decide) fun vb Hb gb hB _=>⟨va,vb,rfl,xQ (hA.same gb) hB 12 63 34 (fun _ _=>nD) (Ih hb hA.fb hB.fb (Nat.le_refl _) (Nat.le_refl _) (Nat.le_refl _) (Nat.le_refl _)) (by decide) (fun v H2 g2 _ t=>k1 v H2 (ga.trans (gb.trans g2)) t) (fun z=>absurd z (by decide))⟩⟩⟩
  have r6':=r6.congr (f':=fun k=>Rm.tk b (sO f1 (fun k=>Rm.tk b (sV f2 f3 k)) k)) fun k=>by
   show Rm.tk b (Rm.tk b (f1 k*f2 k)+Rm.tk b (f1 k*f3 k))=Rm.tk b (f1 k*Rm.tk b (f2 k+f3 k));rw[Rm.bJ,Rm.dH,Rm.bh,Int.mul_add]
  refine⟨_,rfl,_,rfl,v5,v6,b,_,rfl,hb,r5.aV hT5 g6,r6',fun H7 g7=>⟨_,rfl,Ao ?_⟩⟩;have hT7:=hT6.same g7;have g57:kj (T "_law_sums") H5 H7:=cj g6 (nZ g7);have h17:=h15.aV hT5 g57;have h27:=h25.aV hT5 g57;have h37:=h35.aV hT5 g57;have h47:=h45.aV hT5 g57;clear h15 h25 h35 h45 r5 r6 r6' h14 h24 h34 h4;refine Al b (fun k=>Rm.tk b (fH f1 (fun k=>Rm.tk b (sV f2 f3 k)) k)) hT7 (fun H8 g8 hT8 Q' E' k1 k2=>?_) fun v8 H8 g8 hT8 r8=>?_
  ·exact⟨_,rfl,_,rfl,v1,v4,rfl,xQ (h17.aV hT7 g8) (h47.aV hT7 g8) 7 64 18 (fun _ _=>mQ) (zO hb h1.fb h47.fb l17 l17) (by decide) (fun v H2 g2 _ t=>k1 v H2 g2 t) (fun z=>absurd z (by decide))⟩
  have h18:=h17.aV hT7 g8;have h28:=h27.aV hT7 g8;have h38:=h37.aV hT7 g8;have h48:=h47.aV hT7 g8;refine Al b (fun k=>Rm.tk b (sV (fun k=>Rm.tk b (fH f1 f2 k)) (fun k=>Rm.tk b (fH f1 f3 k)) k)) hT8 (fun H9 g9 hT9 Q' E' k1 k2=>?_) fun v9 H9 g9 hT9 r9=>?_
  ·exact⟨_,rfl,_,rfl,v1,v2,rfl,xQ (h18.aV hT8 g9) (h28.aV hT8 g9) 5 63 18 (fun _ _=>mQ) (zO hb h1.fb h2.fb l17 l17) (by decide) (fun va Ha ga hA _=>⟨_,rfl,_,rfl,v1,v3,rfl,xQ ((h18.aV hT8 g9).same ga) ((h38.aV hT8 g9).same ga) 5 63 18 (fun _ _=>mQ) (zO hb h1.fb h3.fb l17 l17) (by decide) (fun vb Hb gb hB _=>⟨va,vb,rfl,xQ (hA.same gb) hB 10 64 18 (fun _ _=>nD) (Ih hb hA.fb hB.fb (Nat.le_refl _) (Nat.le_refl _) (Nat.le_refl _) (Nat.le_refl _)) (by decide) (fun v H2 g2 _ t=>k1 v H2 (ga.trans (gb.trans g2)) t) (fun z=>absurd z (by decide))⟩) (fun z=>absurd z (by decide))⟩) (fun z=>absurd z (by decide))⟩
  have r9':=r9.congr (f':=fun k=>Rm.tk b (fH f1 (fun k=>Rm.tk b (sV f2 f3 k)) k)) fun k=>by
   show Rm.tk b (Rm.tk b (fH f1 f2 k)+Rm.tk b (fH f1 f3 k))=_;rw[Rm.bJ,Rm.dH,Di b f1 (sV f2 f3),gk,gk,gk];exact congrArg (Rm.tk b) (Pm.xY f1 f2 f3 k).symm
  refine⟨_,rfl,_,rfl,v8,v9,b,_,rfl,hb,r8.aV hT8 g9,r9',fun H10 g10=>⟨_,rfl,Ao ?_⟩⟩;have Lw:=hT9.same g10;have Tw:kj (T "_law_sums") H8 H10:=cj g9 (nZ g10);have abL:=h18.aV hT8 Tw;have aaO:=h28.aV hT8 Tw;have abq:=h38.aV hT8 Tw;have abM:=h48.aV hT8 Tw;clear h18 h28 h38 h48 r8 r9 r9';refine Al b (fun k=>Rm.tk b (sV (fun k=>Rm.tk b (sV f1 f2 k)) f3 k)) Lw (fun H11 g11 Ld Q' E' k1 k2=>?_) fun v11 H11 g11 Ld r11=>?_
  ·exact⟨_,rfl,_,rfl,v1,v2,rfl,xQ (abL.aV Lw g11) (aaO.aV Lw g11) 5 32 17 (fun _ _=>nD) (Ih hb h1.fb h2.fb (Nat.le_refl _) (Nat.le_refl _) (Nat.le_refl _) (Nat.le_refl _)) (by decide) (fun va Ha ga hA _=>⟨_,rfl,va,v3,rfl,xQ hA ((abq.aV Lw g11).same ga) 7 33 17 (fun _ _=>nD) (Ih hb hA.fb h3.fb (Nat.le_refl _) (by decide) (Nat.le_refl _) (Nat.le_refl _)) (by decide) (fun v H2 g2 _ t=>k1 v H2 (ga.trans g2) t) (fun z=>absurd z (by decide))⟩) (fun z=>absurd z (by decide))⟩
  have UY:=abL.aV Lw g11;have abH:=aaO.aV Lw g11;have abF:=abq.aV Lw g11;have U4:=abM.aV Lw g11;refine Al b (fun k=>Rm.tk b (sV f1 (fun k=>Rm.tk b (sV f2 f3 k)) k)) Ld (fun H12 g12 abp Q' E' k1 k2=>?_) fun v12 H12 g12 abp r12=>?_
  ·exact⟨_,rfl,_,rfl,v1,v4,rfl,xQ (UY.aV Ld g12) (U4.aV Ld g12) 7 33 17 (fun _ _=>nD) (Ih hb h1.fb U4.fb (by decide) (Nat.le_refl _) (Nat.le_refl _) (Nat.le_refl _)) (by decide) (fun v H2 g2 _ t=>k1 v H2 g2 t) (fun z=>absurd z (by decide))⟩
  have abJ:=r12.congr (f':=fun k=>Rm.tk b (sV (fun k=>Rm.tk b (sV f1 f2 k)) f3 k)) fun k=>by
   show Rm.tk b (f1 k+Rm.tk b (f2 k+f3 k))=Rm.tk b (Rm.tk b (f1 k+f2 k)+f3 k);rw[Rm.bJ,Rm.dH,Int.add_assoc]
  refine⟨_,rfl,_,rfl,v11,v12,b,_,rfl,hb,r11.aV Ld g12,abJ,fun H13 g13=>⟨_,rfl,Ao ?_⟩⟩;have N7:=abp.same g13;have Kh:kj (T "_law_sums") H11 H13:=cj g12 (nZ g13);have abo:=UY.aV Ld Kh;have aaS:=abH.aV Ld Kh;have aa1:=abF.aV Ld Kh;clear UY abH abF U4 r11 r12 abJ;refine Al b (fun k=>Rm.tk b (fH (fun k=>Rm.tk b (fH f1 f2 k)) f3 k)) N7 (fun H14 g14 Eh Q' E' k1 k2=>?_) fun v14 H14 g14 Eh r14=>?_
  ·exact⟨_,rfl,_,rfl,v1,v2,rfl,xQ (abo.aV N7 g14) (aaS.aV N7 g14) 5 63 18 (fun _ _=>mQ) (zO hb h1.fb h2.fb l17 l17) (by decide) (fun va Ha ga hA _=>⟨_,rfl,va,v3,rfl,xQ hA ((aa1.aV N7 g14).same ga) 7 95 19 (fun _ _=>mQ) (zO hb hA.fb h3.fb l18 (by decide)) (by decide) (fun v H2 g2 _ t=>k1 v H2 (ga.trans g2) t) (fun z=>absurd z (by decide))⟩) (fun z=>absurd z (by decide))⟩
  have acH:=abo.aV N7 g14;have abX:=aaS.aV N7 g14;have adi:=aa1.aV N7 g14;refine Al b (fun k=>Rm.tk b (fH f1 (fun k=>Rm.tk b (fH f2 f3 k)) k)) Eh (fun H15 g15 Ur Q' E' k1 k2=>?_) fun v15 H15 g15 Ur r15=>?_
  ·exact⟨_,rfl,_,rfl,_,rfl,v2,v3,rfl,xQ (abX.aV Eh g15) (adi.aV Eh g15) 4 63 18 (fun _ _=>mQ) (zO hb h2.fb h3.fb l17 l17) (by decide) (fun va Ha ga hA _=>⟨v1,va,rfl,xQ ((acH.aV Eh g15).same ga) hA 7 95 19 (fun _ _=>mQ) (zO hb h1.fb hA.fb (by decide) l18) (by decide) (fun v H2 g2 _ t=>k1 v H2 (ga.trans g2) t) (fun z=>absurd z (by decide))⟩) (fun z=>absurd z (by decide))⟩
  have Um:=r15.congr (f':=fun k=>Rm.tk b (fH (fun k=>Rm.tk b (fH f1 f2 k)) f3 k)) fun k=>by
   rw[Di b f1 (fH f2 f3),JL b (fH f1 f2) f3,gk,gk,gk,gk,Pm.bQ]
  refine⟨_,rfl,_,rfl,v14,v15,b,_,rfl,hb,r14.aV Eh g15,Um,fun H16 g16=>q H16 ?_ (Ur.same g16)⟩;exact cj (nZ g4) (cj g5 (cj g57 (cj g8 (cj Tw (cj g11 (cj Kh (cj g14 (cj g15 (nZ g16)))))))))
theorem HB{T:Str->Addr}(MK:MkD mg base "_law_every" (T "_law_every"))(KB:K.In base)(F:Fn K mg "_law_every" wC ["_law_one","_law_two","_law_start","_law_step"])(cU:wL P w K mg base aG)(nG:Jf P w K mg base)(d9:xu P w K mg base aG)(dY:tV P w K mg base)(dg:nq P w K mg base aG):Cal P w K mg base "_law_every" 17 ["_law_one","_law_two","_law_start","_law_step"] (LZ (T "_law_every")):=by
 refine F.aaL MK KB m9 (fun vs H Q E h=>?_) (fun f cdv A outer s H vs Q E hM hr h=>?_)
 ·obtain⟨v1,v2,st,e,b,f1,f2,rfl,_⟩:=h;rfl
 ·obtain⟨v1,v2,st,e,b,f1,f2,rfl,hb,h1,h2,hst,e1,e10,hT,q⟩:=h;refine⟨_,(ao (aJ (i:=4) m9.nd rfl (Or.inl rfl) (dh (N:=["_law_start","_law_step","_law_one","_law_two"]) (ix:=[some 2,some 3,some 0,some 1]) cU hr rfl hM iV (fun f cd cl A outer s₀ H₀ E hr=>(aq nG hr rfl (aF (aZ d9 hr rfl (aK (pv 2) (aK (pv 3) ak))) (aK (pv 0) (aK (pv 1) ak))))) rfl))
   (ao (aJ (i:=5) m9.nd rfl (Or.inl rfl) (dh (N:=["_law_one","_law_start","_law_step","_law_two"]) (ix:=[some 0,some 2,some 3,some 1]) cU hr rfl hM iV (fun f cd cl A outer s₀ H₀ E hr=>(aZ d9 hr rfl (aF (aq nG hr rfl (aK (pv 0) (aK (pv 1) (aK (pv 2) ak)))) (aF (aq nG hr rfl (aK (pv 3) (aK (pv 1) (aK (pv 2) ak)))) ak)))) rfl))
   (ao (jq (mC (mj (aq dY hr rfl (aK (pv 4) (aK (pv 5) ak)))))
   (aH (aU rN))
   cW)
   (ao (aJ (i:=4) m9.nd rfl (Or.inl rfl) (dh (N:=["_law_start","_law_step","_law_one","_law_two"]) (ix:=[some 2,some 3,some 0,some 1]) cU hr rfl hM iV (fun f cd cl A outer s₀ H₀ E hr=>(aq nG hr rfl (aF (aZ dg hr rfl (aK (pv 2) (aK (pv 3) ak))) (aK (pv 0) (aK (pv 1) ak))))) rfl))
   (ao (aJ (i:=5) m9.nd rfl (Or.inl rfl) (dh (N:=["_law_one","_law_start","_law_step","_law_two"]) (ix:=[some 0,some 2,some 3,some 1]) cU hr rfl hM iV (fun f cd cl A outer s₀ H₀ E hr=>(aZ dg hr rfl (aF (aq nG hr rfl (aK (pv 0) (aK (pv 1) (aK (pv 2) ak)))) (aF (aq nG hr rfl (aK (pv 3) (aK (pv 1) (aK (pv 2) ak)))) ak)))) rfl))
   (aH (aU (aq dY hr rfl (aK (pv 4) (aK (pv 5) ak)))))))))),?_⟩
  refine Al b (fun k=>Rm.tk b (sV f1 f2 (st+e*k))) hT (fun H5 g5 hT5 Q' E' k1 k2=>?_) fun v5 H5 g5 hT5 r5=>?_
  ·exact⟨_,rfl,_,rfl,v1,v2,rfl,xQ (h1.aV hT g5) (h2.aV hT g5) 5 32 17 (fun _ _=>nD) (Ih hb h1.fb h2.fb (Nat.le_refl _) (Nat.le_refl _) (Nat.le_refl _) (Nat.le_refl _)) (by decide) (fun va Ha ga hA _=>⟨_,rfl,_,rfl,va,st,e,rfl,evW hA hst e1 e10 (by decide) (by decide) (by decide) fun v H2 g2 _ t=>k1 v H2 (ga.trans g2) t⟩) (fun z=>absurd z (by decide))⟩
  have h15:=h1.aV hT g5;have h25:=h2.aV hT g5;refine Al b (fun k=>Rm.tk b (sV f1 f2 (st+e*k))) hT5 (fun H6 g6 hT6 Q' E' k1 k2=>?_) fun v6 H6 g6 hT6 r6=>?_
  ·exact⟨_,rfl,_,rfl,_,rfl,v1,st,e,rfl,evW (h15.aV hT5 g6) hst e1 e10 (by decide) (by decide) (by decide) fun va Ha ga hA _=>⟨_,rfl,_,rfl,_,rfl,v2,st,e,rfl,evW ((h25.aV hT5 g6).same ga) hst e1 e10 (by decide) (by decide) (by decide) fun vb Hb gb hB _=>⟨va,vb,rfl,xQ (hA.same gb) hB 5 1732 170 (fun _ _=>nD) (Ih hb hA.fb hB.fb (Nat.le_refl _) (Nat.le_refl _) (Nat.le_refl _) (Nat.le_refl _)) (by decide) (fun v H2 g2 _ t=>k1 v H2 (ga.trans (gb.trans g2)) t) (fun z=>absurd z (by decide))⟩⟩⟩
  refine⟨_,rfl,_,rfl,v5,v6,b,_,rfl,hb,r5.aV hT5 g6,r6,fun H7 g7=>⟨_,rfl,Ao ?_⟩⟩;have hT7:=hT6.same g7;have g57:kj (T "_law_every") H5 H7:=cj g6 (nZ g7);have h17:=h15.aV hT5 g57;have h27:=h25.aV hT5 g57;refine Al b (fun k=>Rm.tk b (sO f1 f2 (st+e*k))) hT7 (fun H8 g8 hT8 Q' E' k1 k2=>?_) fun v8 H8 g8 hT8 r8=>?_
  ·exact⟨_,rfl,_,rfl,v1,v2,rfl,RK (h17.aV hT7 g8) (h27.aV hT7 g8) 6 62 34 (Ua hb h1.fb h2.fb) (by decide) fun va Ha ga hA _=>⟨_,rfl,_,rfl,va,st,e,rfl,evW hA hst e1 e10 (by decide) (by decide) (by decide) fun v H2 g2 _ t=>k1 v H2 (ga.trans g2) t⟩⟩
  have h18:=h17.aV hT7 g8;have h28:=h27.aV hT7 g8;refine Al b (fun k=>Rm.tk b (sO f1 f2 (st+e*k))) hT8 (fun H9 g9 hT9 Q' E' k1 k2=>?_) fun v9 H9 g9 hT9 r9=>?_
  ·exact⟨_,rfl,_,rfl,_,rfl,v1,st,e,rfl,evW (h18.aV hT8 g9) hst e1 e10 (by decide) (by decide) (by decide) fun va Ha ga hA _=>⟨_,rfl,_,rfl,_,rfl,v2,st,e,rfl,evW ((h28.aV hT8 g9).same ga) hst e1 e10 (by decide) (by decide) (by decide) fun vb Hb gb hB _=>⟨va,vb,rfl,RK (hA.same gb) hB 6 3462 340 (Ua hb hA.fb hB.fb) (by decide) fun v H2 g2 _ t=>k1 v H2 (ga.trans (gb.trans g2)) t⟩⟩⟩
  refine⟨_,rfl,_,rfl,v8,v9,b,_,rfl,hb,r8.aV hT8 g9,r9,fun H10 g10=>q H10 ?_ (hT9.same g10)⟩;exact cj g5 (cj g57 (cj g8 (cj g9 (nZ g10))))
theorem Tt{T:Str->Addr}(MK:MkD mg base "law" (T "law"))(KB:K.In base){f:Addr}{fd:FuncData}(F:Fun K "law" "law" B7 f fd)(hf:mg "law" = some (.ref f))(oX:vC P w K mg base)(fM:rE P w K mg base)(iz:sU P w K mg base)(Bh:Cal P w K mg base "_law_sums" 17 ["_law_one","_law_two","_law_three"] (Ml (T "_law_sums")))(cO:nJ P w K mg base)(cU:wL P w K mg base aG)(wY:CM P w K mg base aG)(fu:wD P w K mg base aG)(dY:tV P w K mg base)(xH:Cal P w K mg base "_law_every" 17 ["_law_one","_law_two","_law_start","_law_step"] (LZ (T "_law_every")))(iB:yW P w K mg base)(dJ:lW P w K mg base)(jj:u6 P w K mg base aG)(d9:xu P w K mg base aG)(qj:Du P w K mg base):E9 P w K mg base (lJ P w) aaA f fd ["_law_script"] (HC K T):=by
 refine F.okM (k:=19) hf MK KB jG (fun vs H Q E h=>?_) (fun cdv A outer s H vs Q E hM hr h=>?_)
 ·obtain⟨a,ns,rfl,_⟩:=h;rfl
 ·obtain⟨a,ns,rfl,hS,hlen,hBt,hT,hAp,q⟩:=h;refine⟨_,(ao (aJ (i:=1) jG.nd rfl (Or.inr rfl) (aq oX hr rfl (aF (aq fM hr rfl (aK (pv 0) (gF au ak))) ak)))
   (ao (aJ (i:=2) jG.nd rfl (Or.inr rfl) (aq iz hr rfl (aK (pv 0) (gF au (aK (pv 1) (gF au ak))))))
   (ao (aJ (i:=3) jG.nd rfl (Or.inr rfl) (aq iz hr rfl (aK (pv 0) (gF au (aK (pv 1) (gF au ak))))))
   (ao (aJ (i:=4) jG.nd rfl (Or.inl rfl) (aq iz hr rfl (aK (pv 0) (gF au (aK (pv 1) (gF au ak))))))
   (ao (aJ (i:=5) jG.nd rfl (Or.inr rfl) (aq fM hr rfl (aK (pv 0) (gF au ak))))
   (ao (jq (mC (mj (aq Bh hr rfl (aK (pv 2) (aK (pv 3) (aK (pv 4) ak))))))
   (aH (aU rN))
   cW)
   (ao (aJ (i:=6) jG.nd rfl (Or.inr rfl) (jH (aK (pv 1) (Qg (jH (aF (aq cO hr rfl (aK (pv 1) (gF au ak))) ak)) (Qg (jH (gF au ak)) ak)))))
   (ao (aJ (i:=7) jG.nd rfl (Or.inl rfl) (dh (N:=["_law_one"]) (ix:=[some 2]) cU hr rfl hM iV (fun f cd cl A outer s₀ H₀ E hr=>(aZ wY hr rfl (aK (pv 0) ak))) rfl))
   (ao (aJ (i:=8) jG.nd rfl (Or.inl rfl) (dh (N:=["_law_one","_law_ones"]) (ix:=[some 2,some 6]) cU hr rfl hM iV (fun f cd cl A outer s₀ H₀ E hr=>(aZ fu hr rfl (aK (pv 0) (aK (pv 1) ak)))) rfl))
   (ao (zZ (jq (mC (mj (aq dY hr rfl (aK (pv 7) (aK (pv 8) ak)))))
   (aH (aU rN))
   cW))
   (ao (jq (mC (mj (aq xH hr rfl (aK (pv 2) (aK (pv 3) (nQ (aL fW (aq iB hr rfl (aK (pv 5) (gF au ak))) au) (nQ (aL (iQ K) au (aL fW (aq iB hr rfl (aK (pv 5) (gF au ak))) au)) ak)))))))
   (aH (aU rN))
   cW)
   (ao (aJ (i:=9) jG.nd rfl (Or.inr rfl) (dz (sc:=M5) (N:=["_law_k","_law_by","_law_cell"]) (ix:=[none,some 1,some 5]) cT rfl (bW rfl B.cF (nQ (aL fW (aq iB hr rfl (aK (pv 5) (gF au ak))) au) ak)) (fun cl C s₀ H₀ ex=>⟨(bw (i:=0) jB rfl (Or.inl rfl)),cV,(aq dJ hr rfl (aK (pv 1) (aK (pv 2) (aK (pv 0) ak))))⟩)))
   (ao (aJ (i:=10) jG.nd rfl (Or.inr rfl) (aL v_mul (jE (gF au ak)) (aN (jy K) rfl B.cP boot_len (aK (pv 9) ak))))
   (ao (aJ (i:=7) jG.nd rfl (Or.inl rfl) (dh (N:=["_law_numbers","_law_one","_law_two"]) (ix:=[some 9,some 2,some 3]) cU hr rfl hM iV (fun f cd cl A outer s₀ H₀ E hr=>(aZ jj hr rfl (aF (aZ d9 hr rfl (aK (pv 1) (aK (pv 2) ak))) (aK (pv 0) ak)))) rfl))
   (ao (aJ (i:=8) jG.nd rfl (Or.inl rfl) (dh (N:=["_law_one","_law_numbers","_law_two","_law_noughts"]) (ix:=[some 2,some 9,some 3,some 10]) cU hr rfl hM iV (fun f cd cl A outer s₀ H₀ E hr=>(aZ d9 hr rfl (aF (aZ jj hr rfl (aK (pv 0) (aK (pv 1) ak))) (aF (aZ jj hr rfl (aK (pv 2) (aK (pv 3) ak))) ak)))) rfl))
   (ao (zZ (jq (mC (mj (aq dY hr rfl (aK (pv 7) (aK (pv 8) ak)))))
   (aH (aU rN))
   cW))
   (ao (aJ (i:=11) jG.nd rfl (Or.inl rfl) (aq qj hr rfl (aK (pv 2) (aF (aq cO hr rfl (aK (pv 1) (MJ (Ab sS au) ak))) ak))))
   (aH (aU (Ln (mW (xeq K hr) (aq d9 hr rfl (aK (pv 2) (aK (pv 11) ak))) (jH (aK (pv 1) (Qg (jH ak) (Qg (jH ak) ak)))) (cB _)) (CD (mW (xeq K hr) (aq qj hr rfl (aK (pv 11) (aF (aq cO hr rfl (aK (pv 1) (MJ (Ab sS au) ak))) ak))) (aq qj hr rfl (aK (pv 2) (aF (aq cO hr rfl (aK (pv 1) (gF au ak))) ak))) (cB _))))))))))))))))))))))),?_⟩
  refine⟨_,rfl,a,ns,0,rfl,hS,by decide,by decide,hBt,fun c hc=>?_⟩;refine⟨c,rfl,fun b H1 g1 hb=>?_⟩;have hb0:=hb.lo;refine⟨_,rfl,_,rfl,a,ns,1,b,3,rfl,g1.seq hS,by decide,by decide,hBt,hb,by decide,by decide,fun v1 r01 s1 r1 H2 g2 hR1 h01 WH hs1 _=>?_⟩;refine⟨_,rfl,_,rfl,a,ns,3,b,2,rfl,g2.seq (g1.seq hS),by decide,by decide,hBt,hb,by decide,by decide,fun v2 r02 s2 r2 H3 g3 hR2 h02 ab7 hs2 _=>?_⟩;refine⟨_,rfl,_,rfl,a,ns,5,b,2,rfl,g3.seq (g2.seq (g1.seq hS)),by decide,by decide,hBt,hb,by decide,by decide,fun v3 r03 s3 r3 H4 g4 hR3 h03 acz hs3 _=>?_⟩;refine⟨_,rfl,a,ns,7,rfl,g4.seq (g3.seq (g2.seq (g1.seq hS))),by decide,by decide,hBt,fun c7 hc7=>?_⟩;have G1:Good b r1.at 3 13 31 17 v1 H4:=WH.good hb h01 hs1 (hR1.same (g3.trans g4));have G2:Good b r2.at 2 13 31 17 v2 H4:=ab7.good hb h02 hs2 (hR2.same g4);have G3:Good b r3.at 2 13 31 17 v3 H4:=acz.good hb h03 hs3 hR3;have M1:=WH.mr hb h01 hs1;have N1:Ri b r1 3 13 31 17:=WH.ri hb h01 hs1;obtain⟨L1,wk,_⟩:=N1.ex;have g14:=g1.trans (g2.trans (g3.trans g4));have hTs:=(hT "_law_sums" (by simp) (KD "_law_sums")).same g14;have hTe:=(hT "_law_every" (by simp) (KD "_law_every")).same g14;have hTl:=(hT "law" (by simp) (KD "law")).same g14;have nls:T "law" ≠ T "_law_sums" := fun z=>absurd (hAp "law" (by simp) "_law_sums" (by simp) z) (by decide);have nes:T "_law_every" ≠ T "_law_sums" := fun z=>absurd (hAp "_law_every" (by simp) "_law_sums" (by simp) z) (by decide);have nle:T "law" ≠ T "_law_every" := fun z=>absurd (hAp "law" (by simp) "_law_every" (by simp) z) (by decide);have aaV:=hR1.same (g3.trans g4);clear hS g1 g2 g3 g14 hT;refine⟨_,rfl,_,rfl,_,rfl,v1,v2,v3,b,r1.at,r2.at,r3.at,rfl,hb,G1,G2,G3,hTs,fun H5 g5 adO=>⟨_,rfl,Ao ?_⟩⟩;have G15:=G1.aV hTs g5;have G25:=G2.aV hTs g5;have aa3:=pY hTl hTs nls g5;have aa8:=pY hTe hTs nes g5;obtain⟨pss,ets⟩:=qF hTs;have abC:=aaV.aV ets g5;refine⟨_,rfl,_,rfl,b,1,rfl,hb0,(by show 1<=sizeLine;decide),fun t1 ht1=>⟨(by show 1<=sizeLine;decide),fun t2 ht2=>⟨(by show 3<=sizeLine;decide),fun t3 ht3=>?_⟩⟩⟩;rw[hb.one];rw[hb.one]at ht2 ht3;have k1:=Same.new ht1 (.tup [.int 1]);have k2:=Same.new ht2 (.tup [.int 1]);have k3:=Same.new ht3 (.tup [.int b,.ref t1,.ref t2]);have k13:=k1.trans (k2.trans k3);have hN:cI (upd (upd (upd H5 t1 (.tup [.int 1])) t2 (.tup [.int 1])) t3 (.tup [.int b,.ref t1,.ref t2])) (.ref t3) (Qe b):=⟨t3,t1,t2,rfl,aB,k3 _ _ (k2 _ _ aB),k3 _ _ aB⟩;generalize upd (upd (upd H5 t1 (.tup [.int 1])) t2 (.tup [.int 1])) t3 (.tup [.int b,.ref t1,.ref t2])=H6 at k13 hN;have GN:=Gp hb hN;have G16:=G15.same k13;have G26:=G25.same k13;have Jk:=aa3.same k13;have aaM:=aa8.same k13;have Za:=abC.same k13;refine Al b (smA b r1.at) Jk (fun H7 g7 hT7 Q' E' k1 k2=>?_) fun v7 H7 g7 hT7 r7=>?_
  ·obtain⟨pl,etl⟩:=qF Jk;exact⟨_,rfl,v1,b,r1,3,13,31,17,L1,rfl,Za.aV etl g7,N1,wk,by decide,by decide,by decide,by decide,fun v' r' L' H' g' hR' hT' _=>k1 v' H' g' ⟨r',L',hR',hT'⟩⟩
  have G17:=G16.aV Jk g7;have G27:=G26.aV Jk g7;have GN7:=GN.aV Jk g7;refine Al b (fun k=>Rm.tk b (fH r1.at (fun _=>1) k)) hT7 (fun H8 g8 hT8 Q' E' k1 k2=>?_) fun v8 H8 g8 hT8 r8=>?_
  ·exact⟨_,rfl,_,rfl,v1,.ref t3,rfl,xQ (G17.aV hT7 g8) (GN7.aV hT7 g8) 4 63 18 (fun _ _=>mQ) (zO hb G17.fb GN7.fb (Nat.le_refl _) (Nat.le_refl _)) (by decide) (fun v H2 g2 _ t=>k1 v H2 g2 t) (fun z=>absurd z (by decide))⟩
  have r8':=r8.congr (f':=smA b r1.at) fun k=>by
   unfold smA fH;exact congrArg (Rm.tk b) (Pm.aA fun i _=>Int.mul_one _)
  refine Lh.by (fun σ' H'=>∃(o7 o8:Option V),σ'=[some (.ref a),some (.int b),some v1,some v2,some v3,some (.int c7),some (.ref t3),o7,o8,none,none,none]/\Good b r1.at 3 13 31 17 v1 H'/\Good b r2.at 2 13 31 17 v2 H'/\iM H' (T "law") (KD "law")/\iM H' (T "_law_every") (KD "_law_every")/\cI H' v1 r1) (fun NN hNN=>?_) ?_
  ·refine⟨_,rfl,_,rfl,v7,v8,b,_,rfl,hb,r7.aV hT7 g8,r8',fun H9 g9=>⟨_,rfl,Ao ?_⟩⟩;have g69:kj (T "law") H6 H9:=cj g7 (cj g8 (nZ g9));obtain⟨pl,etl⟩:=qF Jk;exact hNN _ _ ⟨_,_,rfl,G16.aV Jk g69,G26.aV Jk g69,hT8.same g9,pY aaM Jk (Ne.symm nle) g69,Za.aV etl g69⟩
  clear r7 r8 r8' G17 G27 GN7 G16 G26 G15 G25 G1 G2 G3 GN aaV abC Za Jk aaM aa3 aa8 hTl hTe hTs;rintro _ H9 ⟨o7,o8,rfl,G19,G29,acM,Ud,abN⟩;refine⟨_,rfl,_,rfl,_,rfl,c7,1,rfl,by decide,by decide,fun x1 _ _=>?_⟩;have a0:=eX x1 (show(0:Int)<101 by decide);have a1:=eY x1 (show(0:Int)<101 by decide);refine⟨_,_,rfl,rfl,(by decide:(0:Int)<101),_,rfl,c7,2,rfl,by decide,by decide,fun x2 _ _=>?_⟩;have b0:=eX x2 (show(0:Int)<10 by decide);have b1:=eY x2 (show(0:Int)<10 by decide);refine⟨_,_,rfl,rfl,(by decide:(0:Int)<10),?_⟩;dsimp only[J7];obtain⟨st,est⟩:∃n:Nat,(n:Int)=x1%101:=⟨_,Int.toNat_of_nonneg a0⟩;obtain⟨e,ee⟩:∃n:Nat,(n:Int)=1+x2%10:=⟨_,Int.toNat_of_nonneg (by omega)⟩;rw[<-est,<-ee];refine⟨v1,v2,st,e,b,r1.at,r2.at,rfl,hb,G19,G29,by omega,by omega,by omega,Ud,fun H10 g10 adv=>⟨_,rfl,Ao ?_⟩⟩;have ac9:=G19.aV Ud g10;have ach:=G29.aV Ud g10;have ZG:=pY acM Ud nle g10;obtain⟨pe,ete⟩:=qF Ud;have Wh:=abN.aV ete g10;clear G19 G29;refine⟨_,rfl,c7,3,rfl,by decide,by decide,fun x3 _ _=>?_⟩;have d0:=eX x3 (show(0:Int)<5 by decide);have d1:=eY x3 (show(0:Int)<5 by decide);refine⟨_,_,rfl,rfl,(by decide:(0:Int)<5),x3%5,rfl,(by omega:-(2^62)<=x3%5),(by omega:x3%5<2^62),?_⟩;have hm4:(x3%5).toNat<=4:=by omega
  generalize (x3%5).toNat=m at hm4;refine uD (n:=m) (by omega) rfl (fun x=>fJ b x/\Rm.Bd 13 x) ?_ ?_
  ·intro H2 k g2 hk kk hkk;exact⟨_,rfl,_,rfl,_,rfl,b,c7,0+(k:Int),rfl,hb,hc7,by omega,by omega,fun x H3 g3 h1 _ h2=>hkk x H3 g3 ⟨h1,(h2 (by omega)).1⟩⟩
  intro D H11 num hD g11 ab5 adR hnum;have lD:(num.map V.int).length=num.length:=List.length_map _;refine⟨(by show 1<=sizeLine;decide),fun l4 hl4=>?_⟩;have g4':=Same.new hl4 (.lst [.int 0]);have h4':(upd H11 l4 (.lst [.int 0])) l4=some (.lst [.int 0]):=aB;have hD4:=g4' _ _ ab5;generalize upd H11 l4 (.lst [.int 0])=H12 at g4' h4' hD4;refine⟨_,rfl,.ref D,num.length,rfl,.inl ⟨_,SqL.of hD4,lD.symm⟩,?_⟩;refine⟨_,h4',by omega,by omega,?_,fun l5 hl5=>?_⟩
  ·show 1*(num.length:Int).toNat<=sizeLine;rw[Nat.one_mul];exact Nat.le_of_lt (bK (by omega))
  rw[show(num.length:Int).toNat=num.length from Int.toNat_natCast _,fR];have g5':=Same.new hl5 (.lst ((zer num.length).map V.int));have h5':(upd H12 l5 (.lst ((zer num.length).map V.int))) l5=some (.lst ((zer num.length).map V.int)):=aB;have hD5:=g5' _ _ hD4;generalize upd H12 l5 (.lst ((zer num.length).map V.int))=H13 at g5' h5' hD5;have JF:=g11.trans (g4'.trans g5');have TX:=ac9.same JF;have Ut:=ach.same JF;have AJ:=ZG.same JF;have Yv:=Wh.same JF;have lz:(zer num.length).length=num.length:=Pm.aM ..;have hz0:∀x∈zer num.length,x=0:=fun x hx=>by obtain⟨k,_,rfl⟩:=Pm.eE hx;rfl
  have n0:fJ b 0:=by
   by_cases z:b=0
   ·exact .inl z
   ·exact .inr ⟨Int.le_refl _,by omega⟩
  have Vf:∀x∈num,fJ b x:=fun x hx=>(hnum x hx).1;have aaP:∀x∈num,Rm.Bd 31 x:=fun x hx=>(hnum x hx).2.mono (by decide);have zN:∀x∈zer num.length,fJ b x:=fun x hx=>by rw[hz0 x hx];exact n0
  have zB:∀x∈zer num.length,Rm.Bd 31 x:=fun x hx=>by rw[hz0 x hx];exact Rm.Bd.zero _
  obtain⟨adM,Tg⟩:=qF AJ;have neT:∀{l:Addr} {xs:List V},H13 l=some (.lst xs)->l≠T "law" := fun {l xs} e z=>by rw[z,Tg]at e;cases e
  refine Al b (ahd num fun k=>Rm.tk b (sV r1.at r2.at k)) AJ (fun H14 g14 Eh Q' E' k1 k2=>?_) fun v14 H14 g14 Eh r14=>?_
  ·have Uk:=g14 _ _ (neT hD5) hD5;exact⟨_,rfl,_,rfl,v1,v2,rfl,xQ (TX.aV AJ g14) (Ut.aV AJ g14) 5 32 17 (fun _ _=>nD) (Ih hb TX.fb Ut.fb (Nat.le_refl _) (Nat.le_refl _) (Nat.le_refl _) (Nat.le_refl _)) (by decide) (fun va Ha ga hA _=>⟨_,rfl,ahW hA (ga _ _ Uk) Vf (fun x hx=>(aaP x hx).mono (by decide)) (by omega) (by decide) (by decide) (by decide) (by decide) fun v H2 g2 _ t=>k1 v H2 (ga.trans g2) t⟩) (fun z=>absurd z (by decide))⟩
  have aa6:=TX.aV AJ g14;have abw:=Ut.aV AJ g14;have Uk:=g14 _ _ (neT hD5) hD5;have aaH:=g14 _ _ (neT h5') h5';obtain⟨adL,V2⟩:=qF Eh;have abk:∀{l:Addr} {xs:List V},H14 l=some (.lst xs)->l≠T "law" := fun {l xs} e z=>by rw[z,V2]at e;cases e
  refine Al b (fun k=>Rm.tk b (sV (ahd num r1.at) (ahd (zer num.length) r2.at) k)) Eh (fun H15 g15 Ur Q' E' k1 k2=>?_) fun v15 H15 g15 Ur r15=>?_
  ·have adf:=g15 _ _ (abk Uk) Uk;have acP:=g15 _ _ (abk aaH) aaH;exact⟨_,rfl,_,rfl,ahW (aa6.aV Eh g15) adf Vf aaP (by omega) (by decide) (by decide) (by decide) (by decide) fun va Ha ga hA _=>⟨_,rfl,_,rfl,ahW ((abw.aV Eh g15).same ga) (ga _ _ acP) zN zB (by omega) (by decide) (by decide) (by decide) (by decide) fun vb Hb gb hB _=>⟨va,vb,rfl,xQ (hA.same gb) hB 12 32 17 (fun _ _=>nD) (Ih hb hA.fb hB.fb (Nat.le_refl _) (Nat.le_refl _) (Nat.le_refl _) (Nat.le_refl _)) (by decide) (fun v H2 g2 _ t=>k1 v H2 (ga.trans (gb.trans g2)) t) (fun _ H2 g2=>k2 H2 (ga.trans (gb.trans g2)))⟩⟩⟩
  have Um:=r15.congr (f':=ahd num fun k=>Rm.tk b (sV r1.at r2.at k)) fun k=>by
   show Rm.tk b (ahd num r1.at k+ahd (zer num.length) r2.at k)=ahd num (fun k=>Rm.tk b (sV r1.at r2.at k)) k;unfold ahd;rw[lz];by_cases z:k<num.length
   ·rw[if_pos z,if_pos z,if_pos z,Pm.bI,if_pos z,Int.add_zero];exact zX (Vf _ (Pm.yQ z))
   ·rw[if_neg z,if_neg z,if_neg z];rfl
  refine Lh.by (fun σ' H'=>∃(o7 o8 o9 o10:Option V),σ'=[some (.ref a),some (.int b),some v1,some v2,some v3,some (.int c7),some (.ref t3),o7,o8,o9,o10,none]/\Good b r1.at 3 13 31 17 v1 H'/\cI H' v1 r1) (fun NN hNN=>?_) ?_
  ·refine⟨_,rfl,_,rfl,v14,v15,b,_,rfl,hb,r14.aV Eh g15,Um,fun H16 g16=>⟨_,rfl,Ao ?_⟩⟩;have Ue:kj (T "law") H13 H16:=cj g14 (cj g15 (nZ g16));exact hNN _ _ ⟨_,_,_,_,rfl,TX.aV AJ Ue,Yv.aV Tg Ue⟩
  clear r14 r15 Um aa6 abw TX Ut;rintro _ H16 ⟨o7',o8',o9',adK,rfl,adp,R3⟩;have b10:∀{x:Int},-10<x->x<10->Rm.Bd 10 (Rm.tk b x):=fun h1 h2=>fj hb (by decide) (Rm.Bd.of (by omega) (by omega));refine⟨_,rfl,_,rfl,_,rfl,b,-1,rfl,hb0,v1,b,r1,Rm.tk b (-1),3,13,31,17,49,rfl,R3,N1,b10 (by decide) (by decide),M1.eV,by decide,by decide,by decide,by decide,fun v17 r17 L17 H17 g17 abA T17 F17=>?_⟩;obtain⟨Gl,_⟩:=nF hb abA T17 F17 (by decide);have Nl:=T17.ri hb F17 (by decide);have ado:∀y∈r17.rule,Rm.Bd 65 y:=fun y hy=>by
   have:=T17.eV hb F17 y hy;exact this.mono (by decide)
  have e17:r17.at=fun k=>Rm.tk b (Rm.tk b (-1)*r1.at k):=funext T17.same;have aaN:=adp.same g17;have ZY:=R3.same g17;refine⟨_,rfl,_,rfl,v1,v17,rfl,xQ aaN Gl 6 42 17 (fun _ _=>nD) (Ih hb aaN.fb Gl.fb (by decide) (Nat.le_refl _) (Nat.le_refl _) (Nat.le_refl _)) (by decide) (fun v18 H18 g18 _ t18=>?_) (fun z=>absurd z (by decide))⟩;obtain⟨r18,L18,ac5,T18⟩:=t18;refine⟨_,rfl,(by show 0<=sizeLine;decide),fun t4 ht4=>⟨(by show 0<=sizeLine;decide),fun t5 ht5=>⟨(by show 3<=sizeLine;decide),fun t6 ht6=>?_⟩⟩⟩;have k4:=Same.new ht4 (.tup ([]:List V));have k5:=Same.new ht5 (.tup ([]:List V));have k6:=Same.new ht6 (.tup [.int b,.ref t4,.ref t5]);have k46:=k4.trans (k5.trans k6);have hE:cI (upd (upd (upd H18 t4 (.tup [])) t5 (.tup [])) t6 (.tup [.int b,.ref t4,.ref t5])) (.ref t6) ⟨b,[],[]⟩:=⟨t6,t4,t5,rfl,aB,k6 _ _ (k5 _ _ aB),k6 _ _ aB⟩;generalize upd (upd (upd H18 t4 (.tup [])) t5 (.tup [])) t6 (.tup [.int b,.ref t4,.ref t5])=H19 at k46 hE;refine Z6 (ac5.same k46) hE ?_;have zero:∀k,Rm.tk b (sV r1.at (fun k=>Rm.tk b (Rm.tk b (-1)*r1.at k)) k)=0:=fun k=>by
   show Rm.tk b (r1.at k+Rm.tk b (Rm.tk b (-1)*r1.at k))=0;rw[Rm.cJ,Rm.dH,show r1.at k + -1*r1.at k=0 by omega];exact Pm.tk0 b
  have hno:=(T18.none hb).mpr zero;rw[decide_eq_true ⟨T18.by_,hno.1,hno.2⟩];refine⟨_,rfl,WD ?_⟩;have Tf:=abA.same (g18.trans k46);have Vs:=ZY.same (g18.trans k46);refine⟨_,rfl,_,rfl,_,rfl,b,-1,rfl,hb0,v17,b,r17,Rm.tk b (-1),3,13,41,17,65,rfl,Tf,Nl,b10 (by decide) (by decide),ado,by decide,by decide,by decide,by decide,fun v20 r20 L20 H20 g20 abT T20 _=>?_⟩;refine⟨_,rfl,_,rfl,b,1,rfl,hb0,v1,b,r1,Rm.tk b 1,3,13,31,17,49,rfl,Vs.same g20,N1,b10 (by decide) (by decide),M1.eV,by decide,by decide,by decide,by decide,fun v21 r21 L21 H21 g21 adk T21 _=>?_⟩;have e20:r20=r21:=TR.uniq hb (T20.congr fun k=>by
   rw[e17];exact Ew b (r1.at k)) T21
  subst e20;refine Z6 (abT.same g21) adk ?_;rw[decide_eq_true ⟨rfl,rfl,rfl⟩];exact q _
end
theorem all_mk{l:W.OpenLaw}{w:World}{K:W.Frag}{h:Heap}{mg:Str->Option Value}{fa:Addr}(X:K.In h)(G:h.Ns mainGlobals mg)(hfa:mg "law" = some (.ref fa))
  (F0:fP K "is_prime" sI) (F1:fP K "taken" BQ) (F2:fP K "inverse" uT) (F3:fP K "over" Hf) (F4:fP K "shared_by" oA) (F5:fP K "next_place" mH) (F6:fP K "first_places" jQ) (F7:fP K "trimmed" vd) (F8:fP K "times" B4) (F9:fP K "divided" uh) (F10:fP K "monic" BX) (F11:fP K "greatest" rW) (F12:fP K "of_rule" uf) (F13:fP K "rule_of" uY) (F14:fP K "behind_first" jT) (F15:fP K "power_sums" m6) (F16:fP K "rule_of_sums" jO) (F17:fP K "prime_above" kW) (F18:fP K "divides" uo) (F19:fP K "taken_poly" mY) (F20:fP K "nearest" vA) (F21:fP K "joined" yg) (F22:fP K "whole_greatest" iT) (F23:fP K "shared_divisor" iK) (F24:fP K "top_of" xK) (F25:fP K "least_of" rF) (F26:fP K "shortest" qY) (F27:fP K "refuse_long" lF) (F28:fP K "refuse_far_steps" fQ) (F29:fP K "told_row" su) (F30:fP K "sum_place" oR) (F31:fP K "product_place" jr) (F32:fP K "rolled_place" jW) (F33:fP K "pair_row" sH) (F34:fP K "joint_row" oY) (F35:fP K "added" Bq) (F36:fP K "rolled" wZ) (F37:fP K "multiplied" mV) (F38:fP K "scaled" xG) (F39:fP K "summed" yj) (F40:fP K "every" AW) (F41:fP K "put_ahead" oO) (F42:fP K "_law_cell_at" rC) (F43:fP K "_law_mix" Ji) (F44:fP K "_law_drawn_by" oK) (F45:fP K "_law_taken" wK) (F46:fP K "_law_one_number" lK) (F47:fP K "_law_places" uK) (F48:fP K "_law_made_longer" jV) (F49:fP K "_law_drawn_row" mL) (F50:fP K "_law_told" Bw) (F51:fP K "_law_agree" wR) (F52:fP K "_law_sums" Ba) (F53:fP K "_law_every" wC) (FL:fP K "law" B7) (O2:W.nsIn K mainGlobals "int" = some none) (M6:W.nsIn K mainGlobals "len" = some none) (E7:W.nsIn K mainGlobals "list" = some none) (ML:W.nsIn K mainGlobals "max" = some none) (PY:W.nsIn K mainGlobals "min" = some none) (BL:W.nsIn K mainGlobals "range" = some none) (Oe:W.nsIn K mainGlobals "sum" = some none) (Ar:W.nsIn K mainGlobals "tuple" = some none) (cY:∃t,W.nsIn K mainGlobals "BELOW_THE_PRIMES" = some (some (.int 1000000 t))) (dM:∃t,W.nsIn K mainGlobals "FARTHEST_START" = some (some (.int 100 t))) (ni:∃t,W.nsIn K mainGlobals "LONGEST" = some (some (.int 12 t))) (fU:∃t,W.nsIn K mainGlobals "WIDEST_STEP" = some (some (.int 10 t))) {aG:Addr} (pN:W.nsIn K mainGlobals "TooLong" = some (some (.ref aG))) (uF:W.excIn K aG [.type "ValueError",.type "Exception",.type "BaseException",.type "object"] "ValueError.__new__" = true) (gJ:Hr K aG aG=true) (gY:W.ktsIn K aG "BaseException" = true) (qL:W.findIn K (.ref aG) "__getattribute__" = some (some (.builtin "BaseException.__getattribute__"))) (rQ:W.findIn K (.ref aG) "__getattr__" = some none) (qU:W.findIn K (.ref aG) "__class__" = some (some (.builtin "object.__class__"))) (rz:W.mroIn K aG (.type "BaseException")=some true) (qZ:W.mroIn K aG (.type "object")=some true) (rO:(W.clsIn K aG).isSome=true) (eO:W.kitOne K (.ref aG) (.ref aG)=some true) (dj:W.kitOne K (.ref aG) (.type "ValueError")=some true):
  ∃fd:FuncData,(∀(s:Shared) (v:Value),BindsTo s fd ⟨[v],[]⟩ [("_law_script",v)])/\∀(T:Str->Addr) (base:Heap),K.In base->base.Ns mainGlobals mg->(∀y∈[("_law_sums" : Str),"_law_every","law"],MkD mg base y (T y))->E9 l.prog w K mg base (lJ l.prog w) aaA fa fd ["_law_script"] (HC K T):=by
 obtain⟨f,oc,od,kV,doc,pm,an,cdv,ct,sl,e1,e2,e3,e4⟩:=FL.ex;have e:=hfa.symm.trans (W.mg_of X G e1);cases e;have FF:=LK (st:=B7) e2 e3 e4;have B:Bt mg:=⟨W.mg_none_of X G O2,W.mg_none_of X G M6,W.mg_none_of X G E7,W.mg_none_of X G ML,W.mg_none_of X G PY,W.mg_none_of X G BL,W.mg_none_of X G Oe,W.mg_none_of X G Ar,(let⟨t,q⟩:=cY;⟨t,W.mg_of X G q⟩),(let⟨t,q⟩:=dM;⟨t,W.mg_of X G q⟩),(let⟨t,q⟩:=ni;⟨t,W.mg_of X G q⟩),(let⟨t,q⟩:=fU;⟨t,W.mg_of X G q⟩)⟩;refine⟨W.fnOf "law" "law" (aD B7) (aC B7) (aj B7) .none kV doc pm an cdv ct,fun s v=> .of_eq rfl,fun T base kB gB MK=>?_⟩;have M:Ms K mg base aG:=⟨W.mg_of X G pN,Sg kB gB pN uF F.excBase_ValueError (by decide),SV kB gJ gY,⟨qL,rQ,qU,rz,qZ,rO⟩,eO,dj⟩;have qR:=Bp (P:=l.prog) (w:=w) B M (F0.fnA X G);have aY:=Kv (P:=l.prog) (w:=w) B M (F1.fnA X G);have uq:=Ed (P:=l.prog) (w:=w) B M (F2.fnA X G) aY;have wA:=Pk (P:=l.prog) (w:=w) B M (F3.fnA X G) aY uq;have gW:=Ag (P:=l.prog) (w:=w) B M (F4.fnA X G);have mU:=yr (P:=l.prog) (w:=w) B M (F5.fnA X G) aY;have bZ:=uO (P:=l.prog) (w:=w) B M (F6.fnA X G) mU;have dD:=Ek (P:=l.prog) (w:=w) B M (F7.fnA X G);have qO:=JY (P:=l.prog) (w:=w) B M (F8.fnA X G) aY dD;have fZ:=DB (P:=l.prog) (w:=w) B M (F9.fnA X G) aY dD;have uN:=JD (P:=l.prog) (w:=w) B M (F10.fnA X G) wA;have jh:=Bg (P:=l.prog) (w:=w) B M (F11.fnA X G) uN fZ;have eZ:=D8 (P:=l.prog) (w:=w) B M (F12.fnA X G) aY;have fV:=DN (P:=l.prog) (w:=w) B M (F13.fnA X G) aY;have dO:=vo (P:=l.prog) (w:=w) B M (F14.fnA X G);have dZ:=wW (P:=l.prog) (w:=w) B M (F15.fnA X G) dO;have dN:=uU (P:=l.prog) (w:=w) B M (F16.fnA X G) dO;have kY:=vI (P:=l.prog) (w:=w) B M (F17.fnA X G) qR;have pX:=D9 (P:=l.prog) (w:=w) B M (F18.fnA X G) fZ;have jD:=xM (P:=l.prog) (w:=w) B M (F19.fnA X G) dD aY;have j6:=DY (P:=l.prog) (w:=w) B M (F20.fnA X G);have yq:=Jc (P:=l.prog) (w:=w) B M (F21.fnA X G) wA aY j6;have iR:=qN (P:=l.prog) (w:=w) B M (F22.fnA X G) pX kY jh jD j6 yq;have iI:=rK (P:=l.prog) (w:=w) B M (F23.fnA X G) iR jh;have xJ:=GJ (P:=l.prog) (w:=w) B M (F24.fnA X G) aY dD;have rP:=Bu (P:=l.prog) (w:=w) B M (F25.fnA X G) eZ xJ fZ iI;have bF:=Bc (P:=l.prog) (w:=w) B M (F26.fnA X G) rP fV;have bN:=vG (P:=l.prog) (w:=w) B M (F27.fnA X G);have f9:=ou (P:=l.prog) (w:=w) B M (F28.fnA X G);have cA:=Ca (P:=l.prog) (w:=w) B M (F29.fnA X G) aY bF;have gU:=zE (P:=l.prog) (w:=w) B M (F30.fnA X G);have dB:=sZ (P:=l.prog) (w:=w) B M (F31.fnA X G);have dU:=uR (P:=l.prog) (w:=w) B M (F32.fnA X G);have jf:=Bj (P:=l.prog) (w:=w) B M (F33.fnA X G) bZ cA gU dU dB;have gH:=Ad (P:=l.prog) (w:=w) B M (F34.fnA X G) gW bF bN qO eZ jf fV;have d9:=Jv (P:=l.prog) (w:=w) B M (F35.fnA X G) gH gU;have fu:=Hg (P:=l.prog) (w:=w) B M (F36.fnA X G) gH dU;have dg:=xR (P:=l.prog) (w:=w) B M (F37.fnA X G) gW bF bN dZ dN jf dB;have qj:=IX (P:=l.prog) (w:=w) B M (F38.fnA X G) cA;have wY:=Ft (P:=l.prog) (w:=w) B M (F39.fnA X G) bF bN qO aY eZ bZ cA fV;have nG:=J1 (P:=l.prog) (w:=w) B M (F40.fnA X G) f9 bF dZ bZ dN cA;have jj:=yO (P:=l.prog) (w:=w) B M (F41.fnA X G) bF bN cA;have fM:=Aq (P:=l.prog) (w:=w) B M (F42.fnA X G);have iB:=Oi (P:=l.prog) (w:=w) B M (F43.fnA X G);have oX:=yH (P:=l.prog) (w:=w) B M (F44.fnA X G) iB;have cO:=E8 (P:=l.prog) (w:=w) B M (F45.fnA X G)
 have dJ:=vO (P:=l.prog) (w:=w) B M (F46.fnA X G) iB cO;have uV:=D4 (P:=l.prog) (w:=w) B M (F47.fnA X G) cO;have jP:=uE (P:=l.prog) (w:=w) B M (F48.fnA X G) uV cO;have iz:=yx (P:=l.prog) (w:=w) B M (F49.fnA X G) fM iB dJ jP cO;have cU:=KQ (P:=l.prog) (w:=w) B M (F50.fnA X G);have dY:=Fj (P:=l.prog) (w:=w) B M (F51.fnA X G);have Bh:=KW (P:=l.prog) (w:=w) B M (T:=T) (MK _ (by simp)) kB (F52.fnA X G) d9 cU dg dY fu;have xH:=HB (P:=l.prog) (w:=w) B M (T:=T) (MK _ (by simp)) kB (F53.fnA X G) cU nG d9 dY dg;exact Tt B M (T:=T) (MK _ (by simp)) kB FF hfa oX fM iz Bh cO cU wY fu dY xH iB dJ jj d9 qj
end K36
namespace L2
open PySem PySem.W W.X
theorem Js{q:Program}{loose:List Str}{XP:(Str->Option Value)->Heap->Prop}{K:Params->Frag}{as:List Addr}{n t:Nat}{r:RowW}{d:DefRec}{kwd:List (Str×PySem.Expr)}{run:Value->List Value->Sem Value}(keys:∀P,as=(K P).map (·.1))
  (W:WalkO q loose XP (fun w h=>(K w.params).In h) r d kwd run):WalkX q loose XP (obsZ as) (valZ K n t) r d kwd run:=
 fun w s0 s1 mg mb G y a o pm cd doc dV kV h1 h2 h3 h4 h5 h6 args vals as' L p1 p2 p3 p4 p5=>W w s0 s1 mg mb G (InK.keeps w _ _ (z_facts keys y).2.1 L.keeps) a o pm cd doc dV kV h1 h2 h3 h4 h5 h6 args vals as' p1 p2 p3 p4 p5
end L2
namespace K36
def topF(i:Nat):PySem.Stmt:=PySem.Challenge.pw_nextbyrule_k36_whole_mixes_by_mixes.main.body.getD i (.Pass ⟨0,0,0,0⟩)
def pwL:PySem.Program:={ PySem.Challenge.pw_nextbyrule_k36_whole_mixes_by_mixes with main:={ PySem.Challenge.pw_nextbyrule_k36_whole_mixes_by_mixes.main with body:=[topF 0,topF 1,topF 2,topF 3,topF 4,topF 5,topF 6,topF 7,topF 8,topF 9,topF 10,topF 11,topF 12,topF 13,topF 14,topF 15,topF 16,topF 17,topF 18,topF 19,topF 20,topF 21,topF 22,topF 23,topF 24,topF 25,topF 26,topF 27,topF 28,topF 29,topF 30,topF 31,topF 32,topF 33,topF 34,topF 35,topF 36,topF 37,topF 38,topF 39,topF 40,topF 41,topF 42,topF 43,topF 44,topF 45,topF 46,topF 47,topF 48,topF 49,topF 50,topF 51,topF 52,topF 53,topF 54,topF 55,topF 56,topF 57,topF 58,topF 59,topF 60,topF 61,topF 62,topF 63,topF 64,topF 65,topF 66,topF 67,topF 68,topF 69,topF 70,topF 71,topF 72] } }
def rwL:PySem.W.OpenLaw:={ PySem.Challenge.rw_nextbyrule_k36_whole_mixes_by_mixes with prog:=pwL }
end K36
namespace K36
namespace H
noncomputable section
open PySem PySem.W PySem.Calls PyProof.Rows
theorem warm:(K36.pwL.main.body.isEmpty||true)=true:=by k_qdec
abbrev nd(v:Obj)(l r:BT):BT:= .node v l r
abbrev e:BT:= .nil
abbrev kh:=PyData.keyHash
abbrev tt(i:Nat):Stmt:=PySem.W.Fast.tw6055556175523322261 i
def z0:Str:=⟨⟨[95,95,110,97,109,101,95,95]⟩⟩
def z1:Str:=⟨⟨[108,97,119,95,110,101,120,116,98,121,114,117,108,101,95,107,51,54,95,119,104,111,108,101,95,109,105,120,101,115,95,98,121,95,109,105,120,101,115]⟩⟩
def z2:Str:=⟨⟨[95,95,100,111,99,95,95]⟩⟩
def z3:Str:=⟨⟨[95,95,112,97,99,107,97,103,101,95,95]⟩⟩
def z4:Str:=⟨⟨[95,95,108,111,97,100,101,114,95,95]⟩⟩
def z5:Str:=⟨⟨[95,95,115,112,101,99,95,95]⟩⟩
def z6:Str:=⟨⟨[95,95,97,110,110,111,116,97,116,105,111,110,115,95,95]⟩⟩
def z7:Str:=⟨⟨[95,95,98,117,105,108,116,105,110,115,95,95]⟩⟩
def z8:Str:=⟨⟨[95,95,102,105,108,101,95,95]⟩⟩
def z9:Str:=⟨⟨[47,99,108,97,105,109,47,99,117,116,46,112,121]⟩⟩
def z10:Str:=⟨⟨[95,95,99,97,99,104,101,100,95,95]⟩⟩
def z11:Str:=⟨⟨[82,117,108,101,69,114,114,111,114]⟩⟩
def z12:Str:=⟨⟨[78,111,78,117,109,98,101,114]⟩⟩
def z13:Str:=⟨⟨[78,111,66,121]⟩⟩
def z14:Str:=⟨⟨[84,111,111,70,97,114]⟩⟩
def z15:Str:=⟨⟨[84,111,111,76,111,110,103]⟩⟩
def z16:Str:=⟨⟨[105,115,95,112,114,105,109,101]⟩⟩
def z17:Str:=⟨⟨[116,97,107,101,110]⟩⟩
def z18:Str:=⟨⟨[105,110,118,101,114,115,101]⟩⟩
def z19:Str:=⟨⟨[111,118,101,114]⟩⟩
def z20:Str:=⟨⟨[76,79,78,71,69,83,84]⟩⟩
def z21:Str:=⟨⟨[115,104,97,114,101,100,95,98,121]⟩⟩
def z22:Str:=⟨⟨[110,101,120,116,95,112,108,97,99,101]⟩⟩
def z23:Str:=⟨⟨[102,105,114,115,116,95,112,108,97,99,101,115]⟩⟩
def z24:Str:=⟨⟨[116,114,105,109,109,101,100]⟩⟩
def z25:Str:=⟨⟨[116,105,109,101,115]⟩⟩
def z26:Str:=⟨⟨[100,105,118,105,100,101,100]⟩⟩
def z27:Str:=⟨⟨[109,111,110,105,99]⟩⟩
def z28:Str:=⟨⟨[103,114,101,97,116,101,115,116]⟩⟩
def z29:Str:=⟨⟨[111,102,95,114,117,108,101]⟩⟩
def z30:Str:=⟨⟨[114,117,108,101,95,111,102]⟩⟩
def z31:Str:=⟨⟨[98,101,104,105,110,100,95,102,105,114,115,116]⟩⟩
def z32:Str:=⟨⟨[112,111,119,101,114,95,115,117,109,115]⟩⟩
def z33:Str:=⟨⟨[114,117,108,101,95,111,102,95,115,117,109,115]⟩⟩
def z34:Str:=⟨⟨[66,69,76,79,87,95,84,72,69,95,80,82,73,77,69,83]⟩⟩
def z35:Str:=⟨⟨[112,114,105,109,101,95,97,98,111,118,101]⟩⟩
def z36:Str:=⟨⟨[100,105,118,105,100,101,115]⟩⟩
def z37:Str:=⟨⟨[116,97,107,101,110,95,112,111,108,121]⟩⟩
def z38:Str:=⟨⟨[110,101,97,114,101,115,116]⟩⟩
def z39:Str:=⟨⟨[106,111,105,110,101,100]⟩⟩
def z40:Str:=⟨⟨[119,104,111,108,101,95,103,114,101,97,116,101,115,116]⟩⟩
def z41:Str:=⟨⟨[115,104,97,114,101,100,95,100,105,118,105,115,111,114]⟩⟩
def z42:Str:=⟨⟨[116,111,112,95,111,102]⟩⟩
def z43:Str:=⟨⟨[108,101,97,115,116,95,111,102]⟩⟩
def z44:Str:=⟨⟨[115,104,111,114,116,101,115,116]⟩⟩
def z45:Str:=⟨⟨[70,65,82,84,72,69,83,84,95,83,84,65,82,84]⟩⟩
def z46:Str:=⟨⟨[87,73,68,69,83,84,95,83,84,69,80]⟩⟩
def z47:Str:=⟨⟨[114,101,102,117,115,101,95,108,111,110,103]⟩⟩
def z48:Str:=⟨⟨[114,101,102,117,115,101,95,102,97,114,95,115,116,101,112,115]⟩⟩
def z49:Str:=⟨⟨[116,111,108,100,95,114,111,119]⟩⟩
def z50:Str:=⟨⟨[115,117,109,95,112,108,97,99,101]⟩⟩
def z51:Str:=⟨⟨[112,114,111,100,117,99,116,95,112,108,97,99,101]⟩⟩
def z52:Str:=⟨⟨[114,111,108,108,101,100,95,112,108,97,99,101]⟩⟩
def z53:Str:=⟨⟨[112,97,105,114,95,114,111,119]⟩⟩
def z54:Str:=⟨⟨[106,111,105,110,116,95,114,111,119]⟩⟩
def z55:Str:=⟨⟨[97,100,100,101,100]⟩⟩
def z56:Str:=⟨⟨[114,111,108,108,101,100]⟩⟩
def z57:Str:=⟨⟨[109,117,108,116,105,112,108,105,101,100]⟩⟩
def z58:Str:=⟨⟨[115,99,97,108,101,100]⟩⟩
def z59:Str:=⟨⟨[115,117,109,109,101,100]⟩⟩
def z60:Str:=⟨⟨[101,118,101,114,121]⟩⟩
def z61:Str:=⟨⟨[112,117,116,95,97,104,101,97,100]⟩⟩
def z62:Str:=⟨⟨[95,108,97,119,95,99,101,108,108,95,97,116]⟩⟩
def z63:Str:=⟨⟨[95,108,97,119,95,109,105,120]⟩⟩
def z64:Str:=⟨⟨[95,108,97,119,95,100,114,97,119,110,95,98,121]⟩⟩
def z65:Str:=⟨⟨[95,108,97,119,95,116,97,107,101,110]⟩⟩
def z66:Str:=⟨⟨[95,108,97,119,95,111,110,101,95,110,117,109,98,101,114]⟩⟩
def z67:Str:=⟨⟨[95,108,97,119,95,109,97,100,101,95,108,111,110,103,101,114]⟩⟩
def z68:Str:=⟨⟨[95,108,97,119,95,100,114,97,119,110,95,114,111,119]⟩⟩
def z69:Str:=⟨⟨[95,108,97,119,95,112,108,97,99,101,115]⟩⟩
def z70:Str:=⟨⟨[95,108,97,119,95,116,111,108,100]⟩⟩
def z71:Str:=⟨⟨[95,108,97,119,95,97,103,114,101,101]⟩⟩
def z72:Str:=⟨⟨[95,108,97,119,95,115,117,109,115]⟩⟩
def z73:Str:=⟨⟨[95,108,97,119,95,101,118,101,114,121]⟩⟩
def z74:Str:=⟨⟨[108,97,119]⟩⟩
def z75:Str:=⟨⟨[60,109,111,100,117,108,101,62]⟩⟩
def z76:Str:=⟨⟨[95,95,109,97,105,110,95,95]⟩⟩
def z77:Str:=⟨⟨[95,95,109,111,100,117,108,101,95,95]⟩⟩
def z78:Str:=⟨⟨[110,101,120,116,98,121,114,117,108,101,46,101,114,114,111,114,115]⟩⟩
def z79:Str:=⟨⟨[95,95,113,117,97,108,110,97,109,101,95,95]⟩⟩
def z80:Str:=⟨⟨[95,95,102,105,114,115,116,108,105,110,101,110,111,95,95]⟩⟩
def z81:Str:=⟨⟨[95,95,115,116,97,116,105,99,95,97,116,116,114,105,98,117,116,101,115,95,95]⟩⟩
def z82:Str:=⟨⟨[95,95,119,101,97,107,114,101,102,95,95]⟩⟩
def z83:Str:=⟨⟨[110,117,109,98,101,114]⟩⟩
def z84:Str:=⟨⟨[100,105,118,105,115,111,114]⟩⟩
def z85:Str:=⟨⟨[110,101,120,116,98,121,114,117,108,101,46,110,117,109,98,101,114,115]⟩⟩
def z86:Str:=⟨⟨[98,121]⟩⟩
def z87:Str:=⟨⟨[112,114,105,109,101]⟩⟩
def z88:Str:=⟨⟨[112,111,119,101,114]⟩⟩
def z89:Str:=⟨⟨[115,113,117,97,114,101]⟩⟩
def z90:Str:=⟨⟨[108,101,102,116]⟩⟩
def z91:Str:=⟨⟨[111,110,101]⟩⟩
def z92:Str:=⟨⟨[111,116,104,101,114]⟩⟩
def z93:Str:=⟨⟨[110,101,120,116,98,121,114,117,108,101,46,114,111,119,115]⟩⟩
def z94:Str:=⟨⟨[114,117,108,101]⟩⟩
def z95:Str:=⟨⟨[98,101,102,111,114,101]⟩⟩
def z96:Str:=⟨⟨[116,111,116,97,108]⟩⟩
def z97:Str:=⟨⟨[107]⟩⟩
def z98:Str:=⟨⟨[114,111,119]⟩⟩
def z99:Str:=⟨⟨[99,111,117,110,116]⟩⟩
def adz:Str:=⟨⟨[115,116,97,114,116,115]⟩⟩
def abj:Str:=⟨⟨[102,111,117,110,100]⟩⟩
def aa2:Str:=⟨⟨[110,117,109,98,101,114,115]⟩⟩
def acJ:Str:=⟨⟨[101,110,100]⟩⟩
def Nb:Str:=⟨⟨[110,101,120,116,98,121,114,117,108,101,46,112,111,108,121,115]⟩⟩
def acs:Str:=⟨⟨[105]⟩⟩
def abd:Str:=⟨⟨[116,111,112]⟩⟩
def acS:Str:=⟨⟨[111,102,116,101,110]⟩⟩
def ac3:Str:=⟨⟨[115,104,105,102,116]⟩⟩
def abY:Str:=⟨⟨[102,97,99,116,111,114]⟩⟩
def acn:Str:=⟨⟨[103,114,101,97,116]⟩⟩
def adn:Str:=⟨⟨[115,109,97,108,108]⟩⟩
def Yq:Str:=⟨⟨[110,101,120,116,98,121,114,117,108,101,46,112,111,119,101,114,115]⟩⟩
def aaW:Str:=⟨⟨[115,117,109,115]⟩⟩
def acE:Str:=⟨⟨[111,119,110]⟩⟩
def LC:Str:=⟨⟨[110,101,120,116,98,121,114,117,108,101,46,119,104,111,108,101,115]⟩⟩
def adB:Str:=⟨⟨[109,111,110,105,99,95,111,110,101]⟩⟩
def YL:Str:=⟨⟨[112,111,108,121]⟩⟩
def aa7:Str:=⟨⟨[109,111,100,117,108,117,115]⟩⟩
def abb:Str:=⟨⟨[114,101,115,116]⟩⟩
def acd:Str:=⟨⟨[109,111,114,101]⟩⟩
def Vg:Str:=⟨⟨[110,101,120,116,98,121,114,117,108,101,46,115,104,111,114,116,101,115,116]⟩⟩
def abz:Str:=⟨⟨[108,101,97,115,116]⟩⟩
def abP:Str:=⟨⟨[108,101,110,103,116,104]⟩⟩
def Ak:Str:=⟨⟨[110,101,120,116,98,121,114,117,108,101,46,109,105,120,101,115]⟩⟩
def ab4:Str:=⟨⟨[115,116,97,114,116]⟩⟩
def ac2:Str:=⟨⟨[115,116,101,112]⟩⟩
def U3:Str:=⟨⟨[111,117,114,115]⟩⟩
def WY:Str:=⟨⟨[116,104,101,105,114,115]⟩⟩
def abD:Str:=⟨⟨[110]⟩⟩
def acr:Str:=⟨⟨[112,97,105,114,95,112,108,97,99,101]⟩⟩
def acY:Str:=⟨⟨[95,108,97,119,95,115,99,114,105,112,116]⟩⟩
def Yr:Str:=⟨⟨[95,108,97,119,95,107]⟩⟩
def Wf:Str:=⟨⟨[95,108,97,119,95,99,101,108,108]⟩⟩
def abI:Str:=⟨⟨[95,108,97,119,95,110,117,109,98,101,114]⟩⟩
def aa4:Str:=⟨⟨[95,108,97,119,95,98,121]⟩⟩
def acL:Str:=⟨⟨[95,108,97,119,95,102,97,114]⟩⟩
def acp:Str:=⟨⟨[95,108,97,119,95,115,109,97,108,108]⟩⟩
def adl:Str:=⟨⟨[95,108,97,119,95,116,111,108,100,95,104,101,114,101]⟩⟩
def ac8:Str:=⟨⟨[95,108,97,119,95,102,111,117,110,100]⟩⟩
def Rn:Str:=⟨⟨[95,108,97,119,95,111,110,101]⟩⟩
def acK:Str:=⟨⟨[95,108,97,119,95,111,116,104,101,114]⟩⟩
def Uo:Str:=⟨⟨[95,108,97,119,95,116,119,111]⟩⟩
def abt:Str:=⟨⟨[95,108,97,119,95,116,104,114,101,101]⟩⟩
def aa9:Str:=⟨⟨[95,108,97,119,95,104,101,114,101]⟩⟩
def abB:Str:=⟨⟨[95,108,97,119,95,116,104,101,114,101]⟩⟩
def acZ:Str:=⟨⟨[95,108,97,119,95,98,111,116,104]⟩⟩
def abE:Str:=⟨⟨[95,108,97,119,95,115,116,97,114,116]⟩⟩
def aaR:Str:=⟨⟨[95,108,97,119,95,115,116,101,112]⟩⟩
noncomputable abbrev t0:String:=PySem.W.SL.s14018661285674007319x4
noncomputable abbrev t1:String:=PySem.W.SL.s7097527257260152453x26
noncomputable abbrev t2:String:=PySem.W.SL.s2766695959194262286x5
noncomputable abbrev t3:String:=PySem.W.SL.s5856160107412720595x4
noncomputable abbrev t4:String:=PySem.W.SL.s658472552662922059x5
noncomputable abbrev t5:String:=PySem.W.SL.s6070975301684473832x10
noncomputable abbrev t6:String:=PySem.W.SL.s11030030927630378310x26
noncomputable abbrev t7:String:=PySem.W.SL.s10062305145149207511x16
noncomputable abbrev t8:String:=PySem.W.SL.s17162191345867700912x4
noncomputable abbrev t9:String:=PySem.W.SL.s4209523147560561109x18
noncomputable abbrev t10:String:=PySem.W.SL.s5946037652744460706x9
noncomputable abbrev t11:String:=PySem.W.SL.s4278001404047624695x13
noncomputable abbrev t12:String:=PySem.W.SL.s2742458400755230247x6
noncomputable abbrev t13:String:=PySem.W.SL.s14755015743595814543x17
noncomputable abbrev t14:String:=PySem.W.SL.s10220274742760427390x26
noncomputable abbrev t15:String:=PySem.W.SL.s4290257624100764138x5
noncomputable abbrev t16:String:=PySem.W.SL.s4860613602091757760x24
noncomputable abbrev t17:String:=PySem.W.SL.s7174869446012820540x8
def l3(P:Params):List DictEntry:=[⟨kh P z0,.str z0 165,.str z1 647⟩,⟨kh P z2,.str z2 166,.none⟩,⟨kh P z3,.str z3 167,.none⟩,⟨kh P z4,.str z4 168,.builtin t1⟩,⟨kh P z5,.str z5 169,.none⟩,⟨kh P z6,.str z6 170,.ref 6⟩,⟨kh P z7,.str z7 171,.ref 4⟩,⟨kh P z8,.str z8 173,.str z9 172⟩,⟨kh P z10,.str z10 174,.none⟩,⟨kh P z11,.str z11 206,.ref 24⟩,⟨kh P z12,.str z12 222,.ref 37⟩,⟨kh P z13,.str z13 238,.ref 49⟩,⟨kh P z14,.str z14 254,.ref 61⟩,⟨kh P z15,.str z15 270,.ref 73⟩,⟨kh P z16,.str z16 280,.ref 82⟩,⟨kh P z17,.str z17 288,.ref 89⟩,⟨kh P z18,.str z18 299,.ref 96⟩,⟨kh P z19,.str z19 308,.ref 103⟩,⟨kh P z20,.str z20 312,.int 12 311⟩,⟨kh P z21,.str z21 320,.ref 110⟩,⟨kh P z22,.str z22 331,.ref 117⟩,⟨kh P z23,.str z23 343,.ref 124⟩,⟨kh P z24,.str z24 353,.ref 131⟩,⟨kh P z25,.str z25 365,.ref 138⟩,⟨kh P z26,.str z26 380,.ref 145⟩,⟨kh P z27,.str z27 386,.ref 150⟩,⟨kh P z28,.str z28 398,.ref 157⟩,⟨kh P z29,.str z29 404,.ref 162⟩,⟨kh P z30,.str z30 410,.ref 167⟩,⟨kh P z31,.str z31 418,.ref 172⟩,⟨kh P z32,.str z32 429,.ref 179⟩,⟨kh P z33,.str z33 438,.ref 186⟩,⟨kh P z34,.str z34 442,.int 1000000 441⟩,⟨kh P z35,.str z35 450,.ref 193⟩,⟨kh P z36,.str z36 458,.ref 200⟩,⟨kh P z37,.str z37 464,.ref 205⟩,⟨kh P z38,.str z38 473,.ref 212⟩,⟨kh P z39,.str z39 484,.ref 219⟩,⟨kh P z40,.str z40 490,.ref 224⟩,⟨kh P z41,.str z41 499,.ref 231⟩,⟨kh P z42,.str z42 507,.ref 236⟩,⟨kh P z43,.str z43 517,.ref 243⟩,⟨kh P z44,.str z44 526,.ref 250⟩,⟨kh P z45,.str z45 530,.int 100 529⟩,⟨kh P z46,.str z46 532,.int 10 531⟩,⟨kh P z47,.str z47 539,.ref 257⟩,⟨kh P z48,.str z48 547,.ref 264⟩,⟨kh P z49,.str z49 553,.ref 269⟩,⟨kh P z50,.str z50 562,.ref 276⟩,⟨kh P z51,.str z51 571,.ref 283⟩,⟨kh P z52,.str z52 577,.ref 288⟩,⟨kh P z53,.str z53 583,.ref 293⟩,⟨kh P z54,.str z54 596,.ref 300⟩,⟨kh P z55,.str z55 604,.ref 307⟩,⟨kh P z56,.str z56 612,.ref 314⟩,⟨kh P z57,.str z57 618,.ref 319⟩,⟨kh P z58,.str z58 624,.ref 324⟩,⟨kh P z59,.str z59 630,.ref 329⟩,⟨kh P z60,.str z60 636,.ref 334⟩,⟨kh P z61,.str z61 646,.ref 341⟩,⟨kh P z62,.str z62 656,.ref 348⟩,⟨kh P z63,.str z63 665,.ref 355⟩,⟨kh P z64,.str z64 672,.ref 362⟩,⟨kh P z65,.str z65 680,.ref 369⟩,⟨kh P z66,.str z66 691,.ref 376⟩,⟨kh P z67,.str z67 697,.ref 381⟩,⟨kh P z68,.str z68 703,.ref 386⟩,⟨kh P z69,.str z69 709,.ref 391⟩,⟨kh P z70,.str z70 717,.ref 398⟩,⟨kh P z71,.str z71 725,.ref 405⟩,⟨kh P z72,.str z72 740,.ref 412⟩,⟨kh P z73,.str z73 756,.ref 419⟩,⟨kh P z74,.str z74 762,.ref 424⟩]
def o3(P:Params):Obj:=⟨.type t0,.none,.dict ⟨l3 P⟩ 73,⟨[]⟩⟩
def abZ(P:Params):Obj:=⟨.type t0,.none,.dict ⟨[⟨kh P z0,.str z0 165,.str z78 187⟩,⟨kh P z2,.str z2 166,.none⟩,⟨kh P z3,.str z3 167,.none⟩,⟨kh P z4,.str z4 168,.builtin t1⟩,⟨kh P z5,.str z5 169,.none⟩,⟨kh P z6,.str z6 170,.ref 6⟩,⟨kh P z7,.str z7 171,.ref 4⟩,⟨kh P z8,.str z8 173,.str z9 172⟩,⟨kh P z10,.str z10 174,.none⟩,⟨kh P z11,.str z11 206,.ref 24⟩]⟩ 10,⟨[]⟩⟩
def ab2(P:Params):Obj:=⟨.type t0,.none,.dict ⟨[⟨kh P z0,.str z0 165,.str z78 187⟩,⟨kh P z2,.str z2 166,.none⟩,⟨kh P z3,.str z3 167,.none⟩,⟨kh P z4,.str z4 168,.builtin t1⟩,⟨kh P z5,.str z5 169,.none⟩,⟨kh P z6,.str z6 170,.ref 6⟩,⟨kh P z7,.str z7 171,.ref 4⟩,⟨kh P z8,.str z8 173,.str z9 172⟩,⟨kh P z10,.str z10 174,.none⟩,⟨kh P z11,.str z11 206,.ref 24⟩,⟨kh P z12,.str z12 222,.ref 37⟩]⟩ 11,⟨[]⟩⟩
def acR(P:Params):Obj:=⟨.type t0,.none,.dict ⟨[⟨kh P z0,.str z0 165,.str z78 187⟩,⟨kh P z2,.str z2 166,.none⟩,⟨kh P z3,.str z3 167,.none⟩,⟨kh P z4,.str z4 168,.builtin t1⟩,⟨kh P z5,.str z5 169,.none⟩,⟨kh P z6,.str z6 170,.ref 6⟩,⟨kh P z7,.str z7 171,.ref 4⟩,⟨kh P z8,.str z8 173,.str z9 172⟩,⟨kh P z10,.str z10 174,.none⟩,⟨kh P z11,.str z11 206,.ref 24⟩,⟨kh P z12,.str z12 222,.ref 37⟩,⟨kh P z13,.str z13 238,.ref 49⟩]⟩ 12,⟨[]⟩⟩
def YM(P:Params):Obj:=⟨.type t0,.none,.dict ⟨[⟨kh P z0,.str z0 165,.str z78 187⟩,⟨kh P z2,.str z2 166,.none⟩,⟨kh P z3,.str z3 167,.none⟩,⟨kh P z4,.str z4 168,.builtin t1⟩,⟨kh P z5,.str z5 169,.none⟩,⟨kh P z6,.str z6 170,.ref 6⟩,⟨kh P z7,.str z7 171,.ref 4⟩,⟨kh P z8,.str z8 173,.str z9 172⟩,⟨kh P z10,.str z10 174,.none⟩,⟨kh P z11,.str z11 206,.ref 24⟩,⟨kh P z12,.str z12 222,.ref 37⟩,⟨kh P z13,.str z13 238,.ref 49⟩,⟨kh P z14,.str z14 254,.ref 61⟩]⟩ 13,⟨[]⟩⟩
def YK(P:Params):Obj:=⟨.type t0,.none,.dict ⟨[⟨kh P z0,.str z0 165,.str z93 309⟩,⟨kh P z2,.str z2 166,.none⟩,⟨kh P z3,.str z3 167,.none⟩,⟨kh P z4,.str z4 168,.builtin t1⟩,⟨kh P z5,.str z5 169,.none⟩,⟨kh P z6,.str z6 170,.ref 6⟩,⟨kh P z7,.str z7 171,.ref 4⟩,⟨kh P z8,.str z8 173,.str z9 172⟩,⟨kh P z10,.str z10 174,.none⟩,⟨kh P z11,.str z11 206,.ref 24⟩,⟨kh P z12,.str z12 222,.ref 37⟩,⟨kh P z13,.str z13 238,.ref 49⟩,⟨kh P z14,.str z14 254,.ref 61⟩,⟨kh P z15,.str z15 270,.ref 73⟩,⟨kh P z16,.str z16 280,.ref 82⟩,⟨kh P z17,.str z17 288,.ref 89⟩,⟨kh P z18,.str z18 299,.ref 96⟩,⟨kh P z19,.str z19 308,.ref 103⟩,⟨kh P z20,.str z20 312,.int 12 311⟩,⟨kh P z21,.str z21 320,.ref 110⟩]⟩ 20,⟨[]⟩⟩
def W2(P:Params):Obj:=⟨.type t0,.none,.dict ⟨[⟨kh P z0,.str z0 165,.str LC 439⟩,⟨kh P z2,.str z2 166,.none⟩,⟨kh P z3,.str z3 167,.none⟩,⟨kh P z4,.str z4 168,.builtin t1⟩,⟨kh P z5,.str z5 169,.none⟩,⟨kh P z6,.str z6 170,.ref 6⟩,⟨kh P z7,.str z7 171,.ref 4⟩,⟨kh P z8,.str z8 173,.str z9 172⟩,⟨kh P z10,.str z10 174,.none⟩,⟨kh P z11,.str z11 206,.ref 24⟩,⟨kh P z12,.str z12 222,.ref 37⟩,⟨kh P z13,.str z13 238,.ref 49⟩,⟨kh P z14,.str z14 254,.ref 61⟩,⟨kh P z15,.str z15 270,.ref 73⟩,⟨kh P z16,.str z16 280,.ref 82⟩,⟨kh P z17,.str z17 288,.ref 89⟩,⟨kh P z18,.str z18 299,.ref 96⟩,⟨kh P z19,.str z19 308,.ref 103⟩,⟨kh P z20,.str z20 312,.int 12 311⟩,⟨kh P z21,.str z21 320,.ref 110⟩,⟨kh P z22,.str z22 331,.ref 117⟩,⟨kh P z23,.str z23 343,.ref 124⟩,⟨kh P z24,.str z24 353,.ref 131⟩,⟨kh P z25,.str z25 365,.ref 138⟩,⟨kh P z26,.str z26 380,.ref 145⟩,⟨kh P z27,.str z27 386,.ref 150⟩,⟨kh P z28,.str z28 398,.ref 157⟩,⟨kh P z29,.str z29 404,.ref 162⟩,⟨kh P z30,.str z30 410,.ref 167⟩,⟨kh P z31,.str z31 418,.ref 172⟩,⟨kh P z32,.str z32 429,.ref 179⟩,⟨kh P z33,.str z33 438,.ref 186⟩]⟩ 32,⟨[]⟩⟩
def WC(P:Params):Obj:=⟨.type t0,.none,.dict ⟨[⟨kh P z0,.str z0 165,.str Ak 527⟩,⟨kh P z2,.str z2 166,.none⟩,⟨kh P z3,.str z3 167,.none⟩,⟨kh P z4,.str z4 168,.builtin t1⟩,⟨kh P z5,.str z5 169,.none⟩,⟨kh P z6,.str z6 170,.ref 6⟩,⟨kh P z7,.str z7 171,.ref 4⟩,⟨kh P z8,.str z8 173,.str z9 172⟩,⟨kh P z10,.str z10 174,.none⟩,⟨kh P z11,.str z11 206,.ref 24⟩,⟨kh P z12,.str z12 222,.ref 37⟩,⟨kh P z13,.str z13 238,.ref 49⟩,⟨kh P z14,.str z14 254,.ref 61⟩,⟨kh P z15,.str z15 270,.ref 73⟩,⟨kh P z16,.str z16 280,.ref 82⟩,⟨kh P z17,.str z17 288,.ref 89⟩,⟨kh P z18,.str z18 299,.ref 96⟩,⟨kh P z19,.str z19 308,.ref 103⟩,⟨kh P z20,.str z20 312,.int 12 311⟩,⟨kh P z21,.str z21 320,.ref 110⟩,⟨kh P z22,.str z22 331,.ref 117⟩,⟨kh P z23,.str z23 343,.ref 124⟩,⟨kh P z24,.str z24 353,.ref 131⟩,⟨kh P z25,.str z25 365,.ref 138⟩,⟨kh P z26,.str z26 380,.ref 145⟩,⟨kh P z27,.str z27 386,.ref 150⟩,⟨kh P z28,.str z28 398,.ref 157⟩,⟨kh P z29,.str z29 404,.ref 162⟩,⟨kh P z30,.str z30 410,.ref 167⟩,⟨kh P z31,.str z31 418,.ref 172⟩,⟨kh P z32,.str z32 429,.ref 179⟩,⟨kh P z33,.str z33 438,.ref 186⟩,⟨kh P z34,.str z34 442,.int 1000000 441⟩,⟨kh P z35,.str z35 450,.ref 193⟩,⟨kh P z36,.str z36 458,.ref 200⟩,⟨kh P z37,.str z37 464,.ref 205⟩,⟨kh P z38,.str z38 473,.ref 212⟩,⟨kh P z39,.str z39 484,.ref 219⟩,⟨kh P z40,.str z40 490,.ref 224⟩,⟨kh P z41,.str z41 499,.ref 231⟩,⟨kh P z42,.str z42 507,.ref 236⟩,⟨kh P z43,.str z43 517,.ref 243⟩,⟨kh P z44,.str z44 526,.ref 250⟩,⟨kh P z45,.str z45 530,.int 100 529⟩,⟨kh P z46,.str z46 532,.int 10 531⟩,⟨kh P z47,.str z47 539,.ref 257⟩,⟨kh P z48,.str z48 547,.ref 264⟩]⟩ 47,⟨[]⟩⟩
def V4(P:Params):Obj:=⟨.type t0,.none,.dict ⟨(l3 P).take 60⟩ 60,⟨[]⟩⟩
def o11:Obj:=⟨.type t2,.none,.seq ⟨[]⟩ 0,⟨[]⟩⟩
def l12:List Value:=[.int 2 0,.int 0 0,.ref 20,.int 4 0,.int 0 0,.ref 33,.int 6 0,.int 0 0,.ref 45,.int 8 0,.int 0 0,.ref 57,.int 10 0,.int 0 0,.ref 69,.int 13 0,.int 0 0,.ref 81,.int 22 0,.int 0 0,.ref 88,.int 26 0,.int 0 0,.ref 95,.int 36 0,.int 0 0,.ref 102,.int 44 0,.int 0 0,.ref 109,.int 48 0,.int 0 0,.ref 116,.int 53 0,.int 0 0,.ref 123,.int 62 0,.int 0 0,.ref 130,.int 67 0,.int 0 0,.ref 137,.int 73 0,.int 0 0,.ref 144,.int 83 0,.int 0 0,.ref 149,.int 88 0,.int 0 0,.ref 156,.int 96 0,.int 0 0,.ref 161,.int 100 0,.int 0 0,.ref 166,.int 104 0,.int 0 0,.ref 171,.int 107 0,.int 0 0,.ref 178,.int 113 0,.int 0 0,.ref 185,.int 120 0,.int 0 0,.ref 192,.int 125 0,.int 0 0,.ref 199,.int 127 0,.int 0 0,.ref 204,.int 129 0,.int 0 0,.ref 211,.int 132 0,.int 0 0,.ref 218,.int 135 0,.int 0 0,.ref 223,.int 153 0,.int 0 0,.ref 230,.int 156 0,.int 0 0,.ref 235,.int 164 0,.int 0 0,.ref 242,.int 169 0,.int 0 0,.ref 249,.int 176 0,.int 0 0,.ref 256,.int 179 0,.int 0 0,.ref 263,.int 182 0,.int 0 0,.ref 268,.int 186 0,.int 0 0,.ref 275,.int 188 0,.int 0 0,.ref 282,.int 190 0,.int 0 0,.ref 287,.int 192 0,.int 0 0,.ref 292,.int 197 0,.int 0 0,.ref 299,.int 204 0,.int 0 0,.ref 306,.int 206 0,.int 0 0,.ref 313,.int 208 0,.int 0 0,.ref 318,.int 218 0,.int 0 0,.ref 323,.int 220 0,.int 0 0,.ref 328,.int 228 0,.int 0 0,.ref 333,.int 236 0,.int 0 0,.ref 340,.int 242 0,.int 0 0,.ref 347,.int 246 0,.int 0 0,.ref 354,.int 250 0,.int 0 0,.ref 361,.int 252 0,.int 0 0,.ref 368,.int 256 0,.int 0 0,.ref 375,.int 260 0,.int 0 0,.ref 380,.int 268 0,.int 0 0,.ref 385,.int 278 0,.int 0 0,.ref 390,.int 285 0,.int 0 0,.ref 397,.int 292 0,.int 0 0,.ref 404,.int 294 0,.int 0 0,.ref 411,.int 311 0,.int 0 0,.ref 418,.int 319 0,.int 0 0,.ref 423]
def o12:Obj:=⟨.none,.none,.fields ⟨l12⟩,⟨[]⟩⟩
def QW:Obj:=⟨.none,.none,.fields ⟨l12.take 0⟩,⟨[]⟩⟩
def ZJ:Obj:=⟨.none,.none,.fields ⟨l12.take 3⟩,⟨[]⟩⟩
def VP:Obj:=⟨.none,.none,.fields ⟨l12.take 6⟩,⟨[]⟩⟩
def Xi:Obj:=⟨.none,.none,.fields ⟨l12.take 9⟩,⟨[]⟩⟩
def SY:Obj:=⟨.none,.none,.fields ⟨l12.take 12⟩,⟨[]⟩⟩
def Rf:Obj:=⟨.none,.none,.fields ⟨l12.take 30⟩,⟨[]⟩⟩
def Tn:Obj:=⟨.none,.none,.fields ⟨l12.take 66⟩,⟨[]⟩⟩
def Rv:Obj:=⟨.none,.none,.fields ⟨l12.take 102⟩,⟨[]⟩⟩
def SR:Obj:=⟨.none,.none,.fields ⟨l12.take 141⟩,⟨[]⟩⟩
def o13:Obj:=⟨.type t3,.none,.fields ⟨[.str z75 182,.str z75 183,.str z9 184,.int 1 0,.int 0 0,.int 0 0,.int 0 0,.int 0 0,.ref 11,.bool false,.int 181 0,.ref 12,.none,.none,.none,.none,.int 185 0,.int 1 0,.str z9 186]⟩,⟨[]⟩⟩
def o14:Obj:=⟨.type t4,.none,.plain,⟨[.some (.ref 13),.some (.ref 3),.some (.ref 3),.none,.some (.str z76 164),.none,.some (.ref 0)]⟩⟩
def o15:Obj:=⟨.type t2,.none,.seq ⟨[.type t5]⟩ 0,⟨[]⟩⟩
def o16:Obj:=⟨.type t6,.none,.fields ⟨[.builtin t7,.type t8]⟩,⟨[]⟩⟩
def o17(P:Params):Obj:=⟨.type t0,.none,.dict ⟨[⟨kh P z77,.str z77 196,.str z78 187⟩,⟨kh P z79,.str z79 198,.str z11 197⟩,⟨kh P z80,.str z80 200,.int 2 199⟩,⟨kh P z81,.str z81 201,.ref 22⟩]⟩ 4,⟨[]⟩⟩
def o19:Obj:=⟨.none,.none,.fields ⟨[]⟩,⟨[]⟩⟩
def o20:Obj:=⟨.type t3,.none,.fields ⟨[.str z11 191,.str z11 192,.str z9 193,.int 2 0,.int 0 0,.int 0 0,.int 0 0,.int 0 0,.ref 18,.bool false,.int 181 0,.ref 19,.none,.none,.none,.none,.int 194 0,.int 2 0,.str z9 195]⟩,⟨[]⟩⟩
def o21:Obj:=⟨.type t4,.none,.plain,⟨[.some (.ref 20),.some (.ref 3),.some (.ref 17),.none,.some (.str z78 187),.none,.some (.ref 0)]⟩⟩
def o23(P:Params):Obj:=⟨.type t0,.none,.dict ⟨[⟨kh P z77,.str z77 196,.str z78 187⟩,⟨kh P z80,.str z80 200,.int 2 199⟩,⟨kh P z81,.str z81 201,.ref 22⟩,⟨kh P z82,.str z82 203,.ref 25⟩,⟨kh P z2,.str z2 204,.none⟩]⟩ 3,⟨[]⟩⟩
def o24:Obj:=⟨.type t8,.none,.cls ⟨z11,[.type t5],[.ref 24,.type t5,.type t10,.type t11,.type t12],23,z11,true,[],[.ref 37,.ref 49,.ref 61,.ref 73],false,.none,false⟩,⟨[.some (.ref 15),.none,.some (.str z11 189),.some (.str z11 197),.some (.builtin t9),.some (.bool true)]⟩⟩
def aaD:Obj:=⟨.type t8,.none,.cls ⟨z11,[.type t5],[.ref 24,.type t5,.type t10,.type t11,.type t12],23,z11,true,[],[],false,.none,false⟩,⟨[.some (.ref 15),.none,.some (.str z11 189),.some (.str z11 197),.some (.builtin t9),.some (.bool true)]⟩⟩
def Wl:Obj:=⟨.type t8,.none,.cls ⟨z11,[.type t5],[.ref 24,.type t5,.type t10,.type t11,.type t12],23,z11,true,[],[.ref 37],false,.none,false⟩,⟨[.some (.ref 15),.none,.some (.str z11 189),.some (.str z11 197),.some (.builtin t9),.some (.bool true)]⟩⟩
def Yu:Obj:=⟨.type t8,.none,.cls ⟨z11,[.type t5],[.ref 24,.type t5,.type t10,.type t11,.type t12],23,z11,true,[],[.ref 37,.ref 49],false,.none,false⟩,⟨[.some (.ref 15),.none,.some (.str z11 189),.some (.str z11 197),.some (.builtin t9),.some (.bool true)]⟩⟩
def Tc:Obj:=⟨.type t8,.none,.cls ⟨z11,[.type t5],[.ref 24,.type t5,.type t10,.type t11,.type t12],23,z11,true,[],[.ref 37,.ref 49,.ref 61],false,.none,false⟩,⟨[.some (.ref 15),.none,.some (.str z11 189),.some (.str z11 197),.some (.builtin t9),.some (.bool true)]⟩⟩
def o25:Obj:=⟨.type t13,.none,.fields ⟨[.str z82 202,.ref 24,.builtin t14,.none]⟩,⟨[]⟩⟩
def o26:Obj:=⟨.type t15,.none,.fields ⟨[.ref 24,.ref 24,.ref 24]⟩,⟨[]⟩⟩
def o27:Obj:=⟨.type t6,.none,.fields ⟨[.builtin t16,.ref 24]⟩,⟨[]⟩⟩
def o28:Obj:=⟨.type t2,.none,.seq ⟨[.ref 24]⟩ 0,⟨[]⟩⟩
def o30(P:Params):Obj:=⟨.type t0,.none,.dict ⟨[⟨kh P z77,.str z77 214,.str z78 187⟩,⟨kh P z79,.str z79 216,.str z12 215⟩,⟨kh P z80,.str z80 218,.int 4 217⟩,⟨kh P z81,.str z81 219,.ref 35⟩]⟩ 4,⟨[]⟩⟩
def o33:Obj:=⟨.type t3,.none,.fields ⟨[.str z12 209,.str z12 210,.str z9 211,.int 4 0,.int 0 0,.int 0 0,.int 0 0,.int 0 0,.ref 31,.bool false,.int 181 0,.ref 32,.none,.none,.none,.none,.int 212 0,.int 4 0,.str z9 213]⟩,⟨[]⟩⟩
def o34:Obj:=⟨.type t4,.none,.plain,⟨[.some (.ref 33),.some (.ref 3),.some (.ref 30),.none,.some (.str z78 187),.none,.some (.ref 0)]⟩⟩
def o36(P:Params):Obj:=⟨.type t0,.none,.dict ⟨[⟨kh P z77,.str z77 214,.str z78 187⟩,⟨kh P z80,.str z80 218,.int 4 217⟩,⟨kh P z81,.str z81 219,.ref 35⟩,⟨kh P z2,.str z2 220,.none⟩]⟩ 2,⟨[]⟩⟩
def o37:Obj:=⟨.type t8,.none,.cls ⟨z12,[.ref 24],[.ref 37,.ref 24,.type t5,.type t10,.type t11,.type t12],36,z12,true,[],[],false,.none,false⟩,⟨[.some (.ref 28),.none,.some (.str z12 207),.some (.str z12 215),.some (.builtin t9),.some (.bool true)]⟩⟩
def o38:Obj:=⟨.type t15,.none,.fields ⟨[.ref 37,.ref 37,.ref 37]⟩,⟨[]⟩⟩
def o39:Obj:=⟨.type t6,.none,.fields ⟨[.builtin t16,.ref 37]⟩,⟨[]⟩⟩
def o42(P:Params):Obj:=⟨.type t0,.none,.dict ⟨[⟨kh P z77,.str z77 230,.str z78 187⟩,⟨kh P z79,.str z79 232,.str z13 231⟩,⟨kh P z80,.str z80 234,.int 6 233⟩,⟨kh P z81,.str z81 235,.ref 47⟩]⟩ 4,⟨[]⟩⟩
def o45:Obj:=⟨.type t3,.none,.fields ⟨[.str z13 225,.str z13 226,.str z9 227,.int 6 0,.int 0 0,.int 0 0,.int 0 0,.int 0 0,.ref 43,.bool false,.int 181 0,.ref 44,.none,.none,.none,.none,.int 228 0,.int 6 0,.str z9 229]⟩,⟨[]⟩⟩
def o46:Obj:=⟨.type t4,.none,.plain,⟨[.some (.ref 45),.some (.ref 3),.some (.ref 42),.none,.some (.str z78 187),.none,.some (.ref 0)]⟩⟩
def o48(P:Params):Obj:=⟨.type t0,.none,.dict ⟨[⟨kh P z77,.str z77 230,.str z78 187⟩,⟨kh P z80,.str z80 234,.int 6 233⟩,⟨kh P z81,.str z81 235,.ref 47⟩,⟨kh P z2,.str z2 236,.none⟩]⟩ 2,⟨[]⟩⟩
def o49:Obj:=⟨.type t8,.none,.cls ⟨z13,[.ref 24],[.ref 49,.ref 24,.type t5,.type t10,.type t11,.type t12],48,z13,true,[],[],false,.none,false⟩,⟨[.some (.ref 40),.none,.some (.str z13 223),.some (.str z13 231),.some (.builtin t9),.some (.bool true)]⟩⟩
def o50:Obj:=⟨.type t15,.none,.fields ⟨[.ref 49,.ref 49,.ref 49]⟩,⟨[]⟩⟩
def o51:Obj:=⟨.type t6,.none,.fields ⟨[.builtin t16,.ref 49]⟩,⟨[]⟩⟩
def o54(P:Params):Obj:=⟨.type t0,.none,.dict ⟨[⟨kh P z77,.str z77 246,.str z78 187⟩,⟨kh P z79,.str z79 248,.str z14 247⟩,⟨kh P z80,.str z80 250,.int 8 249⟩,⟨kh P z81,.str z81 251,.ref 59⟩]⟩ 4,⟨[]⟩⟩
def o57:Obj:=⟨.type t3,.none,.fields ⟨[.str z14 241,.str z14 242,.str z9 243,.int 8 0,.int 0 0,.int 0 0,.int 0 0,.int 0 0,.ref 55,.bool false,.int 181 0,.ref 56,.none,.none,.none,.none,.int 244 0,.int 8 0,.str z9 245]⟩,⟨[]⟩⟩
def o58:Obj:=⟨.type t4,.none,.plain,⟨[.some (.ref 57),.some (.ref 3),.some (.ref 54),.none,.some (.str z78 187),.none,.some (.ref 0)]⟩⟩
def o60(P:Params):Obj:=⟨.type t0,.none,.dict ⟨[⟨kh P z77,.str z77 246,.str z78 187⟩,⟨kh P z80,.str z80 250,.int 8 249⟩,⟨kh P z81,.str z81 251,.ref 59⟩,⟨kh P z2,.str z2 252,.none⟩]⟩ 2,⟨[]⟩⟩
def o61:Obj:=⟨.type t8,.none,.cls ⟨z14,[.ref 24],[.ref 61,.ref 24,.type t5,.type t10,.type t11,.type t12],60,z14,true,[],[],false,.none,false⟩,⟨[.some (.ref 52),.none,.some (.str z14 239),.some (.str z14 247),.some (.builtin t9),.some (.bool true)]⟩⟩
def o62:Obj:=⟨.type t15,.none,.fields ⟨[.ref 61,.ref 61,.ref 61]⟩,⟨[]⟩⟩
def o63:Obj:=⟨.type t6,.none,.fields ⟨[.builtin t16,.ref 61]⟩,⟨[]⟩⟩
def o66(P:Params):Obj:=⟨.type t0,.none,.dict ⟨[⟨kh P z77,.str z77 262,.str z78 187⟩,⟨kh P z79,.str z79 264,.str z15 263⟩,⟨kh P z80,.str z80 266,.int 10 265⟩,⟨kh P z81,.str z81 267,.ref 71⟩]⟩ 4,⟨[]⟩⟩
def o69:Obj:=⟨.type t3,.none,.fields ⟨[.str z15 257,.str z15 258,.str z9 259,.int 10 0,.int 0 0,.int 0 0,.int 0 0,.int 0 0,.ref 67,.bool false,.int 181 0,.ref 68,.none,.none,.none,.none,.int 260 0,.int 10 0,.str z9 261]⟩,⟨[]⟩⟩
def o70:Obj:=⟨.type t4,.none,.plain,⟨[.some (.ref 69),.some (.ref 3),.some (.ref 66),.none,.some (.str z78 187),.none,.some (.ref 0)]⟩⟩
def o72(P:Params):Obj:=⟨.type t0,.none,.dict ⟨[⟨kh P z77,.str z77 262,.str z78 187⟩,⟨kh P z80,.str z80 266,.int 10 265⟩,⟨kh P z81,.str z81 267,.ref 71⟩,⟨kh P z2,.str z2 268,.none⟩]⟩ 2,⟨[]⟩⟩
def o73:Obj:=⟨.type t8,.none,.cls ⟨z15,[.ref 24],[.ref 73,.ref 24,.type t5,.type t10,.type t11,.type t12],72,z15,true,[],[],false,.none,false⟩,⟨[.some (.ref 64),.none,.some (.str z15 255),.some (.str z15 263),.some (.builtin t9),.some (.bool true)]⟩⟩
def o74:Obj:=⟨.type t15,.none,.fields ⟨[.ref 73,.ref 73,.ref 73]⟩,⟨[]⟩⟩
def o75:Obj:=⟨.type t6,.none,.fields ⟨[.builtin t16,.ref 73]⟩,⟨[]⟩⟩
def o78:Obj:=⟨.type t2,.none,.seq ⟨[.str z83 276,.str z84 277]⟩ 0,⟨[]⟩⟩
def o80:Obj:=⟨.none,.none,.func ⟨z16,z16,L2.aD (tt 7),.stmts (L2.aC (tt 7)),L2.aj (tt 7),0,[],.none,.none,.none,.none,.none,.none,.none,0⟩,⟨[]⟩⟩
def o81:Obj:=⟨.type t3,.none,.fields ⟨[.str z16 273,.str z16 274,.str z9 275,.int 13 0,.int 1 0,.int 0 0,.int 0 0,.int 3 0,.ref 76,.bool true,.int 181 0,.ref 77,.none,.ref 78,.ref 79,.ref 80,.int 278 0,.int 13 0,.str z9 279]⟩,⟨[]⟩⟩
def o82:Obj:=⟨.type t17,.none,.func ⟨z16,z16,L2.aD (tt 7),.stmts (L2.aC (tt 7)),L2.aj (tt 7),3,[],.none,.none,.none,.str z85 271,.none,.ref 81,.none,0⟩,⟨[]⟩⟩
def o85:Obj:=⟨.type t2,.none,.seq ⟨[.str z86 284,.str z83 285]⟩ 0,⟨[]⟩⟩
def o87:Obj:=⟨.none,.none,.func ⟨z17,z17,L2.aD (tt 8),.stmts (L2.aC (tt 8)),L2.aj (tt 8),0,[],.none,.none,.none,.none,.none,.none,.none,0⟩,⟨[]⟩⟩
def o88:Obj:=⟨.type t3,.none,.fields ⟨[.str z17 281,.str z17 282,.str z9 283,.int 22 0,.int 2 0,.int 0 0,.int 0 0,.int 3 0,.ref 83,.bool true,.int 181 0,.ref 84,.none,.ref 85,.ref 86,.ref 87,.int 286 0,.int 22 0,.str z9 287]⟩,⟨[]⟩⟩
def o89:Obj:=⟨.type t17,.none,.func ⟨z17,z17,L2.aD (tt 8),.stmts (L2.aC (tt 8)),L2.aj (tt 8),3,[],.none,.none,.none,.str z85 271,.none,.ref 88,.none,0⟩,⟨[]⟩⟩
def o92:Obj:=⟨.type t2,.none,.seq ⟨[.str z87 292,.str z83 293,.str z88 294,.str z89 295,.str z90 296]⟩ 0,⟨[]⟩⟩
def o94:Obj:=⟨.none,.none,.func ⟨z18,z18,L2.aD (tt 9),.stmts (L2.aC (tt 9)),L2.aj (tt 9),0,[],.none,.none,.none,.none,.none,.none,.none,0⟩,⟨[]⟩⟩
def o95:Obj:=⟨.type t3,.none,.fields ⟨[.str z18 289,.str z18 290,.str z9 291,.int 26 0,.int 2 0,.int 0 0,.int 0 0,.int 3 0,.ref 90,.bool true,.int 181 0,.ref 91,.none,.ref 92,.ref 93,.ref 94,.int 297 0,.int 26 0,.str z9 298]⟩,⟨[]⟩⟩
def o96:Obj:=⟨.type t17,.none,.func ⟨z18,z18,L2.aD (tt 9),.stmts (L2.aC (tt 9)),L2.aj (tt 9),3,[],.none,.none,.none,.str z85 271,.none,.ref 95,.none,0⟩,⟨[]⟩⟩
def o99:Obj:=⟨.type t2,.none,.seq ⟨[.str z86 303,.str z91 304,.str z92 305]⟩ 0,⟨[]⟩⟩
def Z1:Obj:=⟨.none,.none,.func ⟨z19,z19,L2.aD (tt 10),.stmts (L2.aC (tt 10)),L2.aj (tt 10),0,[],.none,.none,.none,.none,.none,.none,.none,0⟩,⟨[]⟩⟩
def Zv:Obj:=⟨.type t3,.none,.fields ⟨[.str z19 300,.str z19 301,.str z9 302,.int 36 0,.int 3 0,.int 0 0,.int 0 0,.int 3 0,.ref 97,.bool true,.int 181 0,.ref 98,.none,.ref 99,.ref 100,.ref 101,.int 306 0,.int 36 0,.str z9 307]⟩,⟨[]⟩⟩
def Zi:Obj:=⟨.type t17,.none,.func ⟨z19,z19,L2.aD (tt 10),.stmts (L2.aC (tt 10)),L2.aj (tt 10),3,[],.none,.none,.none,.str z85 271,.none,.ref 102,.none,0⟩,⟨[]⟩⟩
def Vl:Obj:=⟨.type t2,.none,.seq ⟨[.str z91 316,.str z92 317]⟩ 0,⟨[]⟩⟩
def Xz:Obj:=⟨.none,.none,.func ⟨z21,z21,L2.aD (tt 13),.stmts (L2.aC (tt 13)),L2.aj (tt 13),0,[],.none,.none,.none,.none,.none,.none,.none,0⟩,⟨[]⟩⟩
def UU:Obj:=⟨.type t3,.none,.fields ⟨[.str z21 313,.str z21 314,.str z9 315,.int 44 0,.int 2 0,.int 0 0,.int 0 0,.int 3 0,.ref 104,.bool true,.int 181 0,.ref 105,.none,.ref 106,.ref 107,.ref 108,.int 318 0,.int 44 0,.str z9 319]⟩,⟨[]⟩⟩
def Wc:Obj:=⟨.type t17,.none,.func ⟨z21,z21,L2.aD (tt 13),.stmts (L2.aC (tt 13)),L2.aj (tt 13),3,[],.none,.none,.none,.str z93 309,.none,.ref 109,.none,0⟩,⟨[]⟩⟩
def XU:Obj:=⟨.type t2,.none,.seq ⟨[.str z86 324,.str z94 325,.str z95 326,.str z96 327,.str z97 328]⟩ 0,⟨[]⟩⟩
def YB:Obj:=⟨.none,.none,.func ⟨z22,z22,L2.aD (tt 14),.stmts (L2.aC (tt 14)),L2.aj (tt 14),0,[],.none,.none,.none,.none,.none,.none,.none,0⟩,⟨[]⟩⟩
def Yx:Obj:=⟨.type t3,.none,.fields ⟨[.str z22 321,.str z22 322,.str z9 323,.int 48 0,.int 3 0,.int 0 0,.int 0 0,.int 3 0,.ref 111,.bool true,.int 181 0,.ref 112,.none,.ref 113,.ref 114,.ref 115,.int 329 0,.int 48 0,.str z9 330]⟩,⟨[]⟩⟩
def VX:Obj:=⟨.type t17,.none,.func ⟨z22,z22,L2.aD (tt 14),.stmts (L2.aC (tt 14)),L2.aj (tt 14),3,[],.none,.none,.none,.str z93 309,.none,.ref 116,.none,0⟩,⟨[]⟩⟩
def Zt:Obj:=⟨.type t2,.none,.seq ⟨[.str z98 335,.str z99 336,.str z86 337,.str z94 338,.str adz 339,.str abj 340]⟩ 0,⟨[]⟩⟩
def WZ:Obj:=⟨.none,.none,.func ⟨z23,z23,L2.aD (tt 15),.stmts (L2.aC (tt 15)),L2.aj (tt 15),0,[],.none,.none,.none,.none,.none,.none,.none,0⟩,⟨[]⟩⟩
def V7:Obj:=⟨.type t3,.none,.fields ⟨[.str z23 332,.str z23 333,.str z9 334,.int 53 0,.int 2 0,.int 0 0,.int 0 0,.int 3 0,.ref 118,.bool true,.int 181 0,.ref 119,.none,.ref 120,.ref 121,.ref 122,.int 341 0,.int 53 0,.str z9 342]⟩,⟨[]⟩⟩
def Y9:Obj:=⟨.type t17,.none,.func ⟨z23,z23,L2.aD (tt 15),.stmts (L2.aC (tt 15)),L2.aj (tt 15),3,[],.none,.none,.none,.str z93 309,.none,.ref 123,.none,0⟩,⟨[]⟩⟩
def YV:Obj:=⟨.type t2,.none,.seq ⟨[.str aa2 349,.str acJ 350]⟩ 0,⟨[]⟩⟩
def VR:Obj:=⟨.none,.none,.func ⟨z24,z24,L2.aD (tt 17),.stmts (L2.aC (tt 17)),L2.aj (tt 17),0,[],.none,.none,.none,.none,.none,.none,.none,0⟩,⟨[]⟩⟩
def XM:Obj:=⟨.type t3,.none,.fields ⟨[.str z24 346,.str z24 347,.str z9 348,.int 62 0,.int 1 0,.int 0 0,.int 0 0,.int 3 0,.ref 125,.bool true,.int 181 0,.ref 126,.none,.ref 127,.ref 128,.ref 129,.int 351 0,.int 62 0,.str z9 352]⟩,⟨[]⟩⟩
def Vn:Obj:=⟨.type t17,.none,.func ⟨z24,z24,L2.aD (tt 17),.stmts (L2.aC (tt 17)),L2.aj (tt 17),3,[],.none,.none,.none,.str Nb 344,.none,.ref 130,.none,0⟩,⟨[]⟩⟩
def Vw:Obj:=⟨.type t2,.none,.seq ⟨[.str z86 357,.str z91 358,.str z92 359,.str z96 360,.str acs 361,.str z97 362]⟩ 0,⟨[]⟩⟩
def Vk:Obj:=⟨.none,.none,.func ⟨z25,z25,L2.aD (tt 18),.stmts (L2.aC (tt 18)),L2.aj (tt 18),0,[],.none,.none,.none,.none,.none,.none,.none,0⟩,⟨[]⟩⟩
def Uz:Obj:=⟨.type t3,.none,.fields ⟨[.str z25 354,.str z25 355,.str z9 356,.int 67 0,.int 3 0,.int 0 0,.int 0 0,.int 3 0,.ref 132,.bool true,.int 181 0,.ref 133,.none,.ref 134,.ref 135,.ref 136,.int 363 0,.int 67 0,.str z9 364]⟩,⟨[]⟩⟩
def aap:Obj:=⟨.type t17,.none,.func ⟨z25,z25,L2.aD (tt 18),.stmts (L2.aC (tt 18)),L2.aj (tt 18),3,[],.none,.none,.none,.str Nb 344,.none,.ref 137,.none,0⟩,⟨[]⟩⟩
def XD:Obj:=⟨.type t2,.none,.seq ⟨[.str z86 369,.str z91 370,.str z92 371,.str abd 372,.str acS 373,.str z90 374,.str ac3 375,.str abY 376,.str z97 377]⟩ 0,⟨[]⟩⟩
def XY:Obj:=⟨.none,.none,.func ⟨z26,z26,L2.aD (tt 19),.stmts (L2.aC (tt 19)),L2.aj (tt 19),0,[],.none,.none,.none,.none,.none,.none,.none,0⟩,⟨[]⟩⟩
def ZP:Obj:=⟨.type t3,.none,.fields ⟨[.str z26 366,.str z26 367,.str z9 368,.int 73 0,.int 3 0,.int 0 0,.int 0 0,.int 3 0,.ref 139,.bool true,.int 181 0,.ref 140,.none,.ref 141,.ref 142,.ref 143,.int 378 0,.int 73 0,.str z9 379]⟩,⟨[]⟩⟩
def Xe:Obj:=⟨.type t17,.none,.func ⟨z26,z26,L2.aD (tt 19),.stmts (L2.aC (tt 19)),L2.aj (tt 19),3,[],.none,.none,.none,.str Nb 344,.none,.ref 144,.none,0⟩,⟨[]⟩⟩
def Yi:Obj:=⟨.none,.none,.func ⟨z27,z27,L2.aD (tt 20),.stmts (L2.aC (tt 20)),L2.aj (tt 20),0,[],.none,.none,.none,.none,.none,.none,.none,0⟩,⟨[]⟩⟩
def aaE:Obj:=⟨.type t3,.none,.fields ⟨[.str z27 381,.str z27 382,.str z9 383,.int 83 0,.int 2 0,.int 0 0,.int 0 0,.int 3 0,.ref 146,.bool true,.int 181 0,.ref 147,.none,.none,.none,.ref 148,.int 384 0,.int 83 0,.str z9 385]⟩,⟨[]⟩⟩
def aat:Obj:=⟨.type t17,.none,.func ⟨z27,z27,L2.aD (tt 20),.stmts (L2.aC (tt 20)),L2.aj (tt 20),3,[],.none,.none,.none,.str Nb 344,.none,.ref 149,.none,0⟩,⟨[]⟩⟩
def aas:Obj:=⟨.type t2,.none,.seq ⟨[.str z86 390,.str z91 391,.str z92 392,.str acn 393,.str adn 394,.str z90 395]⟩ 0,⟨[]⟩⟩
def WR:Obj:=⟨.none,.none,.func ⟨z28,z28,L2.aD (tt 21),.stmts (L2.aC (tt 21)),L2.aj (tt 21),0,[],.none,.none,.none,.none,.none,.none,.none,0⟩,⟨[]⟩⟩
def aaC:Obj:=⟨.type t3,.none,.fields ⟨[.str z28 387,.str z28 388,.str z9 389,.int 88 0,.int 3 0,.int 0 0,.int 0 0,.int 3 0,.ref 151,.bool true,.int 181 0,.ref 152,.none,.ref 153,.ref 154,.ref 155,.int 396 0,.int 88 0,.str z9 397]⟩,⟨[]⟩⟩
def Xh:Obj:=⟨.type t17,.none,.func ⟨z28,z28,L2.aD (tt 21),.stmts (L2.aC (tt 21)),L2.aj (tt 21),3,[],.none,.none,.none,.str Nb 344,.none,.ref 156,.none,0⟩,⟨[]⟩⟩
def V1:Obj:=⟨.none,.none,.func ⟨z29,z29,L2.aD (tt 22),.stmts (L2.aC (tt 22)),L2.aj (tt 22),0,[],.none,.none,.none,.none,.none,.none,.none,0⟩,⟨[]⟩⟩
def X8:Obj:=⟨.type t3,.none,.fields ⟨[.str z29 399,.str z29 400,.str z9 401,.int 96 0,.int 2 0,.int 0 0,.int 0 0,.int 3 0,.ref 158,.bool true,.int 181 0,.ref 159,.none,.none,.none,.ref 160,.int 402 0,.int 96 0,.str z9 403]⟩,⟨[]⟩⟩
def Ym:Obj:=⟨.type t17,.none,.func ⟨z29,z29,L2.aD (tt 22),.stmts (L2.aC (tt 22)),L2.aj (tt 22),3,[],.none,.none,.none,.str Nb 344,.none,.ref 161,.none,0⟩,⟨[]⟩⟩
def Zo:Obj:=⟨.none,.none,.func ⟨z30,z30,L2.aD (tt 23),.stmts (L2.aC (tt 23)),L2.aj (tt 23),0,[],.none,.none,.none,.none,.none,.none,.none,0⟩,⟨[]⟩⟩
def Zz:Obj:=⟨.type t3,.none,.fields ⟨[.str z30 405,.str z30 406,.str z9 407,.int 100 0,.int 2 0,.int 0 0,.int 0 0,.int 3 0,.ref 163,.bool true,.int 181 0,.ref 164,.none,.none,.none,.ref 165,.int 408 0,.int 100 0,.str z9 409]⟩,⟨[]⟩⟩
def aar:Obj:=⟨.type t17,.none,.func ⟨z30,z30,L2.aD (tt 23),.stmts (L2.aC (tt 23)),L2.aj (tt 23),3,[],.none,.none,.none,.str Nb 344,.none,.ref 166,.none,0⟩,⟨[]⟩⟩
def aag:Obj:=⟨.none,.none,.func ⟨z31,z31,L2.aD (tt 25),.stmts (L2.aC (tt 25)),L2.aj (tt 25),0,[],.none,.none,.none,.none,.none,.none,.none,0⟩,⟨[]⟩⟩
def ZR:Obj:=⟨.type t3,.none,.fields ⟨[.str z31 413,.str z31 414,.str z9 415,.int 104 0,.int 3 0,.int 0 0,.int 0 0,.int 3 0,.ref 168,.bool true,.int 181 0,.ref 169,.none,.none,.none,.ref 170,.int 416 0,.int 104 0,.str z9 417]⟩,⟨[]⟩⟩
def Z8:Obj:=⟨.type t17,.none,.func ⟨z31,z31,L2.aD (tt 25),.stmts (L2.aC (tt 25)),L2.aj (tt 25),3,[],.none,.none,.none,.str Yq 411,.none,.ref 171,.none,0⟩,⟨[]⟩⟩
def Wj:Obj:=⟨.type t2,.none,.seq ⟨[.str z94 422,.str z99 423,.str aaW 424,.str z97 425,.str acE 426]⟩ 0,⟨[]⟩⟩
def VJ:Obj:=⟨.none,.none,.func ⟨z32,z32,L2.aD (tt 26),.stmts (L2.aC (tt 26)),L2.aj (tt 26),0,[],.none,.none,.none,.none,.none,.none,.none,0⟩,⟨[]⟩⟩
def aac:Obj:=⟨.type t3,.none,.fields ⟨[.str z32 419,.str z32 420,.str z9 421,.int 107 0,.int 2 0,.int 0 0,.int 0 0,.int 3 0,.ref 173,.bool true,.int 181 0,.ref 174,.none,.ref 175,.ref 176,.ref 177,.int 427 0,.int 107 0,.str z9 428]⟩,⟨[]⟩⟩
def Yz:Obj:=⟨.type t17,.none,.func ⟨z32,z32,L2.aD (tt 26),.stmts (L2.aC (tt 26)),L2.aj (tt 26),3,[],.none,.none,.none,.str Yq 411,.none,.ref 178,.none,0⟩,⟨[]⟩⟩
def Xg:Obj:=⟨.type t2,.none,.seq ⟨[.str aaW 433,.str z94 434,.str z97 435]⟩ 0,⟨[]⟩⟩
def W6:Obj:=⟨.none,.none,.func ⟨z33,z33,L2.aD (tt 27),.stmts (L2.aC (tt 27)),L2.aj (tt 27),0,[],.none,.none,.none,.none,.none,.none,.none,0⟩,⟨[]⟩⟩
def Wv:Obj:=⟨.type t3,.none,.fields ⟨[.str z33 430,.str z33 431,.str z9 432,.int 113 0,.int 1 0,.int 0 0,.int 0 0,.int 3 0,.ref 180,.bool true,.int 181 0,.ref 181,.none,.ref 182,.ref 183,.ref 184,.int 436 0,.int 113 0,.str z9 437]⟩,⟨[]⟩⟩
def ZK:Obj:=⟨.type t17,.none,.func ⟨z33,z33,L2.aD (tt 27),.stmts (L2.aC (tt 27)),L2.aj (tt 27),3,[],.none,.none,.none,.str Yq 411,.none,.ref 185,.none,0⟩,⟨[]⟩⟩
def Xd:Obj:=⟨.type t2,.none,.seq ⟨[.str z83 446,.str abj 447]⟩ 0,⟨[]⟩⟩
def Uv:Obj:=⟨.none,.none,.func ⟨z35,z35,L2.aD (tt 30),.stmts (L2.aC (tt 30)),L2.aj (tt 30),0,[],.none,.none,.none,.none,.none,.none,.none,0⟩,⟨[]⟩⟩
def W0:Obj:=⟨.type t3,.none,.fields ⟨[.str z35 443,.str z35 444,.str z9 445,.int 120 0,.int 1 0,.int 0 0,.int 0 0,.int 3 0,.ref 187,.bool true,.int 181 0,.ref 188,.none,.ref 189,.ref 190,.ref 191,.int 448 0,.int 120 0,.str z9 449]⟩,⟨[]⟩⟩
def Wy:Obj:=⟨.type t17,.none,.func ⟨z35,z35,L2.aD (tt 30),.stmts (L2.aC (tt 30)),L2.aj (tt 30),3,[],.none,.none,.none,.str LC 439,.none,.ref 192,.none,0⟩,⟨[]⟩⟩
def Vo:Obj:=⟨.type t2,.none,.seq ⟨[.str adB 454,.str YL 455]⟩ 0,⟨[]⟩⟩
def aau:Obj:=⟨.none,.none,.func ⟨z36,z36,L2.aD (tt 31),.stmts (L2.aC (tt 31)),L2.aj (tt 31),0,[],.none,.none,.none,.none,.none,.none,.none,0⟩,⟨[]⟩⟩
def Xp:Obj:=⟨.type t3,.none,.fields ⟨[.str z36 451,.str z36 452,.str z9 453,.int 125 0,.int 2 0,.int 0 0,.int 0 0,.int 3 0,.ref 194,.bool true,.int 181 0,.ref 195,.none,.ref 196,.ref 197,.ref 198,.int 456 0,.int 125 0,.str z9 457]⟩,⟨[]⟩⟩
def o200:Obj:=⟨.type t17,.none,.func ⟨z36,z36,L2.aD (tt 31),.stmts (L2.aC (tt 31)),L2.aj (tt 31),3,[],.none,.none,.none,.str LC 439,.none,.ref 199,.none,0⟩,⟨[]⟩⟩
def V8:Obj:=⟨.none,.none,.func ⟨z37,z37,L2.aD (tt 32),.stmts (L2.aC (tt 32)),L2.aj (tt 32),0,[],.none,.none,.none,.none,.none,.none,.none,0⟩,⟨[]⟩⟩
def Zu:Obj:=⟨.type t3,.none,.fields ⟨[.str z37 459,.str z37 460,.str z9 461,.int 127 0,.int 2 0,.int 0 0,.int 0 0,.int 3 0,.ref 201,.bool true,.int 181 0,.ref 202,.none,.none,.none,.ref 203,.int 462 0,.int 127 0,.str z9 463]⟩,⟨[]⟩⟩
def Ux:Obj:=⟨.type t17,.none,.func ⟨z37,z37,L2.aD (tt 32),.stmts (L2.aC (tt 32)),L2.aj (tt 32),3,[],.none,.none,.none,.str LC 439,.none,.ref 204,.none,0⟩,⟨[]⟩⟩
def aaw:Obj:=⟨.type t2,.none,.seq ⟨[.str aa7 468,.str z83 469,.str abb 470]⟩ 0,⟨[]⟩⟩
def Xl:Obj:=⟨.none,.none,.func ⟨z38,z38,L2.aD (tt 33),.stmts (L2.aC (tt 33)),L2.aj (tt 33),0,[],.none,.none,.none,.none,.none,.none,.none,0⟩,⟨[]⟩⟩
def WV:Obj:=⟨.type t3,.none,.fields ⟨[.str z38 465,.str z38 466,.str z9 467,.int 129 0,.int 2 0,.int 0 0,.int 0 0,.int 3 0,.ref 206,.bool true,.int 181 0,.ref 207,.none,.ref 208,.ref 209,.ref 210,.int 471 0,.int 129 0,.str z9 472]⟩,⟨[]⟩⟩
def Vz:Obj:=⟨.type t17,.none,.func ⟨z38,z38,L2.aD (tt 33),.stmts (L2.aC (tt 33)),L2.aj (tt 33),3,[],.none,.none,.none,.str LC 439,.none,.ref 211,.none,0⟩,⟨[]⟩⟩
def Vh:Obj:=⟨.type t2,.none,.seq ⟨[.str aa7 477,.str z83 478,.str z87 479,.str abb 480,.str acd 481]⟩ 0,⟨[]⟩⟩
def WT:Obj:=⟨.none,.none,.func ⟨z39,z39,L2.aD (tt 34),.stmts (L2.aC (tt 34)),L2.aj (tt 34),0,[],.none,.none,.none,.none,.none,.none,.none,0⟩,⟨[]⟩⟩
def Yb:Obj:=⟨.type t3,.none,.fields ⟨[.str z39 474,.str z39 475,.str z9 476,.int 132 0,.int 4 0,.int 0 0,.int 0 0,.int 3 0,.ref 213,.bool true,.int 181 0,.ref 214,.none,.ref 215,.ref 216,.ref 217,.int 482 0,.int 132 0,.str z9 483]⟩,⟨[]⟩⟩
def UH:Obj:=⟨.type t17,.none,.func ⟨z39,z39,L2.aD (tt 34),.stmts (L2.aC (tt 34)),L2.aj (tt 34),3,[],.none,.none,.none,.str LC 439,.none,.ref 218,.none,0⟩,⟨[]⟩⟩
def W3:Obj:=⟨.none,.none,.func ⟨z40,z40,L2.aD (tt 35),.stmts (L2.aC (tt 35)),L2.aj (tt 35),0,[],.none,.none,.none,.none,.none,.none,.none,0⟩,⟨[]⟩⟩
def aao:Obj:=⟨.type t3,.none,.fields ⟨[.str z40 485,.str z40 486,.str z9 487,.int 135 0,.int 2 0,.int 0 0,.int 0 0,.int 3 0,.ref 220,.bool true,.int 181 0,.ref 221,.none,.none,.none,.ref 222,.int 488 0,.int 135 0,.str z9 489]⟩,⟨[]⟩⟩
def X4:Obj:=⟨.type t17,.none,.func ⟨z40,z40,L2.aD (tt 35),.stmts (L2.aC (tt 35)),L2.aj (tt 35),3,[],.none,.none,.none,.str LC 439,.none,.ref 223,.none,0⟩,⟨[]⟩⟩
def W7:Obj:=⟨.type t2,.none,.seq ⟨[.str z86 494,.str z91 495,.str z92 496]⟩ 0,⟨[]⟩⟩
def aai:Obj:=⟨.none,.none,.func ⟨z41,z41,L2.aD (tt 36),.stmts (L2.aC (tt 36)),L2.aj (tt 36),0,[],.none,.none,.none,.none,.none,.none,.none,0⟩,⟨[]⟩⟩
def aaf:Obj:=⟨.type t3,.none,.fields ⟨[.str z41 491,.str z41 492,.str z9 493,.int 153 0,.int 3 0,.int 0 0,.int 0 0,.int 3 0,.ref 225,.bool true,.int 181 0,.ref 226,.none,.ref 227,.ref 228,.ref 229,.int 497 0,.int 153 0,.str z9 498]⟩,⟨[]⟩⟩
def aay:Obj:=⟨.type t17,.none,.func ⟨z41,z41,L2.aD (tt 36),.stmts (L2.aC (tt 36)),L2.aj (tt 36),3,[],.none,.none,.none,.str LC 439,.none,.ref 230,.none,0⟩,⟨[]⟩⟩
def aam:Obj:=⟨.none,.none,.func ⟨z42,z42,L2.aD (tt 38),.stmts (L2.aC (tt 38)),L2.aj (tt 38),0,[],.none,.none,.none,.none,.none,.none,.none,0⟩,⟨[]⟩⟩
def Yg:Obj:=⟨.type t3,.none,.fields ⟨[.str z42 502,.str z42 503,.str z9 504,.int 156 0,.int 2 0,.int 0 0,.int 0 0,.int 3 0,.ref 232,.bool true,.int 181 0,.ref 233,.none,.none,.none,.ref 234,.int 505 0,.int 156 0,.str z9 506]⟩,⟨[]⟩⟩
def aaz:Obj:=⟨.type t17,.none,.func ⟨z42,z42,L2.aD (tt 38),.stmts (L2.aC (tt 38)),L2.aj (tt 38),3,[],.none,.none,.none,.str Vg 500,.none,.ref 235,.none,0⟩,⟨[]⟩⟩
def X5:Obj:=⟨.type t2,.none,.seq ⟨[.str z98 511,.str z86 512,.str YL 513,.str abd 514]⟩ 0,⟨[]⟩⟩
def VB:Obj:=⟨.none,.none,.func ⟨z43,z43,L2.aD (tt 39),.stmts (L2.aC (tt 39)),L2.aj (tt 39),0,[],.none,.none,.none,.none,.none,.none,.none,0⟩,⟨[]⟩⟩
def Y8:Obj:=⟨.type t3,.none,.fields ⟨[.str z43 508,.str z43 509,.str z9 510,.int 164 0,.int 1 0,.int 0 0,.int 0 0,.int 3 0,.ref 237,.bool true,.int 181 0,.ref 238,.none,.ref 239,.ref 240,.ref 241,.int 515 0,.int 164 0,.str z9 516]⟩,⟨[]⟩⟩
def WX:Obj:=⟨.type t17,.none,.func ⟨z43,z43,L2.aD (tt 39),.stmts (L2.aC (tt 39)),L2.aj (tt 39),3,[],.none,.none,.none,.str Vg 500,.none,.ref 242,.none,0⟩,⟨[]⟩⟩
def UG:Obj:=⟨.type t2,.none,.seq ⟨[.str z98 521,.str abz 522,.str z94 523]⟩ 0,⟨[]⟩⟩
def Xo:Obj:=⟨.none,.none,.func ⟨z44,z44,L2.aD (tt 40),.stmts (L2.aC (tt 40)),L2.aj (tt 40),0,[],.none,.none,.none,.none,.none,.none,.none,0⟩,⟨[]⟩⟩
def Xa:Obj:=⟨.type t3,.none,.fields ⟨[.str z44 518,.str z44 519,.str z9 520,.int 169 0,.int 1 0,.int 0 0,.int 0 0,.int 3 0,.ref 244,.bool true,.int 181 0,.ref 245,.none,.ref 246,.ref 247,.ref 248,.int 524 0,.int 169 0,.str z9 525]⟩,⟨[]⟩⟩
def Zq:Obj:=⟨.type t17,.none,.func ⟨z44,z44,L2.aD (tt 40),.stmts (L2.aC (tt 40)),L2.aj (tt 40),3,[],.none,.none,.none,.str Vg 500,.none,.ref 249,.none,0⟩,⟨[]⟩⟩
def W4:Obj:=⟨.type t2,.none,.seq ⟨[.str abP 536]⟩ 0,⟨[]⟩⟩
def Xk:Obj:=⟨.none,.none,.func ⟨z47,z47,L2.aD (tt 44),.stmts (L2.aC (tt 44)),L2.aj (tt 44),0,[],.none,.none,.none,.none,.none,.none,.none,0⟩,⟨[]⟩⟩
def Wz:Obj:=⟨.type t3,.none,.fields ⟨[.str z47 533,.str z47 534,.str z9 535,.int 176 0,.int 1 0,.int 0 0,.int 0 0,.int 3 0,.ref 251,.bool true,.int 181 0,.ref 252,.none,.ref 253,.ref 254,.ref 255,.int 537 0,.int 176 0,.str z9 538]⟩,⟨[]⟩⟩
def Vx:Obj:=⟨.type t17,.none,.func ⟨z47,z47,L2.aD (tt 44),.stmts (L2.aC (tt 44)),L2.aj (tt 44),3,[],.none,.none,.none,.str Ak 527,.none,.ref 256,.none,0⟩,⟨[]⟩⟩
def Ve:Obj:=⟨.type t2,.none,.seq ⟨[.str ab4 543,.str ac2 544]⟩ 0,⟨[]⟩⟩
def aal:Obj:=⟨.none,.none,.func ⟨z48,z48,L2.aD (tt 45),.stmts (L2.aC (tt 45)),L2.aj (tt 45),0,[],.none,.none,.none,.none,.none,.none,.none,0⟩,⟨[]⟩⟩
def XF:Obj:=⟨.type t3,.none,.fields ⟨[.str z48 540,.str z48 541,.str z9 542,.int 179 0,.int 2 0,.int 0 0,.int 0 0,.int 3 0,.ref 258,.bool true,.int 181 0,.ref 259,.none,.ref 260,.ref 261,.ref 262,.int 545 0,.int 179 0,.str z9 546]⟩,⟨[]⟩⟩
def Wo:Obj:=⟨.type t17,.none,.func ⟨z48,z48,L2.aD (tt 45),.stmts (L2.aC (tt 45)),L2.aj (tt 45),3,[],.none,.none,.none,.str Ak 527,.none,.ref 263,.none,0⟩,⟨[]⟩⟩
def VF:Obj:=⟨.none,.none,.func ⟨z49,z49,L2.aD (tt 46),.stmts (L2.aC (tt 46)),L2.aj (tt 46),0,[],.none,.none,.none,.none,.none,.none,.none,0⟩,⟨[]⟩⟩
def aah:Obj:=⟨.type t3,.none,.fields ⟨[.str z49 548,.str z49 549,.str z9 550,.int 182 0,.int 3 0,.int 0 0,.int 0 0,.int 3 0,.ref 265,.bool true,.int 181 0,.ref 266,.none,.none,.none,.ref 267,.int 551 0,.int 182 0,.str z9 552]⟩,⟨[]⟩⟩
def ZX:Obj:=⟨.type t17,.none,.func ⟨z49,z49,L2.aD (tt 46),.stmts (L2.aC (tt 46)),L2.aj (tt 46),3,[],.none,.none,.none,.str Ak 527,.none,.ref 268,.none,0⟩,⟨[]⟩⟩
def Zm:Obj:=⟨.type t2,.none,.seq ⟨[.str U3 557,.str WY 558,.str abD 559]⟩ 0,⟨[]⟩⟩
def ZF:Obj:=⟨.none,.none,.func ⟨z50,z50,L2.aD (tt 47),.stmts (L2.aC (tt 47)),L2.aj (tt 47),0,[],.none,.none,.none,.none,.none,.none,.none,0⟩,⟨[]⟩⟩
def Xm:Obj:=⟨.type t3,.none,.fields ⟨[.str z50 554,.str z50 555,.str z9 556,.int 186 0,.int 3 0,.int 0 0,.int 0 0,.int 3 0,.ref 270,.bool true,.int 181 0,.ref 271,.none,.ref 272,.ref 273,.ref 274,.int 560 0,.int 186 0,.str z9 561]⟩,⟨[]⟩⟩
def U6:Obj:=⟨.type t17,.none,.func ⟨z50,z50,L2.aD (tt 47),.stmts (L2.aC (tt 47)),L2.aj (tt 47),3,[],.none,.none,.none,.str Ak 527,.none,.ref 275,.none,0⟩,⟨[]⟩⟩
def YS:Obj:=⟨.type t2,.none,.seq ⟨[.str U3 566,.str WY 567,.str abD 568]⟩ 0,⟨[]⟩⟩
def X3:Obj:=⟨.none,.none,.func ⟨z51,z51,L2.aD (tt 48),.stmts (L2.aC (tt 48)),L2.aj (tt 48),0,[],.none,.none,.none,.none,.none,.none,.none,0⟩,⟨[]⟩⟩
def Wt:Obj:=⟨.type t3,.none,.fields ⟨[.str z51 563,.str z51 564,.str z9 565,.int 188 0,.int 3 0,.int 0 0,.int 0 0,.int 3 0,.ref 277,.bool true,.int 181 0,.ref 278,.none,.ref 279,.ref 280,.ref 281,.int 569 0,.int 188 0,.str z9 570]⟩,⟨[]⟩⟩
def Vt:Obj:=⟨.type t17,.none,.func ⟨z51,z51,L2.aD (tt 48),.stmts (L2.aC (tt 48)),L2.aj (tt 48),3,[],.none,.none,.none,.str Ak 527,.none,.ref 282,.none,0⟩,⟨[]⟩⟩
def Xy:Obj:=⟨.none,.none,.func ⟨z52,z52,L2.aD (tt 49),.stmts (L2.aC (tt 49)),L2.aj (tt 49),0,[],.none,.none,.none,.none,.none,.none,.none,0⟩,⟨[]⟩⟩
def ZC:Obj:=⟨.type t3,.none,.fields ⟨[.str z52 572,.str z52 573,.str z9 574,.int 190 0,.int 3 0,.int 0 0,.int 0 0,.int 3 0,.ref 284,.bool true,.int 181 0,.ref 285,.none,.none,.none,.ref 286,.int 575 0,.int 190 0,.str z9 576]⟩,⟨[]⟩⟩
def Vj:Obj:=⟨.type t17,.none,.func ⟨z52,z52,L2.aD (tt 49),.stmts (L2.aC (tt 49)),L2.aj (tt 49),3,[],.none,.none,.none,.str Ak 527,.none,.ref 287,.none,0⟩,⟨[]⟩⟩
def Z5:Obj:=⟨.none,.none,.func ⟨z53,z53,L2.aD (tt 50),.stmts (L2.aC (tt 50)),L2.aj (tt 50),0,[],.none,.none,.none,.none,.none,.none,.none,0⟩,⟨[]⟩⟩
def Zb:Obj:=⟨.type t3,.none,.fields ⟨[.str z53 578,.str z53 579,.str z9 580,.int 192 0,.int 4 0,.int 0 0,.int 0 0,.int 3 0,.ref 289,.bool true,.int 181 0,.ref 290,.none,.none,.none,.ref 291,.int 581 0,.int 192 0,.str z9 582]⟩,⟨[]⟩⟩
def Xw:Obj:=⟨.type t17,.none,.func ⟨z53,z53,L2.aD (tt 50),.stmts (L2.aC (tt 50)),L2.aj (tt 50),3,[],.none,.none,.none,.str Ak 527,.none,.ref 292,.none,0⟩,⟨[]⟩⟩
def Vp:Obj:=⟨.type t2,.none,.seq ⟨[.str z91 587,.str z92 588,.str acr 589,.str z86 590,.str U3 591,.str WY 592,.str YL 593]⟩ 0,⟨[]⟩⟩
def XI:Obj:=⟨.none,.none,.func ⟨z54,z54,L2.aD (tt 51),.stmts (L2.aC (tt 51)),L2.aj (tt 51),0,[],.none,.none,.none,.none,.none,.none,.none,0⟩,⟨[]⟩⟩
def aaB:Obj:=⟨.type t3,.none,.fields ⟨[.str z54 584,.str z54 585,.str z9 586,.int 197 0,.int 3 0,.int 0 0,.int 0 0,.int 3 0,.ref 294,.bool true,.int 181 0,.ref 295,.none,.ref 296,.ref 297,.ref 298,.int 594 0,.int 197 0,.str z9 595]⟩,⟨[]⟩⟩
def o300:Obj:=⟨.type t17,.none,.func ⟨z54,z54,L2.aD (tt 51),.stmts (L2.aC (tt 51)),L2.aj (tt 51),3,[],.none,.none,.none,.str Ak 527,.none,.ref 299,.none,0⟩,⟨[]⟩⟩
def U8:Obj:=⟨.type t2,.none,.seq ⟨[.str z91 600,.str z92 601]⟩ 0,⟨[]⟩⟩
def Wb:Obj:=⟨.none,.none,.func ⟨z55,z55,L2.aD (tt 52),.stmts (L2.aC (tt 52)),L2.aj (tt 52),0,[],.none,.none,.none,.none,.none,.none,.none,0⟩,⟨[]⟩⟩
def UL:Obj:=⟨.type t3,.none,.fields ⟨[.str z55 597,.str z55 598,.str z9 599,.int 204 0,.int 2 0,.int 0 0,.int 0 0,.int 3 0,.ref 301,.bool true,.int 181 0,.ref 302,.none,.ref 303,.ref 304,.ref 305,.int 602 0,.int 204 0,.str z9 603]⟩,⟨[]⟩⟩
def YZ:Obj:=⟨.type t17,.none,.func ⟨z55,z55,L2.aD (tt 52),.stmts (L2.aC (tt 52)),L2.aj (tt 52),3,[],.none,.none,.none,.str Ak 527,.none,.ref 306,.none,0⟩,⟨[]⟩⟩
def Xb:Obj:=⟨.type t2,.none,.seq ⟨[.str z91 608,.str z92 609]⟩ 0,⟨[]⟩⟩
def Wd:Obj:=⟨.none,.none,.func ⟨z56,z56,L2.aD (tt 53),.stmts (L2.aC (tt 53)),L2.aj (tt 53),0,[],.none,.none,.none,.none,.none,.none,.none,0⟩,⟨[]⟩⟩
def VL:Obj:=⟨.type t3,.none,.fields ⟨[.str z56 605,.str z56 606,.str z9 607,.int 206 0,.int 2 0,.int 0 0,.int 0 0,.int 3 0,.ref 308,.bool true,.int 181 0,.ref 309,.none,.ref 310,.ref 311,.ref 312,.int 610 0,.int 206 0,.str z9 611]⟩,⟨[]⟩⟩
def VG:Obj:=⟨.type t17,.none,.func ⟨z56,z56,L2.aD (tt 53),.stmts (L2.aC (tt 53)),L2.aj (tt 53),3,[],.none,.none,.none,.str Ak 527,.none,.ref 313,.none,0⟩,⟨[]⟩⟩
def aan:Obj:=⟨.none,.none,.func ⟨z57,z57,L2.aD (tt 54),.stmts (L2.aC (tt 54)),L2.aj (tt 54),0,[],.none,.none,.none,.none,.none,.none,.none,0⟩,⟨[]⟩⟩
def U5:Obj:=⟨.type t3,.none,.fields ⟨[.str z57 613,.str z57 614,.str z9 615,.int 208 0,.int 2 0,.int 0 0,.int 0 0,.int 3 0,.ref 315,.bool true,.int 181 0,.ref 316,.none,.none,.none,.ref 317,.int 616 0,.int 208 0,.str z9 617]⟩,⟨[]⟩⟩
def UJ:Obj:=⟨.type t17,.none,.func ⟨z57,z57,L2.aD (tt 54),.stmts (L2.aC (tt 54)),L2.aj (tt 54),3,[],.none,.none,.none,.str Ak 527,.none,.ref 318,.none,0⟩,⟨[]⟩⟩
def W9:Obj:=⟨.none,.none,.func ⟨z58,z58,L2.aD (tt 55),.stmts (L2.aC (tt 55)),L2.aj (tt 55),0,[],.none,.none,.none,.none,.none,.none,.none,0⟩,⟨[]⟩⟩
def Xj:Obj:=⟨.type t3,.none,.fields ⟨[.str z58 619,.str z58 620,.str z9 621,.int 218 0,.int 2 0,.int 0 0,.int 0 0,.int 3 0,.ref 320,.bool true,.int 181 0,.ref 321,.none,.none,.none,.ref 322,.int 622 0,.int 218 0,.str z9 623]⟩,⟨[]⟩⟩
def Wk:Obj:=⟨.type t17,.none,.func ⟨z58,z58,L2.aD (tt 55),.stmts (L2.aC (tt 55)),L2.aj (tt 55),3,[],.none,.none,.none,.str Ak 527,.none,.ref 323,.none,0⟩,⟨[]⟩⟩
def WQ:Obj:=⟨.none,.none,.func ⟨z59,z59,L2.aD (tt 56),.stmts (L2.aC (tt 56)),L2.aj (tt 56),0,[],.none,.none,.none,.none,.none,.none,.none,0⟩,⟨[]⟩⟩
def Yy:Obj:=⟨.type t3,.none,.fields ⟨[.str z59 625,.str z59 626,.str z9 627,.int 220 0,.int 1 0,.int 0 0,.int 0 0,.int 3 0,.ref 325,.bool true,.int 181 0,.ref 326,.none,.none,.none,.ref 327,.int 628 0,.int 220 0,.str z9 629]⟩,⟨[]⟩⟩
def Xf:Obj:=⟨.type t17,.none,.func ⟨z59,z59,L2.aD (tt 56),.stmts (L2.aC (tt 56)),L2.aj (tt 56),3,[],.none,.none,.none,.str Ak 527,.none,.ref 328,.none,0⟩,⟨[]⟩⟩
def Xv:Obj:=⟨.none,.none,.func ⟨z60,z60,L2.aD (tt 57),.stmts (L2.aC (tt 57)),L2.aj (tt 57),0,[],.none,.none,.none,.none,.none,.none,.none,0⟩,⟨[]⟩⟩
def ZV:Obj:=⟨.type t3,.none,.fields ⟨[.str z60 631,.str z60 632,.str z9 633,.int 228 0,.int 3 0,.int 0 0,.int 0 0,.int 3 0,.ref 330,.bool true,.int 181 0,.ref 331,.none,.none,.none,.ref 332,.int 634 0,.int 228 0,.str z9 635]⟩,⟨[]⟩⟩
def YX:Obj:=⟨.type t17,.none,.func ⟨z60,z60,L2.aD (tt 57),.stmts (L2.aC (tt 57)),L2.aj (tt 57),3,[],.none,.none,.none,.str Ak 527,.none,.ref 333,.none,0⟩,⟨[]⟩⟩
def UW:Obj:=⟨.type t2,.none,.seq ⟨[.str z98 640,.str aa2 641,.str abz 642,.str z94 643]⟩ 0,⟨[]⟩⟩
def Ws:Obj:=⟨.none,.none,.func ⟨z61,z61,L2.aD (tt 58),.stmts (L2.aC (tt 58)),L2.aj (tt 58),0,[],.none,.none,.none,.none,.none,.none,.none,0⟩,⟨[]⟩⟩
def WL:Obj:=⟨.type t3,.none,.fields ⟨[.str z61 637,.str z61 638,.str z9 639,.int 236 0,.int 2 0,.int 0 0,.int 0 0,.int 3 0,.ref 335,.bool true,.int 181 0,.ref 336,.none,.ref 337,.ref 338,.ref 339,.int 644 0,.int 236 0,.str z9 645]⟩,⟨[]⟩⟩
def Uw:Obj:=⟨.type t17,.none,.func ⟨z61,z61,L2.aD (tt 58),.stmts (L2.aC (tt 58)),L2.aj (tt 58),3,[],.none,.none,.none,.str Ak 527,.none,.ref 340,.none,0⟩,⟨[]⟩⟩
def Z2:Obj:=⟨.type t2,.none,.seq ⟨[.str acY 652,.str Yr 653]⟩ 0,⟨[]⟩⟩
def Vc:Obj:=⟨.none,.none,.func ⟨z62,z62,L2.aD (tt 60),.stmts (L2.aC (tt 60)),L2.aj (tt 60),0,[],.none,.none,.none,.none,.none,.none,.none,0⟩,⟨[]⟩⟩
def Yt:Obj:=⟨.type t3,.none,.fields ⟨[.str z62 649,.str z62 650,.str z9 651,.int 242 0,.int 2 0,.int 0 0,.int 0 0,.int 3 0,.ref 342,.bool true,.int 181 0,.ref 343,.none,.ref 344,.ref 345,.ref 346,.int 654 0,.int 242 0,.str z9 655]⟩,⟨[]⟩⟩
def VZ:Obj:=⟨.type t17,.none,.func ⟨z62,z62,L2.aD (tt 60),.stmts (L2.aC (tt 60)),L2.aj (tt 60),3,[],.none,.none,.none,.str z1 647,.none,.ref 347,.none,0⟩,⟨[]⟩⟩
def Ye:Obj:=⟨.type t2,.none,.seq ⟨[.str Wf 660,.str Yr 661,.str abI 662]⟩ 0,⟨[]⟩⟩
def ZW:Obj:=⟨.none,.none,.func ⟨z63,z63,L2.aD (tt 61),.stmts (L2.aC (tt 61)),L2.aj (tt 61),0,[],.none,.none,.none,.none,.none,.none,.none,0⟩,⟨[]⟩⟩
def ZM:Obj:=⟨.type t3,.none,.fields ⟨[.str z63 657,.str z63 658,.str z9 659,.int 246 0,.int 2 0,.int 0 0,.int 0 0,.int 3 0,.ref 349,.bool true,.int 181 0,.ref 350,.none,.ref 351,.ref 352,.ref 353,.int 663 0,.int 246 0,.str z9 664]⟩,⟨[]⟩⟩
def XQ:Obj:=⟨.type t17,.none,.func ⟨z63,z63,L2.aD (tt 61),.stmts (L2.aC (tt 61)),L2.aj (tt 61),3,[],.none,.none,.none,.str z1 647,.none,.ref 354,.none,0⟩,⟨[]⟩⟩
def Zn:Obj:=⟨.type t2,.none,.seq ⟨[.str Wf 669]⟩ 0,⟨[]⟩⟩
def YH:Obj:=⟨.none,.none,.func ⟨z64,z64,L2.aD (tt 62),.stmts (L2.aC (tt 62)),L2.aj (tt 62),0,[],.none,.none,.none,.none,.none,.none,.none,0⟩,⟨[]⟩⟩
def Wq:Obj:=⟨.type t3,.none,.fields ⟨[.str z64 666,.str z64 667,.str z9 668,.int 250 0,.int 1 0,.int 0 0,.int 0 0,.int 3 0,.ref 356,.bool true,.int 181 0,.ref 357,.none,.ref 358,.ref 359,.ref 360,.int 670 0,.int 250 0,.str z9 671]⟩,⟨[]⟩⟩
def VQ:Obj:=⟨.type t17,.none,.func ⟨z64,z64,L2.aD (tt 62),.stmts (L2.aC (tt 62)),L2.aj (tt 62),3,[],.none,.none,.none,.str z1 647,.none,.ref 361,.none,0⟩,⟨[]⟩⟩
def YC:Obj:=⟨.type t2,.none,.seq ⟨[.str aa4 676,.str abI 677]⟩ 0,⟨[]⟩⟩
def XJ:Obj:=⟨.none,.none,.func ⟨z65,z65,L2.aD (tt 63),.stmts (L2.aC (tt 63)),L2.aj (tt 63),0,[],.none,.none,.none,.none,.none,.none,.none,0⟩,⟨[]⟩⟩
def Wa:Obj:=⟨.type t3,.none,.fields ⟨[.str z65 673,.str z65 674,.str z9 675,.int 252 0,.int 2 0,.int 0 0,.int 0 0,.int 3 0,.ref 363,.bool true,.int 181 0,.ref 364,.none,.ref 365,.ref 366,.ref 367,.int 678 0,.int 252 0,.str z9 679]⟩,⟨[]⟩⟩
def X7:Obj:=⟨.type t17,.none,.func ⟨z65,z65,L2.aD (tt 63),.stmts (L2.aC (tt 63)),L2.aj (tt 63),3,[],.none,.none,.none,.str z1 647,.none,.ref 368,.none,0⟩,⟨[]⟩⟩
def XG:Obj:=⟨.type t2,.none,.seq ⟨[.str aa4 684,.str Wf 685,.str Yr 686,.str acL 687,.str acp 688]⟩ 0,⟨[]⟩⟩
def aaF:Obj:=⟨.none,.none,.func ⟨z66,z66,L2.aD (tt 64),.stmts (L2.aC (tt 64)),L2.aj (tt 64),0,[],.none,.none,.none,.none,.none,.none,.none,0⟩,⟨[]⟩⟩
def Zw:Obj:=⟨.type t3,.none,.fields ⟨[.str z66 681,.str z66 682,.str z9 683,.int 256 0,.int 3 0,.int 0 0,.int 0 0,.int 3 0,.ref 370,.bool true,.int 181 0,.ref 371,.none,.ref 372,.ref 373,.ref 374,.int 689 0,.int 256 0,.str z9 690]⟩,⟨[]⟩⟩
def Z7:Obj:=⟨.type t17,.none,.func ⟨z66,z66,L2.aD (tt 64),.stmts (L2.aC (tt 64)),L2.aj (tt 64),3,[],.none,.none,.none,.str z1 647,.none,.ref 375,.none,0⟩,⟨[]⟩⟩
def Y5:Obj:=⟨.none,.none,.func ⟨z67,z67,L2.aD (tt 65),.stmts (L2.aC (tt 65)),L2.aj (tt 65),0,[],.none,.none,.none,.none,.none,.none,.none,0⟩,⟨[]⟩⟩
def YF:Obj:=⟨.type t3,.none,.fields ⟨[.str z67 692,.str z67 693,.str z9 694,.int 260 0,.int 2 0,.int 0 0,.int 0 0,.int 3 0,.ref 377,.bool true,.int 181 0,.ref 378,.none,.none,.none,.ref 379,.int 695 0,.int 260 0,.str z9 696]⟩,⟨[]⟩⟩
def YW:Obj:=⟨.type t17,.none,.func ⟨z67,z67,L2.aD (tt 65),.stmts (L2.aC (tt 65)),L2.aj (tt 65),3,[],.none,.none,.none,.str z1 647,.none,.ref 380,.none,0⟩,⟨[]⟩⟩
def Y0:Obj:=⟨.none,.none,.func ⟨z68,z68,L2.aD (tt 66),.stmts (L2.aC (tt 66)),L2.aj (tt 66),0,[],.none,.none,.none,.none,.none,.none,.none,0⟩,⟨[]⟩⟩
def Y7:Obj:=⟨.type t3,.none,.fields ⟨[.str z68 698,.str z68 699,.str z9 700,.int 268 0,.int 4 0,.int 0 0,.int 0 0,.int 3 0,.ref 382,.bool true,.int 181 0,.ref 383,.none,.none,.none,.ref 384,.int 701 0,.int 268 0,.str z9 702]⟩,⟨[]⟩⟩
def X6:Obj:=⟨.type t17,.none,.func ⟨z68,z68,L2.aD (tt 66),.stmts (L2.aC (tt 66)),L2.aj (tt 66),3,[],.none,.none,.none,.str z1 647,.none,.ref 385,.none,0⟩,⟨[]⟩⟩
def YJ:Obj:=⟨.none,.none,.func ⟨z69,z69,L2.aD (tt 67),.stmts (L2.aC (tt 67)),L2.aj (tt 67),0,[],.none,.none,.none,.none,.none,.none,.none,0⟩,⟨[]⟩⟩
def Zj:Obj:=⟨.type t3,.none,.fields ⟨[.str z69 704,.str z69 705,.str z9 706,.int 278 0,.int 2 0,.int 0 0,.int 0 0,.int 3 0,.ref 387,.bool true,.int 181 0,.ref 388,.none,.none,.none,.ref 389,.int 707 0,.int 278 0,.str z9 708]⟩,⟨[]⟩⟩
def Wi:Obj:=⟨.type t17,.none,.func ⟨z69,z69,L2.aD (tt 67),.stmts (L2.aC (tt 67)),L2.aj (tt 67),3,[],.none,.none,.none,.str z1 647,.none,.ref 390,.none,0⟩,⟨[]⟩⟩
def Zg:Obj:=⟨.type t2,.none,.seq ⟨[.str adl 713,.str ac8 714]⟩ 0,⟨[]⟩⟩
def V6:Obj:=⟨.none,.none,.func ⟨z70,z70,L2.aD (tt 68),.stmts (L2.aC (tt 68)),L2.aj (tt 68),0,[],.none,.none,.none,.none,.none,.none,.none,0⟩,⟨[]⟩⟩
def Wu:Obj:=⟨.type t3,.none,.fields ⟨[.str z70 710,.str z70 711,.str z9 712,.int 285 0,.int 1 0,.int 0 0,.int 0 0,.int 3 0,.ref 392,.bool true,.int 181 0,.ref 393,.none,.ref 394,.ref 395,.ref 396,.int 715 0,.int 285 0,.str z9 716]⟩,⟨[]⟩⟩
def Yn:Obj:=⟨.type t17,.none,.func ⟨z70,z70,L2.aD (tt 68),.stmts (L2.aC (tt 68)),L2.aj (tt 68),3,[],.none,.none,.none,.str z1 647,.none,.ref 397,.none,0⟩,⟨[]⟩⟩
def W5:Obj:=⟨.type t2,.none,.seq ⟨[.str Rn 721,.str acK 722]⟩ 0,⟨[]⟩⟩
def V9:Obj:=⟨.none,.none,.func ⟨z71,z71,L2.aD (tt 69),.stmts (L2.aC (tt 69)),L2.aj (tt 69),0,[],.none,.none,.none,.none,.none,.none,.none,0⟩,⟨[]⟩⟩
def VW:Obj:=⟨.type t3,.none,.fields ⟨[.str z71 718,.str z71 719,.str z9 720,.int 292 0,.int 2 0,.int 0 0,.int 0 0,.int 3 0,.ref 399,.bool true,.int 181 0,.ref 400,.none,.ref 401,.ref 402,.ref 403,.int 723 0,.int 292 0,.str z9 724]⟩,⟨[]⟩⟩
def aak:Obj:=⟨.type t17,.none,.func ⟨z71,z71,L2.aD (tt 69),.stmts (L2.aC (tt 69)),L2.aj (tt 69),3,[],.none,.none,.none,.str z1 647,.none,.ref 404,.none,0⟩,⟨[]⟩⟩
def XC:Obj:=⟨.type t2,.none,.seq ⟨[.str Rn 729,.str Uo 730,.str abt 731,.str aa9 732,.str abB 733]⟩ 0,⟨[]⟩⟩
def Vi:Obj:=⟨.type t2,.none,.seq ⟨[.str Rn 734,.str Uo 735,.str abt 736,.str acZ 737]⟩ 0,⟨[]⟩⟩
def Vr:Obj:=⟨.none,.none,.func ⟨z72,z72,L2.aD (tt 70),.stmts (L2.aC (tt 70)),L2.aj (tt 70),0,[],.none,.none,.none,.none,.none,.none,.none,0⟩,⟨[]⟩⟩
def Yj:Obj:=⟨.type t3,.none,.fields ⟨[.str z72 726,.str z72 727,.str z9 728,.int 294 0,.int 3 0,.int 0 0,.int 0 0,.int 3 0,.ref 406,.bool true,.int 181 0,.ref 407,.none,.ref 408,.ref 409,.ref 410,.int 738 0,.int 294 0,.str z9 739]⟩,⟨[]⟩⟩
def Z0:Obj:=⟨.type t17,.none,.func ⟨z72,z72,L2.aD (tt 70),.stmts (L2.aC (tt 70)),L2.aj (tt 70),3,[],.none,.none,.none,.str z1 647,.none,.ref 411,.none,0⟩,⟨[]⟩⟩
def WW:Obj:=⟨.type t2,.none,.seq ⟨[.str Rn 744,.str Uo 745,.str abE 746,.str aaR 747,.str aa9 748,.str abB 749]⟩ 0,⟨[]⟩⟩
def Zx:Obj:=⟨.type t2,.none,.seq ⟨[.str Rn 750,.str Uo 751,.str abE 752,.str aaR 753]⟩ 0,⟨[]⟩⟩
def Yp:Obj:=⟨.none,.none,.func ⟨z73,z73,L2.aD (tt 71),.stmts (L2.aC (tt 71)),L2.aj (tt 71),0,[],.none,.none,.none,.none,.none,.none,.none,0⟩,⟨[]⟩⟩
def Xx:Obj:=⟨.type t3,.none,.fields ⟨[.str z73 741,.str z73 742,.str z9 743,.int 311 0,.int 4 0,.int 0 0,.int 0 0,.int 3 0,.ref 413,.bool true,.int 181 0,.ref 414,.none,.ref 415,.ref 416,.ref 417,.int 754 0,.int 311 0,.str z9 755]⟩,⟨[]⟩⟩
def XR:Obj:=⟨.type t17,.none,.func ⟨z73,z73,L2.aD (tt 71),.stmts (L2.aC (tt 71)),L2.aj (tt 71),3,[],.none,.none,.none,.str z1 647,.none,.ref 418,.none,0⟩,⟨[]⟩⟩
def V5:Obj:=⟨.none,.none,.func ⟨z74,z74,L2.aD (tt 72),.stmts (L2.aC (tt 72)),L2.aj (tt 72),0,[],.none,.none,.none,.none,.none,.none,.none,0⟩,⟨[]⟩⟩
def U0:Obj:=⟨.type t3,.none,.fields ⟨[.str z74 757,.str z74 758,.str z9 759,.int 319 0,.int 1 0,.int 0 0,.int 0 0,.int 3 0,.ref 420,.bool true,.int 181 0,.ref 421,.none,.none,.none,.ref 422,.int 760 0,.int 319 0,.str z9 761]⟩,⟨[]⟩⟩
def Vy:Obj:=⟨.type t17,.none,.func ⟨z74,z74,L2.aD (tt 72),.stmts (L2.aC (tt 72)),L2.aj (tt 72),3,[],.none,.none,.none,.str z1 647,.none,.ref 423,.none,0⟩,⟨[]⟩⟩
def TF(P:Params):BT:=(nd (PySem.W.boot_o_0 P) (nd (PySem.W.boot_o_1 P) (nd (o3 P) (nd (PySem.W.boot_o_7 P) (nd o15 (nd o11 (nd o63 (nd YV (nd Xk e e) (nd o19 e e)) (nd Uv (nd UJ e e) e)) (nd o95 (nd o19 (nd ZC e e) (nd WW e e)) (nd aao (nd Ye e e) e))) (nd o11 (nd o11 (nd XY (nd o19 e e) (nd o11 e e)) (nd o19 (nd o11 e e) e)) (nd o11 (nd Wj (nd U8 e e) e) (nd X5 (nd XJ e e) e)))) (nd (o23 P) (nd o39 (nd o11 (nd o11 (nd XF e e) (nd Wi e e)) (nd Xp (nd WQ e e) e)) (nd Zi (nd aar (nd o19 e e) (nd U0 e e)) (nd aay (nd o11 e e) e))) (nd o11 (nd o87 (nd o11 (nd YS e e) (nd o19 e e)) (nd Vh (nd o19 e e) e)) (nd o19 (nd o11 (nd o11 e e) e) (nd o11 (nd Zw e e) e))))) (nd o11 (nd o19 (nd o11 (nd o11 (nd Vn (nd o19 e e) (nd o11 e e)) (nd o19 (nd Xj e e) e)) (nd o99 (nd o11 (nd Z5 e e) (nd XR e e)) (nd W7 (nd XQ e e) e))) (nd o51 (nd o11 (nd o19 (nd Xm e e) (nd V9 e e)) (nd WV (nd Ws e e) e)) (nd YB (nd Yz (nd YZ e e) e) (nd WX (nd o19 e e) e)))) (nd o27 (nd o11 (nd o75 (nd o11 (nd VF e e) (nd o11 e e)) (nd V8 (nd o19 e e) e)) (nd o11 (nd ZR (nd aaB e e) e) (nd Yg (nd o11 e e) e))) (nd o11 (nd o19 (nd WR (nd Vt e e) (nd Yj e e)) (nd UH (nd Yt e e) e)) (nd V7 (nd o11 (nd o11 e e) e) (nd o11 (nd Y5 e e) e)))))) (nd (PySem.W.boot_o_5 P) (nd (PySem.W.boot_o_9 P) (nd (o17 P) (nd o33 (nd o16 (nd VR (nd Vx e e) (nd Y7 e e)) (nd Wy (nd o19 e e) e)) (nd o11 (nd X8 (nd o11 e e) (nd Yp e e)) (nd o11 (nd ZW e e) e))) (nd o49 (nd o81 (nd Xe (nd o11 e e) (nd W5 e e)) (nd o11 (nd UW e e) e)) (nd XU (nd VJ (nd Wb e e) e) (nd VB (nd X7 e e) e)))) (nd o25 (nd o16 (nd o73 (nd Uz (nd o11 e e) (nd o19 e e)) (nd o11 (nd Xf e e) e)) (nd o19 (nd o19 (nd o11 e e) e) (nd o19 (nd Wq e e) e))) (nd o57 (nd o89 (nd aas (nd X3 e e) (nd Vi e e)) (nd WT (nd o11 e e) e)) (nd o11 (nd Wv (nd VL e e) e) (nd Xa (nd o11 e e) e))))) (nd o13 (nd o21 (nd o37 (nd o69 (nd o19 (nd o11 e e) (nd YJ e e)) (nd o11 (nd o11 e e) e)) (nd Z1 (nd Zo (nd Xw e e) (nd o19 e e)) (nd aai (nd o19 e e) e))) (nd o16 (nd o85 (nd aaE (nd o11 e e) (nd aak e e)) (nd o11 (nd Uw e e) e)) (nd VX (nd o19 (nd o19 e e) e) (nd o19 (nd o11 e e) e)))) (nd o16 (nd o45 (nd o19 (nd XD (nd ZX e e) (nd Wu e e)) (nd Ux (nd ZV e e) e)) (nd UU (nd o11 (nd o11 e e) e) (nd o11 (nd YC e e) e))) (nd o61 (nd o11 (nd Xh (nd o19 e e) (nd o11 e e)) (nd o19 (nd o11 e e) e)) (nd o11 (nd Xd (nd aan e e) e) (nd W4 (nd YW e e) e))))))) (nd (PySem.W.boot_o_2 P) (nd (PySem.W.boot_o_4 P) (nd (PySem.W.boot_o_8 P) (nd o16 (nd o19 (nd o28 (nd o11 (nd Wz e e) (nd Y0 e e)) (nd W0 (nd o11 e e) e)) (nd o96 (nd V1 (nd Vj e e) (nd Zx e e)) (nd X4 (nd o11 e e) e))) (nd (o48 P) (nd o80 (nd ZP (nd Zm e e) (nd o19 e e)) (nd aaw (nd o19 e e) e)) (nd o19 (nd o11 (nd o11 e e) e) (nd o11 (nd Wa e e) e)))) (nd o24 (nd o28 (nd (o72 P) (nd Vk (nd Wo e e) (nd o11 e e)) (nd o200 (nd Yy e e) e)) (nd o11 (nd o11 (nd Vp e e) (nd Vy e e)) (nd o11 (nd YH e e) e))) (nd o19 (nd o88 (nd o19 (nd o11 e e) (nd XC e e)) (nd o11 (nd Z2 e e) e)) (nd Zt (nd W6 (nd Wd e e) e) (nd Xo (nd Z7 e e) e))))) (nd o12 (nd o20 (nd (o36 P) (nd o19 (nd o11 (nd Ve e e) (nd o19 e e)) (nd Vo (nd Wk e e) e)) (nd o11 (nd o19 (nd Zb e e) (nd o11 e e)) (nd o11 (nd o11 e e) e))) (nd o28 (nd o19 (nd Yi (nd U6 e e) (nd VW e e)) (nd Vz (nd WL e e) e)) (nd Yx (nd o11 (nd o11 e e) e) (nd o11 (nd XG e e) e)))) (nd o28 (nd o19 (nd o11 (nd o19 (nd aah e e) (nd V6 e e)) (nd Zu (nd Xv e e) e)) (nd Xz (nd Z8 (nd o300 e e) e) (nd aaz (nd o19 e e) e))) (nd (o60 P) (nd o92 (nd aaC (nd o11 e e) (nd Z0 e e)) (nd o11 (nd VZ e e) e)) (nd Y9 (nd o19 (nd o19 e e) e) (nd o19 (nd YF e e) e)))))) (nd (PySem.W.boot_o_6 P) (nd (PySem.W.boot_o_10 P) (nd o11 (nd o34 (nd (o66 P) (nd XM (nd o11 e e) (nd X6 e e)) (nd o11 (nd W9 e e) e)) (nd o19 (nd Ym (nd o19 e e) (nd Xx e e)) (nd o19 (nd ZM e e) e))) (nd o50 (nd o82 (nd o11 (nd ZF e e) (nd o11 e e)) (nd Xl (nd o11 e e) e)) (nd o11 (nd aac (nd UL e e) e) (nd Y8 (nd o11 e e) e)))) (nd o26 (nd (o42 P) (nd o74 (nd aap (nd o19 e e) (nd Zg e e)) (nd o19 (nd o11 e e) e)) (nd Vl (nd aag (nd XI e e) e) (nd aam (nd VQ e e) e))) (nd o58 (nd o11 (nd o11 (nd Wt e e) (nd Vr e e)) (nd Yb (nd Vc e e) e)) (nd WZ (nd ZK (nd VG e e) e) (nd Zq (nd o19 e e) e))))) (nd o14 (nd o11 (nd o38 (nd o70 (nd Vw (nd aal e e) (nd Zj e e)) (nd aau (nd o19 e e) e)) (nd Zv (nd Zz (nd o11 e e) (nd V5 e e)) (nd aaf (nd Zn e e) e))) (nd (o54 P) (nd o11 (nd aat (nd o19 e e) (nd o11 e e)) (nd o19 (nd o11 e e) e)) (nd o11 (nd Xg (nd Xb e e) e) (nd UG (nd aaF e e) e)))) (nd (o30 P) (nd o46 (nd o78 (nd o11 (nd o11 e e) (nd Yn e e)) (nd o11 (nd YX e e) e)) (nd Wc (nd o19 (nd o19 e e) e) (nd o19 (nd o11 e e) e))) (nd o62 (nd o94 (nd o11 (nd Xy e e) (nd o19 e e)) (nd W3 (nd o19 e e) e)) (nd o19 (nd o11 (nd U5 e e) e) (nd o11 (nd o11 e e) e))))))))
def HF(P:Params):Heap:=⟨⟨[PySem.W.boot_o_0 P,PySem.W.boot_o_1 P,PySem.W.boot_o_2 P,o3 P,PySem.W.boot_o_4 P,PySem.W.boot_o_5 P,PySem.W.boot_o_6 P,PySem.W.boot_o_7 P,PySem.W.boot_o_8 P,PySem.W.boot_o_9 P,PySem.W.boot_o_10 P,o11,o12,o13,o14,o15,o16,o17 P,o11,o19,o20,o21,o11,o23 P,o24,o25,o26,o27,o28,o16,o30 P,o11,o19,o33,o34,o11,o36 P,o37,o38,o39,o28,o16,o42 P,o11,o19,o45,o46,o11,o48 P,o49,o50,o51,o28,o16,o54 P,o11,o19,o57,o58,o11,o60 P,o61,o62,o63,o28,o16,o66 P,o11,o19,o69,o70,o11,o72 P,o73,o74,o75,o11,o19,o78,o11,o80,o81,o82,o11,o19,o85,o11,o87,o88,o89,o11,o19,o92,o11,o94,o95,o96,o11,o19,o99,o11,Z1,Zv,Zi,o11,o19,Vl,o11,Xz,UU,Wc,o11,o19,XU,o11,YB,Yx,VX,o11,o19,Zt,o11,WZ,V7,Y9,o11,o19,YV,o11,VR,XM,Vn,o11,o19,Vw,o11,Vk,Uz,aap,o11,o19,XD,o11,XY,ZP,Xe,o11,o19,Yi,aaE,aat,o11,o19,aas,o11,WR,aaC,Xh,o11,o19,V1,X8,Ym,o11,o19,Zo,Zz,aar,o11,o19,aag,ZR,Z8,o11,o19,Wj,o11,VJ,aac,Yz,o11,o19,Xg,o11,W6,Wv,ZK,o11,o19,Xd,o11,Uv,W0,Wy,o11,o19,Vo,o11,aau,Xp,o200,o11,o19,V8,Zu,Ux,o11,o19,aaw,o11,Xl,WV,Vz,o11,o19,Vh,o11,WT,Yb,UH,o11,o19,W3,aao,X4,o11,o19,W7,o11,aai,aaf,aay,o11,o19,aam,Yg,aaz,o11,o19,X5,o11,VB,Y8,WX,o11,o19,UG,o11,Xo,Xa,Zq,o11,o19,W4,o11,Xk,Wz,Vx,o11,o19,Ve,o11,aal,XF,Wo,o11,o19,VF,aah,ZX,o11,o19,Zm,o11,ZF,Xm,U6,o11,o19,YS,o11,X3,Wt,Vt,o11,o19,Xy,ZC,Vj,o11,o19,Z5,Zb,Xw,o11,o19,Vp,o11,XI,aaB,o300,o11,o19,U8,o11,Wb,UL,YZ,o11,o19,Xb,o11,Wd,VL,VG,o11,o19,aan,U5,UJ,o11,o19,W9,Xj,Wk,o11,o19,WQ,Yy,Xf,o11,o19,Xv,ZV,YX,o11,o19,UW,o11,Ws,WL,Uw,o11,o19,Z2,o11,Vc,Yt,VZ,o11,o19,Ye,o11,ZW,ZM,XQ,o11,o19,Zn,o11,YH,Wq,VQ,o11,o19,YC,o11,XJ,Wa,X7,o11,o19,XG,o11,aaF,Zw,Z7,o11,o19,Y5,YF,YW,o11,o19,Y0,Y7,X6,o11,o19,YJ,Zj,Wi,o11,o19,Zg,o11,V6,Wu,Yn,o11,o19,W5,o11,V9,VW,aak,o11,o19,XC,Vi,Vr,Yj,Z0,o11,o19,WW,Zx,Yp,Xx,XR,o11,o19,V5,U0,Vy]⟩,{}⟩
def K(P:Params):Frag:=(nat_lit 0,PySem.W.boot_o_0 P)::(nat_lit 1,PySem.W.boot_o_1 P)::(nat_lit 2,PySem.W.boot_o_2 P)::(nat_lit 3,o3 P)::(nat_lit 4,PySem.W.boot_o_4 P)::(nat_lit 5,PySem.W.boot_o_5 P)::(nat_lit 6,PySem.W.boot_o_6 P)::(nat_lit 7,PySem.W.boot_o_7 P)::(nat_lit 9,PySem.W.boot_o_9 P)::(nat_lit 10,PySem.W.boot_o_10 P)::(nat_lit 11,o11)::(nat_lit 12,o12)::(nat_lit 13,o13)::(nat_lit 14,o14)::(nat_lit 15,o15)::(nat_lit 22,o11)::(nat_lit 23,o23 P)::(nat_lit 24,o24)::(nat_lit 25,o25)::(nat_lit 28,o28)::(nat_lit 35,o11)::(nat_lit 36,o36 P)::(nat_lit 37,o37)::(nat_lit 40,o28)::(nat_lit 47,o11)::(nat_lit 48,o48 P)::(nat_lit 49,o49)::(nat_lit 52,o28)::(nat_lit 59,o11)::(nat_lit 60,o60 P)::(nat_lit 61,o61)::(nat_lit 64,o28)::(nat_lit 71,o11)::(nat_lit 72,o72 P)::(nat_lit 73,o73)::(nat_lit 76,o11)::(nat_lit 78,o78)::(nat_lit 79,o11)::(nat_lit 80,o80)::(nat_lit 81,o81)::(nat_lit 82,o82)::(nat_lit 83,o11)::(nat_lit 85,o85)::(nat_lit 86,o11)::(nat_lit 87,o87)::(nat_lit 88,o88)::(nat_lit 89,o89)::(nat_lit 90,o11)::(nat_lit 92,o92)::(nat_lit 93,o11)::(nat_lit 94,o94)::(nat_lit 95,o95)::(nat_lit 96,o96)::(nat_lit 97,o11)::(nat_lit 99,o99)::(nat_lit 100,o11)::(nat_lit 101,Z1)::(nat_lit 102,Zv)::(nat_lit 103,Zi)::(nat_lit 104,o11)::(nat_lit 106,Vl)::(nat_lit 107,o11)::(nat_lit 108,Xz)::(nat_lit 109,UU)::(nat_lit 110,Wc)::(nat_lit 111,o11)::(nat_lit 113,XU)::(nat_lit 114,o11)::(nat_lit 115,YB)::(nat_lit 116,Yx)::(nat_lit 117,VX)::(nat_lit 118,o11)::(nat_lit 120,Zt)::(nat_lit 121,o11)::(nat_lit 122,WZ)::(nat_lit 123,V7)::(nat_lit 124,Y9)::(nat_lit 125,o11)::(nat_lit 127,YV)::(nat_lit 128,o11)::(nat_lit 129,VR)::(nat_lit 130,XM)::(nat_lit 131,Vn)::(nat_lit 132,o11)::(nat_lit 134,Vw)::(nat_lit 135,o11)::(nat_lit 136,Vk)::(nat_lit 137,Uz)::(nat_lit 138,aap)::(nat_lit 139,o11)::(nat_lit 141,XD)::(nat_lit 142,o11)::(nat_lit 143,XY)::(nat_lit 144,ZP)::(nat_lit 145,Xe)::(nat_lit 146,o11)::(nat_lit 148,Yi)::(nat_lit 149,aaE)::(nat_lit 150,aat)::(nat_lit 151,o11)::(nat_lit 153,aas)::(nat_lit 154,o11)::(nat_lit 155,WR)::(nat_lit 156,aaC)::(nat_lit 157,Xh)::(nat_lit 158,o11)::(nat_lit 160,V1)::(nat_lit 161,X8)::(nat_lit 162,Ym)::(nat_lit 163,o11)::(nat_lit 165,Zo)::(nat_lit 166,Zz)::(nat_lit 167,aar)::(nat_lit 168,o11)::(nat_lit 170,aag)::(nat_lit 171,ZR)::(nat_lit 172,Z8)::(nat_lit 173,o11)::(nat_lit 175,Wj)::(nat_lit 176,o11)::(nat_lit 177,VJ)::(nat_lit 178,aac)::(nat_lit 179,Yz)::(nat_lit 180,o11)::(nat_lit 182,Xg)::(nat_lit 183,o11)::(nat_lit 184,W6)::(nat_lit 185,Wv)::(nat_lit 186,ZK)::(nat_lit 187,o11)::(nat_lit 189,Xd)::(nat_lit 190,o11)::(nat_lit 191,Uv)::(nat_lit 192,W0)::(nat_lit 193,Wy)::(nat_lit 194,o11)::(nat_lit 196,Vo)::(nat_lit 197,o11)::(nat_lit 198,aau)::(nat_lit 199,Xp)::(nat_lit 200,o200)::(nat_lit 201,o11)::(nat_lit 203,V8)::(nat_lit 204,Zu)::(nat_lit 205,Ux)::(nat_lit 206,o11)::(nat_lit 208,aaw)::(nat_lit 209,o11)::(nat_lit 210,Xl)::(nat_lit 211,WV)::(nat_lit 212,Vz)::(nat_lit 213,o11)::(nat_lit 215,Vh)::(nat_lit 216,o11)::(nat_lit 217,WT)::(nat_lit 218,Yb)::(nat_lit 219,UH)::(nat_lit 220,o11)::(nat_lit 222,W3)::(nat_lit 223,aao)::(nat_lit 224,X4)::(nat_lit 225,o11)::(nat_lit 227,W7)::(nat_lit 228,o11)::(nat_lit 229,aai)::(nat_lit 230,aaf)::(nat_lit 231,aay)::(nat_lit 232,o11)::(nat_lit 234,aam)::(nat_lit 235,Yg)::(nat_lit 236,aaz)::(nat_lit 237,o11)::(nat_lit 239,X5)::(nat_lit 240,o11)::(nat_lit 241,VB)::(nat_lit 242,Y8)::(nat_lit 243,WX)::(nat_lit 244,o11)::(nat_lit 246,UG)::(nat_lit 247,o11)::(nat_lit 248,Xo)::(nat_lit 249,Xa)::(nat_lit 250,Zq)::(nat_lit 251,o11)::(nat_lit 253,W4)::(nat_lit 254,o11)::(nat_lit 255,Xk)::(nat_lit 256,Wz)::(nat_lit 257,Vx)::(nat_lit 258,o11)::(nat_lit 260,Ve)::(nat_lit 261,o11)::(nat_lit 262,aal)::(nat_lit 263,XF)::(nat_lit 264,Wo)::(nat_lit 265,o11)::(nat_lit 267,VF)::(nat_lit 268,aah)::(nat_lit 269,ZX)::(nat_lit 270,o11)::(nat_lit 272,Zm)::(nat_lit 273,o11)::(nat_lit 274,ZF)::(nat_lit 275,Xm)::(nat_lit 276,U6)::(nat_lit 277,o11)::(nat_lit 279,YS)::(nat_lit 280,o11)::(nat_lit 281,X3)::(nat_lit 282,Wt)::(nat_lit 283,Vt)::(nat_lit 284,o11)::(nat_lit 286,Xy)::(nat_lit 287,ZC)::(nat_lit 288,Vj)::(nat_lit 289,o11)::(nat_lit 291,Z5)::(nat_lit 292,Zb)::(nat_lit 293,Xw)::(nat_lit 294,o11)::(nat_lit 296,Vp)::(nat_lit 297,o11)::(nat_lit 298,XI)::(nat_lit 299,aaB)::(nat_lit 300,o300)::(nat_lit 301,o11)::(nat_lit 303,U8)::(nat_lit 304,o11)::(nat_lit 305,Wb)::(nat_lit 306,UL)::(nat_lit 307,YZ)::(nat_lit 308,o11)::(nat_lit 310,Xb)::(nat_lit 311,o11)::(nat_lit 312,Wd)::(nat_lit 313,VL)::(nat_lit 314,VG)::(nat_lit 315,o11)::(nat_lit 317,aan)::(nat_lit 318,U5)::(nat_lit 319,UJ)::(nat_lit 320,o11)::(nat_lit 322,W9)::(nat_lit 323,Xj)::(nat_lit 324,Wk)::(nat_lit 325,o11)::(nat_lit 327,WQ)::(nat_lit 328,Yy)::(nat_lit 329,Xf)::(nat_lit 330,o11)::(nat_lit 332,Xv)::(nat_lit 333,ZV)::(nat_lit 334,YX)::(nat_lit 335,o11)::(nat_lit 337,UW)::(nat_lit 338,o11)::(nat_lit 339,Ws)::(nat_lit 340,WL)::(nat_lit 341,Uw)::(nat_lit 342,o11)::(nat_lit 344,Z2)::(nat_lit 345,o11)::(nat_lit 346,Vc)::(nat_lit 347,Yt)::(nat_lit 348,VZ)::(nat_lit 349,o11)::(nat_lit 351,Ye)::(nat_lit 352,o11)::(nat_lit 353,ZW)::(nat_lit 354,ZM)::(nat_lit 355,XQ)::(nat_lit 356,o11)::(nat_lit 358,Zn)::(nat_lit 359,o11)::(nat_lit 360,YH)::(nat_lit 361,Wq)::(nat_lit 362,VQ)::(nat_lit 363,o11)::(nat_lit 365,YC)::(nat_lit 366,o11)::(nat_lit 367,XJ)::(nat_lit 368,Wa)::(nat_lit 369,X7)::(nat_lit 370,o11)::(nat_lit 372,XG)::(nat_lit 373,o11)::(nat_lit 374,aaF)::(nat_lit 375,Zw)::(nat_lit 376,Z7)::(nat_lit 377,o11)::(nat_lit 379,Y5)::(nat_lit 380,YF)::(nat_lit 381,YW)::(nat_lit 382,o11)::(nat_lit 384,Y0)::(nat_lit 385,Y7)::(nat_lit 386,X6)::(nat_lit 387,o11)::(nat_lit 389,YJ)::(nat_lit 390,Zj)::(nat_lit 391,Wi)::(nat_lit 392,o11)::(nat_lit 394,Zg)::(nat_lit 395,o11)::(nat_lit 396,V6)::(nat_lit 397,Wu)::(nat_lit 398,Yn)::(nat_lit 399,o11)::(nat_lit 401,W5)::(nat_lit 402,o11)::(nat_lit 403,V9)::(nat_lit 404,VW)::(nat_lit 405,aak)::(nat_lit 406,o11)::(nat_lit 408,XC)::(nat_lit 409,Vi)::(nat_lit 410,Vr)::(nat_lit 411,Yj)::(nat_lit 412,Z0)::(nat_lit 413,o11)::(nat_lit 415,WW)::(nat_lit 416,Zx)::(nat_lit 417,Yp)::(nat_lit 418,Xx)::(nat_lit 419,XR)::(nat_lit 420,o11)::(nat_lit 422,V5)::(nat_lit 423,U0)::(nat_lit 424,Vy)::[]
def as:List Nat:=[nat_lit 0,nat_lit 1,nat_lit 2,nat_lit 3,nat_lit 4,nat_lit 5,nat_lit 6,nat_lit 7,nat_lit 9,nat_lit 10,nat_lit 11,nat_lit 12,nat_lit 13,nat_lit 14,nat_lit 15,nat_lit 22,nat_lit 23,nat_lit 24,nat_lit 25,nat_lit 28,nat_lit 35,nat_lit 36,nat_lit 37,nat_lit 40,nat_lit 47,nat_lit 48,nat_lit 49,nat_lit 52,nat_lit 59,nat_lit 60,nat_lit 61,nat_lit 64,nat_lit 71,nat_lit 72,nat_lit 73,nat_lit 76,nat_lit 78,nat_lit 79,nat_lit 80,nat_lit 81,nat_lit 82,nat_lit 83,nat_lit 85,nat_lit 86,nat_lit 87,nat_lit 88,nat_lit 89,nat_lit 90,nat_lit 92,nat_lit 93,nat_lit 94,nat_lit 95,nat_lit 96,nat_lit 97,nat_lit 99,nat_lit 100,nat_lit 101,nat_lit 102,nat_lit 103,nat_lit 104,nat_lit 106,nat_lit 107,nat_lit 108,nat_lit 109,nat_lit 110,nat_lit 111,nat_lit 113,nat_lit 114,nat_lit 115,nat_lit 116,nat_lit 117,nat_lit 118,nat_lit 120,nat_lit 121,nat_lit 122,nat_lit 123,nat_lit 124,nat_lit 125,nat_lit 127,nat_lit 128,nat_lit 129,nat_lit 130,nat_lit 131,nat_lit 132,nat_lit 134,nat_lit 135,nat_lit 136,nat_lit 137,nat_lit 138,nat_lit 139,nat_lit 141,nat_lit 142,nat_lit 143,nat_lit 144,nat_lit 145,nat_lit 146,nat_lit 148,nat_lit 149,nat_lit 150,nat_lit 151,nat_lit 153,nat_lit 154,nat_lit 155,nat_lit 156,nat_lit 157,nat_lit 158,nat_lit 160,nat_lit 161,nat_lit 162,nat_lit 163,nat_lit 165,nat_lit 166,nat_lit 167,nat_lit 168,nat_lit 170,nat_lit 171,nat_lit 172,nat_lit 173,nat_lit 175,nat_lit 176,nat_lit 177,nat_lit 178,nat_lit 179,nat_lit 180,nat_lit 182,nat_lit 183,nat_lit 184,nat_lit 185,nat_lit 186,nat_lit 187,nat_lit 189,nat_lit 190,nat_lit 191,nat_lit 192,nat_lit 193,nat_lit 194,nat_lit 196,nat_lit 197,nat_lit 198,nat_lit 199,nat_lit 200,nat_lit 201,nat_lit 203,nat_lit 204,nat_lit 205,nat_lit 206,nat_lit 208,nat_lit 209,nat_lit 210,nat_lit 211,nat_lit 212,nat_lit 213,nat_lit 215,nat_lit 216,nat_lit 217,nat_lit 218,nat_lit 219,nat_lit 220,nat_lit 222,nat_lit 223,nat_lit 224,nat_lit 225,nat_lit 227,nat_lit 228,nat_lit 229,nat_lit 230,nat_lit 231,nat_lit 232,nat_lit 234,nat_lit 235,nat_lit 236,nat_lit 237,nat_lit 239,nat_lit 240,nat_lit 241,nat_lit 242,nat_lit 243,nat_lit 244,nat_lit 246,nat_lit 247,nat_lit 248,nat_lit 249,nat_lit 250,nat_lit 251,nat_lit 253,nat_lit 254,nat_lit 255,nat_lit 256,nat_lit 257,nat_lit 258,nat_lit 260,nat_lit 261,nat_lit 262,nat_lit 263,nat_lit 264,nat_lit 265,nat_lit 267,nat_lit 268,nat_lit 269,nat_lit 270,nat_lit 272,nat_lit 273,nat_lit 274,nat_lit 275,nat_lit 276,nat_lit 277,nat_lit 279,nat_lit 280,nat_lit 281,nat_lit 282,nat_lit 283,nat_lit 284,nat_lit 286,nat_lit 287,nat_lit 288,nat_lit 289,nat_lit 291,nat_lit 292,nat_lit 293,nat_lit 294,nat_lit 296,nat_lit 297,nat_lit 298,nat_lit 299,nat_lit 300,nat_lit 301,nat_lit 303,nat_lit 304,nat_lit 305,nat_lit 306,nat_lit 307,nat_lit 308,nat_lit 310,nat_lit 311,nat_lit 312,nat_lit 313,nat_lit 314,nat_lit 315,nat_lit 317,nat_lit 318,nat_lit 319,nat_lit 320,nat_lit 322,nat_lit 323,nat_lit 324,nat_lit 325,nat_lit 327,nat_lit 328,nat_lit 329,nat_lit 330,nat_lit 332,nat_lit 333,nat_lit 334,nat_lit 335,nat_lit 337,nat_lit 338,nat_lit 339,nat_lit 340,nat_lit 341,nat_lit 342,nat_lit 344,nat_lit 345,nat_lit 346,nat_lit 347,nat_lit 348,nat_lit 349,nat_lit 351,nat_lit 352,nat_lit 353,nat_lit 354,nat_lit 355,nat_lit 356,nat_lit 358,nat_lit 359,nat_lit 360,nat_lit 361,nat_lit 362,nat_lit 363,nat_lit 365,nat_lit 366,nat_lit 367,nat_lit 368,nat_lit 369,nat_lit 370,nat_lit 372,nat_lit 373,nat_lit 374,nat_lit 375,nat_lit 376,nat_lit 377,nat_lit 379,nat_lit 380,nat_lit 381,nat_lit 382,nat_lit 384,nat_lit 385,nat_lit 386,nat_lit 387,nat_lit 389,nat_lit 390,nat_lit 391,nat_lit 392,nat_lit 394,nat_lit 395,nat_lit 396,nat_lit 397,nat_lit 398,nat_lit 399,nat_lit 401,nat_lit 402,nat_lit 403,nat_lit 404,nat_lit 405,nat_lit 406,nat_lit 408,nat_lit 409,nat_lit 410,nat_lit 411,nat_lit 412,nat_lit 413,nat_lit 415,nat_lit 416,nat_lit 417,nat_lit 418,nat_lit 419,nat_lit 420,nat_lit 422,nat_lit 423,nat_lit 424]
def cut(n:Nat)(t:BT):Nat->Nat->BT:=BT.rec (motive:=fun _=>Nat->Nat->BT) (fun _ _=> .nil) (fun v _ _ l r a b=>cond (Nat.blt b n) (.node v (l (Nat.mul 2 a) (Nat.add a b)) (r (Nat.mul 2 a) (Nat.add (Nat.mul 2 a) b))) .nil) t
def HA(P:Params):Heap:=⟨⟨[PySem.W.boot_o_0 P,PySem.W.boot_o_1 P,PySem.W.boot_o_2 P,PySem.W.boot_o_3 P,PySem.W.boot_o_4 P,PySem.W.boot_o_5 P,PySem.W.boot_o_6 P,PySem.W.boot_o_7 P,PySem.W.boot_o_8 P,PySem.W.boot_o_9 P,PySem.W.boot_o_10 P,o11,QW,o13,o14]⟩,{}⟩
def SA(w:World)(os:OsState):Shared:=⟨HA w.params,⟨[]⟩,{},187,os⟩
def T1(P:Params):BT:=((cut 15 (TF P) 1 0).set 3 fun _=>PySem.W.boot_o_3 P).set 12 fun _=>QW
def S1(w:World)(os:OsState):SharedT:=⟨T1 w.params,15,{},⟨[]⟩,{},187,os⟩
def T2(P:Params):BT:=(((cut 28 (TF P) 1 0).set 3 fun _=>abZ P).set 12 fun _=>ZJ).set 24 fun _=>aaD
def S2(w:World)(os:OsState):SharedT:=⟨T2 w.params,28,{},⟨[]⟩,{},207,os⟩
def T3(P:Params):BT:=(((cut 40 (TF P) 1 0).set 3 fun _=>ab2 P).set 12 fun _=>VP).set 24 fun _=>Wl
def S3(w:World)(os:OsState):SharedT:=⟨T3 w.params,40,{},⟨[]⟩,{},223,os⟩
def T4(P:Params):BT:=(((cut 52 (TF P) 1 0).set 3 fun _=>acR P).set 12 fun _=>Xi).set 24 fun _=>Yu
def S4(w:World)(os:OsState):SharedT:=⟨T4 w.params,52,{},⟨[]⟩,{},239,os⟩
def T5(P:Params):BT:=(((cut 64 (TF P) 1 0).set 3 fun _=>YM P).set 12 fun _=>SY).set 24 fun _=>Tc
def S5(w:World)(os:OsState):SharedT:=⟨T5 w.params,64,{},⟨[]⟩,{},255,os⟩
def T6(P:Params):BT:=((cut 111 (TF P) 1 0).set 3 fun _=>YK P).set 12 fun _=>Rf
def S6(w:World)(os:OsState):SharedT:=⟨T6 w.params,111,{},⟨[]⟩,{},321,os⟩
def T7(P:Params):BT:=((cut 187 (TF P) 1 0).set 3 fun _=>W2 P).set 12 fun _=>Tn
def S7(w:World)(os:OsState):SharedT:=⟨T7 w.params,187,{},⟨[]⟩,{},441,os⟩
def T8(P:Params):BT:=((cut 265 (TF P) 1 0).set 3 fun _=>WC P).set 12 fun _=>Rv
def S8(w:World)(os:OsState):SharedT:=⟨T8 w.params,265,{},⟨[]⟩,{},548,os⟩
def T9(P:Params):BT:=((cut 342 (TF P) 1 0).set 3 fun _=>V4 P).set 12 fun _=>SR
def S9(w:World)(os:OsState):SharedT:=⟨T9 w.params,342,{},⟨[]⟩,{},649,os⟩
def T10(P:Params):BT:=cut 425 (TF P) 1 0
def S10(w:World)(os:OsState):SharedT:=⟨T10 w.params,425,{},⟨[]⟩,{},763,os⟩
def SF(w:World)(os:OsState):Shared:=⟨HF w.params,⟨[]⟩,{},763,os⟩
def ann:Option Value:=some (.ref 6)
def env:Env:={ scope:=pwL.main.scope,locals:=mainNs,globals:=mainNs,cells:=[],code:= .ref 13,frame:=some 14 }
def cE:Code:= .body (behindTheImports pwL) env
abbrev BB:List Frame:=[topFrame ⟨0,0,0,0⟩]
def q:Program:={ pwL with main:={ pwL.main with body:=[topF 1,topF 2,topF 3,topF 4,topF 5,topF 7,topF 8,topF 9,topF 10,topF 12,topF 13,topF 14,topF 15,topF 17,topF 18,topF 19,topF 20,topF 21,topF 22,topF 23,topF 25,topF 26,topF 27,topF 29,topF 30,topF 31,topF 32,topF 33,topF 34,topF 35,topF 36,topF 38,topF 39,topF 40,topF 42,topF 43,topF 44,topF 45,topF 46,topF 47,topF 48,topF 49,topF 50,topF 51,topF 52,topF 53,topF 54,topF 55,topF 56,topF 57,topF 58,topF 60,topF 61,topF 62,topF 63,topF 64,topF 65,topF 66,topF 67,topF 68,topF 69,topF 70,topF 71,topF 72] } }
theorem warm2:((fun(_:Env) (_:Code) (_:Program)=>true) env cE q)=true:=by k_qdec
theorem a0:@segRunT=PySem.W.Fast.tw10110043849684766642:=PySem.W.Fast.te10110043849684766642
theorem a1:@treeTable=PySem.W.Fast.tw14364793385576792824:=PySem.W.Fast.te14364793385576792824
theorem a2:@topGo=PySem.W.Fast.tw15667345088766844465:=PySem.W.Fast.te15667345088766844465
theorem a3:@topRun=PySem.W.Fast.tw14082659384304107361:=PySem.W.Fast.te14082659384304107361
theorem a4:@segRun=PySem.W.Fast.tw14374325043358763698:=PySem.W.Fast.te14374325043358763698
theorem a5:@denote=PySem.W.Fast.tw11892475500146522536:=PySem.W.Fast.te11892475500146522536
theorem a6:@cE=PySem.W.Fast.tw7203720566205014544:=PySem.W.Fast.te7203720566205014544
theorem a7:@env=PySem.W.Fast.tw18144112846005123147:=PySem.W.Fast.te18144112846005123147
theorem a8:@q=PySem.W.Fast.tw10580020046329235099:=PySem.W.Fast.te10580020046329235099
theorem a9:@pwL=PySem.W.Fast.tw6662031583334891823:=PySem.W.Fast.te6662031583334891823
theorem a10:@topF=PySem.W.Fast.tw6055556175523322261:=PySem.W.Fast.te6055556175523322261
theorem a11:@importedModules=PySem.W.Fast.tw5923862056798008813:=PySem.W.Fast.te5923862056798008813
theorem a12:@openSeen=PySem.W.Fast.tw4187177175401517315:=PySem.W.Fast.te4187177175401517315
theorem a13:@Heap.nsMap=PySem.W.Fast.tw8920871248978507458:=PySem.W.Fast.te8920871248978507458
set_option maxHeartbeats 0
theorem pre(w:World)(os:OsState):topGo treeTable pwL w 11 ann 12 ⟨boot_heap w.params,⟨[]⟩,boot_drawn,boot_toks,os⟩ (topStub pwL)=some (SA w os,⟨denote treeTable cE,cE,⟨0,0,0,0⟩,BB⟩):=by
 (try rw[a0]);(try rw[a1]);(try rw[a2]);(try rw[a3]);(try rw[a4]);(try rw[a5]);(try rw[a6]);(try rw[a7]);(try rw[a8]);(try rw[a9]);(try rw[a10]);kernel_rfl
theorem blk(w:World)(os:OsState):segRun treeTable pwL w 11 ann 1 1 (SA w os) (blockOf (behindTheImports pwL) env cE ⟨0,0,0,0⟩ BB)=some (.next,(S1 w os).abs,cE,⟨0,0,0,0⟩):=by
 (try rw[a0]);(try rw[a1]);(try rw[a2]);(try rw[a3]);(try rw[a4]);(try rw[a5]);(try rw[a6]);(try rw[a7]);(try rw[a8]);(try rw[a9]);(try rw[a10]);kernel_rfl
abbrev c1:List Stmt:=[topF 0,topF 1]
theorem p1(w:World)(os:OsState):segRunT treeTable pwL w 11 ann 1 196 (S1 w os) (piecesOf c1 env cE ⟨0,0,0,0⟩ BB)=some (.next,S2 w os,cE,⟨2,0,3,8⟩):=by
 unfold c1;(try rw[a0]);(try rw[a1]);(try rw[a2]);(try rw[a3]);(try rw[a4]);(try rw[a5]);(try rw[a6]);(try rw[a7]);(try rw[a8]);(try rw[a9]);(try rw[a10]);kernel_rfl
abbrev c2:List Stmt:=[topF 2]
theorem p2(w:World)(os:OsState):segRunT treeTable pwL w 11 ann 1 214 (S2 w os) (piecesOf c2 env cE ⟨2,0,3,8⟩ BB)=some (.next,S3 w os,cE,⟨4,0,5,8⟩):=by
 unfold c2;(try rw[a0]);(try rw[a1]);(try rw[a2]);(try rw[a3]);(try rw[a4]);(try rw[a5]);(try rw[a6]);(try rw[a7]);(try rw[a8]);(try rw[a9]);(try rw[a10]);kernel_rfl
abbrev c3:List Stmt:=[topF 3]
theorem p3(w:World)(os:OsState):segRunT treeTable pwL w 11 ann 1 214 (S3 w os) (piecesOf c3 env cE ⟨4,0,5,8⟩ BB)=some (.next,S4 w os,cE,⟨6,0,7,8⟩):=by
 unfold c3;(try rw[a0]);(try rw[a1]);(try rw[a2]);(try rw[a3]);(try rw[a4]);(try rw[a5]);(try rw[a6]);(try rw[a7]);(try rw[a8]);(try rw[a9]);(try rw[a10]);kernel_rfl
abbrev c4:List Stmt:=[topF 4]
theorem p4(w:World)(os:OsState):segRunT treeTable pwL w 11 ann 1 214 (S4 w os) (piecesOf c4 env cE ⟨6,0,7,8⟩ BB)=some (.next,S5 w os,cE,⟨8,0,9,8⟩):=by
 unfold c4;(try rw[a0]);(try rw[a1]);(try rw[a2]);(try rw[a3]);(try rw[a4]);(try rw[a5]);(try rw[a6]);(try rw[a7]);(try rw[a8]);(try rw[a9]);(try rw[a10]);kernel_rfl
abbrev c5:List Stmt:=[topF 5,topF 6,topF 7,topF 8,topF 9,topF 10,topF 11,topF 12,topF 13]
theorem p5(w:World)(os:OsState):segRunT treeTable pwL w 11 ann 1 395 (S5 w os) (piecesOf c5 env cE ⟨8,0,9,8⟩ BB)=some (.next,S6 w os,cE,⟨44,0,47,17⟩):=by
 unfold c5;(try rw[a0]);(try rw[a1]);(try rw[a2]);(try rw[a3]);(try rw[a4]);(try rw[a5]);(try rw[a6]);(try rw[a7]);(try rw[a8]);(try rw[a9]);(try rw[a10]);kernel_rfl
abbrev c6:List Stmt:=[topF 14,topF 15,topF 16,topF 17,topF 18,topF 19,topF 20,topF 21,topF 22,topF 23,topF 24,topF 25,topF 26,topF 27,topF 28]
theorem p6(w:World)(os:OsState):segRunT treeTable pwL w 11 ann 1 398 (S6 w os) (piecesOf c6 env cE ⟨44,0,47,17⟩ BB)=some (.next,S7 w os,cE,⟨118,0,118,8⟩):=by
 unfold c6;(try rw[a0]);(try rw[a1]);(try rw[a2]);(try rw[a3]);(try rw[a4]);(try rw[a5]);(try rw[a6]);(try rw[a7]);(try rw[a8]);(try rw[a9]);(try rw[a10]);kernel_rfl
abbrev c7:List Stmt:=[topF 29,topF 30,topF 31,topF 32,topF 33,topF 34,topF 35,topF 36,topF 37,topF 38,topF 39,topF 40,topF 41,topF 42,topF 43,topF 44,topF 45]
theorem p7(w:World)(os:OsState):segRunT treeTable pwL w 11 ann 1 401 (S7 w os) (piecesOf c7 env cE ⟨118,0,118,8⟩ BB)=some (.next,S8 w os,cE,⟨179,0,181,69⟩):=by
 unfold c7;(try rw[a0]);(try rw[a1]);(try rw[a2]);(try rw[a3]);(try rw[a4]);(try rw[a5]);(try rw[a6]);(try rw[a7]);(try rw[a8]);(try rw[a9]);(try rw[a10]);kernel_rfl
abbrev c8:List Stmt:=[topF 46,topF 47,topF 48,topF 49,topF 50,topF 51,topF 52,topF 53,topF 54,topF 55,topF 56,topF 57,topF 58,topF 59]
theorem p8(w:World)(os:OsState):segRunT treeTable pwL w 11 ann 1 381 (S8 w os) (piecesOf c8 env cE ⟨179,0,181,69⟩ BB)=some (.next,S9 w os,cE,⟨241,0,241,8⟩):=by
 unfold c8;(try rw[a0]);(try rw[a1]);(try rw[a2]);(try rw[a3]);(try rw[a4]);(try rw[a5]);(try rw[a6]);(try rw[a7]);(try rw[a8]);(try rw[a9]);(try rw[a10]);kernel_rfl
abbrev c9:List Stmt:=[topF 60,topF 61,topF 62,topF 63,topF 64,topF 65,topF 66,topF 67,topF 68,topF 69,topF 70,topF 71,topF 72]
theorem p9(w:World)(os:OsState):segRunT treeTable pwL w 11 ann 1 393 (S9 w os) (piecesOf c9 env cE ⟨241,0,241,8⟩ BB)=some (.next,S10 w os,cE,⟨319,0,341,149⟩):=by
 unfold c9;(try rw[a0]);(try rw[a1]);(try rw[a2]);(try rw[a3]);(try rw[a4]);(try rw[a5]);(try rw[a6]);(try rw[a7]);(try rw[a8]);(try rw[a9]);(try rw[a10]);kernel_rfl
theorem fin(w:World)(os:OsState):topRun treeTable pwL w 11 ann 2 (S10 w os).abs ⟨doneF .next,cE,⟨319,0,341,149⟩,BB⟩=some (SF w os):=by
 (try rw[a0]);(try rw[a1]);(try rw[a2]);(try rw[a3]);(try rw[a4]);(try rw[a5]);(try rw[a6]);(try rw[a7]);(try rw[a8]);(try rw[a9]);(try rw[a10]);kernel_rfl
theorem body:behindTheImports pwL=c1++(c2++(c3++(c4++(c5++(c6++(c7++(c8++(c9++([]))))))))):=by
 (try rw[a6]);(try rw[a7]);(try rw[a8]);(try rw[a9]);(try rw[a10]);kernel_rfl
theorem run(w:World)(os:OsState):topRun treeTable pwL w 11 ann (12+(1+(196+(214+(214+(214+(395+(398+(401+(381+(393+(2)))))))))))) ⟨boot_heap w.params,⟨[]⟩,boot_drawn,boot_toks,os⟩ (topStub pwL)=some (SF w os):=
 go_top (pre w os) (piece_block (blk w os) (by rw[body];exact piece_app (segRun_of (p1 w os)) (piece_app (segRun_of (p2 w os)) (piece_app (segRun_of (p3 w os)) (piece_app (segRun_of (p4 w os)) (piece_app (segRun_of (p5 w os)) (piece_app (segRun_of (p6 w os)) (piece_app (segRun_of (p7 w os)) (piece_app (segRun_of (p8 w os)) (piece_app (segRun_of (p9 w os)) (piece_nil (fin w os))))))))))))
theorem size(w:World):((boot_heap w.params).isNs mainGlobals&&(Array.mk ([]:List GenState)).size==0,(boot_heap w.params).objs.size,(boot_heap w.params).nsMap mainGlobals "__annotations__")=(true,11,ann):=by
 (try rw[a11]);(try rw[a12]);(try rw[a13]);kernel_rfl
abbrev Xt(s:Shared):Bool:=xlAt q [] s&&recOk [] s
theorem lk1(w:World)(os:OsState):(staticsOk (importedModules pwL.main.body) (boot_heap w.params) (HF w.params)&&namesBound pwL (HF w.params)&&gensDone (SF w os)&&laidKept (boot_heap w.params) (HF w.params))=true:=by
 (try rw[a11]);(try rw[a12]);(try rw[a13]);(try rw[a6]);(try rw[a7]);(try rw[a8]);(try rw[a9]);(try rw[a10]);kernel_rfl
theorem lk2(w:World)(os:OsState):openSeen q [] (importedModules pwL.main.body) Xt true (SF w os)=openGood q []:=by
 (try rw[a11]);(try rw[a12]);(try rw[a13]);(try rw[a6]);(try rw[a7]);(try rw[a8]);(try rw[a9]);(try rw[a10]);kernel_rfl
theorem lk3(w:World)(os:OsState):PySem.W.X.obsZ as (SF w os)=PySem.W.X.valZ K 425 763 w:=by
 (try rw[a11]);(try rw[a12]);(try rw[a13]);(try rw[a6]);(try rw[a7]);(try rw[a8]);(try rw[a9]);(try rw[a10]);kernel_rfl
theorem imports:opening pwL=plainProg pwL.main.scope.names:=by kernel_rfl
theorem left:LeftO pwL q [] Xt (PySem.W.X.obsZ as) (PySem.W.X.valZ K 425 763) 5720:=
 LeftO.of_pieces (boot_open imports (by rfl) (fun s=>by kernel_rfl)) size run (by rfl) fun w=>funext fun os=>looks_pair (lk1 w os) (looks_pair (lk2 w os) (lk3 w os))
end
end H
end K36
open PySem PySem.W PyProof.Rows
set_option maxRecDepth 100000 in
set_option maxHeartbeats 0 in
theorem PySem.Challenge.cw_nextbyrule_k36_whole_mixes_by_mixes_holds : PySem.Challenge.rw_nextbyrule_k36_whole_mixes_by_mixes.Holds := by
 change K36.rwL.Holds
 w_on;o_law;rename_i said
 refine holds_openX (d:=?d) (kwd:=?kwd) K36.H.left (fun s h=>xl_of s (Bool.and_eq_true_iff.mp h).1) XL.keeps (by rfl) (by rfl) (by rfl) (fun s h=>recFacts_of (Bool.and_eq_true_iff.mp h).2) (by rfl) said (by decide +kernel) ⟨rfl,rfl,rfl,rfl,rfl,by decide +kernel⟩ ?hw ?hc;case hw=>w_witness2
 k_fill
 refine L2.Js (fun _=>by kernel_rfl) ?_;refine L2.Gm [("_law_sums" : Str),"_law_every","law"] (l:=K36.rwL) (n:=63) (k:=K36.aaA) (x:= "_law_script") (CX:=fun w=>L2.lJ K36.rwL.prog w) (sp:=fun _ T=>K36.HC _ T) rfl (by decide) rfl ⟨rfl,by decide,by decide⟩ (fun w h Y=>Y) (by kernel_rfl) (fun _=>by kernel_rfl) (fun _=>by kernel_rfl) ?F (fun w T H a ns hl hb hT hA hS=>⟨a,ns,rfl,hS,hl,hb,hT,hA,fun _=>rfl⟩) (fun _ _ _ _ _ z=>L2.rZ z);case F=>
  intro w mg fa h KX G hmg
  refine' K36.all_mk KX G hmg ?F0 ?F1 ?F2 ?F3 ?F4 ?F5 ?F6 ?F7 ?F8 ?F9 ?F10 ?F11 ?F12 ?F13 ?F14 ?F15 ?F16 ?F17 ?F18 ?F19 ?F20 ?F21 ?F22 ?F23 ?F24 ?F25 ?F26 ?F27 ?F28 ?F29 ?F30 ?F31 ?F32 ?F33 ?F34 ?F35 ?F36 ?F37 ?F38 ?F39 ?F40 ?F41 ?F42 ?F43 ?F44 ?F45 ?F46 ?F47 ?F48 ?F49 ?F50 ?F51 ?F52 ?F53 ?FL ?O2 ?M6 ?E7 ?ML ?PY ?BL ?Oe ?Ar ?cY ?dM ?ni ?fU ?pN ?uF ?gJ ?gY ?qL ?rQ ?qU ?rz ?qZ ?rO ?eO ?dj
  (case F0|F1|F2|F3|F4|F5|F6|F7|F8|F9|F10|F11|F12|F13|F14|F15|F16|F17|F18|F19|F20|F21|F22|F23|F24|F25|F26|F27|F28|F29|F30|F31|F32|F33|F34|F35|F36|F37|F38|F39|F40|F41|F42|F43|F44|F45|F46|F47|F48|F49|F50|F51|F52|F53|FL=>(refine' L2.PN ?a ?l ?c ?k;(case a|l|c|k=>k_is)))
  (case O2|M6|E7|ML|PY|BL|Oe|Ar|pN|qL|rQ|qU|rz|qZ=>k_is)
  (case cY|dM|ni|fU=>exact⟨_,by k_is⟩)
  (case uF=>k_exc)
  (case gJ|gY|rO=>kernel_rfl)
  (case eO|dj=>kit_is)
