import PyProof.Rows.All
import Wide.All
import OpenK.AllK
import Wide.FinOn
import Lean
import PyProof.EqAt
import PyProof.EqKinds
import PyProof.TupleCall
import PySem.Challenge.RW_nextbyrule_k40_whole_far_by_far
local macro_rules | `(tactic| omega)=>`(tactic| lia)
set_option Elab.async false
set_option linter.all false
set_option maxRecDepth 100000
noncomputable section
namespace L2
open PySem PySem.Spec PyProof.Rows
abbrev Key:=Sum Int Str
def Lr:Key->Value->Bool
 |.inl k,v=>Value.isInt k v
 |.inr x,v=>Value.isStrOf x v
def WR(w:World):Key->Int
 |.inl k=>hashInt k
 |.inr x=>hashStr w x
theorem cP:∀{k:Key} {v:Value},Lr k v=true->(∃i t,k=Sum.inl i/\v=Value.int i t)∨(∃x t,k=Sum.inr x/\v=Value.str x t)
 |.inl i,v,h=>by
  obtain⟨t,e⟩:=Value.isInt_shape (k:=i) (v:=v) h;exact .inl ⟨i,t,rfl,e⟩
 |.inr x,v,h=>by
  obtain⟨t,e⟩:=Value.isStrOf_shape (x:=x) (v:=v) h;exact .inr ⟨x,t,rfl,e⟩
theorem Ob(a b:Int):decide ((Sum.inl a:Key)=Sum.inl b)=(a==b):=by
 by_cases e:a=b
 ·subst e;simp
 ·have h:¬(Sum.inl a:Key)=Sum.inl b:=fun q=>e (Sum.inl.inj q);rw[decide_eq_false h];exact(beq_eq_false_iff_ne.mpr e).symm
theorem LR(a b:Str):decide ((Sum.inr a:Key)=Sum.inr b)=decide (a=b):=by
 by_cases e:a=b
 ·subst e;simp
 ·have h:¬(Sum.inr a:Key)=Sum.inr b:=fun q=>e (Sum.inr.inj q);rw[decide_eq_false h,decide_eq_false e]
theorem NP(a:Int)(b:Str):decide ((Sum.inl a:Key)=Sum.inr b)=false:=decide_eq_false (fun q=>nomatch q)
theorem M4(a:Str)(b:Int):decide ((Sum.inr a:Key)=Sum.inl b)=false:=decide_eq_false (fun q=>nomatch q)
def oY(prog:Program)(w:World):PySem.KeyKind prog w Key where
 is:=Lr
 hash:=WR w
 inj:=fun v a b ha hb=>by
  rcases cP ha with⟨i,t,rfl,rfl⟩|⟨x,t,rfl,rfl⟩
  ·rcases cP hb with⟨j,u,rfl,e⟩|⟨y,u,rfl,e⟩
   ·injection e with e1 _;rw[e1]
   ·exact nomatch e
  ·rcases cP hb with⟨j,u,rfl,e⟩|⟨y,u,rfl,e⟩
   ·exact nomatch e
   ·injection e with e1 _;rw[e1]
 byValue:=fun k v h=>by
  rcases cP h with⟨i,t,rfl,rfl⟩|⟨x,t,rfl,rfl⟩<;>rfl
 pyHash:=fun hv h=>by
  rcases cP hv with⟨i,t,rfl,rfl⟩|⟨x,t,rfl,rfl⟩
  ·exact wpAny_pyHash_int h
  ·exact wpAny_pyHash_str h
 eqBool:=fun hu hv h=>by
  rcases cP hu with⟨i,t,rfl,rfl⟩|⟨x,t,rfl,rfl⟩
  ·rcases cP hv with⟨j,u,rfl,rfl⟩|⟨y,u,rfl,rfl⟩
   ·rw[Ob]at h;exact wpAny_eqBool_int h
   ·rw[NP]at h;exact SeqAt.EqAt.int_str i t y u _ _ _ _ h
  ·rcases cP hv with⟨j,u,rfl,rfl⟩|⟨y,u,rfl,rfl⟩
   ·rw[M4]at h;exact SeqAt.EqAt.str_int x t j u _ _ _ _ h
   ·rw[LR]at h;exact wpAny_eqBool_str h
 «strs»:=fun k x t v h=>by
  rcases cP h with⟨i,u,rfl,e⟩|⟨y,u,rfl,e⟩
  ·exact nomatch e
  ·injection e with e1 _;subst e1;cases v<;>rfl
inductive V where
 |non|bl (b:Bool)|int (i:Int)|str (x:Str)|byt (b:Array UInt8)|flt (b:UInt64)|ref (a:Addr)|ty (n:String)
 deriving DecidableEq
def RelV:V->Value->Prop
 |.non,u=>u=Value.none
 |.bl b,u=>u=Value.bool b
 |.int i,u=>∃t,u=Value.int i t
 |.str x,u=>∃t,u=Value.str x t
 |.byt b,u=>∃t,u=Value.bytes b t
 |.flt b,u=>∃t,u=Value.float b t
 |.ref a,u=>u=Value.ref a
 |.ty n,u=>u=Value.type n
abbrev Vals:List V->List Value->Prop:=Paired RelV
theorem Vals.length{xs:List V}{us:List Value}(r:Vals xs us):xs.length=us.length:=Paired.length r
theorem Vals.get:∀{xs:List V} {us:List Value} {i:Nat} {x:V},Vals xs us->xs[i]?=some x->∃u,us[i]?=some u/\RelV x u
 |_,_,_,_,.nil,e=>by simp at e
 |_,_,0,_,.cons r _,e=>by simp at e;subst e;exact⟨_,rfl,r⟩
 |_,_,i+1,x,.cons _ t,e=>by
  obtain⟨u,h1,h2⟩:=Vals.get (i:=i) (x:=x) t (by simpa using e);exact⟨u,by simpa using h1,h2⟩
theorem Vals.set{x:V}{u:Value}(r:RelV x u):∀{xs:List V} {us:List Value} (i:Nat),Vals xs us->Vals (xs.set i x) (us.set i u)
 |_,_,_,.nil=> .nil
 |_,_,0,.cons _ t=> .cons r t
 |_,_,i+1,.cons q t=> .cons q (Vals.set r i t)
theorem Vals.append:∀{xs ys:List V} {us ws:List Value},Vals xs us->Vals ys ws->Vals (xs++ys) (us++ws)
 |_,_,_,_,.nil,s=>s
 |_,_,_,_,.cons r t,s=> .cons r (Vals.append t s)
theorem Vals.take:∀{xs:List V} {us:List Value} (n:Nat),Vals xs us->Vals (xs.take n) (us.take n)
 |_,_,0,_=> .nil
 |_,_,_+1,.nil=> .nil
 |_,_,n+1,.cons r t=> .cons r (Vals.take n t)
theorem Vals.drop:∀{xs:List V} {us:List Value} (n:Nat),Vals xs us->Vals (xs.drop n) (us.drop n)
 |_,_,0,r=>r
 |_,_,_+1,.nil=> .nil
 |_,_,n+1,.cons _ t=>Vals.drop n t
def FD:Option V->Option Value->Prop
 |some v,some u=>RelV v u
 |none,none=>True
 |_,_=>False
def KV{κ:Type}:List (κ×V)->List (κ×Value)->Prop:=Paired fun(p:κ×V) (q:κ×Value)=>p.1=q.1/\RelV p.2 q.2
def kV:Key->V
 |.inl i=> .int i
 |.inr x=> .str x
inductive HO where
 /-- a list -/
 |lst (xs:List V)
 /-- a tuple (never changes) -/
 |tup (xs:List V)
 /-- a dict whose keys are ints and texts;one whose keys are tuples of ints and texts (the empty one is both) -/
 |dK (kvs:List (Key×V))|dT (kvs:List (List Key×V))
 /-- a set of ints: its members,its size -/
 |set (S:Int->Bool) (n:Nat)
 /-- an instance of the class at C,its dict at dx,its attributes -/
 |ins (C dx:Addr) (fs:List (Str×V))
 /-- the dict of the instance at x -/
 |own (x:Addr)
 /-- the dict of an exception -/
 |xd (fs:List (Str×V))
 /-- a bound method,f of x -/
 |met (f x:Addr)
 /-- a range object lo,lo+1,.. below hi -/
 |rng (lo hi:Int)
 /-- a thing that is known to the object (the script;a dict while a loop walks it): read,never written while it is so -/
 |frz (o:Obj) (u:HO)
 /-- a code object's table -/
 |tbl (ps:Array Value)
 /-- any other thing,by what is true of its one object (a def of WB own: XH a S n:=HO.ext fun h=> ..) -/
 |ext (φ:Heap->Prop)
abbrev Hp:=Addr->Option HO
def upd(H:Hp)(a:Addr)(o:HO):Hp:=fun b=>if b=a then some o else H b
theorem aB{H:Hp}{a:Addr}{o:HO}:upd H a o a=some o:=by unfold upd;rw[if_pos rfl]
theorem eG{H:Hp}{a b:Addr}{o:HO}(h:b≠a):upd H a o b=H b:=by unfold upd;rw[if_neg h]
theorem JM{H:Hp}{a:Addr}{o u:HO}:upd (upd H a o) a u=upd H a u:=by
 funext b;unfold upd;split<;>rfl
theorem dU{H:Hp}{a b:Addr}{o:HO}(h:H a=some o)(h':H b=none):a≠b:=by
 intro e;subst e;rw[h]at h';cases h'
section
variable (P:Program) (w:World)
def nj(H:Hp)(h:Heap)(a:Addr):HO->Prop
 |.lst xs=>xs.length<=sizeLine/\∃(its:List Value) (n:Nat),Vals xs its/\h.get? a=some { cls:= .type "list",data:= .seq its.toArray n }
 |.tup xs=>xs.length<=sizeLine/\∃its:List Value,Vals xs its/\IsTup h a its.toArray
 |.dK kvs=>kvs.length<=sizeLine/\(a==sysModules)=false/\∃vs,KV kvs vs/\h.DictOf (oY P w) a vs
 |.dT kvs=>kvs.length<=sizeLine/\(a==sysModules)=false/\∃xs:List (List Key×Addr×Value),
   Paired (fun(p:List Key×V) (q:List Key×Addr×Value)=>p.1=q.1/\H q.2.1=some (.tup (p.1.map kV))/\RelV p.2 q.2.2) kvs xs/\
   ∃o es ep,h.get? a=some o/\o.ExactDict/\o.data = .dict es ep/\es.toList=xs.map (entryOfKey (tupleKind (oY P w)))/\(xs.map (·.1)).Nodup
 |.set S n=>h.SetOf (intKind P w) a S n
 |.ins C dx fs=>H dx=some (.own a)/\fs.length<=1000/\dx≠a/\h.get? a=some (W.instObj C dx)/\
   ∃mA,h.Ns1 dx mA/\(∀f,FD (fs.lookup f) (mA f))/\PySem.Within mA (fs.map (·.1))
 |.own _=>∃o,h.get? a=some o
 |.xd fs=>∃mA,h.Ns1 a mA/\∀f,FD (fs.lookup f) (mA f)
 |.rng lo hi=>∃t u v,h.get? a=some { cls:= .type "range",data:= .fields #[.int lo t,.int hi u,.int 1 v] }
 |.frz o u=>h.get? a=some o/\nj H h a u
 |.tbl ps=>h.get? a=some { cls:= .none,data:= .fields ps }
 |.met f x=>h.get? a=some (W.methodObj (.ref f) (.ref x))
 |.ext φ=>φ h/\(∃o,h.get? a=some o)/\∀h1 h2:Heap,φ h1->(∀o,h1.get? a=some o->h2.get? a=some o)->φ h2
def HOk(H:Hp)(h:Heap):Prop:=∀a o,H a=some o->nj P w H h a o
end
section
variable {P:Program} {w:World} {H H':Hp} {h h':Heap} {a:Addr} {o:HO}
theorem nj.lt(x:nj P w H h a o):a<h.objs.size:=by
 cases o with
 |lst xs=>obtain⟨_,_,_,_,e⟩:=x;exact Heap.lt_size e
 |tup xs=>obtain⟨_,_,_,p⟩:=x;exact p.lt
 |dK kvs=>obtain⟨_,_,_,_,o,_,_,e,_⟩:=x;exact Heap.lt_size e
 |dT kvs=>obtain⟨_,_,_,_,o,_,_,e,_⟩:=x;exact Heap.lt_size e
 |set S n=>obtain⟨o,_,_,_,e,_⟩:=x;exact Heap.lt_size e
 |ins C dx fs=>obtain⟨_,_,_,e,_⟩:=x;exact Heap.lt_size e
 |own y=>obtain⟨_,e⟩:=x;exact Heap.lt_size e
 |xd fs=>obtain⟨_,⟨_,_,_,e,_⟩,_⟩:=x;exact Heap.lt_size e
 |rng lo hi=>obtain⟨_,_,_,e⟩:=x;exact Heap.lt_size e
 |frz ob u=>obtain⟨e,_⟩:=x;exact Heap.lt_size e
 |tbl ps=>exact Heap.lt_size (show h.get? a=some _ from x)
 |met f y=>exact Heap.lt_size (show h.get? a=some _ from x)
 |ext φ=>obtain⟨_,⟨_,e⟩,_⟩:=x;exact Heap.lt_size e
theorem Paired.V2{α β:Type}{F G:α->β->Prop}:∀{l₁:List α} {l₂:List β},Paired F l₁ l₂->(∀a b,F a b->G a b)->Paired G l₁ l₂
 |_,_,.nil,_=> .nil
 |_,_,.cons r t,f=> .cons (f _ _ r) (Paired.V2 t f)
theorem nj.stay(x:nj P w H h a o)(k:∀b u,(b=a∨H b=some (.own a))->h.get? b=some u->h'.get? b=some u)
  (ho:∀b,H b=some (.own a)->H' b=some (.own a)) (ht:∀b xs,H b=some (.tup xs)->H' b=some (.tup xs)):nj P w H' h' a o:=by
 induction o with
 |lst xs=>obtain⟨z,its,n,r,e⟩:=x;exact⟨z,its,n,r,k _ _ (.inl rfl) e⟩
 |tup xs=>obtain⟨z,its,r,ob,e,c⟩:=x;exact⟨z,its,r,ob,k _ _ (.inl rfl) e,c⟩
 |dK kvs=>obtain⟨z,y,vs,r,ob,es,ep,e,c⟩:=x;exact⟨z,y,vs,r,ob,es,ep,k _ _ (.inl rfl) e,c⟩
 |dT kvs=>
  obtain⟨z,y,xs,r,ob,es,ep,e,c⟩:=x;exact⟨z,y,xs,Paired.V2 r fun p q z=>⟨z.1,ht _ _ z.2.1,z.2.2⟩,ob,es,ep,k _ _ (.inl rfl) e,c⟩
 |set S n=>obtain⟨ob,es,ep,t,e,c⟩:=x;exact⟨ob,es,ep,t,k _ _ (.inl rfl) e,c⟩
 |ins C dx fs=>
  obtain⟨d,z,ne,e,mA,⟨od,es,ep,e2,c⟩,r⟩:=x;exact⟨ho _ d,z,ne,k _ _ (.inl rfl) e,mA,⟨od,es,ep,k _ _ (.inr d) e2,c⟩,r⟩
 |own y=>obtain⟨ob,e⟩:=x;exact⟨ob,k _ _ (.inl rfl) e⟩
 |xd fs=>obtain⟨mA,⟨od,es,ep,e,c⟩,r⟩:=x;exact⟨mA,⟨od,es,ep,k _ _ (.inl rfl) e,c⟩,r⟩
 |rng lo hi=>obtain⟨t,u,v,e⟩:=x;exact⟨t,u,v,k _ _ (.inl rfl) e⟩
 |frz ob u ih=>obtain⟨e,q⟩:=x;exact⟨k _ _ (.inl rfl) e,ih q⟩
 |tbl ps=>
  have e:h.get? a=some { cls:= .none,data:= .fields ps }:=x;show h'.get? a=some { cls:= .none,data:= .fields ps };exact k a _ (.inl rfl) e
 |met f y=>
  have e:h.get? a=some (W.methodObj (.ref f) (.ref y)):=x;show h'.get? a=some (W.methodObj (.ref f) (.ref y));exact k a _ (.inl rfl) e
 |ext φ=>obtain⟨p,⟨o,e⟩,st⟩:=x;exact⟨st _ _ p fun o q=>k _ _ (.inl rfl) q,⟨o,k _ _ (.inl rfl) e⟩,st⟩
theorem HOk.lt(x:HOk P w H h)(e:H a=some o):a<h.objs.size:=(x a o e).lt
theorem HOk.fresh(x:HOk P w H h)(e:h.objs.size<=a):H a=none:=by
 cases q:H a with
 |none=>rfl
 |some u=>exact absurd (Nat.lt_of_lt_of_le (x.lt q) e) (Nat.lt_irrefl _)
theorem HOk.kept(x:HOk P w H h)(k:∀b u,h.get? b=some u->h'.get? b=some u):HOk P w H h':=fun a o e=>
 (x a o e).stay (fun b u _ q=>k b u q) (fun _ q=>q) fun _ _ q=>q
theorem HOk.laid(x:HOk P w H h)(k:∀b u,h.get? b=some u->h'.get? b=some u)(hp:h.objs.size<=a)(new:nj P w (upd H a o) h' a o):HOk P w (upd H a o) h':=fun b u e=>by
 have hn:=x.fresh hp;by_cases hb:b=a
 ·subst hb;rw[aB]at e;cases e;exact new
 ·rw[eG hb]at e;exact(x b u e).stay (fun c v _ q=>k c v q) (fun c q=>by rw[eG (dU q hn)];exact q) fun c xs q=>by rw[eG (dU q hn)];exact q
end
def Rd(H:Hp)(a:Addr)(u:HO):Prop:=H a=some u∨∃o,H a=some (.frz o u)
theorem Rd.ok{P:Program}{w:World}{H:Hp}{h:Heap}{a:Addr}{u:HO}(r:Rd H a u)(x:HOk P w H h):nj P w H h a u:=by
 rcases r with r|⟨o,r⟩
 ·exact x a u r
 ·obtain⟨_,q⟩:=x a _ r;exact q
def Mut:Option HO->Prop
 |some (.lst _)=>True
 |some (.dK _)=>True
 |some (.dT _)=>True
 |some (.set _ _)=>True
 |some (.ins _ _ _)=>True
 |some (.ext _)=>True
 |_=>False
section
variable {P:Program} {w:World} {H:Hp} {h h':Heap} {x e:Addr} {o':HO}
theorem HOk.write(ok:HOk P w H h)(mu:Mut (H x))(he:e=x∨H e=some (.own x))(k:∀b u,b≠e->h.get? b=some u->h'.get? b=some u)(heo:∃u,h'.get? e=some u)
  (new:nj P w (upd H x o') h' x o'):HOk P w (upd H x o') h':=fun b u q=>by
 have Vs:∀c y,H c=some (.own y)->c≠x:=fun c y r z=>by subst z;rw[r]at mu;exact mu
 have W3:∀c xs,H c=some (.tup xs)->c≠x:=fun c xs r z=>by subst z;rw[r]at mu;exact mu
 by_cases hb:b=x
 ·subst hb;rw[aB]at q;cases q;exact new
 ·rw[eG hb]at q;by_cases hbe:b=e
  ·have q':H b=some (.own x):=by
    rcases he with z|z
    ·exact absurd (hbe.trans z) hb
    ·rw[hbe];exact z
   rw[q]at q';cases q';obtain⟨v,hv⟩:=heo;exact⟨v,by rw[hbe];exact hv⟩
  ·refine(ok b u q).stay (fun c v hc r=>k c v ?_ r) (fun c r=>by rw[eG (Vs c b r)];exact r) fun c xs r=>by rw[eG (W3 c xs r)];exact r
   rcases hc with rfl|hc
   ·exact hbe
   ·rintro rfl;rcases he with z|z
    ·exact Vs c b hc z
    ·rw[hc]at z;cases z;exact hb rfl
end
structure Un(fs ex:List Addr)(H H':Hp)(h h':Heap):Prop where
 keep:∀b o,h.get? b=some o->H b=none->b∉fs->b∉ex->h'.get? b=some o
 slot:∀b o,h.get? b=some o->H b=none->b∈fs->b∉ex->∃sl,h'.get? b=some { o with slots:=sl }
 free:∀b o,h.get? b=some o->H b=none->b∉ex->H' b=none
 there:∀b o,h.get? b=some o->b∉ex->∃o',h'.get? b=some o'
 tups:∀b xs,H b=some (.tup xs)->H' b=some (.tup xs)
 Gn:∀b o u,H b=some (.frz o u)->H' b=some (.frz o u)
 Ht:∀b ps,H b=some (.tbl ps)->∃more,H' b=some (.tbl (ps++more))
section
variable {fs fs' ex ex':List Addr} {H H1 H2:Hp} {h h1 h2 h':Heap} {a x e:Addr} {o:HO}
theorem Un.any(u:Un fs ex H H1 h h1){b:Addr}{ob:Obj}(q:h.get? b=some ob)(n:H b=none)(hx:b∉ex):∃sl,h1.get? b=some { ob with slots:=sl }:=by
 by_cases hb:b∈fs
 ·exact u.slot b ob q n hb hx
 ·exact⟨ob.slots,u.keep b ob q n hb hx⟩
theorem Un.kept(k:∀b u,h.get? b=some u->h'.get? b=some u):Un fs ex H H h h':=
 ⟨fun b ob q _ _ _=>k b ob q,fun b ob q _ _ _=>⟨ob.slots,k b ob q⟩,fun _ _ _ n _=>n,fun b ob q _=>⟨ob,k b ob q⟩,fun _ _ q=>q,fun _ _ _ q=>q,fun _ ps q=>⟨#[],by rw[q];simp⟩⟩
theorem Un.refl:Un fs ex H H h h:=Un.kept fun _ _ q=>q
theorem Un.laid(k:∀b u,h.get? b=some u->h'.get? b=some u)(hp:h.objs.size<=a)(hn:H a=none):Un fs ex H (upd H a o) h h' where
 keep:=fun b u q _ _ _=>k b u q
 slot:=fun b u q _ _ _=>⟨u.slots,k b u q⟩
 free:=fun b u q n _=>by rw[eG (Nat.ne_of_lt (Nat.lt_of_lt_of_le (Heap.lt_size q) hp))];exact n
 there:=fun b u q _=>⟨u,k b u q⟩
 tups:=fun b xs q=>by rw[eG (dU q hn)];exact q
 Gn:=fun b u xs q=>by rw[eG (dU q hn)];exact q
 Ht:=fun b ps q=>⟨#[],by rw[eG (dU q hn),q];simp⟩
theorem Un.write(mu:Mut (H x))(he:e=x∨H e=some (.own x))(k:∀b u,b≠e->h.get? b=some u->h'.get? b=some u)(heo:∃u,h'.get? e=some u):Un fs ex H (upd H x o) h h':=by
 have hx:∀b,H b=none->b≠x:=fun b n z=>by subst z;rw[n]at mu;exact mu
 have hb:∀b,H b=none->b≠e:=fun b n z=>by
  subst z;rcases he with r|r
  ·exact hx b n r
  ·rw[n]at r;cases r
 have hm:∀b u,H b=some u->¬Mut (some u)->b≠x:=fun b u q nm z=>by subst z;rw[q]at mu;exact nm mu
 refine⟨fun b u q n _ _=>k b u (hb b n) q,fun b u q n _ _=>⟨u.slots,k b u (hb b n) q⟩,fun b u q n _=>by rw[eG (hx b n)];exact n,fun b u q _=>?_,
  fun b xs q=>by rw[eG (hm b _ q fun z=>z)];exact q,fun b u xs q=>by rw[eG (hm b _ q fun z=>z)];exact q,fun b ps q=>⟨#[],by rw[eG (hm b _ q fun z=>z),q];simp⟩⟩
 by_cases hbe:b=e
 ·subst hbe;exact heo
 ·exact⟨u,k b u hbe q⟩
end
def trk(h:Heap)(H:Hp):List Addr:=(List.range h.objs.size).filter fun a=>(H a).isSome
def Gg(h:Heap)(H:Hp):Heap:=W.hideAll h (trk h H)
theorem Cz(h:Heap)(H:Hp):(Gg h H).objs.size=h.objs.size:=W.hideAll_size _ _
theorem G8{h:Heap}{H:Hp}{b:Addr}{o:Obj}(e:h.get? b=some o)(n:H b=none):(Gg h H).get? b=some o:=
 W.hideAll_get _ e fun hm=>by
  have q:(H b).isSome=true:=(List.mem_filter.mp hm).2;rw[n]at q;simp at q
theorem IX{h:Heap}{H:Hp}{b:Addr}{o:Obj}(e:(Gg h H).get? b=some o):h.get? b=some o/\H b=none:=by
 have e':h.get? b=some o:=W.of_hideAll (trk h H) e;refine⟨e',?_⟩;cases q:H b with
 |none=>rfl
 |some x=>
  have hm:b∈trk h H:=List.mem_filter.mpr ⟨List.mem_range.mpr (Heap.lt_size e'),by simp[q]⟩;have z:(Gg h H).get? b=none:=W.hideAll_none (trk h H) hm;rw[z]at e;cases e
structure Mod(K:W.Frag)(mg:Str->Option Value)(base:Heap):Prop where
 kin:K.In base
 glob:base.Ns mainGlobals mg
 blt:∃mb,base.Ns builtinsNs mb/\∀x:Str,x≠ "__name__" -> mb x=bootBuiltins x
 nolimit:base.NoLimit
 digits:base.NoDigits
structure Cx where
 prog:Program
 w:World
 K:W.Frag
 mg:Str->Option Value
 base:Heap
 A:Around
 N:List Str
 s₀:Shared
 H₀:Hp
 env:Env
 outer:List Env
 stack:List Env
 ex:List Addr
 fn:Str->Bool
 calm:Bool
 pn:List (Addr×Obj)
 xe:Value->Shared->Prop
def frs(l:List Env):List Addr:=l.filterMap (·.frame)
abbrev Cx.fs(X:Cx):List Addr:=frs X.outer
def Vis(sc:Scope)(x:Str):Prop:=sc.names.lookup x=some .local∨sc.names.lookup x=some .cell∨sc.names.lookup x=some .free
def Loc(sc:Scope)(x:Str):Prop:=sc.names.lookup x=some .local∨sc.names.lookup x=some .cell
def Look(env:Env)(h:Heap)(m:Str->Option Value)(x:Str)(u:Value):Prop:=
 (env.kindOf x=some .local/\m x=some u)∨((env.kindOf x=some .cell∨env.kindOf x=some .free)/\∃c,env.cells.lookup x=some c/\h.IsCell c (some u))
structure Cx.Ok(X:Cx):Prop where
 mod:Mod X.K X.mg X.base
 kind:X.env.scope.kind = .function
 glob:X.env.globals=mainGlobals
 blt:X.env.builtins=builtinsNs
 above:X.s₀.heap.objs.size<=X.env.locals
 inj:∀x y c,X.env.cells.lookup x=some c->X.env.cells.lookup y=some c->x=y
 has:∀x,(X.env.kindOf x=some .cell∨X.env.kindOf x=some .free)->∃c,X.env.cells.lookup x=some c
 cab:∀x c,X.fn x=true->X.env.cells.lookup x=some c->X.s₀.heap.objs.size<=c
 hd:X.calm=true->X.A.handled=none
 frames:X.A.frames=some X.stack
 stk:X.stack=X.outer∨(X.stack=X.env::X.outer/\X.env.frame=some X.env.locals)
 exf:∀b∈X.ex,b≠X.env.locals/\∀x c,X.env.cells.lookup x=some c->c≠b
 bs:∀b o,X.base.get? b=some o->X.s₀.heap.get? b=some o/\X.H₀ b=none
 bsz:X.base.objs.size<=X.s₀.heap.objs.size
 Ls:∀b o,X.base.get? b=some o->b∉X.ex
 Nh:∀b∈X.ex,b∉X.fs
 B6:X.s₀.heap.FunFrames X.base X.outer
 frf:∀b∈X.fs,X.H₀ b=none
structure Inv(X:Cx)(pins:List (Addr×Obj))(σ:List (Option V))(H:Hp)(s:Shared):Prop where
 ok:X.Ok
 os:s.os=X.s₀.os
 bare:AllBare s.gens
 base:Un X.fs X.ex X.H₀ H X.s₀.heap s.heap
 loc:∃m,s.heap.Ns X.env.locals m/\∀(i:Nat) (x:Str) (v:V),X.N[i]?=some x->σ[i]?=some (some v)->Vis X.env.scope x->∃u,RelV v u/\Look X.env s.heap m x u
 cell:∀x c,X.env.cells.lookup x=some c->∃v,s.heap.IsCell c v
 free:H X.env.locals=none
 su:∀x c,X.env.cells.lookup x=some c->H c=none
 pin:∀p∈X.pn++pins,s.heap.get? p.1=some p.2/\H p.1=none/\p.1≠X.env.locals/\p.1∉X.fs/\∀v,p.2.data≠ .cell v
 hok:HOk X.prog X.w H s.heap
 len:σ.length=X.N.length
section
variable {X:Cx} {pins:List (Addr×Obj)} {σ:List (Option V)} {H H':Hp} {s:Shared} {h':Heap}
theorem Cx.Ok.Wo(ok:X.Ok){b:Addr}{o:Obj}(e:X.base.get? b=some o):b∉X.fs:=fun hb=>by
 have:=(ok.B6.mem hb).1;rw[e]at this;cases this
theorem Inv.bs(I:Inv X pins σ H s):∀b o,X.base.get? b=some o->s.heap.get? b=some o/\H b=none:=fun b o e=>
 ⟨I.base.keep b o (I.ok.bs b o e).1 (I.ok.bs b o e).2 (I.ok.Wo e) (I.ok.Ls b o e),I.base.free b o (I.ok.bs b o e).1 (I.ok.bs b o e).2 (I.ok.Ls b o e)⟩
theorem Inv.bk(I:Inv X pins σ H s):∀b o,X.base.get? b=some o->s.heap.get? b=some o:=fun b o e=>(I.bs b o e).1
theorem Inv.mod(I:Inv X pins σ H s):Mod X.K X.mg X.base:=I.ok.mod
theorem Inv.kIn(I:Inv X pins σ H s):X.K.In s.heap:=I.ok.mod.kin.keeps I.bk
theorem Inv.lt(I:Inv X pins σ H s):X.env.locals<s.heap.objs.size:=let⟨_,hn,_⟩:=I.loc;hn.lt
theorem Inv.sz(I:Inv X pins σ H s):X.s₀.heap.objs.size<=s.heap.objs.size:=Nat.le_trans I.ok.above (Nat.le_of_lt I.lt)
theorem Inv.WV(I:Inv X pins σ H s){a:Addr}(h:s.heap.objs.size<=a):a∉X.fs:=fun hb=>by
 obtain⟨_,o,ho,_⟩:=I.ok.B6.mem hb;exact absurd (Nat.lt_of_lt_of_le (Heap.lt_size ho) (Nat.le_trans I.sz h)) (Nat.lt_irrefl _)
theorem Inv.cne(I:Inv X pins σ H s):∀x c,X.env.cells.lookup x=some c->c≠X.env.locals:=fun x c e z=>by
 obtain⟨v,o,ho,hd⟩:=I.cell x c e;obtain⟨m,⟨o',es,ep,ho',hd',_⟩,_⟩:=I.loc;rw[z,ho']at ho;cases ho;rw[hd']at hd;cases hd
theorem Inv.B6(I:Inv X pins σ H s):s.heap.FunFrames X.base X.outer:=by
 have all:∀(l:List Env),(∀b∈frs l,b∈X.fs)->X.s₀.heap.FunFrames X.base l->s.heap.FunFrames X.base l:=by
  intro l;induction l with
  |nil=>intro _ _;trivial
  |cons env r ih=>
   intro hs hl;obtain⟨hk,⟨L,o,hf,hn,ho,hd⟩,hr⟩:=hl;have hL:L∈X.fs:=hs L (by unfold frs;rw[List.filterMap_cons,hf];exact List.mem_cons_self);obtain⟨sl,e⟩:=I.base.slot L o ho (I.ok.frf L hL) hL fun z=>I.ok.Nh L z hL;exact⟨hk,⟨L,_,hf,hn,e,hd⟩,ih (fun b hb=>hs b (by unfold frs;rw[List.filterMap_cons,hf];exact List.mem_cons_of_mem _ hb)) hr⟩
 exact all X.outer (fun _ hb=>hb) I.ok.B6
theorem Inv.stack(I:Inv X pins σ H s):s.heap.FunFrames X.base X.stack:=by
 rcases I.ok.stk with e|⟨e,hf⟩
 ·rw[e];exact I.B6
 ·rw[e];obtain⟨m,hn,_⟩:=I.loc;refine .cons (by rw[I.ok.kind];decide) hf hn ?_ I.B6;exact Heap.get?_none_of_le (Nat.le_trans I.ok.bsz I.ok.above)
theorem Inv.D9(I:Inv X pins σ H s):∀b∈frs X.stack,b∈X.env.locals::X.fs:=fun b hb=>by
 rcases I.ok.stk with e|⟨e,hf⟩
 ·rw[e]at hb;exact List.mem_cons_of_mem _ hb
 ·rw[e]at hb;unfold frs at hb;rw[List.filterMap_cons,hf]at hb;exact hb
theorem Inv.El(I:Inv X pins σ H s):∀b∈frs X.stack,H b=none:=fun b hb=>by
 rcases List.mem_cons.mp (I.D9 b hb)with e|hb
 ·rw[e];exact I.free
 ·obtain⟨_,o,ho,_⟩:=I.ok.B6.mem hb;exact I.base.free b o ho (I.ok.frf b hb) fun z=>I.ok.Nh b z hb
theorem Inv.step{g':Array GenState}{t':Nat}{d':Drawn}{ch:List Addr}(I:Inv X pins σ H s)
  (hch:∀b∈ch,(b∈X.ex∨X.s₀.heap.objs.size<=b)/\b≠X.env.locals/\(∀x c,X.env.cells.lookup x=some c->c≠b)/\∀p∈X.pn++pins,p.1≠b)
  (keep:∀b o,b≠X.env.locals->b∉X.fs->b∉ch->s.heap.get? b=some o->H b=none->h'.get? b=some o)
  (slot:∀b o,b≠X.env.locals->b∈X.fs->b∉ch->s.heap.get? b=some o->H b=none->∃sl,h'.get? b=some { o with slots:=sl }) (free:∀b o,b∉ch->s.heap.get? b=some o->H b=none->H' b=none)
  (there:∀b o,b∉ch->s.heap.get? b=some o->∃o',h'.get? b=some o')
  (tups:∀b xs,H b=some (.tup xs)->H' b=some (.tup xs)) (Gn:∀b o u,H b=some (.frz o u)->H' b=some (.frz o u)) (Ht:∀b ps,H b=some (.tbl ps)->∃more,H' b=some (.tbl (ps++more)))
  (ns:∀m,s.heap.Ns X.env.locals m->h'.Ns X.env.locals m) (hok:HOk X.prog X.w H' h') (hg:AllBare g'):
  Inv X pins σ H' { s with heap:=h',gens:=g',drawn:=d',toks:=t' }:=by
 have neL:∀b o,X.s₀.heap.get? b=some o->b≠X.env.locals:=fun b o e=>Nat.ne_of_lt (Nat.lt_of_lt_of_le (Heap.lt_size e) I.ok.above);have neC:∀b o,X.s₀.heap.get? b=some o->b∉X.ex->b∉ch:=fun b o e hx hb=>by
  rcases(hch b hb).1 with z|z
  ·exact hx z
  ·exact absurd (Nat.lt_of_lt_of_le (Heap.lt_size e) z) (Nat.lt_irrefl _)
 have cellK:∀x c,X.env.cells.lookup x=some c->∀v,s.heap.IsCell c v->h'.IsCell c v:=fun x c e v ⟨o,ho,hd⟩=>by
  have nch:c∉ch:=fun z=>(hch c z).2.2.1 x c e rfl;by_cases hc:c∈X.fs
  ·obtain⟨sl,q⟩:=slot c o (I.cne x c e) hc nch ho (I.su x c e);exact⟨_,q,hd⟩
  ·exact⟨o,keep c o (I.cne x c e) hc nch ho (I.su x c e),hd⟩
 refine⟨I.ok,I.os,hg,⟨fun b o e n hb hx=>?_,fun b o e n hb hx=>?_,fun b o e n hx=>?_,fun b o e hx=>?_,fun b xs e=>tups b xs (I.base.tups b xs e),fun b o xs e=>Gn b o xs (I.base.Gn b o xs e),fun b ps e=>?_⟩,?_,fun x c e=>?_,?_,fun x c e=>?_,fun p hp=>?_,hok,I.len⟩
 ·exact keep b o (neL b o e) hb (neC b o e hx) (I.base.keep b o e n hb hx) (I.base.free b o e n hx)
 ·obtain⟨sl,e1⟩:=I.base.slot b o e n hb hx;obtain⟨sl',e2⟩:=slot b _ (neL b o e) hb (neC b o e hx) e1 (I.base.free b o e n hx);exact⟨sl',e2⟩
 ·obtain⟨o',e1⟩:=I.base.there b o e hx;exact free b o' (neC b o e hx) e1 (I.base.free b o e n hx)
 ·obtain⟨o',e1⟩:=I.base.there b o e hx;exact there b o' (neC b o e hx) e1
 ·obtain⟨m1,e1⟩:=I.base.Ht b ps e;obtain⟨m2,e2⟩:=Ht b _ e1;exact⟨m1++m2,by rw[e2,Array.append_assoc]⟩
 ·obtain⟨m,hn,hl⟩:=I.loc;refine⟨m,ns m hn,fun i x v e1 e2 e3=>?_⟩;obtain⟨u,r,l⟩:=hl i x v e1 e2 e3;refine⟨u,r,?_⟩;rcases l with l|⟨k,c,e,z⟩
  ·exact .inl l
  ·exact .inr ⟨k,c,e,cellK x c e _ z⟩
 ·obtain⟨v,z⟩:=I.cell x c e;exact⟨v,cellK x c e v z⟩
 ·obtain⟨m,⟨o,_,_,ho,_⟩,_⟩:=I.loc;exact free _ o (fun z=>(hch _ z).2.1 rfl) ho I.free
 ·obtain⟨v,o,ho,hd⟩:=I.cell x c e;exact free c o (fun z=>(hch c z).2.2.1 x c e rfl) ho (I.su x c e)
 ·obtain⟨e,n,ne,nf,d⟩:=I.pin p hp;have nch:p.1∉ch:=fun z=>(hch p.1 z).2.2.2 p hp rfl;exact⟨keep p.1 p.2 ne nf nch e n,free p.1 p.2 nch e n,ne,nf,d⟩
theorem Inv.un{t':Nat}(I:Inv X pins σ H s)(u:Un X.fs [] H H' s.heap h')(hok:HOk X.prog X.w H' h'):Inv X pins σ H' { s with heap:=h',toks:=t' }:=by
 obtain⟨m,⟨o,es,ep,ho,r⟩,_⟩:=id I.loc;obtain⟨sl,hL⟩:=u.any ho I.free (by simp);exact I.step (g':=s.gens) (d':=s.drawn) (ch:=[]) (fun _ z=>nomatch z) (fun b o _ hb _ e n=>u.keep b o e n hb (by simp)) (fun b o _ hb _ e n=>u.slot b o e n hb (by simp)) (fun b o _ e n=>u.free b o e n (by simp)) (fun b o _ e=>u.there b o e (by simp)) u.tups u.Gn u.Ht (fun m' hm=>by
  obtain⟨o',es',ep',ho',r'⟩:=hm;rw[ho]at ho';cases ho';exact⟨_,es',ep',hL,r'⟩) hok I.bare
theorem Inv.call{g':Array GenState}{t':Nat}{d':Drawn}{ch:List Addr}(I:Inv X pins σ H s)(u:Un (frs X.stack) ch H H' s.heap h')(hok:HOk X.prog X.w H' h')(hg:AllBare g')
  (hch:∀b∈ch,(b∈X.ex∨X.s₀.heap.objs.size<=b)/\b≠X.env.locals/\(∀x c,X.env.cells.lookup x=some c->c≠b)/\∀p∈X.pn++pins,p.1≠b):
  Inv X pins σ H' { s with heap:=h',gens:=g',drawn:=d',toks:=t' }:=by
 obtain⟨m,⟨o,es,ep,ho,r⟩,_⟩:=id I.loc;obtain⟨sl,hL⟩:=u.any ho I.free fun z=>(hch _ z).2.1 rfl;exact I.step (ch:=ch) hch (fun b o hL hb hc e n=>u.keep b o e n (fun z=>(List.mem_cons.mp (I.D9 b z)).elim hL hb) hc) (fun b o _ _ hc e n=>u.any e n hc) (fun b o hc e n=>u.free b o e n hc) (fun b o hc e=>u.there b o e hc) u.tups u.Gn u.Ht (fun m' hm=>by
  obtain⟨o',es',ep',ho',r'⟩:=hm;rw[ho]at ho';cases ho';exact⟨_,es',ep',hL,r'⟩) hok hg
theorem Inv.turned{t':Nat}{it:Addr}(I:Inv X pins σ H s)(k:∀b o,b≠it->s.heap.get? b=some o->h'.get? b=some o)(hn:H it=none)(hL:it≠X.env.locals)
  (h1:it∈X.ex∨X.s₀.heap.objs.size<=it) (h2:∀x c,X.env.cells.lookup x=some c->c≠it) (h3:∀p∈X.pn++pins,p.1≠it):Inv X pins σ H { s with heap:=h',toks:=t' }:=by
 have nit:∀b u,H b=some u->b≠it:=fun b u e z=>by rw[z,hn]at e;cases e
 refine I.step (g':=s.gens) (d':=s.drawn) (ch:=[it]) (fun b hb=>?_) (fun b o _ _ hc e _=>k b o (fun z=>hc (by simp[z])) e) (fun b o _ _ hc e _=>⟨o.slots,k b o (fun z=>hc (by simp[z])) e⟩) (fun _ _ _ _ n=>n)
  (fun b o hc e=>⟨o,k b o (fun z=>hc (by simp[z])) e⟩) (fun _ _ e=>e) (fun _ _ _ e=>e) (fun b ps e=>⟨#[],by rw[e];simp⟩) (fun m hm=>?_) (fun b u e=>?_) I.bare
 ·have e:b=it:=by simpa using hb
  subst e;exact⟨h1,hL,h2,h3⟩
 ·obtain⟨o,es,ep,ho,r⟩:=hm;exact⟨o,es,ep,k _ o (Ne.symm hL) ho,r⟩
 ·refine(I.hok b u e).stay (fun c v hc q=>k c v ?_ q) (fun _ q=>q) fun _ _ q=>q;rcases hc with z|z
  ·rw[z];exact nit b u e
  ·exact nit c _ z
theorem Inv.tok(I:Inv X pins σ H s)(t:Nat):Inv X pins σ H { s with toks:=t }:=I.un (h':=s.heap) (t':=t) Un.refl I.hok
theorem Inv.kept{t':Nat}(I:Inv X pins σ H s)(k:∀b u,s.heap.get? b=some u->h'.get? b=some u):Inv X pins σ H { s with heap:=h',toks:=t' }:=I.un (Un.kept k) (I.hok.kept k)
theorem Inv.laid{a:Addr}{o:HO}{t':Nat}(I:Inv X pins σ H s)(k:∀b u,s.heap.get? b=some u->h'.get? b=some u)(hp:s.heap.objs.size<=a)(new:nj X.prog X.w (upd H a o) h' a o):
  Inv X pins σ (upd H a o) { s with heap:=h',toks:=t' }:=I.un (Un.laid k hp (I.hok.fresh hp)) (I.hok.laid k hp new)
theorem Inv.write{x e:Addr}{o:HO}{t':Nat}(I:Inv X pins σ H s)(mu:Mut (H x))(he:e=x∨H e=some (.own x))(k:∀b u,b≠e->s.heap.get? b=some u->h'.get? b=some u)(heo:∃u,h'.get? e=some u)
  (new:nj X.prog X.w (upd H x o) h' x o):Inv X pins σ (upd H x o) { s with heap:=h',toks:=t' }:=I.un (Un.write mu he k heo) (I.hok.write mu he k heo new)
theorem Inv.CW{MQ:List (Addr×Obj)}(I:Inv X pins σ H s)(h:∀p∈MQ,s.heap.get? p.1=some p.2/\H p.1=none/\p.1≠X.env.locals/\p.1∉X.fs/\∀v,p.2.data≠ .cell v):Inv X MQ σ H s:=
 ⟨I.ok,I.os,I.bare,I.base,I.loc,I.cell,I.free,I.su,fun p hp=>(List.mem_append.mp hp).elim (fun z=>I.pin p (List.mem_append_left _ z)) (h p),I.hok,I.len⟩
theorem Ac{N:List Str}(hN:N.Nodup){i j:Nat}{x:Str}(a:N[i]?=some x)(b:N[j]?=some x):i=j:=by
 obtain⟨h1,e1⟩:=List.getElem?_eq_some_iff.mp a;obtain⟨h2,e2⟩:=List.getElem?_eq_some_iff.mp b;exact(List.getElem_inj hN).mp (e1.trans e2.symm)
theorem C4{M:Model}{A:Around}{E:Value->Shared->Prop}{i:Nat}{x:Str}{v:V}{u:Value}{Q:Unit->Shared->Prop}(I:Inv X pins σ H s)(hN:X.N.Nodup)(hi:X.N[i]?=some x)(hx:Loc X.env.scope x)(r:RelV v u)
  (h:∀s',Inv X pins (σ.set i (some v)) H s'->(∃a,Heap.SameBut a s.heap s'.heap/\(a=X.env.locals∨X.env.cells.lookup x=some a))->Q () s') (hf:X.fn x=true∨X.env.scope.names.lookup x=some .local:=by first|exact .inl rfl|exact .inr rfl|assumption):wpAny M A (storeName X.env x u) Q E s:=by
 obtain⟨m,hn,hl⟩:=id I.loc;have hcls:(X.env.scope.kind== .class||(X.env.scope.kind== .module&&X.env.locals != X.env.globals))=false:=by rw[I.ok.kind];rfl
 have hiσ:i < σ.length:=by rw[I.len];exact(List.getElem?_eq_some_iff.mp hi).1
 have cne:=I.cne;have tracked:∀{a:Addr} {h':Heap},(∃o,s.heap.get? a=some o/\H a=none)->Heap.SameBut a s.heap h'->HOk X.prog X.w H h':=fun {a h'} ha hs b ob e=>by
  obtain⟨_,_,hfree⟩:=ha;refine(I.hok b ob e).stay (fun c w' hc q=>(hs.2 c ?_).trans q) (fun _ q=>q) fun _ _ q=>q;rintro rfl;rcases hc with rfl|hc
  ·rw[hfree]at e;cases e
  ·rw[hfree]at hc;cases hc
 rcases hx with hk|hk
 ·refine wpAny_storeName_local hk hn (fun h' hn' hs=>?_) hcls;obtain⟨oL,_,_,hoL,_⟩:=id hn;refine h _ ⟨I.ok,I.os,I.bare,⟨fun b o e n hb hx=>?_,fun b o e n hb hx=>?_,I.base.free,fun b o e hx=>?_,I.base.tups,I.base.Gn,I.base.Ht⟩,⟨_,hn',fun j y v' e1 e2 e3=>?_⟩,fun y c e=>?_,I.free,I.su,fun p hp=>?_,tracked ⟨oL,hoL,I.free⟩ hs,by simpa using I.len⟩ ⟨_,hs,.inl rfl⟩
  ·exact(hs.2 b (Nat.ne_of_lt (Nat.lt_of_lt_of_le (Heap.lt_size e) I.ok.above))).trans (I.base.keep b o e n hb hx)
  ·obtain⟨sl,e1⟩:=I.base.slot b o e n hb hx;exact⟨sl,(hs.2 b (Nat.ne_of_lt (Nat.lt_of_lt_of_le (Heap.lt_size e) I.ok.above))).trans e1⟩
  ·obtain⟨o',e1⟩:=I.base.there b o e hx;exact⟨o',(hs.2 b (Nat.ne_of_lt (Nat.lt_of_lt_of_le (Heap.lt_size e) I.ok.above))).trans e1⟩
  ·by_cases hj:j=i
   ·subst hj;rw[hi]at e1;cases e1;rw[List.getElem?_set_self hiσ]at e2;cases e2;exact⟨u,r,.inl ⟨hk,by simp⟩⟩
   ·rw[List.getElem?_set_ne (Ne.symm hj)]at e2;obtain⟨u',r',q⟩:=hl j y v' e1 e2 e3;refine⟨u',r',?_⟩;rcases q with⟨k,e⟩|⟨k,c,e,z⟩
    ·refine .inl ⟨k,?_⟩;have:y≠x:=fun e=>hj (Ac hN e1 (e▸hi));simp[this,e]
    ·exact .inr ⟨k,c,e,z.sameBut hs (cne y c e)⟩
  ·obtain⟨w',z⟩:=I.cell y c e;exact⟨w',z.sameBut hs (cne y c e)⟩
  ·obtain⟨e,n,ne,nf,d⟩:=I.pin p hp;exact⟨(hs.2 p.1 ne).trans e,n,ne,nf,d⟩
 ·have hfn:X.fn x=true:=by
   rcases hf with z|z
   ·exact z
   ·rw[z]at hk;cases hk
  obtain⟨c,hc⟩:=I.ok.has x (.inl hk);obtain⟨w',z⟩:=I.cell x c hc;refine wpAny_storeName_cell I.ok.kind hk hc z (fun h' hc' hs=>?_);obtain⟨oc,hoc,Xg⟩:=id z;refine h { s with heap:=h' } ⟨I.ok,I.os,I.bare,⟨fun b o e n hb hx=>?_,fun b o e n hb hx=>?_,I.base.free,fun b o e hx=>?_,I.base.tups,I.base.Gn,I.base.Ht⟩,⟨m,hn.sameBut hs (Ne.symm (cne x c hc)),fun j y v' e1 e2 e3=>?_⟩,fun y c' e=>?_,I.free,I.su,fun p hp=>?_,tracked ⟨oc,hoc,I.su x c hc⟩ hs,by simpa using I.len⟩ ⟨c,hs,.inr hc⟩
  ·exact(hs.2 b (Nat.ne_of_lt (Nat.lt_of_lt_of_le (Heap.lt_size e) (I.ok.cab x c hfn hc)))).trans (I.base.keep b o e n hb hx)
  ·obtain⟨sl,e1⟩:=I.base.slot b o e n hb hx;exact⟨sl,(hs.2 b (Nat.ne_of_lt (Nat.lt_of_lt_of_le (Heap.lt_size e) (I.ok.cab x c hfn hc)))).trans e1⟩
  ·obtain⟨o',e1⟩:=I.base.there b o e hx;exact⟨o',(hs.2 b (Nat.ne_of_lt (Nat.lt_of_lt_of_le (Heap.lt_size e) (I.ok.cab x c hfn hc)))).trans e1⟩
  ·by_cases hj:j=i
   ·subst hj;rw[hi]at e1;cases e1;rw[List.getElem?_set_self hiσ]at e2;cases e2;exact⟨u,r,.inr ⟨.inl hk,c,hc,hc'⟩⟩
   ·rw[List.getElem?_set_ne (Ne.symm hj)]at e2;obtain⟨u',r',q⟩:=hl j y v' e1 e2 e3;refine⟨u',r',?_⟩;rcases q with q|⟨k,c',e,z'⟩
    ·exact .inl q
    ·refine .inr ⟨k,c',e,z'.sameBut hs ?_⟩;rintro rfl;exact hj (Ac hN e1 (I.ok.inj _ _ _ e hc▸hi))
  ·by_cases hcc:c'=c
   ·subst hcc;exact⟨_,hc'⟩
   ·obtain⟨w2,z2⟩:=I.cell y c' e;exact⟨w2,z2.sameBut hs hcc⟩
  ·obtain⟨e,n,ne,nf,d⟩:=I.pin p hp;refine⟨(hs.2 p.1 ?_).trans e,n,ne,nf,d⟩;intro q;rw[q,hoc]at e;have q':oc=p.2:=Option.some.inj e;exact d w' (by rw[<-q'];exact Xg)
theorem ux{M:Model}{A:Around}{E:Value->Shared->Prop}{i:Nat}{x:Str}{v:V}{u:Value}{Q:Unit->Shared->Prop}(I:Inv X pins σ H s)(hN:X.N.Nodup)(hi:X.N[i]?=some x)(hx:Loc X.env.scope x)(r:RelV v u)
  (h:∀s',Inv X pins (σ.set i (some v)) H s'->Q () s') (hf:X.fn x=true∨X.env.scope.names.lookup x=some .local:=by first|exact .inl rfl|exact .inr rfl|assumption):wpAny M A (storeName X.env x u) Q E s:=
 C4 I hN hi hx r (fun s' I' _=>h s' I') hf
theorem Inv.O3{s':Shared}{ch:List Addr}(I:Inv X pins σ H s)(ho:s'.os=s.os)(u:Un (frs X.stack) ch H H' s.heap s'.heap)(hok:HOk X.prog X.w H' s'.heap)(hg:AllBare s'.gens)
  (hch:∀b∈ch,(b∈X.ex∨X.s₀.heap.objs.size<=b)/\b≠X.env.locals/\(∀x c,X.env.cells.lookup x=some c->c≠b)/\∀p∈X.pn++pins,p.1≠b):Inv X pins σ H' s':=by
 obtain⟨h',g',d',t',o'⟩:=s';have e:o'=s.os:=ho;subst e;exact I.call (g':=g') (t':=t') (d':=d') u hok hg hch
end
abbrev XK:=Value->Option Addr->Hp->Prop
abbrev St:=List (Option V)
abbrev VK:=V->Hp->Prop
abbrev TE:=St->Hp->VK->Prop
abbrev TT:=St->Hp->(Bool->Hp->Prop)->Prop
abbrev TA:=St->Hp->(List V->Hp->Prop)->Prop
structure Ends where
 nx:St->Hp->Prop
 rt:VK
 bk:St->Hp->Prop:=fun _ _=>False
 ct:St->Hp->Prop:=fun _ _=>False
abbrev TS:=Ends->St->Hp->Prop
def EP(X:Cx)(pins:List (Addr×Obj))(σ:St)(Q:VK)(u:Value)(s':Shared):Prop:=∃v H',Inv X pins σ H' s'/\RelV v u/\Q v H'
def TP(X:Cx)(pins:List (Addr×Obj))(σ:St)(Q:Bool->Hp->Prop)(b:Bool)(s':Shared):Prop:=∃H',Inv X pins σ H' s'/\Q b H'
def AP(X:Cx)(pins:List (Addr×Obj))(σ:St)(Q:List V->Hp->Prop)(us:List Value)(s':Shared):Prop:=∃vs H',Inv X pins σ H' s'/\Vals vs us/\Q vs H'
def SP(X:Cx)(pins:List (Addr×Obj))(D:Ends)(f:Flow)(s':Shared):Prop:=
 match f with
 |.next=>∃σ' H',Inv X pins σ' H' s'/\D.nx σ' H'
 |.brk=>∃σ' H',Inv X pins σ' H' s'/\D.bk σ' H'
 |.cont=>∃σ' H',Inv X pins σ' H' s'/\D.ct σ' H'
 |.ret u=>∃v σ' H',Inv X pins σ' H' s'/\RelV v u/\D.rt v H'
def PE(X:Cx)(e:Expr)(t:TE):Prop:=
 ∀(pins:List (Addr×Obj)) (s:Shared) (σ:St) (H:Hp) (Q:VK),Inv X pins σ H s->t σ H Q->wpAny (model X.prog X.w) X.A (eval e X.env) (EP X pins σ Q) X.xe s
def PT(X:Cx)(e:Expr)(t:TT):Prop:=
 ∀(pins:List (Addr×Obj)) (s:Shared) (σ:St) (H:Hp) (Q:Bool->Hp->Prop),Inv X pins σ H s->t σ H Q->wpAny (model X.prog X.w) X.A (isTrue e X.env (eval e X.env)) (TP X pins σ Q) X.xe s
def PW(X:Cx)(e:Expr)(t:TT):Prop:=
 ∀(whole:Sem Value) (pins:List (Addr×Obj)) (s:Shared) (σ:St) (H:Hp) (Q:Bool->Hp->Prop),Inv X pins σ H s->t σ H Q->wpAny (model X.prog X.w) X.A (isTrue e X.env whole) (TP X pins σ Q) X.xe s
theorem PW.pt{X:Cx}{e:Expr}{t:TT}(h:PW X e t):PT X e t:=h _
def PA(X:Cx)(es:List Expr)(t:TA):Prop:=
 ∀(pos:Pos) (pins:List (Addr×Obj)) (s:Shared) (σ:St) (H:Hp) (Q:List V->Hp->Prop),Inv X pins σ H s->t σ H Q->wpAny (model X.prog X.w) X.A (spliced (backTo pos (starEach es X.env))) (AP X pins σ Q) X.xe s
def PS(X:Cx)(st:Stmt)(t:TS):Prop:=
 ∀(pins:List (Addr×Obj)) (s:Shared) (σ:St) (H:Hp) (D:Ends),Inv X pins σ H s->t D σ H->wpAny (model X.prog X.w) X.A (exec st X.env) (SP X pins D) X.xe s
def PSs(X:Cx)(st:List Stmt)(t:TS):Prop:=
 ∀(pins:List (Addr×Obj)) (s:Shared) (σ:St) (H:Hp) (D:Ends),Inv X pins σ H s->t D σ H->wpAny (model X.prog X.w) X.A (execs st X.env) (SP X pins D) X.xe s
theorem thn{α:Type}{t:Sem α}{Q Q':α->Shared->Prop}{M:Model}{A:Around}{E:Value->Shared->Prop}{s:Shared}(h:wpAny M A t Q E s)(hQ:∀a s,Q a s->Q' a s):wpAny M A t Q' E s:=wpAny_mono h hQ fun _ _ x=>x
section
variable {X:Cx}
inductive Xz(i:Nat)(σ:St)(H:Hp)(Q:VK):Prop|mk (v:V) (h:σ[i]?=some (some v)) (q:Q v H)
def Vy(i:Nat):TE:=fun σ H Q=>Xz i σ H Q
def tC(v:V):TE:=fun _ H Q=>Q v H
theorem N6{i:Nat}{x:Str}{pos:Pos}(hN:X.N[i]?=some x)(hv:Vis X.env.scope x)(hd:(x==("__debug__" : Str))=false:=by decide)(hcd:(x==("__classdict__" : Str))=false:=by decide):PE X (.Name x pos) (Vy i):=by
 intro pins s σ H Q I h;obtain⟨v,e,h⟩:=h;obtain⟨m,hn,hl⟩:=I.loc;obtain⟨u,r,l⟩:=hl i x v hN e hv;have fin:EP X pins σ Q u s:=⟨v,H,I,r,h⟩;rcases l with⟨hk,hm⟩|⟨hk,c,hc,hcell⟩
 ·exact wpAny_Name (wpAny_loadName_local I.ok.kind hk hn hm fin) hd
 ·rcases hk with hk|hk
  ·exact wpAny_Name (wpAny_loadName_cell I.ok.kind hk hc hcell fin) hd
  ·exact wpAny_Name (wpAny_loadName_free I.ok.kind hk hc hcell fin hcd) hd
theorem aq{i j pos}:PE X (.Constant (.int i) j pos) (tC (.int i)):=fun _ _ _ H _ I h=>wpAny_Constant_int ⟨.int i,H,I.tok _,⟨_,rfl⟩,h⟩
theorem yq{b j pos}:PE X (.Constant (.bool b) j pos) (tC (.bl b)):=fun _ _ _ H _ I h=>Constant_bool ⟨.bl b,H,I,rfl,h⟩
def Gl(X:Cx)(x:Str):Prop:=X.env.kindOf x=some .globalImplicit
theorem DX{E:Value->Shared->Prop}{pins:List (Addr×Obj)}{s:Shared}{σ:St}{H:Hp}{x:Str}{u:Value}{pos:Pos}{Q:Value->Shared->Prop}(I:Inv X pins σ H s)(hg:Gl X x)(hm:X.mg x=some u)(h:Q u s)
  (hd:(x==("__debug__" : Str))=false:=by decide):wpAny (model X.prog X.w) X.A (eval (.Name x pos) X.env) Q E s:=
 Calls.Name_function_global I.ok.kind hg (Calls.loadGlobal_global (by rw[I.ok.glob];exact I.mod.glob.keeps I.bk) hm h) hd
theorem wB{E:Value->Shared->Prop}{pins:List (Addr×Obj)}{s:Shared}{σ:St}{H:Hp}{x:Str}{u:Value}{pos:Pos}{Q:Value->Shared->Prop}(I:Inv X pins σ H s)(hg:Gl X x)(hm:X.mg x=none)(hv:bootBuiltins x=some u)(h:Q u s)
  (hn:x≠ "__name__" := by decide) (hd:(x==("__debug__" : Str))=false:=by decide):wpAny (model X.prog X.w) X.A (eval (.Name x pos) X.env) Q E s:=by
 obtain⟨mb,h1,h2⟩:=I.mod.blt;exact Calls.Name_function_global I.ok.kind hg (Calls.loadGlobal_builtin (by rw[I.ok.glob];exact I.mod.glob.keeps I.bk) hm (by rw[I.ok.blt];exact h1.keeps I.bk) ((h2 x hn).trans hv) h) hd
theorem Jl{x:Str}{v:V}{u:Value}{pos:Pos}(hg:Gl X x)(hm:X.mg x=some u)(r:RelV v u)(hd:(x==("__debug__" : Str))=false:=by decide):PE X (.Name x pos) (tC v):=
 fun _ _ _ H _ I h=>DX I hg hm ⟨v,H,I,r,h⟩ hd
variable {a b:Expr} {ta tb:TE} {pos:Pos}
def tB(t:TE):TT:=fun σ H Q=>t σ H fun x H1=>∃c,x = .bl c/\Q c H1
theorem vg{e:Expr}{t:TE}(h:PE X e t)(he:∀whole,isTrue e X.env whole=(do let v<-whole;standAt e.pos;holding [v] (truthy v)):=by intro _;rfl):PT X e (tB t):=by
 intro pins s σ H Q I hw;refine isTrue_plain (thn (h pins s σ H _ I hw) fun v s1 ⟨x,H1,I1,r1,q1⟩=>?_) (he _);obtain⟨d,rfl,q⟩:=q1;cases r1;exact wpAny_truthy_bool ⟨H1,I1,q⟩
variable {tA tB':TT} {rest:List Expr}
def Wx(t u:TT):TT:=fun σ H Q=>t σ H fun c H1=>if c=true then u σ H1 Q else Q false H1
def tOr(t u:TT):TT:=fun σ H Q=>t σ H fun c H1=>if c=true then Q true H1 else u σ H1 Q
def Ww(t:TT):TT:=fun σ H Q=>t σ H fun c H1=>Q (!c) H1
theorem rH(ha:PT X a tA):PW X (.BoolOp .And [a] pos) tA:=by
 intro wh pins s σ H Q I h;refine isTrue_and (thn (ha pins s σ H Q I h) fun c s1 e=>?_);cases c with
 |true=>exact isTrue_and_nil e
 |false=>exact e
theorem wQ(ha:PT X a tA):PW X (.BoolOp .Or [a] pos) tA:=by
 intro wh pins s σ H Q I h;refine isTrue_or (thn (ha pins s σ H Q I h) fun c s1 e=>?_);cases c with
 |false=>exact isTrue_or_nil e
 |true=>exact e
theorem wR(ha:PT X a tA)(hb:PW X (.BoolOp .And (b::rest) pos) tB'):PW X (.BoolOp .And (a::b::rest) pos) (Wx tA tB'):=by
 intro wh pins s σ H Q I h;refine isTrue_and (thn (ha pins s σ H _ I h) fun c s1 ⟨H1,I1,q1⟩=>?_);cases c with
 |true=>exact hb wh pins s1 σ H1 Q I1 q1
 |false=>exact⟨H1,I1,q1⟩
theorem wF(ha:PT X a tA)(hb:PW X (.BoolOp .Or (b::rest) pos) tB'):PW X (.BoolOp .Or (a::b::rest) pos) (tOr tA tB'):=by
 intro wh pins s σ H Q I h;refine isTrue_or (thn (ha pins s σ H _ I h) fun c s1 ⟨H1,I1,q1⟩=>?_);cases c with
 |true=>exact⟨H1,I1,q1⟩
 |false=>exact hb wh pins s1 σ H1 Q I1 q1
theorem vQ(ha:PT X a tA):PT X (.UnaryOp .Not a pos) (Ww tA):=by
 intro pins s σ H Q I h;exact isTrue_not (ha pins s σ H (fun c H1=>Q (!c) H1) I h)
def UJ(ta tb:TE):TE:=fun σ H Q=>ta σ H fun x H1=>∃c,x = .bl c/\if c=true then tb σ H1 Q else Q (.bl false) H1
def WL(ta tb:TE):TE:=fun σ H Q=>ta σ H fun x H1=>∃c,x = .bl c/\if c=true then Q (.bl true) H1 else tb σ H1 Q
theorem Hs{op}{t:TE}(h:PE X a t):PE X (.BoolOp op [a] pos) t:=fun pins s σ H Q I hw=>BoolOp_one (h pins s σ H Q I hw)
theorem MJ(ha:PE X a ta)(hb:PE X (.BoolOp .And (b::rest) pos) tb):PE X (.BoolOp .And (a::b::rest) pos) (UJ ta tb):=by
 intro pins s σ H Q I h;refine BoolOp_and (thn (ha pins s σ H _ I h) fun v s1 ⟨x,H1,I1,r1,q1⟩=>?_);obtain⟨c,rfl,q1⟩:=q1;cases r1;refine wpAny_truthy_bool ?_;cases c with
 |true=>exact hb pins s1 σ H1 Q I1 q1
 |false=>exact⟨.bl false,H1,I1,rfl,q1⟩
theorem Ri(ha:PE X a ta)(hb:PE X (.BoolOp .Or (b::rest) pos) tb):PE X (.BoolOp .Or (a::b::rest) pos) (WL ta tb):=by
 intro pins s σ H Q I h;refine BoolOp_or (thn (ha pins s σ H _ I h) fun v s1 ⟨x,H1,I1,r1,q1⟩=>?_);obtain⟨c,rfl,q1⟩:=q1;cases r1;refine wpAny_truthy_bool ?_;cases c with
 |false=>exact hb pins s1 σ H1 Q I1 q1
 |true=>exact⟨.bl true,H1,I1,rfl,q1⟩
def tIf(t:TT)(ta tb:TE):TE:=fun σ H Q=>t σ H fun c H1=>if c=true then ta σ H1 Q else tb σ H1 Q
theorem qu{c:Expr}(hc:PT X c tA)(ha:PE X a ta)(hb:PE X b tb):PE X (.IfExp c a b pos) (tIf tA ta tb):=by
 intro pins s σ H Q I h;refine wpAny_IfExp (thn (hc pins s σ H _ I h) fun d s1 ⟨H1,I1,q1⟩=>?_);cases d with
 |true=>exact ha pins s1 σ H1 Q I1 q1
 |false=>exact hb pins s1 σ H1 Q I1 q1
end
def SqL(K:W.Frag)(H:Hp)(a:Addr)(xs:List V):Prop:=
 Rd H a (.lst xs)∨
  ∃(o:Obj) (its:Array Value) (n:Nat),K.lookup a=some o/\o.cls = .type "list" /\ o.dict=none/\o.data = .seq its n/\its.size<=sizeLine/\Vals xs its.toList
def SqT(K:W.Frag)(H:Hp)(a:Addr)(xs:List V):Prop:=
 Rd H a (.tup xs)∨
  ∃(o:Obj) (its:Array Value) (n:Nat),K.lookup a=some o/\o.cls = .type "tuple" /\ o.data = .seq its n/\its.size<=sizeLine/\Vals xs its.toList
def Wu:Value->Option V
 |.none=>some .non
 |.bool b=>some (.bl b)
 |.int i _=>some (.int i)
 |.str x _=>some (.str x)
 |.bytes b _=>some (.byt b)
 |.float b _=>some (.flt b)
 |.ref a=>some (.ref a)
 |.type n=>some (.ty n)
 |_=>none
theorem RelV.abs{x:V}{u:Value}(r:RelV x u):Wu u=some x:=by
 cases x with
 |non=>cases r;rfl
 |bl _=>cases r;rfl
 |int _=>obtain⟨t,rfl⟩:=r;rfl
 |str _=>obtain⟨t,rfl⟩:=r;rfl
 |byt _=>obtain⟨t,rfl⟩:=r;rfl
 |flt _=>obtain⟨t,rfl⟩:=r;rfl
 |ref _=>cases r;rfl
 |ty _=>cases r;rfl
theorem RelV.inj{x y:V}{u:Value}(r:RelV x u)(q:RelV y u):x=y:=Option.some.inj (r.abs.symm.trans q.abs)
theorem Vals.inj{xs ys:List V}{us:List Value}(h:Vals xs us)(h':Vals ys us):xs=ys:=by
 induction h generalizing ys with
 |nil=>cases h';rfl
 |cons r t ih=>
  cases h' with
  |cons r' t'=>rw[r.inj r',ih t']
section
variable {X:Cx} {pins:List (Addr×Obj)} {σ:St} {H:Hp} {s:Shared} {a:Addr} {xs ys:List V}
theorem SqL.of{K:W.Frag}(h:H a=some (.lst xs)):SqL K H a xs:= .inl (.inl h)
theorem SqT.of{K:W.Frag}(h:H a=some (.tup xs)):SqT K H a xs:= .inl (.inl h)
theorem Inv.list(I:Inv X pins σ H s)(h:SqL X.K H a xs):∃its:List Value,Vals xs its/\PlainL s.heap a its.toArray/\xs.length<=sizeLine:=by
 rcases h with h|⟨o,its,n,hk,hc,hd,hs,hz,r⟩
 ·obtain⟨z,its,n,r,e⟩:=h.ok I.hok;exact⟨its,r,⟨_,n,e,rfl,rfl,rfl⟩,z⟩
 ·refine⟨its.toList,r,⟨o,n,I.kIn a o hk,hc,hd,by simpa using hs⟩,?_⟩;have e:=r.length;simp only[Array.length_toList]at e;omega
theorem Inv.tuple(I:Inv X pins σ H s)(h:SqT X.K H a xs):∃its:List Value,Vals xs its/\IsTup s.heap a its.toArray/\xs.length<=sizeLine:=by
 rcases h with h|⟨o,its,n,hk,hc,hs,hz,r⟩
 ·obtain⟨z,its,r,p⟩:=h.ok I.hok;exact⟨its,r,p,z⟩
 ·refine⟨its.toList,r,⟨o,I.kIn a o hk,hc,n,by simpa using hs⟩,?_⟩;have e:=r.length;simp only[Array.length_toList]at e;omega
theorem Inv.Gw(I:Inv X pins σ H s)(h:SqL X.K H a xs)(h':SqL X.K H a ys):xs=ys:=by
 obtain⟨its,r,⟨o,n,e,_,_,d⟩,_⟩:=I.list h;obtain⟨its',r',⟨o',n',e',_,_,d'⟩,_⟩:=I.list h';rw[e]at e';cases e';rw[d]at d';injection d' with d1 _;have:its=its':=by simpa using congrArg Array.toList d1
 subst this;exact r.inj r'
theorem Inv.Ey(I:Inv X pins σ H s)(h:SqT X.K H a xs)(h':SqT X.K H a ys):xs=ys:=by
 obtain⟨its,r,⟨o,e,_,n,d⟩,_⟩:=I.tuple h;obtain⟨its',r',⟨o',e',_,n',d'⟩,_⟩:=I.tuple h';rw[e]at e';cases e';rw[d]at d';injection d' with d1 _;have:its=its':=by simpa using congrArg Array.toList d1
 subst this;exact r.inj r'
end
abbrev Cx.wish(X:Cx)(E:Value->Shared->Prop):Cx:={ X with xe:=E }
abbrev Cx.nox(X:Cx):Cx:=X.wish fun _ _=>False
theorem Cx.Ok.wish{X:Cx}(ok:X.Ok)(E:Value->Shared->Prop):(X.wish E).Ok:=
 ⟨ok.mod,ok.kind,ok.glob,ok.blt,ok.above,ok.inj,ok.has,ok.cab,ok.hd,ok.frames,ok.stk,ok.exf,ok.bs,ok.bsz,ok.Ls,ok.Nh,ok.B6,ok.frf⟩
theorem Cx.Ok.pQ{X:Cx}{E:Value->Shared->Prop}(ok:(X.wish E).Ok):X.Ok:=
 ⟨ok.mod,ok.kind,ok.glob,ok.blt,ok.above,ok.inj,ok.has,ok.cab,ok.hd,ok.frames,ok.stk,ok.exf,ok.bs,ok.bsz,ok.Ls,ok.Nh,ok.B6,ok.frf⟩
section
variable {X:Cx} {pins:List (Addr×Obj)} {σ:St} {H:Hp} {s:Shared} {E:Value->Shared->Prop}
theorem Inv.wish(I:Inv X pins σ H s)(E:Value->Shared->Prop):Inv (X.wish E) pins σ H s:=⟨I.ok.wish E,I.os,I.bare,I.base,I.loc,I.cell,I.free,I.su,I.pin,I.hok,I.len⟩
theorem Inv.pQ(I:Inv (X.wish E) pins σ H s):Inv X pins σ H s:=⟨I.ok.pQ,I.os,I.bare,I.base,I.loc,I.cell,I.free,I.su,I.pin,I.hok,I.len⟩
theorem SP.pQ{D:Ends}{f:Flow}{s':Shared}(h:SP (X.wish E) pins D f s'):SP X pins D f s':=by
 cases f with
 |next=>obtain⟨σ',H',I,q⟩:=h;exact⟨σ',H',I.pQ,q⟩
 |brk=>obtain⟨σ',H',I,q⟩:=h;exact⟨σ',H',I.pQ,q⟩
 |cont=>obtain⟨σ',H',I,q⟩:=h;exact⟨σ',H',I.pQ,q⟩
 |ret u=>obtain⟨v,σ',H',I,r,q⟩:=h;exact⟨v,σ',H',I.pQ,r,q⟩
theorem PSs.nox{st:List Stmt}{t:TS}(h:PSs X.nox st t):PSs X st t:=fun pins s σ H D I hw=>
 wpAny_mono (h pins s σ H D (I.wish _) hw) (fun _ _ q=>q.pQ) fun _ _ z=>False.elim z
end
section
variable {X:Cx} {st:Stmt} {rest:List Stmt} {t u:TS} {e:Expr} {te:TE} {pos:Pos}
def Ry:TS:=fun D σ H=>D.nx σ H
def Xu(t u:TS):TS:=fun D σ H=>t { D with nx:=u D } σ H
theorem cY:PSs X [] Ry:=fun _ _ σ H _ I h=>wpAny_execs_nil ⟨σ,H,I,h⟩
theorem ao(h1:PS X st t)(h2:PSs X rest u):PSs X (st::rest) (Xu t u):=by
 intro pins s σ H D I h;refine wpAny_execs_cons (thn (h1 pins s σ H { D with nx:=u D } I h) fun f s1 q=>?_);cases f with
 |next=>
  obtain⟨σ',H',I',q⟩:=q;exact h2 pins s1 σ' H' D I' q
 |ret v=>exact q
 |brk=>exact q
 |cont=>exact q
theorem aF(h1:PS X st t):PSs X [st] t:=by
 intro pins s σ H D I h;refine wpAny_execs_cons (thn (h1 pins s σ H D I h) fun f s1 q=>?_);cases f with
 |next=>exact wpAny_execs_nil q
 |ret v=>exact q
 |brk=>exact q
 |cont=>exact q
theorem Inv.quiet{pins:List (Addr×Obj)}{σ:St}{H:Hp}{s:Shared}(I:Inv X pins σ H s):interactive X.env=false:=by simp[interactive,I.ok.kind]
def Uw(te:TE):TS:=fun D σ H=>te σ H fun _ H1=>D.nx σ H1
theorem jL(he:PE X e te)(hs:swapsWith e none pos.line X.env=pure false:=by rfl):PS X (.Expr e pos) (Uw te):=by
 intro pins s σ H D I h;exact wpAny_Expr_any (thn (he pins s σ H _ I h) fun v s1 ⟨x,H1,I1,r1,q1⟩=>⟨σ,H1,I1,q1⟩) I.quiet hs
def WK(te:TE):TS:=fun D σ H=>te σ H D.rt
theorem aV(he:PE X e te):PS X (.Return (some e) pos) (WK te):=by
 intro pins s σ H D I h;exact wpAny_Return_some (thn (he pins s σ H _ I h) fun v s1 ⟨x,H1,I1,r1,q1⟩=>⟨x,σ,H1,I1,r1,q1⟩)
def WM(c:TT)(t u:TS):TS:=fun D σ H=>c σ H fun b H1=>if b=true then t D σ H1 else u D σ H1
theorem jy{c:Expr}{a b:List Stmt}{tc:TT}(hc:PT X c tc)(ha:PSs X a t)(hb:PSs X b u):PS X (.If c a b pos) (WM tc t u):=by
 intro pins s σ H D I h;refine wpAny_If (thn (hc pins s σ H _ I h) fun d s1 ⟨H1,I1,q1⟩=>?_);cases d with
 |true=>exact ha pins s1 σ H1 D I1 q1
 |false=>exact hb pins s1 σ H1 D I1 q1
def Lz:TS:=fun _ _ _=>False
theorem ql:PS X st Lz:=fun _ _ _ _ _ _ h=>h.elim
end
abbrev TG:=V->St->Hp->(St->Hp->Prop)->Prop
abbrev TGs:=List V->St->Hp->(St->Hp->Prop)->Prop
def PG(X:Cx)(target:Expr)(t:TG):Prop:=
 ∀(pins:List (Addr×Obj)) (s:Shared) (σ:St) (H:Hp) (v:V) (u:Value) (Q:St->Hp->Prop),Inv X pins σ H s->RelV v u->t v σ H Q->
  wpAny (model X.prog X.w) X.A (assign target X.env u) (fun _ s'=>∃σ' H',Inv X pins σ' H' s'/\Q σ' H') X.xe s
def PGs(X:Cx)(ts:List Expr)(t:TGs):Prop:=
 ∀(pins:List (Addr×Obj)) (s:Shared) (σ:St) (H:Hp) (vs:List V) (us:List Value) (Q:St->Hp->Prop),Inv X pins σ H s->Vals vs us->t vs σ H Q->
  wpAny (model X.prog X.w) X.A (assignInOrder ((assignEach ts X.env).map (·.2)) us) (fun _ s'=>∃σ' H',Inv X pins σ' H' s'/\Q σ' H') X.xe s
abbrev Sx:=V->V->V->Hp->(Hp->Prop)->Prop
def V0(X:Cx)(t:Sx):Prop:=
 ∀(pins:List (Addr×Obj)) (s:Shared) (σ:St) (H:Hp) (o i v:V) (ov iv u:Value) (Q:Hp->Prop),Inv X pins σ H s->RelV o ov->RelV i iv->RelV v u->t o i v H Q->
  wpAny (model X.prog X.w) X.A (setItem ov iv u) (fun _ s'=>∃H',Inv X pins σ H' s'/\Q H') X.xe s
section
variable {X:Cx} {pos:Pos}
def nq(i:Nat):TG:=fun v σ H Q=>Q (σ.set i (some v)) H
theorem aX{i:Nat}{x:Str}(hN:X.N.Nodup)(hi:X.N[i]?=some x)(hx:Loc X.env.scope x)(hf:X.fn x=true∨X.env.scope.names.lookup x=some .local:=by first|exact .inl rfl|exact .inr rfl|assumption):PG X (.Name x pos) (nq i):=by
 intro pins s σ H v u Q I r h;exact wpAny_assign_Name (ux I hN hi hx r (fun s' I'=>⟨_,H,I',h⟩) hf)
def Wy:TGs:=fun vs σ H Q=>vs=[]/\Q σ H
inductive QM(t:TG)(u:TGs)(vs:List V)(σ:St)(H:Hp)(Q:St->Hp->Prop):Prop|mk (v:V) (r:List V) (h:vs=v::r) (q:t v σ H fun σ' H'=>u r σ' H' Q)
def Pj(t:TG)(u:TGs):TGs:=fun vs σ H Q=>QM t u vs σ H Q
theorem Dr:PGs X [] Wy:=by
 intro pins s σ H vs us Q I r h;obtain⟨e,h⟩:=h;subst e;cases r;exact assignInOrder_nil ⟨σ,H,I,h⟩
theorem j7{e:Expr}{es:List Expr}{t:TG}{u:TGs}(h1:PG X e t)(h2:PGs X es u)
  (hs:(assignEach (e::es) X.env).map (·.2)=assign e X.env::(assignEach es X.env).map (·.2):=by rfl):PGs X (e::es) (Pj t u):=by
 intro pins s σ H vs us Q I r h;obtain⟨v,vr,e1,h⟩:=h;subst e1;cases r with
 |cons r rr=>
  rw[hs];refine assignInOrder_cons (thn (h1 pins s σ H _ _ _ I r h) fun _ s1 ⟨σ1,H1,I1,q1⟩=>?_);exact h2 pins s1 σ1 H1 _ _ Q I1 rr q1
def Vt(K:W.Frag)(n:Nat)(t:TGs):TG:=fun v σ H Q=>∃a xs,v = .ref a/\SqT K H a xs/\xs.length=n/\t xs σ H Q
theorem NZ{es:List Expr}{k:Nat}{t:TGs}{n:Nat}(hc:X.calm=true)(h:PGs X es t)
  (hn:(assignEach es X.env).length=n:=by rfl) (hst:(assignEach es X.env).findIdx? (·.1)=none:=by rfl):PG X (.Tuple es k pos) (Vt X.K n t):=by
 intro pins s σ H v u Q I r hw;obtain⟨a,xs,e1,hq,hl,hw⟩:=hw;subst e1;cases r;obtain⟨its,rv,ht,hz⟩:=I.tuple hq;refine assign_Tuple_tuple (I.ok.hd hc) ht (by simp[hn,<-hl,rv.length]) hst fun h' hx=>?_;have I1:Inv X pins σ H { s with heap:=h' }:=I.kept (t':=s.toks) fun b o e=>hx b o (Nat.ne_of_lt (Heap.lt_size e)) e;exact h pins _ σ H xs _ Q I1 (by simpa using rv) hw
def Xp(to ti:TE)(t:Sx):TG:=fun v σ H Q=>to σ H fun o H1=>ti σ H1 fun i H2=>t o i v H2 fun H3=>Q σ H3
theorem vf{o i:Expr}{to ti:TE}{t:Sx}(ho:PE X o to)(hi:PE X i ti)(hs:V0 X t)
  (ha:∀v,assign (.Subscript o i pos) X.env v=(do
   let ov<-holding [v] (eval o X.env)
   let iv<-holding [v,ov] (eval i X.env)
   standAt pos
   holding [v,ov,iv] (setItem ov iv v)
   release [v,ov,iv] []):=by intro _;rfl):PG X (.Subscript o i pos) (Xp to ti t):=by
 intro pins s σ H v u Q I r h;rw[ha];refine wpAny_bind (wpAny_holding (thn (ho pins s σ H _ I h) fun ov s1 ⟨x,H1,I1,r1,q1⟩=>?_));refine wpAny_bind (wpAny_holding (thn (hi pins s1 σ H1 _ I1 q1) fun iv s2 ⟨y,H2,I2,r2,q2⟩=>?_));refine wpAny_bind (wpAny_standAt (wpAny_bind (wpAny_holding (thn (hs pins s2 σ H2 x y v ov iv u _ I2 r1 r2 r q2) fun _ s3 ⟨H3,I3,q3⟩=>?_))));exact wpAny_release ⟨σ,H3,I3,q3⟩
def Q5(te:TE)(g:TG):TS:=fun D σ H=>te σ H fun x H1=>g x σ H1 D.nx
theorem rJ{tg e:Expr}{te:TE}{g:TG}(he:PE X e te)(hg:PG X tg g)(hs:swapsWithSole [tg] e pos.line X.env=pure false:=by rfl)(hw:swappedStores [tg] e X.env=pure none:=by rfl)
  (h1:(assignEach [tg] X.env).map (·.2)=[assign tg X.env]:=by rfl):PS X (.Assign [tg] e pos) (Q5 te g):=by
 intro pins s σ H D I h;refine wpAny_Assign_stores (thn (he pins s σ H _ I h) fun v s1 ⟨x,H1,I1,r1,q1⟩=>?_) hs hw;rw[h1];exact thn (hg pins s1 σ H1 x v _ I1 r1 q1) fun _ s2 q=>q
theorem aJ{i:Nat}{x:Str}{e:Expr}{te:TE}{pos':Pos}(hN:X.N.Nodup)(hi:X.N[i]?=some x)(hx:Loc X.env.scope x)(he:PE X e te)(hs:swapsWith e (some (.Name x pos')) pos.line X.env=pure false:=by rfl)(hf:X.fn x=true∨X.env.scope.names.lookup x=some .local:=by first|exact .inl rfl|exact .inr rfl|assumption):
  PS X (.Assign [.Name x pos'] e pos) (Q5 te (nq i)):=by
 intro pins s σ H D I h;refine wpAny_Assign_Name (thn (he pins s σ H _ I h) fun v s1 ⟨y,H1,I1,r1,q1⟩=>?_) hs;exact ux I1 hN hi hx r1 (fun s2 I2=>⟨_,H1,I2,q1⟩) hf
end
section
variable {X:Cx} {pos:Pos}
def K2(c:TT)(tb:TS):TS:=fun D σ H=>∃W:Nat->St->Hp->Prop,(∃m,W m σ H)/\∀m σ H,W m σ H->
 c σ H fun b H1=>if b=true then ∃N:St->Hp->Prop,(∀σ' H',N σ' H'->∃m',m'<m/\W m' σ' H')/\tb { D with nx:=N,ct:=N,bk:=D.nx } σ H1 else D.nx σ H1
theorem gH{c:Expr}{body:List Stmt}{tc:TT}{tb:TS}(hp:PassesOwn (model X.prog X.w) X.A X.env X.xe)(hc:PT X c tc)(hb:PSs X body tb):PS X (.While c body [] pos) (K2 tc tb):=by
 intro pins s σ H D I h;obtain⟨W,⟨m0,w0⟩,turn⟩:=h;refine wpAny_While (codeAny_whileLoop (fun n s'=>∃σ' H',Inv X pins σ' H' s'/\W n σ' H') ?_ m0 ⟨σ,H,I,w0⟩);rintro n s1 ⟨σ1,H1,I1,w1⟩;refine wpAny_passesOwn hp (thn (hc pins s1 σ1 H1 _ I1 (turn n σ1 H1 w1)) fun b s2 ⟨H2,I2,q2⟩=>?_);cases b with
 |true=>
  obtain⟨N,hN,q2⟩:=q2;rw[if_pos rfl];refine wpAny_passesOwn hp (thn (hb pins s2 σ1 H2 _ I2 q2) fun f s3 q3=>?_);cases f with
  |next=>
   obtain⟨σ3,H3,I3,n3⟩:=q3;obtain⟨m',hm,w3⟩:=hN σ3 H3 n3;exact⟨m',hm,σ3,H3,I3,w3⟩
  |cont=>
   obtain⟨σ3,H3,I3,n3⟩:=q3;obtain⟨m',hm,w3⟩:=hN σ3 H3 n3;exact⟨m',hm,σ3,H3,I3,w3⟩
  |brk=>exact q3
  |ret v=>exact q3
 |false=>
  rw[if_neg Bool.false_ne_true];exact wpAny_execs_nil ⟨σ1,H2,I2,q2⟩
end
structure It where
 go:Nat->Hp->Prop
 yld:Nat->Hp->V->Hp->Prop
 stop:Nat->Hp->Prop
def Gd(X:Cx)(pins:List (Addr×Obj))(H:Hp)(b:Addr):Prop:=
 H b=none/\b≠X.env.locals/\b∉X.fs/\(b∈X.ex∨X.s₀.heap.objs.size<=b)/\(∀x c,X.env.cells.lookup x=some c->c≠b)/\∀p∈X.pn++pins,p.1≠b
theorem Inv.Mz{X:Cx}{pins:List (Addr×Obj)}{σ:St}{H H':Hp}{s:Shared}{b:Addr}(I:Inv X pins σ H s)(hb:s.heap.objs.size<=b)(hn:H' b=none):Gd X pins H' b:=by
 refine⟨hn,Nat.ne_of_gt (Nat.lt_of_lt_of_le I.lt hb),I.WV hb,.inr (Nat.le_trans I.sz hb),fun x c e z=>?_,fun p hp z=>?_⟩
 ·obtain⟨v,q⟩:=I.cell x c e;exact absurd (Nat.lt_of_lt_of_le q.lt (by rw[z];exact hb)) (Nat.lt_irrefl _)
 ·exact absurd (Nat.lt_of_lt_of_le (Heap.lt_size (I.pin p hp).1) (by rw[z];exact hb)) (Nat.lt_irrefl _)
structure Turn(P:Program)(w:World)(K:W.Frag)(tg:Expr)(J:It)(fp:List Addr)(it:Addr)(tn:Nat->Heap->Prop):Prop where
 mem:it∈fp
 obj:∀i h,tn i h->∀b∈fp,∃o,h.get? b=some o/\∀v,o.data≠ .cell v
 keep:∀i h h',tn i h->(∀b∈fp,∀o,h.get? b=some o->h'.get? b=some o)->tn i h'
 item:∀(X:Cx),X.prog=P->X.w=w->X.K=K->X.calm=true->∀(i:Nat) (pins:List (Addr×Obj)) (s:Shared) (σ:St) (H:Hp) (E:Value->Shared->Prop),Inv X pins σ H s->(∀b∈fp,Gd X pins H b)->tn i s.heap->J.go i H->
  wpAny (model P w) X.A (pyNext (.ref it)) (fun r s1=>∃u,r=some u/\
   wpAny (model P w) X.A (letOwnedTupleGo tg (.ref it) u) (fun _ s2=>∃x H',Inv X pins σ H' s2/\RelV x u/\J.yld i H x H'/\tn (i+1) s2.heap/\∀b∈fp,H' b=none) E s1) E s
 done:∀(X:Cx),X.prog=P->X.w=w->X.K=K->X.calm=true->∀(i:Nat) (pins:List (Addr×Obj)) (s:Shared) (σ:St) (H:Hp) (E:Value->Shared->Prop),Inv X pins σ H s->(∀b∈fp,Gd X pins H b)->tn i s.heap->J.stop i H->
  wpAny (model P w) X.A (pyNext (.ref it)) (fun r s1=>r=none/\Inv X pins σ H s1) E s
 self:∀(A:Around) (i:Nat) (s:Shared) (Q:Value->Shared->Prop) (E:Value->Shared->Prop),tn i s.heap->Q (.ref it) s->wpAny (model P w) A (pyIter (.ref it)) Q E s
abbrev TI:=St->Hp->(It->Hp->Prop)->Prop
def PIE(X:Cx)(pins:List (Addr×Obj))(σ:St)(tg:Expr)(R:It->Hp->Prop)(itv:Value)(s2:Shared):Prop:=
 ∃(it:Addr) (fp:List Addr) (tn:Nat->Heap->Prop) (J:It) (H':Hp),itv = .ref it/\Inv X pins σ H' s2/\Turn X.prog X.w X.K tg J fp it tn/\tn 0 s2.heap/\(∀b∈fp,Gd X pins H' b)/\R J H'
def PI(X:Cx)(tg iter:Expr)(wi:TI):Prop:=
 ∀(pins:List (Addr×Obj)) (s:Shared) (σ:St) (H:Hp) (R:It->Hp->Prop),Inv X pins σ H s->wi σ H R->
  wpAny (model X.prog X.w) X.A (eval iter X.env) (fun v s1=>wpAny (model X.prog X.w) X.A (pyIter v) (PIE X pins σ tg R) X.xe s1) X.xe s
theorem Fo{M:Model}{A:Around}{E:Value->Shared->Prop}{s:Shared}{tg:Expr}{it:Addr}{u:Value}{o:Obj}{n:String}{vs:Array Value}{Q:Unit->Shared->Prop}(ho:s.heap.get? it=some o)(hc:o.cls = .type n)(hd:o.data = .fields vs)
  (hn:["enumerate","zip","dict_itemiterator","dict_reverseitemiterator","odict_iterator","itertools.zip_longest","itertools.pairwise"].contains n=false) (hQ:Q () s):wpAny M A (letOwnedTupleGo tg (.ref it) u) Q E s:=by
 unfold letOwnedTupleGo;cases tg<;>first
  |exact wpAny_pure hQ
  |(cases u<;>first
    |exact wpAny_pure hQ
    |(refine wpAny_bind (wpAny_load ho ?_);rw[hc,hd];show wpAny M A (if(["enumerate","zip","dict_itemiterator","dict_reverseitemiterator","odict_iterator","itertools.zip_longest","itertools.pairwise"].contains n&&vs[0]?==some (rawInt _))=true then _ else _) Q E s;rw[if_neg (by intro h;rw[hn,Bool.false_and]at h;cases h)];exact wpAny_pure hQ))
def Itl(K:W.Frag)(a:Addr):It:=
 ⟨fun i H=>∃xs x,SqL K H a xs/\xs[i]?=some x,fun i H x H'=>H'=H/\∀xs,SqL K H a xs->xs[i]?=some x,fun i H=>∃xs,SqL K H a xs/\xs.length<=i⟩
def Itt(K:W.Frag)(a:Addr):It:=
 ⟨fun i H=>∃xs x,SqT K H a xs/\xs[i]?=some x,fun i H x H'=>H'=H/\∀xs,SqT K H a xs->xs[i]?=some x,fun i H=>∃xs,SqT K H a xs/\xs.length<=i⟩
def Itr(lo:Int)(n:Nat):It:=⟨fun i _=>i<n,fun i H x H'=>H'=H/\x = .int (lo+i),fun i _=>n<=i⟩
theorem Ck{P:Program}{w:World}{K:W.Frag}{tg:Expr}(a it:Addr):Turn P w K tg (Itl K a) [it] it (fun i h=>h.IsListIter it a i) where
 mem:=by simp
 obj:=fun i h st b hb=>by
  have e:b=it:=by simpa using hb
  subst e;obtain⟨o,e,c,d⟩:=st;exact⟨o,e,fun v z=>by rw[d]at z;cases z⟩
 keep:=fun i h h' st k=>st.at fun o e=>k it (by simp) o e
 item:=by
  intro X hP hw hK hc i pins s σ H E I hf st hg;subst hP hw hK;obtain⟨xs,x,hq,hx⟩:=hg;obtain⟨its,rv,p,hz⟩:=I.list hq;obtain⟨u,hu,ru⟩:=rv.get hx;obtain⟨f0,f1,f2,f3,f4,f5⟩:=hf it (by simp);refine wpAny_pyNext_list_item st p.isList (x:=u) (by simpa using hu) fun h' st' sb=>?_;have I1:Inv X pins σ H { s with heap:=h' }:=I.turned (t':=s.toks) (fun b o hb e=>(sb.2 b hb).trans e) f0 f1 f3 f4 f5;obtain⟨o,e,c,d⟩:=id st';exact⟨u,rfl,Fo (s:={ s with heap:=h' }) e c d (by decide) ⟨x,H,I1,ru,⟨rfl,fun ys hy=>by rw[I.Gw hy hq];exact hx⟩,st',fun b hb=>(hf b hb).1⟩⟩
 done:=by
  intro X hP hw hK hc i pins s σ H E I hf st hg;subst hP hw hK;obtain⟨xs,hq,hx⟩:=hg;obtain⟨its,rv,p,hz⟩:=I.list hq;obtain⟨f0,f1,f2,f3,f4,f5⟩:=hf it (by simp);have hl:=rv.length;exact wpAny_pyNext_list_end (I.ok.hd hc) st p.isList (by simp;omega) fun h' eb=>⟨rfl,I.turned (t':=s.toks) (fun b o hb e=>eb b o hb e) f0 f1 f3 f4 f5⟩
 self:=fun _ _ _ _ _ st h=>wpAny_pyIter_listiter st h
theorem Bj{P:Program}{w:World}{K:W.Frag}{tg:Expr}(a it:Addr):Turn P w K tg (Itt K a) [it] it (fun i h=>h.IsTupleIter it a i) where
 mem:=by simp
 obj:=fun i h st b hb=>by
  have e:b=it:=by simpa using hb
  subst e;obtain⟨o,e,c,d⟩:=st;exact⟨o,e,fun v z=>by rw[d]at z;cases z⟩
 keep:=fun i h h' st k=>st.at fun o e=>k it (by simp) o e
 item:=by
  intro X hP hw hK hc i pins s σ H E I hf st hg;subst hP hw hK;obtain⟨xs,x,hq,hx⟩:=hg;obtain⟨its,rv,p,hz⟩:=I.tuple hq;obtain⟨u,hu,ru⟩:=rv.get hx;obtain⟨f0,f1,f2,f3,f4,f5⟩:=hf it (by simp);refine wpAny_pyNext_tuple_item st (show s.heap.IsTuple a its.toArray from p) (x:=u) (by simpa using hu) fun h' st' sb=>?_;have I1:Inv X pins σ H { s with heap:=h' }:=I.turned (t':=s.toks) (fun b o hb e=>(sb.2 b hb).trans e) f0 f1 f3 f4 f5;obtain⟨o,e,c,d⟩:=id st';exact⟨u,rfl,Fo (s:={ s with heap:=h' }) e c d (by decide) ⟨x,H,I1,ru,⟨rfl,fun ys hy=>by rw[I.Ey hy hq];exact hx⟩,st',fun b hb=>(hf b hb).1⟩⟩
 done:=by
  intro X hP hw hK hc i pins s σ H E I hf st hg;subst hP hw hK;obtain⟨xs,hq,hx⟩:=hg;obtain⟨its,rv,p,hz⟩:=I.tuple hq;obtain⟨f0,f1,f2,f3,f4,f5⟩:=hf it (by simp);have hl:=rv.length;exact wpAny_pyNext_tuple_end (I.ok.hd hc) st (show s.heap.IsTuple a its.toArray from p) (by simp;omega) fun h' eb=>⟨rfl,I.turned (t':=s.toks) (fun b o hb e=>eb b o hb e) f0 f1 f3 f4 f5⟩
 self:=fun _ _ _ _ _ st h=>wpAny_pyIter_tupleiter st h
theorem BL{P:Program}{w:World}{K:W.Frag}{tg:Expr}(it:Addr)(lo:Int)(n:Nat):Turn P w K tg (Itr lo n) [it] it (fun i h=>IsRangeIter h it (lo+(i:Nat)*1) ((n:Int)-(i:Nat)) 1) where
 mem:=by simp
 obj:=fun i h st b hb=>by
  have e:b=it:=by simpa using hb
  subst e;exact⟨_,st,fun v z=>by
   have z':Data.fields _=Data.cell v:=z;cases z'⟩
 keep:=fun i h h' st k=>k it (by simp) _ st
 item:=by
  intro X hP hw hK hc i pins s σ H E I hf st hg;subst hP hw hK;obtain⟨f0,f1,f2,f3,f4,f5⟩:=hf it (by simp);have W:=Walks.range (prog:=X.prog) (w:=X.w) (I.ok.hd hc) it lo 1 n;refine W.item i s _ _ hg st fun v h' tk hv st' kk=>?_;obtain⟨t,rfl⟩:=hv;have I1:Inv X pins σ H { s with heap:=h',toks:=tk }:=I.turned (fun b o hb e=>kk b o (by simpa using hb) e) f0 f1 f3 f4 f5;refine⟨_,rfl,Fo (s:={ s with heap:=h',toks:=tk }) (n:= "range_iterator") st' rfl rfl (by decide) ⟨.int (lo+i),H,I1,⟨t,?_⟩,⟨rfl,rfl⟩,st',fun b hb=>(hf b hb).1⟩⟩;rw[Int.mul_one]
 done:=by
  intro X hP hw hK hc i pins s σ H E I hf st hg;subst hP hw hK;obtain⟨f0,f1,f2,f3,f4,f5⟩:=hf it (by simp);exact wpAny_pyNext_range_end (I.ok.hd hc) st (by have:n<=i:=hg;omega) fun h' eb=>⟨rfl,I.turned (t':=s.toks) (fun b o hb e=>eb b o hb e) f0 f1 f3 f4 f5⟩
 self:=fun _ _ _ _ _ st h=>wpAny_pyIter_rangeiter st h
section
variable {X:Cx} {tg:Expr}
def Qu(K:W.Frag)(tl:TE):TI:=fun σ H R=>tl σ H fun x H1=>∃a,x = .ref a/\(∃xs,SqL K H1 a xs)/\R (Itl K a) H1
theorem Ah{pins:List (Addr×Obj)}{σ:St}{H:Hp}{s:Shared}{R:It->Hp->Prop}{E:Value->Shared->Prop}{lo hi:Int}{t u v:Tok}{tk:Nat}(I:Inv X pins σ H s)(h1:-(2^62)<=lo)(h2:lo<2^62)(h3:-(2^62)<=hi)(h4:hi<2^62)
  (q:R (Itr lo (hi-lo).toNat) H):wpAny (model X.prog X.w) X.A (pyIter (.ref s.heap.objs.size)) (PIE X pins σ tg R) E { s with heap:=s.heap.push { cls:= .type "range",data:= .fields #[.int lo t,.int hi u,.int 1 v] },toks:=tk }:=by
 refine wpAny_pyIter_range (IsRange.new ..) (small_one h1 h2 h3 h4) ?_;have I1:Inv X pins σ H { s with heap:=s.heap.push { cls:= .type "range",data:= .fields #[.int lo t,.int hi u,.int 1 v] },toks:=tk }:=I.kept fun b o e=>Heap.get?_push_of_some _ e;refine⟨(s.heap.push { cls:= .type "range",data:= .fields #[.int lo t,.int hi u,.int 1 v] }).objs.size,[(s.heap.push { cls:= .type "range",data:= .fields #[.int lo t,.int hi u,.int 1 v] }).objs.size],_,_,H,rfl,
  I1.kept (t':=tk) fun b o e=>Heap.get?_push_of_some _ e,BL _ lo (hi-lo).toNat,?_,fun b hb=>?_,q⟩
 ·have e1:lo+((0:Nat):Int)*1=lo:=by simp
  have e2:(((hi-lo).toNat:Nat):Int)-((0:Nat):Int)=Builtin.Range.rangeSize lo hi 1:=by rw[rangeSize_one];split<;>omega
  show IsRangeIter _ _ (lo+((0:Nat):Int)*1) ((((hi-lo).toNat:Nat):Int)-((0:Nat):Int)) 1;rw[e1,e2];exact Heap.get?_push_size _ rfl
 ·have e:b=(s.heap.push { cls:= .type "range",data:= .fields #[.int lo t,.int hi u,.int 1 v] }).objs.size:=by simpa using hb
  subst e;exact I1.Mz (Nat.le_refl _) (I1.hok.fresh (Nat.le_refl _))
inductive QY(vs:List V)(H:Hp)(R:It->Hp->Prop):Prop|mk (j:Int) (h:vs=[.int j]) (h1:-(2^62)<=j) (h2:j<2^62) (q:R (Itr 0 j.toNat) H)
def Ul(ta:TA):TI:=fun σ H R=>ta σ H fun vs H1=>QY vs H1 R
def Sg(ta:TA):TI:=fun σ H R=>ta σ H fun vs H1=>∃i j:Int,vs=[.int i,.int j]/\(-(2^62)<=i/\i<2^62/\-(2^62)<=j/\j<2^62)/\R (Itr i (j-i).toNat) H1
theorem bK{a:Expr}{ta:TA}{p pos:Pos}(hg:Gl X "range")(hm:X.mg "range" = none)(ha:PA X [a] ta)(hs:starEach [a] X.env=[(false,eval a X.env)]:=by rfl):PI X tg (.Call (.Name "range" p) [a] [] pos) (Ul ta):=by
 intro pins s σ H R I h;refine Call_ (wB I hg hm boot_range (PyProof.Rows.callWith_type1 (thn (ha pos pins s σ H _ I h) fun us s1 ⟨vs,H1,I1,r1,q1⟩=>?_) hs rfl));obtain⟨j,e,q1,q2,q⟩:=q1;subst e;cases r1 with
 |cons r rr=>
  cases rr;obtain⟨t,rfl⟩:=r;exact call_range_1 (Ah I1 (by omega) (by omega) q1 q2 (by simpa using q))
theorem nF{a b:Expr}{ta:TA}{p pos:Pos}(hg:Gl X "range")(hm:X.mg "range" = none)(ha:PA X [a,b] ta)(hs:starEach [a,b] X.env=[(false,eval a X.env),(false,eval b X.env)]:=by rfl)(hs2:starEach [b] X.env=[(false,eval b X.env)]:=by rfl):
  PI X tg (.Call (.Name "range" p) [a,b] [] pos) (Sg ta):=by
 intro pins s σ H R I h;refine Call_ (wB I hg hm boot_range (PyProof.Rows.callWith_type1 (thn (ha pos pins s σ H _ I h) fun us s1 ⟨vs,H1,I1,r1,q1⟩=>?_) (by rw[hs,hs2]) (by rw[hs2];rfl)));obtain⟨i,j,e,⟨q1,q2,q3,q4⟩,q⟩:=q1;subst e;cases r1 with
 |cons r rr=>
  cases rr with
  |cons r' rr=>
   cases rr;obtain⟨t,rfl⟩:=r;obtain⟨t',rfl⟩:=r';exact call_range_2 (Ah I1 q1 q2 q3 q4 q)
def Wc(wi:TI)(g:TG)(tb:TS):TS:=fun D σ H=>wi σ H fun J H1=>∃W:Nat->Nat->St->Hp->Prop,(∃m,W 0 m σ H1)/\∀i m σ H,W i m σ H->
 (J.stop i H/\D.nx σ H)∨(J.go i H/\∃N:St->Hp->Prop,(∀σ' H',N σ' H'->∃m',m'<m/\W (i+1) m' σ' H')/\∀x H',J.yld i H x H'->g x σ H' fun σ2 H2=>tb { D with nx:=N,ct:=N,bk:=D.nx } σ2 H2)
def vM(fp:List Addr)(h:Heap):List (Addr×Obj):=fp.filterMap fun b=>(h.get? b).map fun o=>(b,o)
theorem jh{fp:List Addr}{h:Heap}{b:Addr}{o:Obj}(hb:b∈fp)(e:h.get? b=some o):(b,o)∈vM fp h:=List.mem_filterMap.mpr ⟨b,hb,by rw[e];rfl⟩
theorem DV{fp:List Addr}{h:Heap}{p:Addr×Obj}(hp:p∈vM fp h):p.1∈fp/\h.get? p.1=some p.2:=by
 obtain⟨b,hb,e⟩:=List.mem_filterMap.mp hp;cases q:h.get? b with
 |none=>rw[q]at e;cases e
 |some o=>
  rw[q]at e;have e':(b,o)=p:=Option.some.inj e;subst e';exact⟨hb,q⟩
theorem Inv.pinned{pins:List (Addr×Obj)}{σ:St}{H:Hp}{s:Shared}{fp:List Addr}(I:Inv X pins σ H s)(hf:∀b∈fp,Gd X pins H b)(ho:∀b∈fp,∃o,s.heap.get? b=some o/\∀v,o.data≠ .cell v):Inv X (pins++vM fp s.heap) σ H s:=
 I.CW fun p hp=>(List.mem_append.mp hp).elim (fun z=>I.pin p (List.mem_append_right _ z)) fun z=>by
  obtain⟨hb,e⟩:=DV z;obtain⟨f0,f1,f2,_⟩:=hf p.1 hb;obtain⟨o,e',d⟩:=ho p.1 hb;rw[e]at e';cases e';exact⟨e,f0,f1,f2,d⟩
theorem Inv.nD{pins pl:List (Addr×Obj)}{σ:St}{H:Hp}{s:Shared}(I:Inv X (pins++pl) σ H s):Inv X pins σ H s:=I.CW fun p hp=>I.pin p (List.mem_append_right _ (List.mem_append_left _ hp))
theorem j6{iter:Expr}{body:List Stmt}{wi:TI}{g:TG}{tb:TS}{pos:Pos}(hp:PassesOwn (model X.prog X.w) X.A X.env X.xe)(hc:X.calm=true)(hi:PI X tg iter wi)(hg:PG X tg g)(hb:PSs X body tb)
  (hs:∀x,foldedSetIterable iter X.env x=pure x:=by intro _;rfl):PS X (.For tg iter body [] pos) (Wc wi g tb):=by
 intro pins s σ H D I h;refine wpAny_For (thn (hi pins s σ H _ I h) fun v s1 h1=>thn h1 fun itv s2 h2=>?_) hs;obtain⟨it,fp,tn,J,H2,e,I2,T,st2,f2,W,⟨m0,w0⟩,turn⟩:=h2;subst e;have stat:∀{H':Hp},(∀b∈fp,H' b=none)->∀b∈fp,Gd X pins H' b:=fun hn b hb=>⟨hn b hb,(f2 b hb).2⟩;refine codeAny_forLoop_any (fun n s'=>∃i σ' H',Inv X pins σ' H' s'/\tn i s'.heap/\(∀b∈fp,H' b=none)/\W i n σ' H') ?_ m0 ⟨0,σ,H2,I2,st2,fun b hb=>(f2 b hb).1,w0⟩;rintro n s3 ⟨i,σ3,H3,I3,st3,fr3,w3⟩;rcases turn i n σ3 H3 w3 with⟨stop,qn⟩|⟨go,N,hN,step⟩
 ·refine wpAny_passesOwn hp (thn (T.done X rfl rfl rfl hc i pins s3 σ3 H3 X.xe I3 (stat fr3) st3 stop) fun r s4 ⟨hr,I4⟩=>?_);subst hr;exact wpAny_execs_nil ⟨σ3,H3,I4,qn⟩
 ·refine wpAny_passesOwn hp (thn (T.item X rfl rfl rfl hc i pins s3 σ3 H3 X.xe I3 (stat fr3) st3 go) fun r s4 ⟨u,hr,h4⟩=>?_);subst hr;refine wpAny_passesOwn hp (thn h4 fun _ s5 ⟨x,H5,I5,r5,y5,st5,fr5⟩=>?_);have I5':=I5.pinned (stat fr5) (T.obj _ _ st5);refine wpAny_passesOwn hp (thn (hg _ s5 σ3 H5 x u _ I5' r5 (step x H5 y5)) fun _ s6 ⟨σ6,H6,I6,q6⟩=>?_);refine wpAny_passesOwn hp (thn (hb _ s6 σ6 H6 _ I6 q6) fun f s7 q7=>?_);have again:∀{σ7:St} {H7:Hp},Inv X (pins++vM fp s5.heap) σ7 H7 s7->N σ7 H7->∃m,m<n/\∃i σ' H',Inv X pins σ' H' s7/\tn i s7.heap/\(∀b∈fp,H' b=none)/\W i m σ' H':=fun {σ7 H7} I7 n7=>by
   obtain⟨m',hm,w7⟩:=hN σ7 H7 n7;refine⟨m',hm,i+1,σ7,H7,I7.nD,T.keep _ _ _ st5 fun b hb o e=>(I7.pin (b,o) (List.mem_append_right _ (List.mem_append_right _ (jh hb e)))).1,fun b hb=>?_,w7⟩;obtain⟨o,e,d⟩:=T.obj _ _ st5 b hb;exact(I7.pin (b,o) (List.mem_append_right _ (List.mem_append_right _ (jh hb e)))).2.1
  cases f with
  |next=>obtain⟨σ7,H7,I7,n7⟩:=q7;exact again I7 n7
  |cont=>obtain⟨σ7,H7,I7,n7⟩:=q7;exact again I7 n7
  |brk=>obtain⟨σ7,H7,I7,q7⟩:=q7;exact⟨σ7,H7,I7.nD,q7⟩
  |ret v=>obtain⟨x7,σ7,H7,I7,r7,q7⟩:=q7;exact⟨x7,σ7,H7,I7.nD,r7,q7⟩
end
theorem eY{lo:Int}{n:Nat}{g:TG}{tb:TS}{D:Ends}{σ:St}{H:Hp}(Pv:Nat->St->Hp->Prop)(h0:Pv 0 σ H)
  (hs:∀i σ H,i<n->Pv i σ H->g (.int (lo+i)) σ H fun σ2 H2=>tb { D with nx:=Pv (i+1),ct:=Pv (i+1),bk:=D.nx } σ2 H2) (hd:∀σ H,Pv n σ H->D.nx σ H):
  ∃W:Nat->Nat->St->Hp->Prop,(∃m,W 0 m σ H)/\∀i m σ H,W i m σ H->
   ((Itr lo n).stop i H/\D.nx σ H)∨((Itr lo n).go i H/\∃N:St->Hp->Prop,(∀σ' H',N σ' H'->∃m',m'<m/\W (i+1) m' σ' H')/\∀x H',(Itr lo n).yld i H x H'->g x σ H' fun σ2 H2=>tb { D with nx:=N,ct:=N,bk:=D.nx } σ2 H2):=by
 refine⟨fun i m σ H=>m=n-i/\i<=n/\Pv i σ H,⟨n,by simp,Nat.zero_le _,h0⟩,?_⟩;rintro i m σ H ⟨rfl,hi,p⟩;by_cases hlt:i<n
 ·refine .inr ⟨hlt,Pv (i+1),fun σ' H' p'=>⟨n-(i+1),by omega,rfl,hlt,p'⟩,fun x H' y=>?_⟩;obtain⟨e,y⟩:=y;subst e y;exact hs i σ _ hlt p
 ·have e:i=n:=by omega
  subst e;exact .inl ⟨Nat.le_refl _,hd σ H p⟩
abbrev R2:=V->V->Hp->VK->Prop
def OpR(X:Cx)(f:Value->Value->Sem Value)(r:R2):Prop:=
 ∀(pins:List (Addr×Obj)) (s:Shared) (σ:St) (H:Hp) (x y:V) (v u:Value) (Q:VK),Inv X pins σ H s->RelV x v->RelV y u->r x y H Q->
  wpAny (model X.prog X.w) X.A (f v u) (EP X pins σ Q) X.xe s
def UnR(X:Cx)(f:Value->Sem Value)(r:V->Hp->VK->Prop):Prop:=
 ∀(pins:List (Addr×Obj)) (s:Shared) (σ:St) (H:Hp) (x:V) (v:Value) (Q:VK),Inv X pins σ H s->RelV x v->r x H Q->
  wpAny (model X.prog X.w) X.A (f v) (EP X pins σ Q) X.xe s
def oh(X:Cx)(f:Value)(r:List V->Hp->VK->Prop):Prop:=
 ∀(pins:List (Addr×Obj)) (s:Shared) (σ:St) (H:Hp) (xs:List V) (us:List Value) (Q:VK),Inv X pins σ H s->Vals xs us->r xs H Q->
  wpAny (model X.prog X.w) X.A (call f us) (EP X pins σ Q) X.xe s
def tOp(r:R2)(ta tb:TE):TE:=fun σ H Q=>ta σ H fun x H1=>tb σ H1 fun y H2=>r x y H2 Q
def tUn(r:V->Hp->VK->Prop)(ta:TE):TE:=fun σ H Q=>ta σ H fun x H1=>r x H1 Q
inductive SII(C:Int->Int->Prop)(g:Int->Int->V)(x y:V)(H:Hp)(Q:VK):Prop|mk (i j:Int) (hx:x = .int i) (hy:y = .int j) (c:C i j) (q:Q (g i j) H)
def rI(C:Int->Int->Prop)(g:Int->Int->V):R2:=fun x y H Q=>SII C g x y H Q
inductive SI0(g:Int->Int->V)(x y:V)(H:Hp)(Q:VK):Prop|mk (i j:Int) (hx:x = .int i) (hy:y = .int j) (q:Q (g i j) H)
def rI0(g:Int->Int->V):R2:=fun x y H Q=>SI0 g x y H Q
inductive SU(g:Int->V)(x:V)(H:Hp)(Q:VK):Prop|mk (i:Int) (hx:x = .int i) (q:Q (g i) H)
def rU(g:Int->V):V->Hp->VK->Prop:=fun x H Q=>SU g x H Q
section
variable {X:Cx} {a b c:Expr} {ta tb tc:TE} {pos:Pos}
theorem Uv(ha:PE X a ta)(hb:PE X b tb){pins:List (Addr×Obj)}{s:Shared}{σ:St}{H:Hp}{R:V->V->Hp->Prop}(I:Inv X pins σ H s)
  (h:ta σ H fun x H1=>tb σ H1 fun y H2=>R x y H2) {Q:Value->Shared->Prop} {f:Value->Value->Sem Value}
  (hf:∀v u s2 x y H2,Inv X pins σ H2 s2->RelV x v->RelV y u->R x y H2->wpAny (model X.prog X.w) X.A (f v u) Q X.xe s2):
  wpAny (model X.prog X.w) X.A (eval a X.env) (fun v s₁=>wpAny (model X.prog X.w) X.A (eval b X.env) (fun u s₂=>wpAny (model X.prog X.w) X.A (f v u) Q X.xe s₂) X.xe s₁) X.xe s:=by
 refine thn (ha pins s σ H _ I h) fun v s1 ⟨x,H1,I1,r1,q1⟩=>?_;refine thn (hb pins s1 σ H1 _ I1 q1) fun u s2 ⟨y,H2,I2,r2,q2⟩=>?_;exact hf v u s2 x y H2 I2 r1 r2 q2
theorem aH{op:Operator}{r:R2}(ho:OpR X (binaryOp op) r)(ha:PE X a ta)(hb:PE X b tb):PE X (.BinOp a op b pos) (tOp r ta tb):=by
 intro pins s σ H Q I h;exact wpAny_BinOp (Uv ha hb I h fun v u s2 x y H2 I2 rx ry q=>ho pins s2 σ H2 x y v u Q I2 rx ry q)
theorem vZ{op:UnaryOp}{r:V->Hp->VK->Prop}(ho:UnR X (unaryOp op) r)(ha:PE X a ta):PE X (.UnaryOp op a pos) (tUn r ta):=by
 intro pins s σ H Q I h;exact UnaryOp_ (thn (ha pins s σ H _ I h) fun v s1 ⟨x,H1,I1,r1,q1⟩=>ho pins s1 σ H1 x v Q I1 r1 q1)
theorem opI{f:Value->Value->Sem Value}{C:Int->Int->Prop}{g:Int->Int->Int}
  (rule:∀(i j:Int) (t u:Tok) (s:Shared) (Q:Value->Shared->Prop) (E:Value->Shared->Prop),C i j->Q (.int (g i j) s.toks) { s with toks:=s.toks+1 }->wpAny (model X.prog X.w) X.A (f (.int i t) (.int j u)) Q E s):
  OpR X f (rI C fun i j=> .int (g i j)):=by
 intro pins s σ H x y v u Q I rx ry h;obtain⟨i,j,rfl,rfl,hc,q⟩:=h;obtain⟨t,rfl⟩:=rx;obtain⟨t',rfl⟩:=ry;exact rule i j t t' s _ _ hc ⟨.int (g i j),H,I.tok _,⟨_,rfl⟩,q⟩
theorem VJ{f:Value->Value->Sem Value}{g:Int->Int->Int}
  (rule:∀(i j:Int) (t u:Tok) (s:Shared) (Q:Value->Shared->Prop) (E:Value->Shared->Prop),Q (.int (g i j) s.toks) { s with toks:=s.toks+1 }->wpAny (model X.prog X.w) X.A (f (.int i t) (.int j u)) Q E s):
  OpR X f (rI0 fun i j=> .int (g i j)):=by
 intro pins s σ H x y v u Q I rx ry h;obtain⟨i,j,rfl,rfl,q⟩:=h;obtain⟨t,rfl⟩:=rx;obtain⟨t',rfl⟩:=ry;exact rule i j t t' s _ _ ⟨.int (g i j),H,I.tok _,⟨_,rfl⟩,q⟩
theorem RM{f:Value->Value->Sem Value}{g:Int->Int->Bool}
  (rule:∀(i j:Int) (t u:Tok) (s:Shared) (Q:Value->Shared->Prop) (E:Value->Shared->Prop),Q (.bool (g i j)) s->wpAny (model X.prog X.w) X.A (f (.int i t) (.int j u)) Q E s):
  OpR X f (rI0 fun i j=> .bl (g i j)):=by
 intro pins s σ H x y v u Q I rx ry h;obtain⟨i,j,rfl,rfl,q⟩:=h;obtain⟨t,rfl⟩:=rx;obtain⟨t',rfl⟩:=ry;exact rule i j t t' s _ _ ⟨.bl (g i j),H,I,rfl,q⟩
def Xn(i j:Int):Prop:=0<j/\j<1073741824
def Xx(i j:Int):Prop:=0<=j/\j<=1000000/\i.natAbs<2^64
theorem Ao(k:Nat):(0:Int)<=2^k:=by
 rw[two_pow_cast];exact Int.natCast_nonneg _
theorem MG:OpR X (binaryOp .Add) (rI0 fun i j=> .int (i+j)):=VJ fun _ _ _ _ _ _ _ q=>add_int q
theorem bV:OpR X (binaryOp .Sub) (rI0 fun i j=> .int (i-j)):=VJ fun _ _ _ _ _ _ _ q=>sub_int q
theorem yS:OpR X (binaryOp .FloorDiv) (rI Xn fun i j=> .int (i/j)):=opI fun i j _ _ _ _ _ hc q=>by
 have h1:(0:Int)<j:=hc.1;have h2:j<1073741824:=hc.2;exact floordiv_int (by omega) (by rw[Int.fdiv_eq_ediv_of_nonneg i (by omega)];exact q) (.inl (PyProof.noPylong_small (by omega)))
theorem cO:OpR X (binaryOp .Mod) (rI (fun _ j=>0<j) fun i j=> .int (i%j)):=opI fun i j _ _ _ _ _ hc q=>by
 have h1:(0:Int)<j:=hc;exact mod_int' (by omega) (by rw[Int.fmod_eq_emod_of_nonneg i (by omega)];exact q)
theorem m6:OpR X (binaryOp .Pow) (rI Xx fun i j=> .int (i^j.toNat)):=opI fun _ _ _ _ _ _ _ hc q=>pow_int_small hc.1 hc.2.1 hc.2.2 q
theorem M5:OpR X (binaryOp .RShift) (rI (fun _ j=>0<=j) fun i j=> .int (i/2^j.toNat)):=opI fun i j _ _ _ _ _ hc q=>
 rshift_int hc (by rw[Int.fdiv_eq_ediv_of_nonneg i (Ao _)];exact q)
theorem unI{f:Value->Sem Value}{g:Int->Int}
  (rule:∀(i:Int) (t:Tok) (s:Shared) (Q:Value->Shared->Prop) (E:Value->Shared->Prop),Q (.int (g i) s.toks) { s with toks:=s.toks+1 }->wpAny (model X.prog X.w) X.A (f (.int i t)) Q E s):
  UnR X f (rU fun i=> .int (g i)):=by
 intro pins s σ H x v Q I rx h;obtain⟨i,rfl,q⟩:=h;obtain⟨t,rfl⟩:=rx;exact rule i t s _ _ ⟨.int (g i),H,I.tok _,⟨_,rfl⟩,q⟩
theorem pX:UnR X (unaryOp .USub) (rU fun i=> .int (-i)):=unI fun _ _ _ _ _ q=>neg_int q
end
def O8:V->V->Bool
 |.non,.non=>true | .non,.int _=>true | .int _,.non=>true | .non,.bl _=>true | .bl _,.non=>true | .non,.str _=>true | .str _,.non=>true
 |.int _,.int _=>true | .bl _,.bl _=>true | .str _,.str _=>true | .byt _,.byt _=>true
 |.int _,.str _=>true | .str _,.int _=>true | .bl _,.str _=>true | .str _,.bl _=>true
 |_,_=>false
def rEq:R2:=fun x y H Q=>O8 x y=true/\Q (.bl (decide (x=y))) H
def rNe:R2:=fun x y H Q=>O8 x y=true/\Q (.bl (!decide (x=y))) H
theorem Ep{i j:Int}:decide (V.int i=V.int j)=(i==j):=by
 rw[Bool.eq_iff_iff];simp
theorem Ho{i j:Bool}:decide (V.bl i=V.bl j)=(i==j):=by
 rw[Bool.eq_iff_iff];simp
theorem E4{i j:Str}:decide (V.str i=V.str j)=(i==j):=by
 rw[Bool.eq_iff_iff];simp
theorem C5{i j:Array UInt8}:decide (V.byt i=V.byt j)=(i.toList==j.toList):=by
 rw[Bool.eq_iff_iff];cases i;cases j;simp
section
variable {X:Cx} {a b c:Expr} {ta tb tc:TE} {pos:Pos}
theorem cD{pins:List (Addr×Obj)}{σ:St}{H:Hp}{s:Shared}{Q:VK}{k k':Bool}(I:Inv X pins σ H s)(q:Q (.bl k) H)(e:k=k'):EP X pins σ Q (.bool k') s:=by
 subst e;exact⟨.bl k,H,I,rfl,q⟩
theorem Qd:OpR X (compareOp .Eq) rEq:=by
 intro pins s σ H x y v u Q I rx ry h;obtain⟨hs,q⟩:=h;cases x with
 |non=>
  cases rx;cases y with
  |non=>cases ry;exact PySem.EqNone.eq_none_none (cD I q (by simp))
  |bl j=>cases ry;exact PySem.EqNone.eq_none_bool (cD I q (by simp))
  |int j=>obtain⟨t',rfl⟩:=ry;exact PySem.EqNone.eq_none_int (cD I q (by simp))
  |str j=>obtain⟨t',rfl⟩:=ry;exact PySem.EqNone.eq_none_str (cD I q (by simp))
  |_=>exact absurd (show false=true from hs) Bool.false_ne_true
 |bl i=>
  cases rx;cases y with
  |non=>cases ry;exact PySem.EqNone.eq_bool_none (cD I q (by simp))
  |bl j=>cases ry;exact eq_bool (cD I q Ho)
  |str j=>obtain⟨t',rfl⟩:=ry;exact PySem.EqMixed.eq_bool_str (cD I q (by simp))
  |_=>exact absurd (show false=true from hs) Bool.false_ne_true
 |int i=>
  obtain⟨t,rfl⟩:=rx;cases y with
  |non=>cases ry;exact PySem.EqNone.eq_int_none (cD I q (by simp))
  |int j=>obtain⟨t',rfl⟩:=ry;exact eq_int (cD I q Ep)
  |str j=>obtain⟨t',rfl⟩:=ry;exact PySem.EqMixed.eq_int_str (cD I q (by simp))
  |_=>exact absurd (show false=true from hs) Bool.false_ne_true
 |str i=>
  obtain⟨t,rfl⟩:=rx;cases y with
  |non=>cases ry;exact PySem.EqNone.eq_str_none (cD I q (by simp))
  |bl j=>cases ry;exact PySem.EqMixed.eq_str_bool (cD I q (by simp))
  |int j=>obtain⟨t',rfl⟩:=ry;exact PySem.EqMixed.eq_str_int (cD I q (by simp))
  |str j=>obtain⟨t',rfl⟩:=ry;exact eq_str (cD I q E4)
  |_=>exact absurd (show false=true from hs) Bool.false_ne_true
 |byt i=>
  obtain⟨t,rfl⟩:=rx;cases y with
  |byt j=>obtain⟨t',rfl⟩:=ry;exact W.eq_bytes (cD I q C5)
  |_=>exact absurd (show false=true from hs) Bool.false_ne_true
 |_=>cases y<;>exact absurd (show false=true from hs) Bool.false_ne_true
theorem Tg:OpR X (compareOp .NotEq) rNe:=by
 intro pins s σ H x y v u Q I rx ry h;obtain⟨hs,q⟩:=h;cases x with
 |non=>
  cases rx;cases y with
  |non=>cases ry;exact PySem.EqNone.ne_none_none (cD I q (by simp))
  |bl j=>cases ry;exact PySem.EqNone.ne_none_bool (cD I q (by simp))
  |int j=>obtain⟨t',rfl⟩:=ry;exact PySem.EqNone.ne_none_int (cD I q (by simp))
  |str j=>obtain⟨t',rfl⟩:=ry;exact PySem.EqNone.ne_none_str (cD I q (by simp))
  |_=>exact absurd (show false=true from hs) Bool.false_ne_true
 |bl i=>
  cases rx;cases y with
  |non=>cases ry;exact PySem.EqNone.ne_bool_none (cD I q (by simp))
  |bl j=>cases ry;exact ne_bool (cD I q (congrArg not Ho))
  |str j=>obtain⟨t',rfl⟩:=ry;exact PySem.EqMixed.ne_bool_str (cD I q (by simp))
  |_=>exact absurd (show false=true from hs) Bool.false_ne_true
 |int i=>
  obtain⟨t,rfl⟩:=rx;cases y with
  |non=>cases ry;exact PySem.EqNone.ne_int_none (cD I q (by simp))
  |int j=>obtain⟨t',rfl⟩:=ry;exact ne_int (cD I q (congrArg not Ep))
  |str j=>obtain⟨t',rfl⟩:=ry;exact PySem.EqMixed.ne_int_str (cD I q (by simp))
  |_=>exact absurd (show false=true from hs) Bool.false_ne_true
 |str i=>
  obtain⟨t,rfl⟩:=rx;cases y with
  |non=>cases ry;exact PySem.EqNone.ne_str_none (cD I q (by simp))
  |bl j=>cases ry;exact PySem.EqMixed.ne_str_bool (cD I q (by simp))
  |int j=>obtain⟨t',rfl⟩:=ry;exact PySem.EqMixed.ne_str_int (cD I q (by simp))
  |str j=>obtain⟨t',rfl⟩:=ry;exact ne_str (cD I q (congrArg not E4))
  |_=>exact absurd (show false=true from hs) Bool.false_ne_true
 |byt i=>
  obtain⟨t,rfl⟩:=rx;cases y with
  |byt j=>obtain⟨t',rfl⟩:=ry;exact W.ne_bytes (cD I q (congrArg not C5))
  |_=>exact absurd (show false=true from hs) Bool.false_ne_true
 |_=>cases y<;>exact absurd (show false=true from hs) Bool.false_ne_true
theorem sE:OpR X (compareOp .Lt) (rI0 fun i j=> .bl (decide (i<j))):=RM fun _ _ _ _ _ _ _ q=>lt_int q
theorem Mu:OpR X (compareOp .LtE) (rI0 fun i j=> .bl (decide (i<=j))):=RM fun _ _ _ _ _ _ _ q=>le_int q
theorem qX:OpR X (compareOp .Gt) (rI0 fun i j=> .bl (decide (j<i))):=RM fun _ _ _ _ _ _ _ q=>gt_int q
theorem OpR.or{f:Value->Value->Sem Value}{r r':R2}(h:OpR X f r)(h':OpR X f r'):OpR X f (fun x y H Q=>r x y H Q∨r' x y H Q):=by
 intro pins s σ H x y v u Q I rx ry q;rcases q with q|q
 ·exact h pins s σ H x y v u Q I rx ry q
 ·exact h' pins s σ H x y v u Q I rx ry q
theorem aZ(b:Expr){op:CmpOp}(h:op≠ .In:=by decide)(h2:op≠ .NotIn:=by decide):behindInMarks op b=false:=by
 have e1:(op==CmpOp.In)=false:=by cases op<;>first|rfl|exact absurd rfl h
 have e2:(op==CmpOp.NotIn)=false:=by cases op<;>first|rfl|exact absurd rfl h2
 cases b<;>simp[behindInMarks,e1,e2]
theorem lW{op:CmpOp}{r:R2}(ho:OpR X (compareOp op) r)(ha:PE X a ta)(hb:PE X b tb)(hm:behindInMarks op b=false):PE X (.Compare a [op] [b] pos) (tOp r ta tb):=by
 intro pins s σ H Q I h;exact wpAny_Compare1 (Uv ha hb I h fun v u s2 x y H2 I2 rx ry q=>ho pins s2 σ H2 x y v u Q I2 rx ry q) hm
inductive Ws(x:V)(H:Hp)(Q:Bool->Hp->Prop):Prop|mk (k:Bool) (hx:x = .bl k) (q:Q k H)
def SM(t:TE):TT:=fun σ H Q=>t σ H fun x H'=>Ws x H' Q
theorem aR{op:CmpOp}{r:R2}(ho:OpR X (compareOp op) r)(ha:PE X a ta)(hb:PE X b tb)(hm:behindInMarks op b=false):PT X (.Compare a [op] [b] pos) (SM (tOp r ta tb)):=by
 intro pins s σ H Q I h;refine wpAny_isTrue_Compare1 (thn (ha pins s σ H _ I h) fun v s1 ⟨x,H1,I1,r1,q1⟩=>thn (hb pins s1 σ H1 _ I1 q1) fun u s2 ⟨y,H2,I2,r2,q2⟩=>
  thn (ho pins s2 σ H2 x y v u _ I2 r1 r2 q2) fun c s3 ⟨z,H3,I3,r3,k,e,q3⟩=>?_) hm
 subst e;cases r3;exact wpAny_truthy_bool ⟨H3,I3,q3⟩
theorem KP{κ:Type}{kvs:List (κ×V)}{vs:List (κ×Value)}(r:KV kvs vs):(!vs.isEmpty)=!kvs.isEmpty:=by
 cases r<;>rfl
theorem KY{xs:List V}{its:List Value}(r:Vals xs its):(!its.toArray.isEmpty)=!xs.isEmpty:=by
 cases r<;>simp
theorem wK:(sizeLine:Nat)<2^63:=by rw[sizeLine_eq];decide
theorem Bw:OpR X (binaryOp .Add) (fun x y H Q=>∃i j,x = .str i/\y = .str j/\i.length+j.length<=sizeLine/\Q (.str (i++j)) H):=by
 intro pins s σ H x y v u Q I rx ry h;obtain⟨i,j,rfl,rfl,hz,q⟩:=h;obtain⟨t,rfl⟩:=rx;obtain⟨t',rfl⟩:=ry;exact add_str (fun t' tk=>⟨.str (i++j),H,I.tok _,⟨_,rfl⟩,q⟩) hz
theorem vals1{x:V}{us:List Value}(r:Vals [x] us):∃u,us=[u]/\RelV x u:=by
 cases r with
 |cons r1 r2=>cases r2;exact⟨_,rfl,r1⟩
theorem vals2{x y:V}{us:List Value}(r:Vals [x,y] us):∃u w',us=[u,w']/\RelV x u/\RelV y w':=by
 cases r with
 |cons r1 r2=>
  cases r2 with
  |cons r3 r4=>cases r4;exact⟨_,_,rfl,r1,r3⟩
theorem Dl(hc:X.calm=true):oh X (.builtin "max") (fun xs H Q=>∃i j,xs=[.int i,.int j]/\Q (.int (if j>i then j else i)) H):=by
 intro pins s σ H xs us Q I r h;obtain⟨i,j,rfl,q⟩:=h;obtain⟨u,w',rfl,⟨t,rfl⟩,⟨t',rfl⟩⟩:=vals2 r;refine max_two_ints (I.ok.hd hc) fun h' tk k=>⟨_,H,I.kept k,?_,q⟩;by_cases hj:j>i
 ·rw[if_pos hj,if_pos hj];exact⟨_,rfl⟩
 ·rw[if_neg hj,if_neg hj];exact⟨_,rfl⟩
theorem DL(hc:X.calm=true):oh X (.builtin "min") (fun xs H Q=>∃i j,xs=[.int i,.int j]/\Q (.int (if j<i then j else i)) H):=by
 intro pins s σ H xs us Q I r h;obtain⟨i,j,rfl,q⟩:=h;obtain⟨u,w',rfl,⟨t,rfl⟩,⟨t',rfl⟩⟩:=vals2 r;refine min_two_ints (I.ok.hd hc) fun h' tk k=>⟨_,H,I.kept k,?_,q⟩;by_cases hj:j<i
 ·rw[if_pos hj,if_pos hj];exact⟨_,rfl⟩
 ·rw[if_neg hj,if_neg hj];exact⟨_,rfl⟩
theorem CZ:oh X (.type "int") (fun xs H Q=>(∃i,xs=[.int i]/\Q (.int i) H)∨∃k,xs=[.bl k]/\Q (.int (if k then 1 else 0)) H):=by
 intro pins s σ H xs us Q I r h;rcases h with⟨i,rfl,q⟩|⟨k,rfl,q⟩
 ·obtain⟨u,rfl,t,rfl⟩:=vals1 r;exact call_int_int ⟨.int i,H,I,⟨_,rfl⟩,q⟩
 ·obtain⟨u,rfl,r1⟩:=vals1 r;cases r1;exact call_int_bool ⟨.int (if k then 1 else 0),H,I.tok _,⟨_,rfl⟩,q⟩
def Vq(K:W.Frag)(x:V)(H:Hp)(n:Nat):Prop:=
 match x with
 |.str y=>y.length<=sizeLine/\n=y.length
 |.byt y=>y.size<=sizeLine/\n=y.size
 |.ref p=>(∃xs,SqL K H p xs/\n=xs.length)∨∃xs,SqT K H p xs/\n=xs.length
 |_=>False
theorem Gi:oh X (.builtin "len") (fun xs H Q=>∃x n,xs=[x]/\Vq X.K x H n/\Q (.int n) H):=by
 intro pins s σ H xs us Q I r h;obtain⟨x,n,rfl,e,q⟩:=h;obtain⟨u,rfl,rx⟩:=vals1 r;have hl:=wK;have hs:sizeLine=16777216:=sizeLine_eq;cases x with
 |str y=>
  obtain⟨t,rfl⟩:=rx;obtain⟨hy,e'⟩:y.length<=sizeLine/\n=y.length:=e;subst e';exact len_str (by omega) ⟨.int _,H,I.tok _,⟨_,rfl⟩,q⟩
 |byt y=>
  obtain⟨t,rfl⟩:=rx;obtain⟨hy,e'⟩:y.size<=sizeLine/\n=y.size:=e;subst e';exact W.len_bytes (by omega) ⟨.int _,H,I.tok _,⟨_,rfl⟩,q⟩
 |ref p=>
  cases rx;have e':(∃xs,SqL X.K H p xs/\n=xs.length)∨∃xs,SqT X.K H p xs/\n=xs.length:=e;rcases e' with⟨xs,hx,e'⟩|⟨xs,hx,e'⟩
  ·subst e';obtain⟨its,r',pl,hz⟩:=I.list hx;have hlen:=r'.length;exact Calls.call_len_list pl.isList (by simp only[List.size_toArray];omega) ⟨.int xs.length,H,I.tok _,⟨_,by simp only[List.size_toArray];rw[hlen]⟩,q⟩
  ·subst e';obtain⟨its,r',pl,hz⟩:=I.tuple hx;have hlen:=r'.length;exact len_tuple pl (by simp only[List.size_toArray];omega) ⟨.int xs.length,H,I.tok _,⟨_,by simp only[List.size_toArray];rw[hlen]⟩,q⟩
 |_=>exact(show False from e).elim
end
section
variable {prog:Program} {w:World} {A:Around} {E:Value->Shared->Prop} {s:Shared} {K:W.Frag} {x dx C f:Addr} {mA:Str->Option Value} {name:Str} {v:Value}
end
theorem FD.some_of{v:V}{o:Option Value}(r:FD (some v) o):∃u,o=some u/\RelV v u:=by
 cases o with
 |none=>exact(show False from r).elim
 |some u=>exact⟨u,rfl,r⟩
theorem FD.none_of{o:Option Value}(r:FD none o):o=none:=by
 cases o with
 |none=>rfl
 |some u=>exact(show False from r).elim
section
variable {P:Program} {w:World} {H H':Hp} {h h':Heap} {a C dx:Addr} {fs fs':List (Str×V)}
end
section
variable {X:Cx} {pins:List (Addr×Obj)} {σ:St} {H:Hp} {s:Shared} {a C dx:Addr} {fs:List (Str×V)} {f:Str} {v:V} {A:Around} {E:Value->Shared->Prop}
end
section
variable {X:Cx} {o e value:Expr} {f:Str} {pos pos' tpos:Pos} {ta tv:TE}
end
section
variable {X:Cx} {pins:List (Addr×Obj)} {σ:St} {H:Hp} {s:Shared} {A:Around} {E:Value->Shared->Prop} {Q:Value->Shared->Prop} {c:Value} {b:Bool}
end
structure mR(k:Nat)(A:Around):Prop where
 hd:A.handled=none
 dp:A.depth+3*k+5<recursionLimit
 un:A.units+16*k+200<cLine
theorem mR.mono{j k:Nat}{A:Around}(r:mR k A)(h:j<=k):mR j A:=⟨r.hd,by have:=r.dp;omega,by have:=r.un;omega⟩
theorem mR.deeper{k:Nat}{A:Around}(r:mR (k+1) A)(env:Env):mR k (A.deeper env):=
 ⟨r.hd,by have:=r.dp;show A.depth+1+3*k+5<_;omega,by have:=r.un;show A.units+3+16*k+200<_;omega⟩
theorem mR.depth{k:Nat}{A:Around}(r:mR k A):A.depth<recursionLimit:=by have:=r.dp;omega
theorem mR.units{k:Nat}{A:Around}(r:mR k A):A.units+64<cLine:=by have:=r.un;omega
theorem mR.HB{k:Nat}{A:Around}(r:mR k A):A.units<cLine:=by have:=r.un;omega
def Vp:TA:=fun _ H Q=>Q [] H
def xQ(ta:TE)(tr:TA):TA:=fun σ H Q=>ta σ H fun x H1=>tr σ H1 fun xs H2=>Q (x::xs) H2
section
variable {X:Cx} {e:Expr} {es:List Expr} {te:TE} {t:TA} {pos:Pos}
theorem ak:PA X [] Vp:=fun _ _ _ _ H Q I h=>Calls.spliced_nil ⟨[],H,I,.nil,h⟩
theorem aG(ha:PE X e te)(hr:PA X es t)(hs:starEach (e::es) X.env=(false,eval e X.env)::starEach es X.env:=by rfl):PA X (e::es) (xQ te t):=by
 intro pos pins s σ H Q I h;rw[hs];show wpAny _ _ (spliced ((false,eval e X.env)::backTo pos (starEach es X.env))) _ _ s;refine Calls.spliced_cons (thn (ha pins s σ H _ I h) fun u s1 ⟨x,H1,I1,r1,q1⟩=>?_);exact thn (hr pos pins s1 σ H1 _ I1 q1) fun us s2 ⟨xs,H2,I2,r2,q2⟩=>⟨x::xs,H2,I2,.cons r1 r2,q2⟩
inductive V7(xs:List V)(o:HO)(H:Hp)(Q:VK):Prop|mk (hz:xs.length<=sizeLine) (q:∀p,H p=none->Q (.ref p) (upd H p o))
def Xd(t:TA):TE:=fun σ H Q=>t σ H fun xs H1=>V7 xs (.tup xs) H1 Q
def W8(t:TA):TE:=fun σ H Q=>t σ H fun xs H1=>V7 xs (.lst xs) H1 Q
theorem lF{x1}(h:PA X es t):PE X (.Tuple es x1 pos) (Xd t):=by
 intro pins s σ H Q I hq;refine wpAny_Tuple_spliced (thn (h pos pins s σ H _ I hq) fun us s1 ⟨xs,H1,I1,r,z,q⟩=>⟨by rw[<-r.length];exact z,?_⟩);have hf:H1 s1.heap.objs.size=none:=I1.hok.fresh (Nat.le_refl _);refine⟨.ref s1.heap.objs.size,upd H1 s1.heap.objs.size (.tup xs),I1.laid (t':=s1.toks) (fun b u e=>Heap.get?_push_of_some _ e) (Nat.le_refl _) ?_,rfl,q _ hf⟩;exact⟨z,us,r,⟨_,Heap.get?_push_size _ rfl,rfl,_,rfl⟩⟩
theorem jg(h:PA X es t):PE X (.List es pos) (W8 t):=by
 intro pins s σ H Q I hq;refine wpAny_List_spliced (thn (h pos pins s σ H _ I hq) fun us s1 ⟨xs,H1,I1,r,z,q⟩=>⟨by rw[<-r.length];exact z,?_⟩);have hf:H1 s1.heap.objs.size=none:=I1.hok.fresh (Nat.le_refl _);refine⟨.ref s1.heap.objs.size,upd H1 s1.heap.objs.size (.lst xs),I1.laid (t':=s1.toks) (fun b u e=>Heap.get?_push_of_some _ e) (Nat.le_refl _) ?_,rfl,q _ hf⟩;exact⟨z,us,0,r,Heap.get?_push_size _ rfl⟩
end
abbrev Sp:=List V->Hp->VK->XK->Prop
abbrev CXT:=List Env->Hp->Shared->XK->Value->Shared->Prop
structure Oo(P:Program)(w:World)(K:W.Frag)(mg:Str->Option Value)(base:Heap)(A:Around)(outer:List Env)(s:Shared)(H:Hp):Prop where
 frames:A.frames=some outer
 mod:Mod K mg base
 bs:∀b o,base.get? b=some o->s.heap.get? b=some o/\H b=none
 bsz:base.objs.size<=s.heap.objs.size
 B6:s.heap.FunFrames base outer
 frf:∀b∈frs outer,H b=none
 hok:HOk P w H s.heap
 bare:AllBare s.gens
def CE(outer:List Env)(P:Program)(w:World)(H:Hp)(s:Shared)(Q:VK)(u:Value)(s':Shared):Prop:=
 ∃v H',s'.os=s.os/\AllBare s'.gens/\Un (frs outer) [] H H' s.heap s'.heap/\HOk P w H' s'.heap/\RelV v u/\Q v H'
def CR(CX:CXT)(outer:List Env)(P:Program)(w:World)(H:Hp)(s:Shared)(Q:VK)(E:XK)(r:Result)(s':Shared):Prop:=
 match r with
 |.ok (.ret u)=>CE outer P w H s Q u s'
 |.ok _=>False
 |.error e=>CX outer H s E e s'
structure E7(P:Program)(w:World)(K:W.Frag)(mg:Str->Option Value)(base:Heap)(CX:CXT)(k:Nat)(f:Addr)(fd:FuncData)(ps:List Str)(sp:Sp):Prop where
 len:∀vs H Q E,sp vs H Q E->vs.length=ps.length
 run:∀(A:Around) (outer:List Env) (s:Shared) (H:Hp) (args:Args) (us:List Value) (vs:List V) (Q:VK) (E:XK),mR k A->Oo P w K mg base A outer s H->BindsTo s fd args (ps.zip us)->Vals vs us->sp vs H Q E->
  codeAny (model P w) A (.call (.ref f) args) (CR CX outer P w H s Q E) s
section
variable {X:Cx} {pins:List (Addr×Obj)} {σ:St} {H:Hp} {s s':Shared}
theorem Inv.env0(I:Inv X pins σ H s):Oo X.prog X.w X.K X.mg X.base X.A X.stack s H:=
 ⟨I.ok.frames,I.ok.mod,I.bs,Nat.le_trans I.ok.bsz I.sz,I.stack,I.El,I.hok,I.bare⟩
theorem Inv.after{Q:VK}{u:Value}(I:Inv X pins σ H s)(h:CE X.stack X.prog X.w H s Q u s'):EP X pins σ Q u s':=by
 obtain⟨v,H',os,bare,un,hok,r,q⟩:=h;obtain⟨hh,g,d,t,os'⟩:=s';obtain rfl:os'=s.os:=os;exact⟨v,H',I.call (h':=hh) (g':=g) (d':=d) (t':=t) (ch:=[]) un hok bare (fun b z=>absurd z (by simp)),r,q⟩
end
def LC(sp:Sp)(dvs:List V)(E:XK)(t:TA):TE:=fun σ H Q=>t σ H fun vs H1=>sp (vs++dvs) H1 Q E
def Binds(K:W.Frag)(fd:FuncData)(ps:List Str)(ds:List Value):Prop:=
 ∀(s:Shared) (us:List Value),K.In s.heap->(us++ds).length=ps.length->BindsTo s fd ⟨us,[]⟩ (ps.zip (us++ds))
theorem Binds.all{K:W.Frag}{fd:FuncData}{ps:List Str}(h:∀us:List Value,us.length=ps.length->bindArgs fd ⟨us,[]⟩=pure (ps.zip us)):Binds K fd ps []:=fun s us _ hl=>by
 rw[List.append_nil]at hl⊢;exact .of_eq (h us hl)
def Passes(CX:CXT)(X:Cx)(E:XK):Prop:=∀(pins:List (Addr×Obj)) (σ:St) (H:Hp) (s:Shared) (e:Value) (s':Shared),Inv X pins σ H s->CX X.stack H s E e s'->X.xe e s'
section
variable {X:Cx} {CX:CXT} {k:Nat} {f C:Addr} {fd:FuncData} {ps:List Str} {sp:Sp} {dvs:List V} {ds:List Value} {E:XK} {x m:Str} {p pos apos:Pos} {e o:Expr} {es:List Expr} {ta:TE} {t:TA}
theorem Mt{pins:List (Addr×Obj)}{σ:St}{H:Hp}{s:Shared}{Q:VK}{us:List Value}{vs:List V}(F:E7 X.prog X.w X.K X.mg X.base CX k f fd ps sp)(hr:mR k X.A)(hb:Binds X.K fd ps ds)(hd:Vals dvs ds)(hx:Passes CX X E)
  (I:Inv X pins σ H s) (r:Vals vs us) (h:sp (vs++dvs) H Q E):wpAny (model X.prog X.w) X.A (call (.ref f) us) (EP X pins σ Q) X.xe s:=by
 have r2:Vals (vs++dvs) (us++ds):=r.append hd;have hl:(us++ds).length=ps.length:=by rw[<-r2.length];exact F.len _ _ _ _ h
 refine wpAny_call (codeAny_mono (F.run X.A X.stack s H ⟨us,[]⟩ (us++ds) (vs++dvs) Q E hr I.env0 (hb s us I.kIn hl) r2 h) fun r s' hq=>?_);cases r with
 |error e=>exact hx pins σ H s e s' I hq
 |ok fl=>
  cases fl with
  |ret u=>exact I.after hq
  |next=>exact False.elim hq
  |brk=>exact False.elim hq
  |cont=>exact False.elim hq
theorem JB(F:E7 X.prog X.w X.K X.mg X.base CX k f fd ps sp)(hr:mR k X.A)(hg:Gl X x)(hm:X.mg x=some (.ref f))(hk:W.keepIn X.K (.ref f)=true)(hb:Binds X.K fd ps ds)(hd:Vals dvs ds)(hx:Passes CX X E)
  (ha:PA X (e::es) t) (hdb:(x==("__debug__" : Str))=false:=by decide) (he:starEach (e::es) X.env=(false,eval e X.env)::starEach es X.env:=by rfl) (hpl:(backTo pos (starEach es X.env)).any (·.1)=false:=by rfl):
  PE X (.Call (.Name x p) (e::es) [] pos) (LC sp dvs E t):=by
 intro pins s σ H Q I h;refine wpAny_Call_Name_kw (DX I hg hm ?_ hdb);refine W.callWith_K (h₀:=X.base) I.ok.mod.kin hk (thn (ha pos pins s σ H _ I h) fun us s1 ⟨vs,H1,I1,r,q⟩=>⟨I1.kIn,?_⟩) he hpl;exact Mt F hr hb hd hx I1 r q
end
section
variable {X:Cx} {CX:CXT} {k:Nat} {f C:Addr} {fd:FuncData} {ps ks:List Str} {sp:Sp} {E:XK} {x m:Str} {p pos apos kpos:Pos} {e o:Expr} {es:List Expr} {kws:List Keyword} {te ta:TE} {t tk:TA} {nm:Option Str}
variable {g:List Value->List Value->List Value} {gV:List V->List V->List V}
end
structure aO(N P:List Str)(sc:Scope):Prop where
 kind:sc.kind = .function
 co:sc.isCoroutine=false
 gen:sc.isGenerator=false
 nd:N.Nodup
 pre:N.take P.length=P
 par:∀x∈P,sc.names.lookup x=some .local∨sc.names.lookup x=some .cell
 Ew:∀y∈sc.names,y.2≠ .free
theorem vA{kindOf:Str->Option NameKind}{x:Str}:∀{binds:List (Str×Value)} {m:Str->Option Value},(∀v,(x,v)∉binds)->bindL kindOf binds m x=m x
 |[],_,_=>rfl
 |(n,v)::r,m,h=>by
  unfold bindL;rw[vA fun w hw=>h w (List.mem_cons_of_mem _ hw)];split
  ·have:x≠n:=by rintro rfl;exact h v List.mem_cons_self
   simp[this]
  ·rfl
theorem wO{kindOf:Str->Option NameKind}{x:Str}:∀{binds:List (Str×Value)} {m:Str->Option Value},(∀v,(x,v)∉binds)->bindC kindOf binds m x=m x
 |[],_,_=>rfl
 |(n,v)::r,m,h=>by
  unfold bindC;rw[wO fun w hw=>h w (List.mem_cons_of_mem _ hw)];split
  ·rfl
  ·have:x≠n:=by rintro rfl;exact h v List.mem_cons_self
   simp[this]
theorem wz{kindOf:Str->Option NameKind}{x:Str}{v:Value}:∀{P:List Str} {vs:List Value} {i:Nat} {m:Str->Option Value},P.Nodup->P[i]?=some x->vs[i]?=some v->kindOf x=some .local->
  bindL kindOf (P.zip vs) m x=some v
 |[],_,_,_,_,h,_,_=>by simp at h
 |_::_,[],_,_,_,_,h,_=>by simp at h
 |p::P,w::vs,0,m,nd,h1,h2,hk=>by
  simp at h1 h2;subst h1;subst h2;show bindL kindOf ((p,w)::P.zip vs) m p=_;unfold bindL;rw[vA fun v hv=>(List.nodup_cons.mp nd).1 (List.of_mem_zip hv).1,if_pos hk];simp
 |p::P,w::vs,i+1,m,nd,h1,h2,hk=>by
  show bindL kindOf ((p,w)::P.zip vs) m x=_;unfold bindL;exact wz (i:=i) (List.nodup_cons.mp nd).2 (by simpa using h1) (by simpa using h2) hk
theorem vH{kindOf:Str->Option NameKind}{x:Str}{v:Value}:∀{P:List Str} {vs:List Value} {i:Nat} {m:Str->Option Value},P.Nodup->P[i]?=some x->vs[i]?=some v->kindOf x≠some .local->
  bindC kindOf (P.zip vs) m x=some v
 |[],_,_,_,_,h,_,_=>by simp at h
 |_::_,[],_,_,_,_,h,_=>by simp at h
 |p::P,w::vs,0,m,nd,h1,h2,hk=>by
  simp at h1 h2;subst h1;subst h2;show bindC kindOf ((p,w)::P.zip vs) m p=_;unfold bindC;rw[wO fun v hv=>(List.nodup_cons.mp nd).1 (List.of_mem_zip hv).1,if_neg hk];simp
 |p::P,w::vs,i+1,m,nd,h1,h2,hk=>by
  show bindC kindOf ((p,w)::P.zip vs) m x=_;unfold bindC;exact vH (i:=i) (List.nodup_cons.mp nd).2 (by simpa using h1) (by simpa using h2) hk
def start(N:List Str)(vs:List V):St:=vs.map some++List.replicate (N.length-vs.length) none
def KN(CX:CXT)(P:Program)(w:World)(K:W.Frag)(mg:Str->Option Value)(base:Heap)(N:List Str)(qual:Str)(scope:Scope)(f:Addr)(cd:Value)(A:Around)(outer:List Env)(s:Shared)(H:Hp)(E:XK):Cx where
 prog:=P
 w:=w
 K:=K
 mg:=mg
 base:=base
 A:=A.deeper (envOfC qual scope s.heap.objs.size f cd)
 N:=N
 s₀:=s
 H₀:=H
 env:=envOfC qual scope s.heap.objs.size f cd
 outer:=outer
 stack:=envOfC qual scope s.heap.objs.size f cd::outer
 ex:=[]
 calm:=true
 fn:=fun _=>true
 pn:=[]
 xe:=fun e s'=>wpAny (model P w) (A.deeper (envOfC qual scope s.heap.objs.size f cd)) (leaving (envOfC qual scope s.heap.objs.size f cd) e) (fun _ s''=>CX outer H s E e s'') (fun e' s''=>CX outer H s E e' s'') s'
theorem zp{sc:Scope}{n:Nat}{x:Str}(h:sc.names.lookup x=some .cell):∃c,(cellsFrom n sc.names []).lookup x=some c:=by
 have q:=W.cellsFrom_some sc.names n [] (.inl h);exact Option.isSome_iff_exists.mp q
theorem C2{CX:CXT}{P:Program}{w:World}{K:W.Frag}{mg:Str->Option Value}{base:Heap}{N ps:List Str}{qual:Str}{scope:Scope}{f:Addr}{cd:Value}{A:Around}{outer:List Env}{s s1:Shared}{H:Hp}{E:XK}{us:List Value}{vs:List V}
  (S:aO N ps scope) (hd:A.handled=none) (e0:Oo P w K mg base A outer s H) (hl:vs.length=ps.length) (r:Vals vs us)
  (x:InCallC s s.heap.objs.size (bindL (envOfC qual scope s.heap.objs.size f cd).kindOf (ps.zip us) fun _=>none) (cellsFrom (s.heap.objs.size+1) scope.names []) (bindC (envOfC qual scope s.heap.objs.size f cd).kindOf (ps.zip us) fun _=>none) s1):
  Inv (KN CX P w K mg base N qual scope f cd A outer s H E) [] (start N vs) H s1:=by
 have hpl:ps.length<=N.length:=by have:=congrArg List.length S.pre;rw[List.length_take]at this;omega
 obtain⟨h1,tk,rfl,hk⟩:=x.done;have noA:∀b:Addr,b∉(KN CX P w K mg base N qual scope f cd A outer s H E).ex:=fun b z=>absurd (show b∈([]:List Addr)from z) (by simp);refine⟨⟨e0.mod,S.kind,rfl,rfl,Nat.le_refl _,fun y z c h1 h2=>?_,fun y hy=>?_,fun y c _ h=>?_,fun _=>hd,Around.frames_deeper e0.frames,.inr ⟨rfl,rfl⟩,fun b z=>absurd z (noA b),e0.bs,e0.bsz,fun b _ _=>noA b,fun b z=>absurd z (noA b),e0.B6,e0.frf⟩,
  rfl,e0.bare,Un.kept hk,⟨_,x.toInCall.ns,fun i y v h1 h2 h3=>?_⟩,fun y c h=>⟨_,x.cell y c h⟩,e0.hok.fresh (Nat.le_refl _),fun y c h=>?_,fun p hp=>absurd (show p∈([]:List (Addr×Obj))from hp) (by simp),e0.hok.kept hk,?_⟩
 ·exact name_of_addr x.apart (PySem.mem_of_lookup h1) (PySem.mem_of_lookup h2)
 ·have hy:scope.names.lookup y=some .cell∨scope.names.lookup y=some .free:=hy;rcases hy with hy|hy
  ·exact zp hy
  ·exact absurd rfl (S.Ew _ (PySem.mem_of_lookup hy))
 ·exact Nat.le_of_lt (x.above y c (PySem.mem_of_lookup h))
 ·have hi:i<vs.length:=by
   unfold start at h2;by_cases hi:i<vs.length
   ·exact hi
   ·rw[List.getElem?_append_right (by simpa using hi)]at h2;rw[List.getElem?_replicate]at h2;split at h2<;>cases h2
  have ha:vs[i]?=some v:=by
   unfold start at h2;rw[List.getElem?_append_left (by simpa using hi),List.getElem?_map]at h2;cases e:vs[i]? with
   |none=>rw[e]at h2;cases h2
   |some a=>rw[e]at h2;cases h2;rfl
  obtain⟨u,hu,rv⟩:=r.get ha;have hp:ps[i]?=some y:=by
   rw[<-S.pre,List.getElem?_take_of_lt (by omega)];exact h1
  have ndP:ps.Nodup:=by rw[<-S.pre];exact S.nd.sublist (List.take_sublist _ _)
  refine⟨u,rv,?_⟩;rcases S.par y (List.mem_of_getElem? hp)with k|k
  ·exact .inl ⟨k,wz ndP hp hu k⟩
  ·obtain⟨c,e⟩:=zp (n:=s.heap.objs.size+1) k;refine .inr ⟨.inl k,c,e,?_⟩;have q:=x.cell y c e;rw[vH ndP hp hu (by show scope.names.lookup y≠_;rw[k];decide)]at q;exact q
 ·exact e0.hok.fresh (Nat.le_of_lt (x.above y c (PySem.mem_of_lookup h)))
 ·unfold start;show _=N.length;rw[List.length_append,List.length_map,List.length_replicate];omega
theorem RL{CX:CXT}{P:Program}{w:World}{K:W.Frag}{mg:Str->Option Value}{base:Heap}{k:Nat}{f:Addr}{name qual:Str}{params:Arguments}{body:List Stmt}{scope:Scope}{dV kV doc pm cdv ct oc:Value}{an od:Option Addr}
  {osl:Array (Option Value)} {N ps:List Str} {sp:Sp} (lk:K.lookup f=some ⟨oc,od,.func (W.fnOf name qual params body scope dV kV doc pm an cdv ct),osl⟩) (hcd:W.codeIn K cdv qual=true) (S:aO N ps scope)
  (len:∀vs H Q E,sp vs H Q E->vs.length=ps.length)
  (hbody:∀(A:Around) (outer:List Env) (s:Shared) (H:Hp) (vs:List V) (Q:VK) (E:XK),mR k (A.deeper (envOfC qual scope s.heap.objs.size f cdv))->sp vs H Q E->
   ∃t,PSs (KN CX P w K mg base N qual scope f cdv A outer s H E) body t/\t { nx:=fun _ H'=>Q .non H',rt:=Q } (start N vs) H):
  E7 P w K mg base CX (k+1) f (W.fnOf name qual params body scope dV kV doc pm an cdv ct) ps sp:=by
 refine⟨len,fun A outer s H args us vs Q E hr e0 hb r hsp=>?_⟩;have hl:=len _ _ _ _ hsp;have KX:K.In s.heap:=e0.mod.kin.keeps fun b o e=>(e0.bs b o e).1;have lim:s.heap.NoLimit:=e0.mod.nolimit.keeps fun b o e=>(e0.bs b o e).1;have hkind:∀y∈ps.zip us,scope.names.lookup y.1=some .local∨(scope.names.lookup y.1=some .cell/\((cellsFrom (s.heap.objs.size+1) scope.names []).lookup y.1).isSome=true):=fun⟨n,v⟩ hy=>by
  rcases S.par n (List.of_mem_zip hy).1 with q|q
  ·exact .inl q
  ·exact .inr ⟨q,W.cellsFrom_some _ _ _ (.inl q)⟩
 refine codeAny_call_function hr.depth (KX _ _ lk) rfl S.co S.gen rfl (W.codeRec_of KX hcd) (hb _ _ _ _ ?_);refine wpAny_newFunctionEnv_cells S.kind hkind fun env he s1 x=>?_;subst he;refine⟨lim.keeps x.toInCall.keep,codeAny_func ?_⟩;obtain⟨t,ht,hq⟩:=hbody A outer s H vs Q E (hr.deeper _) hsp;have I:Inv (KN CX P w K mg base N qual scope f cdv A outer s H E) [] (start N vs) H s1:=C2 S hr.hd e0 hl r x;refine wpAny_mono (ht [] s1 (start N vs) H _ I hq) (fun fl s' hs=>?_) fun e s' hs=>hs;have fin:∀{σ':St} {H':Hp} {v:V} {u:Value},Inv (KN CX P w K mg base N qual scope f cdv A outer s H E) [] σ' H' s'->RelV v u->Q v H'->CE outer P w H s Q u s':=
  fun {σ' H' v u} J rv q=>⟨v,H',J.os,J.bare,J.base,J.hok,rv,q⟩
 cases fl with
 |ret u=>
  obtain⟨v,σ',H',J,rv,q⟩:=hs;exact fin J rv q
 |next=>
  obtain⟨σ',H',J,q⟩:=hs;exact fin (v:=V.non) (u:=Value.none) J rfl q
 |brk=>
  obtain⟨_,_,_,q⟩:=hs;exact False.elim q
 |cont=>
  obtain⟨_,_,_,q⟩:=hs;exact False.elim q
section
variable {X:Cx} {x:Str} {p pos:Pos} {e:Expr} {es:List Expr} {t:TA} {id T:String} {r:List V->Hp->VK->Prop}
def tCB(r:List V->Hp->VK->Prop)(t:TA):TE:=fun σ H Q=>t σ H fun vs H1=>r vs H1 Q
theorem aL(hc:oh X (.builtin id) r)(hg:Gl X x)(hm:X.mg x=none)(hv:bootBuiltins x=some (.builtin id))(ha:PA X (e::es) t)(hn:x≠ "__name__" := by decide)(hdb:(x==("__debug__" : Str))=false:=by decide)
  (he:starEach (e::es) X.env=(false,eval e X.env)::starEach es X.env:=by rfl) (hpl:(backTo pos (starEach es X.env)).any (·.1)=false:=by rfl):PE X (.Call (.Name x p) (e::es) [] pos) (tCB r t):=by
 intro pins s σ H Q I h;refine wpAny_Call_Name_kw (wB I hg hm hv ?_ hn hdb);exact PyProof.Rows.callWith_builtin1 (thn (ha pos pins s σ H _ I h) fun us s1 ⟨vs,H1,I1,r1,q1⟩=>hc pins s1 σ H1 vs us Q I1 r1 q1) he hpl
theorem bB(hc:oh X (.type T) r)(hg:Gl X x)(hm:X.mg x=none)(hv:bootBuiltins x=some (.type T))(ha:PA X (e::es) t)(hn:x≠ "__name__" := by decide)(hdb:(x==("__debug__" : Str))=false:=by decide)
  (he:starEach (e::es) X.env=(false,eval e X.env)::starEach es X.env:=by rfl) (hpl:(backTo pos (starEach es X.env)).any (·.1)=false:=by rfl):PE X (.Call (.Name x p) (e::es) [] pos) (tCB r t):=by
 intro pins s σ H Q I h;refine wpAny_Call_Name_kw (wB I hg hm hv ?_ hn hdb);exact PyProof.Rows.callWith_type1 (thn (ha pos pins s σ H _ I h) fun us s1 ⟨vs,H1,I1,r1,q1⟩=>hc pins s1 σ H1 vs us Q I1 r1 q1) he hpl
end
end L2
namespace HT
open PySem PyProof.Rows
section
open PySem.SeqAt
open PySem.AutoSeq1 (wpAny_loadPart')
open PySem.MeetsSeq PySem.MeetsSeq2 PySem.MeetsSeq3
end
section
variable {prog:Program} {w:World} {A:Around} {E:Value->Shared->Prop} {s:Shared}
theorem Jc{t b:Addr}{vs ws:List Value}{Q:Value->Shared->Prop}(ht:IsTup s.heap t vs.toArray)(hb:IsTup s.heap b ws.toArray)(hv:vs≠[])
  (h1:ws=[]->Q (.ref t) s) (h2:ws≠[]->Q (.ref s.heap.objs.size) { s with heap:=s.heap.push { cls:= .type "tuple",data:= .seq (vs++ws).toArray } })
  (hsz:vs.length+ws.length<=sizeLine):wpAny (model prog w) A (binaryOp .Add (.ref t) (.ref b)) Q E s:=by
 obtain⟨⟨cls,dd,data,sl⟩,ho,hc,n,hd⟩:=id ht;obtain⟨⟨cls2,dd2,data2,sl2⟩,ho2,hc2,n2,hd2⟩:=id hb;simp only at hc hd hc2 hd2;subst hc hd hc2 hd2;have e:vs.toArray++ws.toArray=(vs++ws).toArray:=by simp
 by_cases hw:ws=[]
 ·exact concat_meets ⟨_,ho,rfl⟩ ⟨_,ho2,rfl⟩ noFill_tuple_add seq_tuple_add PySem.F.slot_tuple_add PySem.F.entry_tuple_add (PySem.F.args_tuple_add_2 _ _)
   (tuple_addW1 t b vs.toArray ws.toArray n n2 dd dd2 sl sl2 (by simpa using hv) (by simp[hw])) ⟨ho,ho2,h1 hw⟩
 ·refine concat_meets ⟨_,ho,rfl⟩ ⟨_,ho2,rfl⟩ noFill_tuple_add seq_tuple_add PySem.F.slot_tuple_add PySem.F.entry_tuple_add (PySem.F.args_tuple_add_2 _ _)
   (tuple_addW2 t b vs.toArray ws.toArray n n2 dd dd2 sl sl2 (by simpa using hv) (by simpa using hw) (by rw[List.size_toArray,List.size_toArray];exact hsz)) ⟨ho,ho2,?_⟩
  rw[e];exact h2 hw
def sIx(n d:Nat):Option Int->Nat
 |none=>d
 |some v=>if v<0 then(v+(n:Int)).toNat else min v.toNat n
theorem gG(n d:Nat):sIx n d none=d:=rfl
theorem jk(n d k:Nat):sIx n d (some (k:Int))=min k n:=by
 show(if(k:Int)<0 then((k:Int)+(n:Int)).toNat else min (k:Int).toNat n)=min k n;rw[if_neg (by omega),Int.toNat_natCast]
theorem N8(n d:Nat)(hd:d<=n)(o:Option Int):sIx n d o<=n:=by
 cases o with
 |none=>exact hd
 |some v=>
  show(if v<0 then(v+(n:Int)).toNat else min v.toNat n)<=n;by_cases hv:v<0
  ·rw[if_pos hv];omega
  ·rw[if_neg hv];exact Nat.min_le_right _ _
theorem CK(v:Int)(n d:Nat):(if v<0 then max (v+(n:Int)) 0 else min v (n:Int))=((sIx n d (some v):Nat):Int):=by
 show(if v<0 then max (v+(n:Int)) 0 else min v (n:Int))=(((if v<0 then(v+(n:Int)).toNat else min v.toNat n):Nat):Int);by_cases hv:v<0
 ·simp only[if_pos hv];omega
 ·simp only[if_neg hv];omega
theorem BJ(lo hi:Option Int)(n:Nat):Builtin.Slice.sliceAdjust lo hi 1 (n:Int)=(((sIx n 0 lo:Nat):Int),((sIx n n hi:Nat):Int)):=by
 have h1:¬((1:Int)<0):=by omega
 unfold Builtin.Slice.sliceAdjust;simp only[h1,if_false];refine Prod.ext ?_ ?_
 ·cases lo with
  |none=>rfl
  |some v=>exact CK v n 0
 ·cases hi with
  |none=>rfl
  |some v=>exact CK v n n
theorem Bu(i j:Nat):Builtin.Slice.slicePlaces (i:Int) (j:Int) 1=j-i:=by
 unfold Builtin.Slice.slicePlaces;have h1:(1:Int)>0:=by omega
 simp only[h1,if_true,Int.ediv_one];split<;>omega
theorem sV{v:Value}{o:Option Int}{Q:Option Int->Shared->Prop}(p:IsPart v o)(h:Q o s):wpAny (model prog w) A (Builtin.Slice.slicePartIndex v) Q E s:=by
 cases p with
 |none=>exact slicePart_none h
 |int i t=>exact slicePart_int h
theorem jD{sl:Addr}{vl vu:Value}{lo hi:Option Int}{n:Nat}{Q:Int×Int×Nat->Shared->Prop}(hs:s.heap.IsSliceOf sl vl vu .none)(pl:IsPart vl lo)(pu:IsPart vu hi)
  (h:Q (((sIx n 0 lo:Nat):Int),1,sIx n n hi-sIx n 0 lo) s):wpAny (model prog w) A (Builtin.Slice.sliceApplied (.ref sl) (pure (n:Int))) Q E s:=by
 obtain⟨os,hos,hcs,hds⟩:=id hs;unfold Builtin.Slice.sliceApplied Builtin.Slice.sliceFields;refine wpAny_bind (wpAny_bind (wpAny_field hos hds (x:=vl) rfl (wpAny_bind (wpAny_field hos hds (x:=vu) rfl (wpAny_bind (wpAny_field hos hds (x:= .none) rfl (wpAny_pure ?_)))))));refine wpAny_bind (slicePart_none ?_);show wpAny _ _ (if((1:Int)==0)=true then _ else _) _ _ s;rw[if_neg (by decide)];refine wpAny_bind (sV pl (wpAny_bind (sV pu (wpAny_bind (wpAny_pure ?_)))));show wpAny _ _ (match Builtin.Slice.sliceAdjust lo hi 1 (n:Int)with|(lo,hi)=>pure (lo,(1:Int),Builtin.Slice.slicePlaces lo hi 1)) _ _ s
 rw[BJ lo hi n];show wpAny _ _ (pure (((sIx n 0 lo:Nat):Int),(1:Int),Builtin.Slice.slicePlaces ((sIx n 0 lo:Nat):Int) ((sIx n n hi:Nat):Int) 1)) _ _ s;rw[Bu];exact wpAny_pure h
theorem Fq(xs:Array Value)(i k:Nat):((List.range k).filterMap fun(m:Nat)=>xs[((i:Int)+(m:Int)*1).toNat]?).toArray=((xs.toList.drop i).take k).toArray:=by
 have e:(fun(m:Nat)=>xs[((i:Int)+(m:Int)*1).toNat]?)=fun m=>xs[i+m]?:=by
  funext m
  have:((i:Int)+(m:Int)*1).toNat=i+m:=by omega
  rw[this]
 rw[e];have:=pick_run xs i k;rw[List.filterMap_map]at this;have e2:((fun x=>xs[x]?)∘fun x=>i+x)=fun m=>xs[i+m]?:=rfl;rw[e2]at this;rw[this]
theorem oU{t sl:Addr}{items:Array Value}{vl vu:Value}{lo hi:Option Int}{Q:Value->Shared->Prop}(ht:IsTup s.heap t items)(hs:s.heap.IsSliceOf sl vl vu .none)(pl:IsPart vl lo)(pu:IsPart vu hi)
  (hw:¬(sIx items.size 0 lo=0/\sIx items.size items.size hi=items.size))
  (h:Q (.ref s.heap.objs.size) { s with heap:=s.heap.push { cls:= .type "tuple",data:= .seq ((items.toList.drop (sIx items.size 0 lo)).take (sIx items.size items.size hi-sIx items.size 0 lo)).toArray } })
  (hsz:items.size<=sizeLine):wpAny (model prog w) A (getItem (.ref t) (.ref sl)) Q E s:=by
 have GZ:sizeOk (.seq ((items.toList.drop (sIx items.size 0 lo)).take (sIx items.size items.size hi-sIx items.size 0 lo)).toArray):=by
  show((items.toList.drop (sIx items.size 0 lo)).take (sIx items.size items.size hi-sIx items.size 0 lo)).toArray.size<=sizeLine;rw[List.size_toArray,List.length_take,List.length_drop,Array.length_toList];omega
 have hj:sIx items.size items.size hi<=items.size:=N8 _ _ (Nat.le_refl _) hi;obtain⟨os,hos,hcs,hds⟩:=id hs;have hTs:s.TypeIs (.ref sl) "slice" := ⟨os,hos,hcs⟩;unfold getItem;try with_reducible refine wpAny_holding ?_
 first|refine wpAny_bind (wpAny_pure ?_)|skip
 refine wpAny_bind (wpAny_sequenceKey ht.typeIs (by decide) ?_);refine wpAny_bind (wpAny_callSpecial?_slot (name:=Str.ofString "__getitem__") ht.typeIs PyProof.Rows.slot_tuple_getitem
  (wpAny_call_entry PyProof.Rows.slot_tuple_getitem ht.typeIs entry_tuple_getitem ?_ (args_tuple_getitem _ _)))
 show wpAny _ _ (Builtin.Tuple.tupleItemsOf (.ref t)>>=_) _ _ s;refine wpAny_bind (tupleItemsOf_ ht ?_);refine wpAny_bind (wpAny_typeOf hTs ?_);rw[if_pos (by decide)];refine wpAny_bind (jD hs pl pu ?_);have hno:¬((((sIx items.size 0 lo:Nat):Int)==0&&(1:Int)==1&&(sIx items.size items.size hi-sIx items.size 0 lo)==items.size)=true):=by
  intro q;rw[Bool.and_eq_true,Bool.and_eq_true]at q;have q1:((sIx items.size 0 lo:Nat):Int)=0:=eq_of_beq q.1.1;have q2:sIx items.size items.size hi-sIx items.size 0 lo=items.size:=eq_of_beq q.2;exact hw ⟨by omega,by omega⟩
 show wpAny _ _ (if(((sIx items.size 0 lo:Nat):Int)==0&&(1:Int)==1&&(sIx items.size items.size hi-sIx items.size 0 lo)==items.size)=true then _ else _) _ _ s;rw[if_neg hno,Fq];first
  |exact wpAny_bind (m:=Builtin.Tuple.tupleExact _) (wpAny_newObj_type (wpAny_pure ⟨_,rfl,wpAny_pure h⟩) GZ)
  |exact wpAny_bind (m:=Builtin.Tuple.tupleExact _) (wpAny_newObj_type (wpAny_bind (wpAny_pure (wpAny_pure ⟨_,rfl,wpAny_pure h⟩))) GZ)
  |exact wpAny_bind (wpAny_bind (m:=Builtin.Tuple.tupleExact _) (wpAny_newObj_type (wpAny_pure (wpAny_pure ⟨_,rfl,wpAny_pure h⟩)) GZ))
  |exact wpAny_bind (wpAny_bind (m:=Builtin.Tuple.tupleExact _) (wpAny_newObj_type (wpAny_pure ⟨_,rfl,wpAny_pure h⟩) GZ))
end
end HT
namespace L2
open PySem PySem.Spec PyProof.Rows
abbrev TO:=St->Hp->(Option Int->Hp->Prop)->Prop
def PO(X:Cx)(e:Option Expr)(t:TO):Prop:=
 ∀(pins:List (Addr×Obj)) (s:Shared) (σ:St) (H:Hp) (Q:Option Int->Hp->Prop),Inv X pins σ H s->t σ H Q->
  wpAny (model X.prog X.w) X.A (evalPart e X.env) (fun u s'=>∃o H',Inv X pins σ H' s'/\IsPart u o/\Q o H') X.xe s
def Jy:TO:=fun _ H Q=>Q none H
inductive Ph(x:V)(H:Hp)(Q:Option Int->Hp->Prop):Prop|mk (i:Int) (hx:x = .int i) (q:Q (some i) H)
def RW(t:TE):TO:=fun σ H Q=>t σ H fun x H1=>Ph x H1 Q
theorem intsAre_of{ns:List Int}:∀{us:List Value},Vals (ns.map V.int) us->IntsAre us ns:=by
 induction ns with
 |nil=>intro us r;rw[List.map_nil]at r;cases r;exact .nil
 |cons n ns ih=>
  intro us r;rw[List.map_cons]at r;cases r with
  |cons r1 r2=>
   obtain⟨t,e⟩:=r1;subst e;exact .cons n t (ih r2)
section
variable {X:Cx} {e:Expr} {te:TE} {lo hi:Option Expr} {tl th:TO} {pos p2:Pos}
theorem uf:PO X none Jy:=by
 intro pins s σ H Q I h;rw[evalPart_none];exact wpAny_pure ⟨none,H,I,.none,h⟩
theorem uw(h:PE X e te):PO X (some e) (RW te):=by
 intro pins s σ H Q I hw;rw[evalPart_some];refine thn (h pins s σ H _ I hw) fun u s1 ⟨x,H1,I1,r1,q1⟩=>?_;obtain⟨i,rfl,q⟩:=q1;obtain⟨t,rfl⟩:=r1;exact⟨some i,H1,I1,.int i t,q⟩
def SlR(X:Cx)(r:V->Option Int->Option Int->Hp->VK->Prop):Prop:=
 ∀(pins:List (Addr×Obj)) (s:Shared) (σ:St) (H:Hp) (x:V) (v vl vu:Value) (lo hi:Option Int) (sl:Addr) (Q:VK),Inv X pins σ H s->RelV x v->s.heap.IsSliceOf sl vl vu .none->IsPart vl lo->IsPart vu hi->r x lo hi H Q->
  ∃T id,typeLookup (.type T) "__getitem__" = pure (some (.builtin id))/\s.TypeIs v T/\wpAny (model X.prog X.w) X.A (getItem v (.ref sl)) (EP X pins σ Q) X.xe s
theorem SlR.or{r r':V->Option Int->Option Int->Hp->VK->Prop}(h:SlR X r)(h':SlR X r'):SlR X (fun x lo hi H Q=>r x lo hi H Q∨r' x lo hi H Q):=by
 intro pins s σ H x v vl vu lo hi sl Q I rx hs pl pu q;rcases q with q|q
 ·exact h pins s σ H x v vl vu lo hi sl Q I rx hs pl pu q
 ·exact h' pins s σ H x v vl vu lo hi sl Q I rx hs pl pu q
def tSl(r:V->Option Int->Option Int->Hp->VK->Prop)(te:TE)(tl th:TO):TE:=fun σ H Q=>te σ H fun x H1=>tl σ H1 fun l H2=>th σ H2 fun u H3=>r x l u H3 Q
theorem qw{r:V->Option Int->Option Int->Hp->VK->Prop}(hr:SlR X r)(he:PE X e te)(hl:PO X lo tl)(hu:PO X hi th):PE X (.Subscript e (.Slice lo hi none p2) pos) (tSl r te tl th):=by
 intro pins s σ H Q I h;refine Subscript_ (thn (he pins s σ H _ I h) fun v s1 ⟨x,H1,I1,r1,q1⟩=>?_);refine wpAny_Slice (thn (hl pins s1 σ H1 _ I1 q1) fun vl s2 ⟨l,H2,I2,pl,q2⟩=>thn (hu pins s2 σ H2 _ I2 q2) fun vu s3 ⟨u,H3,I3,pu,q3⟩=>?_);rw[evalPart_none];refine wpAny_pure ?_;have I4:Inv X pins σ H3 { s3 with heap:=s3.heap.push { cls:= .type "slice",data:= .fields #[vl,vu,.none] } }:=I3.kept (t':=s3.toks) fun b ob q=>Heap.get?_push_of_some _ q;obtain⟨T,id,hT,ht,hg⟩:=hr pins { s3 with heap:=s3.heap.push { cls:= .type "slice",data:= .fields #[vl,vu,.none] } } σ H3 x v vl vu l u s3.heap.objs.size Q I4 r1 (Heap.IsSliceOf.new ..) pl pu q3;show wpAny (model X.prog X.w) X.A (subscriptTail e (.Slice lo hi none p2) v (.ref s3.heap.objs.size)) (EP X pins σ Q) X.xe { s3 with heap:=s3.heap.push { cls:= .type "slice",data:= .fields #[vl,vu,.none] } };exact tail_any (ops:=[.ref s3.heap.objs.size,v]) ht hT hg (by with_unfolding_all rfl)
def vO(xs:List V)(lo hi:Option Int):List V:=(xs.drop (HT.sIx xs.length 0 lo)).take (HT.sIx xs.length xs.length hi-HT.sIx xs.length 0 lo)
theorem qR(xs:List V)(lo hi:Option Int):(vO xs lo hi).length<=xs.length:=by
 unfold vO;rw[List.length_take,List.length_drop];omega
def Xb(K:W.Frag):V->Option Int->Option Int->Hp->VK->Prop:=fun x lo hi H Q=>∃a xs,x = .ref a/\SqT K H a xs/\
 ¬(HT.sIx xs.length 0 lo=0/\HT.sIx xs.length xs.length hi=xs.length)/\∀p,H p=none->Q (.ref p) (upd H p (.tup (vO xs lo hi)))
theorem Mg:SlR X (Xb X.K):=by
 intro pins s σ H x v vl vu lo hi sl Q I rx hs pl pu h;obtain⟨a,xs,rfl,hx,hw,q⟩:=h;cases rx;obtain⟨its,r,ht,hz⟩:=I.tuple hx;have hlen:its.toArray.size=xs.length:=by rw[List.size_toArray];exact r.length.symm
 refine⟨"tuple",_,PyProof.Rows.slot_tuple_getitem.lookup,ht.typeIs,?_⟩;refine HT.oU ht hs pl pu (by rw[hlen];exact hw) ?_ (by rw[hlen];exact hz);rw[hlen];refine⟨.ref s.heap.objs.size,_,I.laid (t':=s.toks) (o:= .tup (vO xs lo hi)) (fun b ob q=>Heap.get?_push_of_some _ q) (Nat.le_refl _) ?_,rfl,q _ (I.hok.fresh (Nat.le_refl _))⟩;exact⟨Nat.le_trans (qR xs lo hi) hz,_,(r.drop (HT.sIx xs.length 0 lo)).take (HT.sIx xs.length xs.length hi-HT.sIx xs.length 0 lo),IsTup.new _ _⟩
def OJ(K:W.Frag):R2:=fun x y H Q=>∃a b xs ys,x = .ref a/\y = .ref b/\SqT K H a xs/\SqT K H b ys/\xs≠[]/\xs.length+ys.length<=sizeLine/\
 (ys=[]->Q (.ref a) H)/\(ys≠[]->∀p,H p=none->Q (.ref p) (upd H p (.tup (xs++ys))))
theorem Vals.uZ{xs:List V}{us:List Value}(r:Vals xs us):us=[]↔xs=[]:=by
 cases r with
 |nil=>simp
 |cons _ _=>simp
theorem Jf:OpR X (binaryOp .Add) (OJ X.K):=by
 intro pins s σ H x y v u Q I rx ry h;obtain⟨a,b,xs,ys,rfl,rfl,ha,hb,hx,hz,q1,q2⟩:=h;cases rx;cases ry;obtain⟨its,r1,p1,_⟩:=I.tuple ha;obtain⟨its2,r2,p2,_⟩:=I.tuple hb;refine HT.Jc p1 p2 (fun z=>hx (r1.uZ.mp z)) (fun z=>⟨.ref a,H,I,rfl,q1 (r2.uZ.mp z)⟩) (fun z=>?_) (by rw[<-r1.length,<-r2.length];exact hz);refine⟨.ref s.heap.objs.size,_,I.laid (t':=s.toks) (o:= .tup (xs++ys)) (fun b ob q=>Heap.get?_push_of_some _ q) (Nat.le_refl _) ?_,rfl,q2 (fun w=>z (r2.uZ.mpr w)) _ (I.hok.fresh (Nat.le_refl _))⟩;exact⟨by rw[List.length_append];exact hz,_,r1.append r2,IsTup.new _ _⟩
end
def ixN(n:Nat)(i:Int):Option Nat:=if 0<=i then(if i<n then some i.toNat else none)else if -(n:Int)<=i then some (i+n).toNat else none
def atI{α:Type}(xs:List α)(i:Int):Option α:=(ixN xs.length i).bind fun j=>xs[j]?
theorem DN{n:Nat}{i:Int}{j:Nat}(h:ixN n i=some j):seqIndex? i n=some j/\j<n/\-(n:Int)<=i/\i<n:=by
 unfold ixN at h;by_cases h0:0<=i
 ·rw[if_pos h0]at h;by_cases h1:i<n
  ·rw[if_pos h1]at h;have e:i.toNat=j:=Option.some.inj h;exact⟨by rw[seqIndex_of h0 h1,e],by omega,by omega,h1⟩
  ·rw[if_neg h1]at h;cases h
 ·rw[if_neg h0]at h;by_cases h1:-(n:Int)<=i
  ·rw[if_pos h1]at h;have e:(i+n).toNat=j:=Option.some.inj h;exact⟨by rw[seqIndex_neg (by omega) h1,e],by omega,h1,by omega⟩
  ·rw[if_neg h1]at h;cases h
theorem yF{α:Type}{xs:List α}{i:Int}{v:α}(h:atI xs i=some v):∃j,seqIndex? i xs.length=some j/\xs[j]?=some v/\j<xs.length/\-(xs.length:Int)<=i/\i<xs.length:=by
 unfold atI at h;cases e:ixN xs.length i with
 |none=>rw[e]at h;cases h
 |some j=>
  rw[e]at h;obtain⟨h1,h2,h3,h4⟩:=DN e;exact⟨j,h1,h,h2,h3,h4⟩
theorem Ku{α:Type}{xs:List α}{j:Nat}{v:α}(h:xs[j]?=some v):atI xs (j:Int)=some v:=by
 have hj:j<xs.length:=(List.getElem?_eq_some_iff.mp h).1;have e:ixN xs.length (j:Int)=some j:=by
  unfold ixN;rw[if_pos (by omega),if_pos (by omega)];simp
 unfold atI;rw[e];exact h
def Jt(b:Expr):Prop:=∀o i,subscripted b false o i=operate [o,i] (getItem o i)
def IxR(X:Cx)(r:R2):Prop:=
 ∀(value slice:Expr) (pins:List (Addr×Obj)) (s:Shared) (σ:St) (H:Hp) (x y:V) (v u:Value) (Q:VK),Inv X pins σ H s->RelV x v->RelV y u->r x y H Q->
  subscripted slice false v u=operate [v,u] (getItem v u)->wpAny (model X.prog X.w) X.A (subscriptTail value slice v u) (EP X pins σ Q) X.xe s
def MtR(X:Cx)(id:String)(r:V->List V->Hp->VK->Prop):Prop:=
 ∀(pins:List (Addr×Obj)) (s:Shared) (σ:St) (H:Hp) (x:V) (xs:List V) (v:Value) (us:List Value) (Q:VK),Inv X pins σ H s->RelV x v->Vals xs us->r x xs H Q->
  wpAny (model X.prog X.w) X.A (call (.builtin id) (v::us)) (EP X pins σ Q) X.xe s
section
variable {X:Cx} {a b:Expr} {ta tb:TE} {pos:Pos}
theorem IxR.or{r r':R2}(h:IxR X r)(h':IxR X r'):IxR X (fun x y H Q=>r x y H Q∨r' x y H Q):=by
 intro value slice pins s σ H x y v u Q I rx ry q hs;rcases q with q|q
 ·exact h value slice pins s σ H x y v u Q I rx ry q hs
 ·exact h' value slice pins s σ H x y v u Q I rx ry q hs
theorem bH{r:R2}(hr:IxR X r)(ha:PE X a ta)(hb:PE X b tb)(hs:Jt b):PE X (.Subscript a b pos) (tOp r ta tb):=by
 intro pins s σ H Q I h;exact Subscript_ (Uv ha hb I h fun v u s2 x y H2 I2 rx ry q=>hr a b pins s2 σ H2 x y v u Q I2 rx ry q (hs _ _))
def VH(K:W.Frag):R2:=fun x y H Q=>∃p xs i v,x = .ref p/\y = .int i/\SqL K H p xs/\atI xs i=some v/\Q v H
def V6(K:W.Frag):R2:=fun x y H Q=>∃p xs i v,x = .ref p/\y = .int i/\SqT K H p xs/\atI xs i=some v/\Q v H
def VG:R2:=fun x y H Q=>∃z i c,x = .str z/\y = .int i/\z.length<=sizeLine/\atI z.cps.toList i=some c/\Q (.str ⟨#[c]⟩) H
theorem JG:IxR X (VH X.K):=by
 intro value slice pins s σ H x y v u Q I rx ry h hs;obtain⟨p,xs,i,z,rfl,rfl,hq,he,q⟩:=h;cases rx;obtain⟨t,rfl⟩:=ry;obtain⟨its,r,pl,hz⟩:=I.list hq;obtain⟨j,h1,h2,h3,h4,h5⟩:=yF he;obtain⟨w,ew,rw'⟩:=r.get h2;have hl:=r.length;have hn:=wK;have fin:EP X pins σ Q w s:=⟨z,H,I,rw',q⟩;by_cases h0:0<=i
 ·have hj:i.toNat=j:=by
   rw[seqIndex_of h0 h5]at h1;exact Option.some.inj h1
  exact item_listR pl.isList h0 (by omega) (by rw[hj];simpa using ew) fin hs
 ·have hj:(i+(its.toArray.size:Int)).toNat=j:=by
   rw[seqIndex_neg (by omega) h4]at h1;rw[List.size_toArray,<-hl];exact Option.some.inj h1
  exact subscriptTail_builtinR (x:=w) pl.isList.typeIs slot_list_getitem.lookup
   (wpAny_getItem_list_neg (Q:=fun r s'=>r=w/\EP X pins σ Q r s') pl.isList (by omega) (by rw[List.size_toArray]<;>omega) (by omega) (by rw[hj];simpa using ew) ⟨rfl,fin⟩) hs
theorem Oe:IxR X (V6 X.K):=by
 intro value slice pins s σ H x y v u Q I rx ry h hs;obtain⟨p,xs,i,z,rfl,rfl,hq,he,q⟩:=h;cases rx;obtain⟨t,rfl⟩:=ry;obtain⟨its,r,pl,hz⟩:=I.tuple hq;obtain⟨j,h1,h2,h3,h4,h5⟩:=yF he;obtain⟨w,ew,rw'⟩:=r.get h2;have hl:=r.length;have hn:=wK;have fin:EP X pins σ Q w s:=⟨z,H,I,rw',q⟩;exact subscriptTail_builtinR (x:=w) pl.typeIs slot_tuple_getitem.lookup
  (getItem_tuple (j:=j) (Q:=fun r s'=>r=w/\EP X pins σ Q r s') pl (by omega) (by omega) (by rw[List.size_toArray,<-hl];exact h1) (by simpa using ew) ⟨rfl,fin⟩) hs
theorem Nz:IxR X VG:=by
 intro value slice pins s σ H x y v u Q I rx ry h hs;obtain⟨z,i,c,rfl,rfl,hz,he,q⟩:=h;obtain⟨t,rfl⟩:=rx;obtain⟨t',rfl⟩:=ry;obtain⟨j,h1,h2,h3,h4,h5⟩:=yF he;have hl:z.cps.toList.length=z.length:=by simp[Str.length]
 rw[hl]at h1 h4 h5;have hn:=wK;exact tail_any (typeIs_str s z t) slot_str_getitem.lookup (getItem_str (c:=c) (by
  have e1:decide (i < -(2^63:Int))=false:=decide_eq_false (by omega);have e2:decide (i≥2^63)=false:=decide_eq_false (by omega);rw[e1,e2,Bool.or_false]) (by rw[h1];simpa using h2) ⟨.str ⟨#[c]⟩,H,I.tok _,⟨_,rfl⟩,q⟩) hs
def rIx(K:W.Frag):R2:=fun x y H Q=>VH K x y H Q∨V6 K x y H Q∨VG x y H Q
theorem NQ:IxR X (rIx X.K):=JG.or (Oe.or Nz)
theorem Bb(its:List Value)(n j:Nat)(u:Value):Obj.mapSeq (·.setIfInBounds j u) { cls:= .type "list",data:= .seq its.toArray n }={ cls:= .type "list",data:= .seq (its.set j u).toArray n }:=by
 simp[Obj.mapSeq]
theorem Inv.lst{pins:List (Addr×Obj)}{σ:St}{H:Hp}{s:Shared}{p:Addr}{xs:List V}(I:Inv X pins σ H s)(h:H p=some (.lst xs)):
  ∃(its:List Value) (n:Nat),Vals xs its/\s.heap.get? p=some { cls:= .type "list",data:= .seq its.toArray n }/\xs.length<=sizeLine:=by
 obtain⟨z,its,n,r,e⟩:=I.hok p _ h;exact⟨its,n,r,e,z⟩
theorem Inv.MV{pins:List (Addr×Obj)}{σ:St}{H:Hp}{s:Shared}{p:Addr}{xs ys:List V}{its its':List Value}{n n':Nat}{f:Obj->Obj}(I:Inv X pins σ H s)(h:H p=some (.lst xs))
  (ho:s.heap.get? p=some { cls:= .type "list",data:= .seq its.toArray n }) (hf:f { cls:= .type "list",data:= .seq its.toArray n }={ cls:= .type "list",data:= .seq its'.toArray n' }) (r:Vals ys its') (hz:ys.length<=sizeLine) (t:Nat):
  Inv X pins σ (upd H p (.lst ys)) { s with heap:=s.heap.update p f,toks:=t }:=by
 have e:(s.heap.update p f).get? p=some { cls:= .type "list",data:= .seq its'.toArray n' }:=by
  rw[Heap.get?_update_self f ho (by rw[hf]<;>rfl),hf]
 refine I.write (x:=p) (e:=p) (by rw[h];trivial) (.inl rfl) (fun b u hb q=>(Heap.get?_update_other _ _ (Ne.symm hb)).trans q) ⟨_,e⟩ ?_;exact⟨hz,its',n',r,e⟩
inductive SSet(o i v:V)(H:Hp)(Q:Hp->Prop):Prop|mk (p:Addr) (xs:List V) (k:Int) (j:Nat) (ho:o = .ref p) (hi:i = .int k) (hp:H p=some (.lst xs)) (hj:ixN xs.length k=some j) (q:Q (upd H p (.lst (xs.set j v))))
def T9:V->V->V->Hp->(Hp->Prop)->Prop:=fun o i v H Q=>SSet o i v H Q
theorem set_list:V0 X T9:=by
 intro pins s σ H o i v ov iv u Q I ro ri rv h;obtain⟨p,xs,k,j,rfl,rfl,hp,hj,q⟩:=h;cases ro;obtain⟨t,rfl⟩:=ri;obtain⟨its,n,r,ho,hz⟩:=I.lst hp;obtain⟨h1,h2,h3,h4⟩:=DN hj;have hl:=r.length;have hn:=wK;have I':Inv X pins σ (upd H p (.lst (xs.set j v))) { s with heap:=s.heap.update p (Obj.mapSeq (·.setIfInBounds j u)) }:=
  I.MV hp ho (Bb its n j u) (r.set rv j) (by rw[List.length_set];exact hz) s.toks
 by_cases h0:0<=k
 ·have hk:k.toNat=j:=by
   rw[seqIndex_of h0 h4]at h1;exact Option.some.inj h1
  exact W.ki_setAt ho h0 (by omega) (by rw[List.size_toArray,<-hl];exact h4) (by rw[hk];exact⟨_,I',q⟩)
 ·have hk:(k+(its.toArray.size:Int)).toNat=j:=by
   rw[seqIndex_neg (by omega) h3]at h1;rw[List.size_toArray,<-hl];exact Option.some.inj h1
  exact W.ki_setBack ho (by omega) (by rw[List.size_toArray,<-hl];exact h3) (by omega) (by rw[hk];exact⟨_,I',q⟩)
theorem wH(lo hi:Option Int)(n:Nat):(sliceBounds lo hi none n).1=((HT.sIx n 0 lo:Nat):Int)/\(sliceBounds lo hi none n).2.1=((HT.sIx n n hi:Nat):Int)/\(sliceBounds lo hi none n).2.2=1:=by
 refine⟨?_,?_,rfl⟩
 ·cases lo with
  |none=>simp[sliceBounds,HT.sIx]
  |some i=>
   simp only[sliceBounds,HT.sIx,Option.getD_none,show(1:Int)>0 by decide,if_true];by_cases h:i<0
   ·simp only[h,if_true]<;>omega
   ·simp only[h,if_false]<;>omega
 ·cases hi with
  |none=>simp[sliceBounds,HT.sIx]
  |some i=>
   simp only[sliceBounds,HT.sIx,Option.getD_none,show(1:Int)>0 by decide,if_true];by_cases h:i<0
   ·simp only[h,if_true]<;>omega
   ·simp only[h,if_false]<;>omega
theorem uW(its:List Value)(lo hi:Option Int):slicePick its.toArray lo hi none=((its.drop (HT.sIx its.length 0 lo)).take (HT.sIx its.length its.length hi-HT.sIx its.length 0 lo)).toArray:=by
 obtain⟨h1,h2,h3⟩:=wH lo hi its.toArray.size;unfold slicePick;rw[h1,h2,h3];simp only[sliceRange_one,pick_run,List.size_toArray]<;>rfl
def Wq(K:W.Frag):V->Option Int->Option Int->Hp->VK->Prop:=fun x lo hi H Q=>∃a xs,x = .ref a/\SqL K H a xs/\∀p,H p=none->Q (.ref p) (upd H p (.lst (vO xs lo hi)))
theorem Jd:SlR X (Wq X.K):=by
 intro pins s σ H x v vl vu lo hi sl Q I rx hs pl pu h;obtain⟨a,xs,rfl,hx,q⟩:=h;cases rx;obtain⟨its,r,ht,hz⟩:=I.list hx;have hlen:=r.length;refine⟨"list",_,slot_list_getitem.lookup,ht.isList.typeIs,?_⟩;refine wpAny_getItem_list_slice ht.isList hs pl pu .none (by simp) ?_ (by rw[List.size_toArray]<;>omega);rw[uW,<-hlen];refine⟨.ref s.heap.objs.size,_,I.laid (t':=s.toks) (o:= .lst (vO xs lo hi)) (fun b ob q=>Heap.get?_push_of_some _ q) (Nat.le_refl _) ?_,rfl,q _ (I.hok.fresh (Nat.le_refl _))⟩;exact⟨Nat.le_trans (qR xs lo hi) hz,_,0,(r.drop (HT.sIx xs.length 0 lo)).take (HT.sIx xs.length xs.length hi-HT.sIx xs.length 0 lo),Heap.get?_push_size _ rfl⟩
def rz:V->Bool
 |.non=>true
 |.bl _=>true
 |.int _=>true
 |.str _=>true
 |_=>false
def eqV:V->V->Bool
 |.non,.non=>true
 |.bl a,.bl b=>a==b
 |.bl a,.int b=>(if a then 1 else 0)==b
 |.int a,.bl b=>a==(if b then 1 else 0)
 |.int a,.int b=>a==b
 |.str a,.str b=>a==b
 |_,_=>false
theorem Od{A:Around}{s:Shared}{y x:V}{u v:Value}(ry:RelV y u)(rx:RelV x v)(fy:rz y=true)(fx:rz x=true):SeqAt.EqAt A s u v (eqV y x):=by
 cases y with
 |non=>
  cases ry;cases x with
  |non=>cases rx;exact SeqAt.EqAt.same _
  |bl b=>cases rx;exact SeqAt.EqAt.none_bool b
  |int b=>obtain⟨t,rfl⟩:=rx;exact SeqAt.EqAt.none_int b t
  |str b=>obtain⟨t,rfl⟩:=rx;exact SeqAt.EqAt.none_str b t
  |_=>exact absurd (show false=true from fx) Bool.false_ne_true
 |bl a=>
  cases ry;cases x with
  |non=>cases rx;exact SeqAt.EqAt.bool_none a
  |bl b=>cases rx;exact SeqAt.EqAt.bool_bool a b
  |int b=>obtain⟨t,rfl⟩:=rx;exact SeqAt.EqAt.bool_int a b t
  |str b=>obtain⟨t,rfl⟩:=rx;exact SeqAt.EqAt.bool_str a b t
  |_=>exact absurd (show false=true from fx) Bool.false_ne_true
 |int a=>
  obtain⟨t',rfl⟩:=ry;cases x with
  |non=>cases rx;exact SeqAt.EqAt.int_none a t'
  |bl b=>cases rx;exact SeqAt.EqAt.int_bool a t' b
  |int b=>obtain⟨t,rfl⟩:=rx;exact SeqAt.EqAt.int_int a t' b t
  |str b=>obtain⟨t,rfl⟩:=rx;exact SeqAt.EqAt.int_str a t' b t
  |_=>exact absurd (show false=true from fx) Bool.false_ne_true
 |str a=>
  obtain⟨t',rfl⟩:=ry;cases x with
  |non=>cases rx;exact SeqAt.EqAt.str_none a t'
  |bl b=>cases rx;exact SeqAt.EqAt.str_bool a t' b
  |int b=>obtain⟨t,rfl⟩:=rx;exact SeqAt.EqAt.str_int a t' b t
  |str b=>obtain⟨t,rfl⟩:=rx;exact SeqAt.EqAt.str_str a t' b t
  |_=>exact absurd (show false=true from fx) Bool.false_ne_true
 |_=>exact absurd (show false=true from fy) Bool.false_ne_true
theorem vm:oh X (.type "list") (fun xs H Q=>∃p ys,xs=[.ref p]/\(SqL X.K H p ys∨SqT X.K H p ys)/\∀l,H l=none->Q (.ref l) (upd H l (.lst ys))):=by
 intro pins s σ H xs us Q I r h;obtain⟨p,ys,rfl,hq,q⟩:=h;obtain⟨u,rfl,rx⟩:=vals1 r;cases rx;have fin:∀(its:List Value),Vals ys its->ys.length<=sizeLine->∀(h':Heap) (c':Nat),(∀b o',s.heap.get? b=some o'->h'.get? b=some o')->
   h'.get? s.heap.objs.size=some { cls:= .type "list",dict:=none,data:= .seq its.toArray c',slots:=#[] }->EP X pins σ Q (.ref s.heap.objs.size) { s with heap:=h' }:=fun its r' hz h' c' kp e=>
  ⟨.ref s.heap.objs.size,_,I.laid (t':=s.toks) kp (Nat.le_refl _) (show nj X.prog X.w _ h' _ (.lst ys)from⟨hz,its,c',r',e⟩),rfl,q _ (I.hok.fresh (Nat.le_refl _))⟩
 rcases hq with hq|hq
 ·obtain⟨its,r',pl,hz⟩:=I.list hq;have hlen:=r'.length;obtain⟨o,ho,hc,n,hd⟩:=pl.isList;exact call_list_seq p (.inl rfl) ho hc hd (fun h' c' kp e=>fin its r' hz h' c' kp e) (by simp only[List.size_toArray]<;>omega)
 ·obtain⟨its,r',pl,hz⟩:=I.tuple hq;have hlen:=r'.length;obtain⟨o,ho,hc,n,hd⟩:=pl;exact call_list_seq p (.inr rfl) ho hc hd (fun h' c' kp e=>fin its r' hz h' c' kp e) (by simp only[List.size_toArray]<;>omega)
theorem tZ:oh X (.type "tuple") (fun xs H Q=>∃p ys,xs=[.ref p]/\((SqL X.K H p ys/\∀l,H l=none->Q (.ref l) (upd H l (.tup ys)))∨(SqT X.K H p ys/\Q (.ref p) H))):=by
 intro pins s σ H xs us Q I r h;obtain⟨p,ys,rfl,h⟩:=h;obtain⟨u,rfl,rx⟩:=vals1 r;cases rx;rcases h with⟨hq,q⟩|⟨hq,q⟩
 ·obtain⟨its,r',pl,hz⟩:=I.list hq;have hlen:=r'.length;refine call_tuple_list pl.isList (fun h' kp=>?_) (by simp only[List.size_toArray]<;>omega);have I1:Inv X pins σ H { s with heap:=h' }:=I.kept (t':=s.toks) kp;have I2:Inv X pins σ (upd H h'.objs.size (.tup ys)) { s with heap:=h'.push { cls:= .type "tuple",data:= .seq its.toArray } }:=
   I1.laid (t':=s.toks) (fun b o e=>Heap.get?_push_of_some _ e) (Nat.le_refl _) (show nj X.prog X.w _ _ _ (.tup ys)from⟨hz,its,r',IsTup.new _ _⟩)
  exact⟨.ref h'.objs.size,_,I2,rfl,q _ (I1.hok.fresh (Nat.le_refl _))⟩
 ·obtain⟨its,r',pl,hz⟩:=I.tuple hq;exact call_tuple_same pl ⟨.ref p,H,I,rfl,q⟩
def tyV(K:W.Frag)(T:String)(x:V)(H:Hp):Prop:=match x with
 |.str _=>T = "str"
 |.int _=>T = "int"
 |.ref p=>(T = "list" /\ ∃xs,SqL K H p xs)∨(T = "tuple" /\ ∃o,K.lookup p=some o/\o.cls = .type "tuple" /\ o.dict=none)∨
   (T = "dict" /\ ((∃kvs,H p=some (.dK kvs))∨∃kvs,H p=some (.dT kvs)))∨(T = "set" /\ ∃S n,H p=some (.set S n))
 |_=>False
theorem Hz{pins:List (Addr×Obj)}{σ:St}{H:Hp}{s:Shared}{T:String}{x:V}{v:Value}(I:Inv X pins σ H s)(r:RelV x v)(ty:tyV X.K T x H):
  s.TypeIs v T/\∀a,v = .ref a->∃ob,s.heap.get? a=some ob/\ob.dict=none:=by
 cases x with
 |str z=>
  obtain⟨t,rfl⟩:=r;cases (show T = "str" from ty);exact⟨typeIs_str s z t,fun _ e=>nomatch e⟩
 |int i=>
  obtain⟨t,rfl⟩:=r;cases (show T = "int" from ty);exact⟨typeIs_int s i t,fun _ e=>nomatch e⟩
 |ref p=>
  cases r;rcases ty with⟨rfl,xs,hq⟩|⟨rfl,o,hk,hc,hd⟩|⟨rfl,hk⟩|⟨rfl,S,n,hk⟩
  ·obtain⟨its,_,pl,_⟩:=I.list hq;refine⟨pl.isList.typeIs,fun a e=>?_⟩;cases e;obtain⟨o,n,e,c,hd,_⟩:=pl;exact⟨o,e,hd⟩
  ·refine⟨⟨o,I.kIn p o hk,hc⟩,fun a e=>?_⟩;cases e;exact⟨o,I.kIn _ o hk,hd⟩
  ·have z:∃o,s.heap.get? p=some o/\o.ExactDict:=by
    rcases hk with⟨kvs,hk⟩|⟨kvs,hk⟩
    ·obtain⟨_,_,_,_,o,_,_,e,ex,_⟩:=I.hok p _ hk;exact⟨o,e,ex⟩
    ·obtain⟨_,_,_,_,o,_,_,e,ex,_⟩:=I.hok p _ hk;exact⟨o,e,ex⟩
   obtain⟨o,e,ex⟩:=z;refine⟨⟨o,e,ex.1⟩,fun a e2=>?_⟩;cases e2;exact⟨o,e,ex.2.1⟩
  ·obtain⟨o,_,_,_,e,ex,_⟩:=I.hok p _ hk;refine⟨⟨o,e,ex.1⟩,fun a e2=>?_⟩;cases e2;exact⟨o,e,ex.2.1⟩
 |_=>exact False.elim ty
def Ot(K:W.Frag)(T:String)(r:V->List V->Hp->VK->Prop)(to:TE):TE:=fun σ H Q=>to σ H fun x H1=>tyV K T x H1/\r x [] H1 Q
def tBM(K:W.Frag)(T:String)(r:V->List V->Hp->VK->Prop)(to:TE)(t:TA):TE:=fun σ H Q=>to σ H fun x H1=>tyV K T x H1/\t σ H1 fun xs H2=>r x xs H2 Q
variable {o e:Expr} {es:List Expr} {to:TE} {t:TA} {name:Str} {apos cpos:Pos} {T id:String} {r:V->List V->Hp->VK->Prop}
theorem Hy(pa:PlainAttrs T)(slot:Slot T name id)(hty:typeOf (.builtin id)=pure (.type "method_descriptor"))(hm:MtR X id r)(ho:PE X o to)
  (hbase:attributeBase o name X.env (eval o X.env)=eval o X.env:=by rfl) (hline:(apos.endLine==cpos.line)=true:=by rfl):PE X (.Call (.Attribute o name apos) [] [] cpos) (Ot X.K T r to):=by
 intro pins s σ H Q I h;refine wpAny_Call_method0_late hbase hline (thn (ho pins s σ H _ I h) fun v s1 ⟨x,H1,I1,r1,ty,q1⟩=>?_);obtain⟨h1,h2⟩:=Hz I1 r1 ty;exact⟨T,id,pa,slot,hty,h1,h2,Calls.callWith_builtin rfl (PySem.evalArgs_none (hm pins s1 σ H1 x [] v [] Q I1 r1 .nil q1))⟩
theorem Qx(pa:PlainAttrs T)(slot:Slot T name id)(hty:typeOf (.builtin id)=pure (.type "method_descriptor"))(hm:MtR X id r)(ho:PE X o to)(ha:PA X (e::es) t)
  (hbase:attributeBase o name X.env (eval o X.env)=eval o X.env:=by rfl)
  (hfew:((backTo cpos (starEach (e::es) X.env)).all (fun x=>!x.1)&&(backToKw cpos (keywordEach [] X.env)).all (fun x=>x.1.isSome)
   && decide ((e::es).length+([]:List Keyword).length+(if([]:List Keyword).isEmpty then 0 else 1)<30))=true:=by rfl)
  (hline:(apos.endLine==cpos.line)=true:=by rfl) (hs:starEach (e::es) X.env=(false,eval e X.env)::starEach es X.env:=by rfl) (hplain:(backTo cpos (starEach es X.env)).any (·.1)=false:=by rfl):
  PE X (.Call (.Attribute o name apos) (e::es) [] cpos) (tBM X.K T r to t):=by
 intro pins s σ H Q I h;refine wpAny_Call_method_late hbase hfew hline rfl (thn (ho pins s σ H _ I h) fun v s1 ⟨x,H1,I1,r1,ty,q1⟩=>?_);obtain⟨h1,h2⟩:=Hz I1 r1 ty;refine⟨T,id,pa,slot,hty,h1,h2,?_⟩;have hA:=ha cpos pins s1 σ H1 _ I1 q1;rw[hs]at hA⊢;refine Calls.callWith_builtin (by show(false||(backTo cpos (starEach es X.env)).any (·.1))=false;rw[hplain]<;>rfl) (Calls.evalArgs_plain ?_);exact thn hA fun us s2 ⟨vs,H2,I2,r2,q2⟩=>hm pins s2 σ H2 x vs v us Q I2 r1 r2 q2
end
def MtM(X:Cx)(id:String)(r:V->List V->Hp->VK->Prop):Prop:=
 ∀(pins:List (Addr×Obj)) (s:Shared) (σ:St) (H:Hp) (x:V) (xs:List V) (v:Value) (us:List Value) (Q:VK),Inv X pins σ H s->RelV x v->Vals xs us->r x xs H Q->
  wpAny (model X.prog X.w) X.A (call (.builtin id) (v::us)) (EP X pins σ Q) X.xe s
theorem Vals.one{x:V}{us:List Value}(h:Vals [x] us):∃u,us=[u]/\RelV x u:=by
 cases h with
 |cons r h=>cases h;exact⟨_,rfl,r⟩
theorem Vals.zero:∀{us:List Value},Vals [] us->us=[]
 |_,.nil=>rfl
theorem Vals.dropLast{xs:List V}{us:List Value}(h:Vals xs us):Vals xs.dropLast us.dropLast:=by
 induction h with
 |nil=>exact .nil
 |cons r t ih=>
  cases t with
  |nil=>exact .nil
  |cons q t'=>exact .cons r ih
theorem Vals.rep{xs:List V}{us:List Value}(h:Vals xs us):∀k:Nat,Vals (List.replicate k xs).flatten (List.replicate k us).flatten
 |0=> .nil
 |k+1=>by
  rw[List.replicate_succ,List.replicate_succ,List.flatten_cons,List.flatten_cons];exact Vals.append h (Vals.rep h k)
theorem BH{α:Type}(l:List α):l.eraseIdx (l.length-1)=l.dropLast:=by
 induction l with
 |nil=>rfl
 |cons a r ih=>
  cases r with
  |nil=>rfl
  |cons b r=>
   have e:(a::b::r).length-1=((b::r).length-1)+1:=by
    have h1:(a::b::r).length=r.length+2:=rfl;have h2:(b::r).length=r.length+1:=rfl;omega
   rw[e,List.eraseIdx_cons_succ,ih];all_goals rfl
theorem foldl_rep(its:List Value):∀(k:Nat) (acc:List Value),
  List.foldl (fun x1 x2=>x1++x2) acc.toArray (List.replicate k its.toArray)=(acc++(List.replicate k its).flatten).toArray
 |0,acc=>by simp
 |k+1,acc=>by
  have e:acc.toArray++its.toArray=(acc++its).toArray:=by simp
  have e2:(acc++its)++(List.replicate k its).flatten=acc++(List.replicate (k+1) its).flatten:=by
   rw[List.replicate_succ,List.flatten_cons,List.append_assoc]
  rw[<-e2,<-foldl_rep its k (acc++its),<-e,List.replicate_succ,List.foldl_cons]
section
variable {X:Cx} {pins:List (Addr×Obj)} {σ:St} {H:Hp} {s:Shared} {l b:Addr} {xs ys zs:List V}
theorem Inv.Vn{its its':List Value}{n:Nat}{f:Array Value->Array Value}{t':Nat}(I:Inv X pins σ H s)(hH:H l=some (.lst xs))
  (e:s.heap.get? l=some { cls:= .type "list",data:= .seq its.toArray n }) (hf:f its.toArray=its'.toArray) (hv:Vals ys its') (hz:ys.length<=sizeLine):
  Inv X pins σ (upd H l (.lst ys)) { s with heap:=s.heap.update l (Obj.mapSeq f),toks:=t' }:=by
 have q:=PySem.IsL.update e f;rw[hf]at q;refine I.write (x:=l) (e:=l) (by rw[hH];exact trivial) (.inl rfl) (fun b' u hb hu=>(Heap.get?_update_other s.heap (Obj.mapSeq f) (Ne.symm hb)).trans hu) ⟨_,q⟩ ?_;exact⟨hz,its',_,hv,q⟩
theorem Inv.SD{its:List Value}{t':Nat}(I:Inv X pins σ H s)(hv:Vals ys its)(hz:ys.length<=sizeLine):
  Inv X pins σ (upd H s.heap.objs.size (.lst ys)) { s with heap:=s.heap.push { cls:= .type "list",data:= .seq its.toArray },toks:=t' }:=
 I.laid (fun _ _ q=>Heap.get?_push_of_some _ q) (Nat.le_refl _) ⟨hz,its,0,hv,Heap.get?_push_size _ rfl⟩
theorem Inv.fresh(I:Inv X pins σ H s):H s.heap.objs.size=none:=I.hok.fresh (Nat.le_refl _)
theorem Inv.Nk(I:Inv X pins σ H s)(hH:H l=some (.lst xs)):xs.length<=sizeLine/\∃(its:List Value) (n:Nat),Vals xs its/\xs.length=its.length/\s.heap.get? l=some { cls:= .type "list",data:= .seq its.toArray n }:=by
 obtain⟨z,its,n,r,e⟩:=I.hok l _ hH;exact⟨z,its,n,r,r.length,e⟩
theorem Gf{n:Nat}(h:n<=sizeLine):Builtin.List.listTooLong n=false:=by
 unfold Builtin.List.listTooLong;exact decide_eq_false (by omega)
end
section
variable {X:Cx}
inductive WW(x:V)(vs:List V)(H:Hp)(Q:VK):Prop|mk (l:Addr) (xs:List V) (y:V) (hx:x = .ref l) (hv:vs=[y]) (hl:H l=some (.lst xs)) (hz:xs.length<sizeLine) (q:Q .non (upd H l (.lst (xs++[y]))))
def Dh:V->List V->Hp->VK->Prop:=fun x vs H Q=>WW x vs H Q
theorem vp:MtM X "list.append" Dh:=by
 intro pins s σ H x vs v us Q I rx rv h;obtain⟨l,xs,y,rfl,rfl,hH,hz,q⟩:=h;cases rx;obtain⟨u,rfl,ru⟩:=rv.one;obtain⟨z,its,n,r,hl,e⟩:=I.Nk hH;refine call_meets F.slot_list_append ⟨_,e,rfl⟩ F.entry_list_append (F.args_list_append_2 _ _) (PySem.list_append l its.toArray n u (by rw[List.size_toArray];omega)) ⟨e,?_⟩;refine⟨.non,_,I.Vn (its':=its++[u]) hH e (by simp) (r.append (.cons ru .nil)) ?_,rfl,q⟩;rw[List.length_append,List.length_singleton];omega
def Vl:V->List V->Hp->VK->Prop:=fun x vs H Q=>∃l xs y,x = .ref l/\vs=[]/\H l=some (.lst xs)/\xs[xs.length-1]?=some y/\Q y (upd H l (.lst xs.dropLast))
theorem Mi:MtM X "list.pop" Vl:=by
 intro pins s σ H x vs v us Q I rx rv h;obtain⟨l,xs,y,rfl,rfl,hH,hy,q⟩:=h;cases rx;have hus:=rv.zero;subst hus;obtain⟨z,its,n,r,hl,e⟩:=I.Nk hH;obtain⟨u,hu,ru⟩:=r.get hy;have hy':its.toArray[its.toArray.size-1]?=some u:=by
  show its.toArray[its.length-1]?=some u;rw[<-Array.getElem?_toList,<-hl];exact hu
 refine call_meets F.slot_list_pop ⟨_,e,rfl⟩ F.entry_list_pop (F.args_list_pop_1 _) (MeetsSeq.list_pop_last l its.toArray n u hy' (by rw[List.size_toArray];omega)) ⟨e,?_⟩;refine⟨y,_,I.Vn (its':=its.dropLast) hH e ?_ r.dropLast ?_,ru,q⟩
 ·show its.toArray.eraseIdxIfInBounds (its.toArray.size-1)=its.dropLast.toArray;rw[List.size_toArray,List.eraseIdxIfInBounds_toArray,BH]
 ·rw[List.length_dropLast];omega
def XC:R2:=fun x y H Q=>∃l b xs zs,x = .ref l/\y = .ref b/\H l=some (.lst xs)/\H b=some (.lst zs)/\xs.length+zs.length<=sizeLine/\∀p,H p=none->Q (.ref p) (upd H p (.lst (xs++zs)))
theorem Oa:OpR X (binaryOp .Add) XC:=by
 intro pins s σ H x y v u Q I rx ry h;obtain⟨l,b,xs,zs,rfl,rfl,hH,hB,hz,q⟩:=h;cases rx;cases ry;obtain⟨z,its,n,r,hl,e⟩:=I.Nk hH;obtain⟨z2,its2,n2,r2,hl2,e2⟩:=I.Nk hB;refine PySem.P.add_list e e2 ?_ (by rw[List.size_toArray,List.size_toArray];omega);have ea:its.toArray++its2.toArray=(its++its2).toArray:=by simp
 rw[ea];exact⟨.ref _,_,I.SD (t':=s.toks) (r.append r2) (by rw[List.length_append];omega),rfl,q _ I.fresh⟩
def WH:R2:=fun x y H Q=>∃l k xs,x = .ref l/\y = .int k/\H l=some (.lst xs)/\-(2^63)<=k/\k<2^63/\xs.length*k.toNat<=sizeLine/\
 ∀p,H p=none->Q (.ref p) (upd H p (.lst (List.replicate k.toNat xs).flatten))
theorem len_rep{α:Type}(xs:List α)(k:Nat):(List.replicate k xs).flatten.length=k*xs.length:=by
 induction k with
 |zero=>simp
 |succ k ih=>rw[List.replicate_succ,List.flatten_cons,List.length_append,ih,Nat.succ_mul,Nat.add_comm]
theorem NW:OpR X (binaryOp .Mult) WH:=by
 intro pins s σ H x y v u Q I rx ry h;obtain⟨l,k,xs,rfl,rfl,hH,h1,h2,hz,q⟩:=h;cases rx;obtain⟨t,rfl⟩:=ry;obtain⟨z,its,n,r,hl,e⟩:=I.Nk hH;have hlen:its.toArray.size*k.toNat<=sizeLine:=by rw[List.size_toArray,<-hl];exact hz
 have hcap:¬its.toArray.size*k.toNat>(2^63-1)/8:=by
  have:(sizeLine:Nat)<=(2^63-1)/8:=by decide
  omega
 have hfit:¬(!Builtin.List.listFitsIndex k)=true:=by
  rw[fitsIndex_both h1 h2];exact Bool.false_ne_true
 have Ux:¬Builtin.List.listTooLong (its.toArray.size*k.toNat)=true:=by
  rw[Gf hlen];exact Bool.false_ne_true
 have hnew:List.foldl (fun x1 x2=>x1++x2) #[] (List.replicate (if its.toArray.isEmpty=true then 0 else k.toNat) its.toArray)=(List.replicate k.toNat its).flatten.toArray:=by
  have f0:∀m:Nat,List.foldl (fun x1 x2=>x1++x2) #[] (List.replicate m its.toArray)=(List.replicate m its).flatten.toArray:=fun m=>by
   have:=foldl_rep its m [];rw[List.nil_append]at this;exact this
  rw[f0];cases its with
  |nil=>simp
  |cons a r'=>rw[if_neg (by simp)]
 refine wpAny_binaryOp_repeat_ref (T:= "list") (U:= "int") (by decide) ⟨_,e,rfl⟩ (fun s'=>typeIs_int s' k t) noFill_list_mul F.fills_int_mul F.slot_int_rmul repeat_list F.slot_int_index.lookup
  (call_meets F.slot_int_rmul (typeIs_int s k t) F.entry_int_rmul (F.args_int_rmul_2 _ _) (int___rmul___int_list k t l its.toArray n)
   ⟨e,rfl,⟨_,e,rfl⟩,call_meets F.slot_list_mul ⟨_,e,rfl⟩ F.entry_list_mul (F.args_list_mul_2 _ _) (AutoListH.list___mul___list_int_3 l its.toArray n k t hfit hcap Ux) ⟨e,?_⟩⟩)
 rw[hnew];exact⟨.ref _,_,I.SD (t':=s.toks) (r.rep k.toNat) (by rw[len_rep,Nat.mul_comm];exact hz),rfl,q _ I.fresh⟩
end
section
variable {prog:Program} {w:World} {A:Around} {E:Value->Shared->Prop} {s:Shared}
end
section
variable {X:Cx}
end
section
variable {κ:Type} [DecidableEq κ]
def GR(kvs:List (κ×V))(k:κ):Option V:=(kvs.find? fun kv=>decide (kv.1=k)).map (·.2)
theorem Ga{p:κ×V}{r:List (κ×V)}{k:κ}(e:p.1=k):GR (p::r) k=some p.2:=by simp[GR,List.find?_cons,e]
theorem Fy{p:κ×V}{r:List (κ×V)}{k:κ}(e:¬p.1=k):GR (p::r) k=GR r k:=by simp[GR,List.find?_cons,e]
theorem KV.val{kvs:List (κ×V)}{vs:List (κ×Value)}(r:KV kvs vs)(k:κ):FD (GR kvs k) (valueAt vs k):=by
 unfold KV at r;induction r with
 |nil=>exact True.intro
 |@cons p q ps qs h t ih=>
  obtain⟨h1,h2⟩:=h;by_cases e:p.1=k
  ·have e':q.1=k:=h1.symm.trans e;have b:valueAt (q::qs) k=some q.2:=by simp[valueAt,List.find?_cons,e']
   rw[Ga e,b];exact h2
  ·have e':¬q.1=k:=fun z=>e (h1.trans z);have b:valueAt (q::qs) k=valueAt qs k:=by simp[valueAt,List.find?_cons,e']
   rw[Fy e,b];exact ih
end
section
variable {P:Program} {w:World} {H:Hp} {h:Heap} {a:Addr}
end
section
variable {X:Cx} {pins:List (Addr×Obj)} {σ:St} {H:Hp} {s:Shared} {a:Addr} {y v:V} {u r:Value} {o:Option V} {A:Around} {E:Value->Shared->Prop}
end
section
variable {X:Cx} {pins:List (Addr×Obj)} {σ:St} {H:Hp} {s:Shared} {a:Addr} {kvs:List (Key×V)} {k:Key} {u:Value} {A:Around} {E:Value->Shared->Prop}
end
section
variable {X:Cx} {o i e value:Expr} {pos pos' tpos:Pos} {td ty tv:TE}
end
section
variable {X:Cx} {pos:Pos}
end
section
variable {X:Cx} {pins:List (Addr×Obj)} {σ:St} {H:Hp} {s:Shared} {a:Addr} {y d:V} {u r:Value} {o:Option V} {A:Around} {E:Value->Shared->Prop}
end
section
variable {X:Cx} {o e f:Expr} {apos cpos:Pos} {td ty tx:TE}
end
section
variable {X:Cx} {pins:List (Addr×Obj)} {σ:St} {H:Hp} {s:Shared} {a:Addr} {kvs:List (Key×V)} {A:Around} {E:Value->Shared->Prop}
end
section
variable {X:Cx} {pins:List (Addr×Obj)} {σ:St} {H:Hp} {s:Shared} {a:Addr} {y:V} {u:Value} {A:Around} {E:Value->Shared->Prop}
end
end L2
namespace Att
open PySem PySem.W PySem.Calls PyProof.Rows
theorem qT{P:Params}{h:Heap}:∀(ns:List Int) (vs:List Value),WellAll P h vs (ns.map WData.int)->IntsAre vs ns:=by
 intro ns;induction ns with
 |nil=>
  intro vs w;rw[List.map_nil]at w;cases w;exact .nil
 |cons n ns ih=>
  intro vs w;rw[List.map_cons]at w;cases w with
  |cons a b=>
   cases a;exact .cons _ _ (ih _ b)
theorem Ed{l:OpenLaw}{n:Nat}(hn:l.most=some n){P:Params}{h:Heap}{args:List WData}{vals:List Value}
  (hpre:l.row.toRowW.claim.pre args=true) (hwl:WellAll P h vals args):
  ∃a vs ns,vals=[Value.ref a]/\args=[WData.list (ns.map WData.int)]/\h.get? a=some { cls:= .type "list",data:= .seq vs.toArray }/\IntsAre vs ns/\ns.length<=n:=by
 have hsh:WShape.hasAll [] args [.list .int]=true:=(pre_splitW hpre).1;have hc:l.pre.holds [] { args:=args }=true:=(pre_splitW hpre).2;obtain⟨d,r,rfl,h1,h2⟩:=hasAllW_cons hsh;obtain rfl:=hasAllW_nil h2;obtain⟨xs,rfl,h3⟩:=hasW_list h1;obtain⟨ns,rfl⟩:=items_int h3;have hlen:ns.length<=n:=by
  unfold OpenLaw.pre at hc;have h4:(WTm.not (.lt (.lit (.int (n:Int))) (.len (.arg 0)))).holds [] { args:=[.list (ns.map .int)] }=true:=by
   have h4:=(holds_andW hc).1;rw[hn]at h4;exact h4
  have h5:=condW_of h4 (w_not (w_lt w_lit (w_len_list (w_arg rfl))));rw[List.length_map]at h5;refine Nat.le_of_not_lt fun q=>?_;have q':(n:Int)<((ns.length:Nat):Int):=by omega
  first
   |(rw[decide_eq_true q']at h5;exact absurd h5 (by decide))
   |(simp at h5;omega)
 cases hwl with
 |cons w1 w2=>
  cases w2;cases w1 with
  |list ho hall=>exact⟨_,_,ns,rfl,rfl,ho,qT ns _ hall,hlen⟩
theorem Ci(l:OpenLaw)(args:List WData):l.row.toRowW.claim.post args (.bool true) args=true:=
 postW_of (r:=l.row.toRowW) (X:=(true==true))
  (show WShape.has [] (.bool true) .bool=true by first|rfl|decide|simp[WShape.has,WShape.arms,WShape.armsAll])
  (show(WTm.eq .res (.lit (.bool true))).value [] { args:=args,res:=some (.bool true),after:=args }=some (.bool (true==true))from w_eq_bool (w_res rfl) w_lit) rfl
section
variable {prog:Program} {w:World} {A:Around} {E:Value->Shared->Prop} {s:Shared} {K:Frag}
end
end Att
namespace L2
open PySem PySem.Spec PyProof.Rows
theorem Em{vs:List Value}{ns:List Int}(h:IntsAre vs ns):Vals (ns.map V.int) vs:=by
 induction h with
 |nil=>exact .nil
 |cons n t h ih=>exact .cons ⟨t,rfl⟩ ih
def Only(H:Hp):Prop:=∀b,H b=none∨∃o xs,H b=some (.frz o (.lst xs))
theorem FN{P:Program}{w:World}{K:W.Frag}{mg mb:Str->Option Value}{CX:CXT}{k:Nat}{fa a:Addr}{fd:FuncData}{x:Str}{sp:Sp}{s₁:Shared}{vs:List Value}{ns:List Int}
  (KX:K.In s₁.heap) (hns:s₁.heap.Ns mainGlobals mg) (hb:s₁.heap.Ns builtinsNs mb) (hbb:∀x:Str,x≠ "__name__" -> mb x=bootBuiltins x) (hlim:s₁.heap.NoLimit) (hdig:s₁.heap.NoDigits) (hg:s₁.gens=#[])
  (ha:s₁.heap.get? a=some { cls:= .type "list",data:= .seq vs.toArray }) (hi:IntsAre vs ns) (hl:ns.length<=sizeLine) (hr:mR k callerA)
  (F:∀base:Heap,K.In base->base.Ns mainGlobals mg->E7 P w K mg base CX k fa fd [x] sp) (hbind:∀(s:Shared) (u:Value),BindsTo s fd ⟨[u],[]⟩ [(x,u)])
  (hsp:∀H:Hp,Only H->SqL K H a (ns.map V.int)->sp [.ref a] H (fun v _=>v = .bl true) fun _ _ _=>False)
  (hCX:∀H e s',CX [] H s₁ (fun _ _ _=>False) e s'->False):
  codeAny (model P w) callerA (.call (.ref fa) ⟨[.ref a],[]⟩) (fun r s'=>r = .ok (.ret (.bool true))/\OldK s₁.heap s'.heap/\s'.os=s₁.os/\AllBare s'.gens) s₁:=by
 have rv:=Em hi;have lenV:=hi.length;have core:∀H:Hp,Only H->SqL K H a (ns.map V.int)->HOk P w H s₁.heap->(∀b,H b≠none->b=a)->(H a≠none->K.lookup a=none)->
   codeAny (model P w) callerA (.call (.ref fa) ⟨[.ref a],[]⟩) (fun r s'=>r = .ok (.ret (.bool true))/\OldK s₁.heap s'.heap/\s'.os=s₁.os/\AllBare s'.gens) s₁:=by
  intro H hO hS hok hA hK;have EY:∀{b:Addr} {o:Obj},s₁.heap.get? b=some o->H b=none->(Gg s₁.heap H).get? b=some o:=fun e n=>G8 e n;have noA:∀{b:Addr} {o:Obj} {es:Array DictEntry} {ep:Nat},s₁.heap.get? b=some o->o.data = .dict es ep->H b=none:=fun {b o es ep} e d=>by
   cases q:H b with
   |none=>rfl
   |some u=>
    have e':b=a:=hA b (by rw[q];simp);subst e';rw[ha]at e;cases e;have d':Data.seq vs.toArray _=Data.dict es ep:=d;cases d'
  have nsK:∀{b:Addr} {m:Str->Option Value},s₁.heap.Ns b m->(Gg s₁.heap H).Ns b m:=fun {b m} ⟨o,es,ep,e,d,r⟩=>⟨o,es,ep,EY e (noA e d),d,r⟩;have hKb:K.In (Gg s₁.heap H):=fun b o e=>EY (KX b o e) (by
   cases q:H b with
   |none=>rfl
   |some u=>
    have e':b=a:=hA b (by rw[q];simp);subst e';rw[hK (by rw[q];simp)]at e;cases e)
  have hM:Mod K mg (Gg s₁.heap H):=⟨hKb,nsK hns,⟨mb,nsK hb,hbb⟩,let⟨mc,h1,h2⟩:=hlim;⟨mc,nsK h1,h2⟩,let⟨mc,h1,h2⟩:=hdig;⟨mc,nsK h1,h2⟩⟩;have e0:Oo P w K mg (Gg s₁.heap H) callerA [] s₁ H:=⟨rfl,hM,fun b o e=>IX e,Nat.le_of_eq (Cz _ _),trivial,fun b hb=>absurd (show b∈([]:List Addr)from hb) (by simp),hok,.of_eq hg⟩;refine codeAny_mono ((F _ hKb (nsK hns)).run callerA [] s₁ H ⟨[.ref a],[]⟩ [.ref a] [.ref a] _ _ hr e0 (hbind s₁ (.ref a)) (.cons rfl .nil) (hsp H hO hS)) fun r s' h=>?_;cases r with
  |error e=>exact(hCX H e s' h).elim
  |ok fl=>
   cases fl with
   |next=>exact False.elim h
   |brk=>exact False.elim h
   |cont=>exact False.elim h
   |ret u=>
    obtain⟨v,H',os,bare,un,hok',r',q⟩:=h;have q':v = .bl true:=q;subst q';obtain rfl:u=Value.bool true:=r';refine⟨rfl,OldK.of_keep fun b o e=>?_,os,bare⟩;cases q:H b with
    |none=>exact un.keep b o e q (by intro z;exact absurd (show b∈([]:List Addr)from z) (by simp)) (by simp)
    |some u=>
     rcases hO b with z|⟨ob,xs,z⟩
     ·rw[q]at z;cases z
     ·have z2:=un.Gn b ob _ z;obtain⟨e1,_⟩:=hok b _ z;obtain⟨e2,_⟩:=hok' b _ z2;rw[e]at e1;cases e1;exact e2
 cases hk:K.lookup a with
 |some o=>
  have e:=KX a o hk;rw[ha]at e;cases e;refine core (fun _=>none) (fun _=> .inl rfl) (.inr ⟨_,vs.toArray,_,hk,rfl,rfl,rfl,by rw[List.size_toArray,lenV];exact hl,by simpa using rv⟩) (fun b u z=>by have z':(none:Option HO)=some u:=z;cases z') (fun b z=>absurd rfl z) fun z=>absurd rfl z
 |none=>
  refine core (fun b=>if b=a then some (.frz { cls:= .type "list",data:= .seq vs.toArray } (.lst (ns.map V.int)))else none) (fun b=>?_) (.inl (.inr ⟨{ cls:= .type "list",data:= .seq vs.toArray },if_pos rfl⟩)) (fun b u z=>?_) (fun b z=>?_) fun _=>hk
  ·by_cases hb:b=a
   ·exact .inr ⟨_,_,if_pos hb⟩
   ·exact .inl (if_neg hb)
  ·by_cases hb:b=a
   ·have z':=(if_pos hb).symm.trans z;cases z';subst hb;exact⟨ha,by rw[List.length_map];exact hl,vs,_,rv,ha⟩
   ·have z':=(if_neg hb).symm.trans z;cases z'
  ·by_cases hb:b=a
   ·exact hb
   ·exact absurd (if_neg hb) z
def aD(s:Stmt):Arguments:=match s with
 |.FunctionDef _ a _ _ _ _ _ _ _ _=>a
 |_=>{ posonlyargs:=[],args:=[],vararg:=none,kwonlyargs:=[],kw_defaults:=[],kwarg:=none,defaults:=[] }
def aC(s:Stmt):List Stmt:=match s with
 |.FunctionDef _ _ b _ _ _ _ _ _ _=>b
 |_=>[]
def aj(s:Stmt):Scope:=match s with
 |.FunctionDef _ _ _ _ _ _ sc _ _ _=>sc
 |_=>{ kind:= .function,names:=[],isGenerator:=false,isCoroutine:=false }
abbrev E0:XK:=fun _ _ _=>False
structure Fun(K:W.Frag)(x qual:Str)(st:Stmt)(f:Addr)(fd:FuncData):Prop where
 ex:∃(oc:Value) (od:Option Addr) (kV doc pm:Value) (an:Option Addr) (cdv ct:Value) (osl:Array (Option Value)),
  fd=W.fnOf x qual (aD st) (aC st) (aj st) .none kV doc pm an cdv ct/\K.lookup f=some ⟨oc,od,.func fd,osl⟩/\W.codeIn K cdv qual=true
 kp:W.keepIn K (.ref f)=true
section
variable {P:Program} {w:World} {K:W.Frag} {mg:Str->Option Value} {base:Heap}
theorem Fun.binds{x qual:Str}{st:Stmt}{f:Addr}{fd:FuncData}{ps:List Str}(F:Fun K x qual st f fd)
  (h:∀(kV doc pm:Value) (an:Option Addr) (cdv ct:Value) (us:List Value),us.length=ps.length->bindArgs (W.fnOf x qual (aD st) (aC st) (aj st) .none kV doc pm an cdv ct) ⟨us,[]⟩=pure (ps.zip us)):Binds K fd ps []:=by
 obtain⟨oc,od,kV,doc,pm,an,cdv,ct,osl,rfl,lk,hcd⟩:=F.ex;exact .all (h kV doc pm an cdv ct)
theorem Ih{x qual:Str}{st:Stmt}{f:Addr}{oc:Value}{od an:Option Addr}{osl:Array (Option Value)}{kV doc pm cdv ct:Value}(l:K.lookup f=some ⟨oc,od,.func (W.fnOf x qual (aD st) (aC st) (aj st) .none kV doc pm an cdv ct),osl⟩)
  (c:W.codeIn K cdv qual=true) (k:W.keepIn K (.ref f)=true):Fun K x qual st f (W.fnOf x qual (aD st) (aC st) (aj st) .none kV doc pm an cdv ct):=⟨⟨oc,od,kV,doc,pm,an,cdv,ct,osl,rfl,l,c⟩,k⟩
end
theorem bN{n:Nat}(h:n<=1000):n<sizeLine:=Nat.lt_of_le_of_lt h (by decide)
section
variable {X:Cx}
theorem pv(i:Nat){x:Str}{pos:Pos}(hN:X.N[i]?=some x:=by rfl)(hv:Vis X.env.scope x:=by first|exact Or.inl rfl|exact Or.inr (Or.inl rfl)|exact Or.inr (Or.inr rfl))(hd:(x==("__debug__" : Str))=false:=by decide)
  (hcd:(x==("__classdict__" : Str))=false:=by decide):PE X (.Name x pos) (Vy i):=N6 hN hv hd hcd
end
theorem yV{A B:Prop}(h:B):if false=true then A else B:=by
 rw[if_neg Bool.false_ne_true];exact h
theorem Wm{A B:Prop}(h:A):if true=true then A else B:=by
 rw[if_pos rfl];exact h
theorem jW{c A B:Prop}[Decidable c](h1:c->A)(h2:¬c->B):if c then A else B:=by
 by_cases h:c
 ·rw[if_pos h];exact h1 h
 ·rw[if_neg h];exact h2 h
def Same(H H':Hp):Prop:=∀b o,H b=some o->H' b=some o
theorem Same.refl(H:Hp):Same H H:=fun _ _ h=>h
theorem Same.trans{H H1 H2:Hp}(a:Same H H1)(b:Same H1 H2):Same H H2:=fun c o h=>b c o (a c o h)
theorem Same.free{H H':Hp}(e:Same H H'){l:Addr}(h:H' l=Option.none):H l=Option.none:=by
 cases q:H l with
 |none=>rfl
 |some o=>
  rw[e l o q]at h;cases h
theorem Same.seq{K:W.Frag}{H H':Hp}{a:Addr}{xs:List V}(e:Same H H')(h:SqL K H a xs):SqL K H' a xs:=by
 rcases h with(h|⟨o,h⟩)|h
 ·exact .inl (.inl (e _ _ h))
 ·exact .inl (.inr ⟨o,e _ _ h⟩)
 ·exact .inr h
section
variable {κ:Type} [DecidableEq κ]
end
theorem us0{us:List Value}(h:us.length=0):us=[]:=List.eq_nil_of_length_eq_zero h
theorem usS{us:List Value}{n:Nat}(h:us.length=n+1):∃a r,us=a::r/\r.length=n:=by
 cases us with
 |nil=>cases h
 |cons a r=>exact⟨a,r,rfl,Nat.succ.inj h⟩
theorem us1{us:List Value}(h:us.length=1):∃a,us=[a]:=by
 obtain⟨a,r,rfl,k⟩:=usS h;obtain rfl:=us0 k;exact⟨a,rfl⟩
theorem us2{us:List Value}(h:us.length=2):∃a b,us=[a,b]:=by
 obtain⟨a,r,rfl,k⟩:=usS h;obtain⟨b,rfl⟩:=us1 k;exact⟨a,b,rfl⟩
theorem us3{us:List Value}(h:us.length=3):∃a b c,us=[a,b,c]:=by
 obtain⟨a,r,rfl,k⟩:=usS h;obtain⟨b,c,rfl⟩:=us2 k;exact⟨a,b,c,rfl⟩
theorem us4{us:List Value}(h:us.length=4):∃a b c d,us=[a,b,c,d]:=by
 obtain⟨a,r,rfl,k⟩:=usS h;obtain⟨b,c,d,rfl⟩:=us3 k;exact⟨a,b,c,d,rfl⟩
structure uT(P:Program)(w:World)(outer:List Env)(H:Hp)(s:Shared)(E:XK)(e:Value)(s':Shared):Prop where
 ex:∃(ea C:Addr) (a0:Value) (B:Heap) (H':Hp),e = .ref ea/\s'.os=s.os/\AllBare s'.gens/\Heap.FlyingW B outer ea (.ref C) a0 s'.heap/\HOk P w H' B/\Un (frs outer) [] H H' s.heap s'.heap/\
  (∀b o,s.heap.get? b=some o->b∈frs outer∨∃o',B.get? b=some o')/\E (.ref C) none H'
theorem sY{P:Program}{w:World}{outer:List Env}{H:Hp}{s s':Shared}{e:Value}(h:uT P w outer H s E0 e s'):False:=by
 obtain⟨_,_,_,_,_,_,_,_,_,_,_,_,q⟩:=h.ex;exact q
theorem Lq{X:Cx}:Passes (uT X.prog X.w) X E0:=fun _ _ _ _ _ _ _ h=>(sY h).elim
section
variable {X:Cx} {pins:List (Addr×Obj)} {σ:St} {H:Hp} {s:Shared}
end
abbrev cxF(P:Program)(w:World)(K:W.Frag)(mg:Str->Option Value)(base:Heap)(N:List Str)(qual:Str)(scope:Scope)(f:Addr)(cdv:Value)(A:Around)(outer:List Env)(s:Shared)(H:Hp)(E:XK):Cx:=
 KN (uT P w) P w K mg base N qual scope f cdv A outer s H E
section
variable {P:Program} {w:World} {K:W.Frag} {mg:Str->Option Value} {base:Heap} {N:List Str} {qual:Str} {scope:Scope} {f:Addr} {cdv:Value} {A:Around} {outer:List Env} {s₀:Shared} {H₀:Hp} {E:XK}
end
theorem Fun.okF{P:Program}{w:World}{K:W.Frag}{mg:Str->Option Value}{base:Heap}{x qual:Str}{st:Stmt}{f:Addr}{fd:FuncData}{N ps:List Str}{k:Nat}{sp:Sp}(F:Fun K x qual st f fd)(S:aO N ps (aj st))(len:∀vs H Q E,sp vs H Q E->vs.length=ps.length)
  (hbody:∀(cdv:Value) (A:Around) (outer:List Env) (s:Shared) (H:Hp) (vs:List V) (Q:VK) (E:XK),mR k (A.deeper (envOfC qual (aj st) s.heap.objs.size f cdv))->sp vs H Q E->
   ∃t,PSs (cxF P w K mg base N qual (aj st) f cdv A outer s H E) (aC st) t/\t { nx:=fun _ H'=>Q .non H',rt:=Q } (start N vs) H):E7 P w K mg base (uT P w) (k+1) f fd ps sp:=by
 obtain⟨oc,od,kV,doc,pm,an,cdv,ct,osl,rfl,lk,hcd⟩:=F.ex;exact RL lk hcd S len fun A outer s H vs Q E hr hsp=>hbody cdv A outer s H vs Q E hr hsp
theorem Fun.okN{P:Program}{w:World}{K:W.Frag}{mg:Str->Option Value}{base:Heap}{x qual:Str}{st:Stmt}{f:Addr}{fd:FuncData}{N ps:List Str}{k:Nat}{sp:Sp}(F:Fun K x qual st f fd)(S:aO N ps (aj st))(len:∀vs H Q E,sp vs H Q E->vs.length=ps.length)
  (hbody:∀(cdv:Value) (A:Around) (outer:List Env) (s:Shared) (H:Hp) (vs:List V) (Q:VK) (E:XK),mR k (A.deeper (envOfC qual (aj st) s.heap.objs.size f cdv))->sp vs H Q E->
   ∃t,PSs (cxF P w K mg base N qual (aj st) f cdv A outer s H E).nox (aC st) t/\t { nx:=fun _ H'=>Q .non H',rt:=Q } (start N vs) H):E7 P w K mg base (uT P w) (k+1) f fd ps sp:=
 F.okF S len fun cdv A outer s H vs Q E hr h=>let⟨t,a,b⟩:=hbody cdv A outer s H vs Q E hr h;⟨t,a.nox,b⟩
section
variable {X:Cx}
theorem OpR.imp{f:Value->Value->Sem Value}{r r':R2}(h:OpR X f r)(i:∀x y H Q,r' x y H Q->r x y H Q):OpR X f r':=fun pins s σ H x y v u Q I rx ry q=>h pins s σ H x y v u Q I rx ry (i _ _ _ _ q)
theorem IxR.imp{r r':R2}(h:IxR X r)(i:∀x y H Q,r' x y H Q->r x y H Q):IxR X r':=fun value slice pins s σ H x y v u Q I rx ry q hs=>h value slice pins s σ H x y v u Q I rx ry (i _ _ _ _ q) hs
theorem qm{x:Str}{i:Int}{pos:Pos}(hg:Gl X x)(hm:∃t,X.mg x=some (.int i t))(hd:(x==("__debug__" : Str))=false:=by decide):PE X (.Name x pos) (tC (.int i)):=by
 obtain⟨t,e⟩:=hm;exact Jl hg e ⟨t,rfl⟩ hd
structure Cal(P:Program)(w:World)(K:W.Frag)(mg:Str->Option Value)(base:Heap)(x:Str)(k:Nat)(ps:List Str)(sp:Sp):Prop where
 ex:∃(g:Addr) (gd:FuncData),mg x=some (.ref g)/\W.keepIn K (.ref g)=true/\Binds K gd ps []/\E7 P w K mg base (uT P w) k g gd ps sp
theorem au{x:Str}{k k':Nat}{ps:List Str}{sp:Sp}{p pos:Pos}{e:Expr}{es:List Expr}{t:TA}(C:Cal X.prog X.w X.K X.mg X.base x k ps sp)(hr:mR k' X.A)(hg:Gl X x)(ha:PA X (e::es) t)
  (hk:k<=k':=by decide) (hd:(x==("__debug__" : Str))=false:=by decide)
  (he:starEach (e::es) X.env=(false,eval e X.env)::starEach es X.env:=by rfl) (hpl:(backTo pos (starEach es X.env)).any (·.1)=false:=by rfl):PE X (.Call (.Name x p) (e::es) [] pos) (LC sp [] E0 t):=by
 obtain⟨g,gd,hm,hkp,hb,F⟩:=C.ex;exact JB F (hr.mono hk) hg hm hkp hb .nil Lq ha hd he hpl
theorem Fp{prog:Program}{w:World}{A:Around}{E:Value->Shared->Prop}{s:Shared}{t b:Addr}{vs ws:List Value}{Q:Value->Shared->Prop}(ht:IsTup s.heap t vs.toArray)(hb:IsTup s.heap b ws.toArray)(hv:vs=[])
  (h1:Q (.ref b) s):wpAny (model prog w) A (binaryOp .Add (.ref t) (.ref b)) Q E s:=by
 obtain⟨⟨cls,dd,data,sl⟩,ho,hc,n,hd⟩:=id ht;obtain⟨⟨cls2,dd2,data2,sl2⟩,ho2,hc2,n2,hd2⟩:=id hb;simp only at hc hd hc2 hd2;subst hc hd hc2 hd2;exact concat_meets ⟨_,ho,rfl⟩ ⟨_,ho2,rfl⟩ noFill_tuple_add seq_tuple_add PySem.F.slot_tuple_add PySem.F.entry_tuple_add (PySem.F.args_tuple_add_2 _ _)
   (tuple_addW0 t b vs.toArray ws.toArray n n2 dd dd2 sl sl2 (by simp[hv])) ⟨ho,ho2,h1⟩
def OV(K:W.Frag):R2:=fun x y H Q=>∃a b ys,x = .ref a/\y = .ref b/\SqT K H a []/\SqT K H b ys/\Q (.ref b) H
theorem IZ:OpR X (binaryOp .Add) (OV X.K):=by
 intro pins s σ H x y v u Q I rx ry h;obtain⟨a,b,ys,rfl,rfl,ha,hb,q⟩:=h;cases rx;cases ry;obtain⟨its,r1,p1,_⟩:=I.tuple ha;obtain⟨its2,r2,p2,_⟩:=I.tuple hb;exact Fp p1 p2 (r1.uZ.mpr rfl) ⟨.ref b,H,I,rfl,q⟩
def GB(K:W.Frag):R2:=fun x y H Q=>match x,y with
 |.int i,.int j=>Q (.int (i+j)) H
 |.str i,.str j=>i.length+j.length<=sizeLine/\Q (.str (i++j)) H
 |.ref a,.ref b=>(∃xs ys,H a=some (.lst xs)/\H b=some (.lst ys)/\xs.length+ys.length<=sizeLine/\∀p,H p=none->Q (.ref p) (upd H p (.lst (xs++ys))))∨
   (∃xs ys,SqT K H a xs/\SqT K H b ys/\xs.length+ys.length<=sizeLine/\(xs=[]->Q (.ref b) H)/\(xs≠[]->ys=[]->Q (.ref a) H)/\(xs≠[]->ys≠[]->∀p,H p=none->Q (.ref p) (upd H p (.tup (xs++ys)))))
 |_,_=>False
theorem v_add:OpR X (binaryOp .Add) (GB X.K):=by
 refine((MG.or Bw).or (Oa.or (Jf.or IZ))).imp fun x y H Q h=>?_;unfold GB at h;split at h
 ·exact .inl (.inl ⟨_,_,rfl,rfl,h⟩)
 ·exact .inl (.inr ⟨_,_,rfl,rfl,h⟩)
 ·rcases h with⟨xs,ys,h1,h2,h3,h4⟩|⟨xs,ys,h1,h2,h3,h4,h5,h6⟩
  ·exact .inr (.inl ⟨_,_,xs,ys,rfl,rfl,h1,h2,h3,h4⟩)
  ·by_cases hx:xs=[]
   ·subst hx;exact .inr (.inr (.inr ⟨_,_,ys,rfl,rfl,h1,h2,h4 rfl⟩))
   ·exact .inr (.inr (.inl ⟨_,_,xs,ys,rfl,rfl,h1,h2,hx,h3,h5 hx,h6 hx⟩))
 ·exact h.elim
def Ma:R2:=fun x y H Q=>match x,y with
 |.int i,.int j=>IntMulOk i j/\Q (.int (i*j)) H
 |.ref l,.int k=>∃xs,H l=some (.lst xs)/\-(2^63)<=k/\k<2^63/\xs.length*k.toNat<=sizeLine/\∀p,H p=none->Q (.ref p) (upd H p (.lst (List.replicate k.toNat xs).flatten))
 |_,_=>False
theorem Kz:OpR X (binaryOp .Mult) (rI IntMulOk fun i j=> .int (i*j)):=opI fun _ _ _ _ _ _ _ hc q=>mul_int q hc
theorem v_mul:OpR X (binaryOp .Mult) Ma:=by
 refine(Kz.or NW).imp fun x y H Q h=>?_;unfold Ma at h;split at h
 ·exact .inl ⟨_,_,rfl,rfl,h.1,h.2⟩
 ·obtain⟨xs,h1,h2,h3,h4,h5⟩:=h;exact .inr ⟨_,_,xs,rfl,rfl,h1,h2,h3,h4,h5⟩
 ·exact h.elim
inductive SIx(K:W.Frag)(p:Addr)(i:Int)(H:Hp)(Q:VK):Prop|mk (xs:List V) (v:V) (hs:SqL K H p xs∨SqT K H p xs) (ha:atI xs i=some v) (q:Q v H)
def UN(K:W.Frag):R2:=fun x y H Q=>match x,y with
 |.ref p,.int i=>SIx K p i H Q
 |.str z,.int i=>∃c,z.length<=sizeLine/\atI z.cps.toList i=some c/\Q (.str ⟨#[c]⟩) H
 |_,_=>False
theorem Wg:IxR X (UN X.K):=by
 refine NQ.imp fun x y H Q h=>?_;unfold UN at h;split at h
 ·obtain⟨xs,v,h1|h1,h2,h3⟩:=h
  ·exact .inl ⟨_,xs,_,v,rfl,rfl,h1,h2,h3⟩
  ·exact .inr (.inl ⟨_,xs,_,v,rfl,rfl,h1,h2,h3⟩)
 ·obtain⟨c,h1,h2,h3⟩:=h;exact .inr (.inr ⟨_,_,c,rfl,rfl,h1,h2,h3⟩)
 ·exact h.elim
theorem v_sum(hc:X.calm=true):oh X (.builtin "sum") (fun xs H Q=>∃(l:Addr) (ns:List Int),xs=[.ref l]/\SqL X.K H l (ns.map V.int)/\Q (.int ns.sum) H):=by
 intro pins s σ H xs us Q I r h;obtain⟨l,ns,rfl,hl,q⟩:=h;obtain⟨u,rfl,ru⟩:=r.one;cases ru;obtain⟨its,rv,pl,hz⟩:=I.list hl;have hi:=intsAre_of rv;obtain⟨xs,hx⟩:=hi.allInts.items;have hl':s.heap.IsList l (intItems xs):=hx▸pl.isList;refine sum_intListG (I.ok.hd hc) hl' fun h' tk t' hk=>?_;have e1:ns=xs.toList.map (·.1):=by
  rw[<-nums_intItems,<-hx];exact(show numsOf its.toArray.toList=ns from hi.numsOf).symm
 have e2:preSum (numAt xs) xs.size=ns.sum:=by
  rw[preSum_eq,List.take_of_length_le (by simp),e1]
 rw[e2];exact⟨.int _,H,I.kept hk,⟨_,rfl⟩,q⟩
def Vo(K:W.Frag)(tl:TE):TI:=fun σ H R=>tl σ H fun x H1=>∃a,x = .ref a/\(((∃xs,SqL K H1 a xs)/\R (Itl K a) H1)∨((∃xs,SqT K H1 a xs)/\R (Itt K a) H1))
theorem K3{tg l:Expr}{tl:TE}(hl:PE X l tl):PI X tg l (Vo X.K tl):=by
 intro pins s σ H R I h;refine thn (hl pins s σ H _ I h) fun v s1 ⟨x,H1,I1,r1,a,e,q⟩=>?_;subst e;cases r1;rcases q with⟨⟨xs,hq⟩,q⟩|⟨⟨xs,hq⟩,q⟩
 ·have hh:PI X tg l (Qu X.K fun σ' H' Q=>Q (.ref a) H')->True:=fun _=>trivial;obtain⟨its,rv,p,hz⟩:=I1.list hq;refine wpAny_pyIter_list p.isList ?_;refine⟨s1.heap.objs.size,[s1.heap.objs.size],_,_,H1,rfl,I1.kept (t':=s1.toks) fun b o e=>Heap.get?_push_of_some _ e,Ck a _,⟨_,Heap.get?_push_size _ rfl,rfl,rfl⟩,fun b hb=>?_,q⟩;have e:b=s1.heap.objs.size:=by simpa using hb
  subst e;exact I1.Mz (Nat.le_refl _) (I1.hok.fresh (Nat.le_refl _))
 ·obtain⟨its,rv,p,hz⟩:=I1.tuple hq;refine wpAny_pyIter_tuple (show s1.heap.IsTuple a its.toArray from p) ?_;refine⟨s1.heap.objs.size,[s1.heap.objs.size],_,_,H1,rfl,I1.kept (t':=s1.toks) fun b o e=>Heap.get?_push_of_some _ e,Bj a _,⟨_,Heap.get?_push_size _ rfl,rfl,rfl⟩,fun b hb=>?_,q⟩;have e:b=s1.heap.objs.size:=by simpa using hb
  subst e;exact I1.Mz (Nat.le_refl _) (I1.hok.fresh (Nat.le_refl _))
end
theorem oH{env:Env}:∀(names:List (Str×NameKind)) (acc:List (Str×Addr)),(∀y∈names,y.2 = .free->∃c,env.cells.lookup y.1=some c)->(∀p∈acc,env.cells.lookup p.1=some p.2)->
 ∃cl,(forIn names acc fun(y:Str×NameKind) (cs:List (Str×Addr))=>match y with|(name,kind)=>if(kind== .free)=true then do let a<-cellOf env name;pure (ForInStep.yield ((name,a)::cs))else pure (ForInStep.yield cs))=(pure cl:Sem _)/\(∀p∈cl,env.cells.lookup p.1=some p.2)/\(∀p∈acc,p∈cl)/\∀y∈names,y.2 = .free->∃c,(y.1,c)∈cl
 |[],acc,_,ha=>⟨acc,rfl,ha,fun _ h=>h,fun _ h=>nomatch h⟩
 |(n,k)::r,acc,hf,ha=>by
  have hr:∀y∈r,y.2 = .free->∃c,env.cells.lookup y.1=some c:=fun y hy=>hf y (List.mem_cons_of_mem _ hy);by_cases hk:k = .free
  ·subst hk;obtain⟨c,hc⟩:=hf (n,.free) List.mem_cons_self rfl;obtain⟨cl,e,h1,h2,h3⟩:=oH r ((n,c)::acc) hr (fun p hp=>by
    rcases List.mem_cons.mp hp with rfl|hp
    ·exact hc
    ·exact ha p hp)
   refine⟨cl,?_,h1,fun p hp=>h2 p (List.mem_cons_of_mem _ hp),fun y hy hyf=>?_⟩
   ·rw[List.forIn_cons];simp only[beq_self_eq_true,if_true,cellOf,hc,pure_bind];exact e
   ·rcases List.mem_cons.mp hy with rfl|hy
    ·exact⟨c,h2 _ List.mem_cons_self⟩
    ·exact h3 y hy hyf
  ·have hb:(k==NameKind.free)=false:=by simpa using hk
   obtain⟨cl,e,h1,h2,h3⟩:=oH r acc hr ha;refine⟨cl,?_,h1,h2,fun y hy hyf=>?_⟩
   ·rw[List.forIn_cons];simp only[hb,Bool.false_eq_true,if_false,pure_bind];exact e
   ·rcases List.mem_cons.mp hy with rfl|hy
    ·exact absurd hyf hk
    ·exact h3 y hy hyf
theorem Bc{env:Env}{scope:Scope}(hf:∀y∈scope.names,y.2 = .free->∃c,env.cells.lookup y.1=some c):
  ∃cl,closureFor scope env=pure cl/\(∀x c,cl.lookup x=some c->env.cells.lookup x=some c)/\∀y∈scope.names,y.2 = .free->∃c,cl.lookup y.1=some c:=by
 obtain⟨cl,e,h1,_,h3⟩:=oH (env:=env) scope.names [] hf (fun _ h=>nomatch h);refine⟨cl,?_,fun x c h=>h1 (x,c) (PySem.mem_of_lookup h),fun y hy hyf=>?_⟩
 ·unfold closureFor;simp only[bind_pure_comp]at e⊢;rw[e];rfl
 ·obtain⟨c,hc⟩:=h3 y hy hyf;cases q:cl.lookup y.1 with
  |some d=>exact⟨d,rfl⟩
  |none=>
   have z:=List.lookup_eq_none_iff.mp q (y.1,c) hc;simp at z
def Ve(sc:Scope)(cl:List (Str×Addr))(C:Addr)(env:Env):Env:=
 { scope:=sc,locals:=C,globals:=env.globals,cells:=cl,qual:=env.qual,func:=none,code:=env.code,frame:=env.frame,builtins:=env.builtins }
def cCx(X:Cx)(sc:Scope)(N:List Str)(cl:List (Str×Addr))(C:Addr)(s₀:Shared)(H₀:Hp)(ex:List Addr):Cx:=
 { X with env:=Ve sc cl C X.env,N:=N,s₀:=s₀,H₀:=H₀,outer:=X.stack,ex:=ex,fn:=fun _=>false,pn:=[],xe:=fun _ _=>False }
def cst(ix:List (Option Nat))(σ:St):St:=ix.map fun o=>match o with
 |none=>none
 |some i=>match σ[i]? with
  |some v=>v
  |none=>none
def PIf(X:Cx)(ifs:List Expr)(t:TT):Prop:=
 ∀(pins:List (Addr×Obj)) (s:Shared) (σ:St) (H:Hp) (Q:Bool->Hp->Prop),Inv X pins σ H s->t σ H Q->
  wpAny (model X.prog X.w) X.A (forIn ifs true fun c r=>if r=true then do let ok<-isTrue c X.env (eval c X.env);pure (ForInStep.yield ok)else pure (ForInStep.yield r)) (TP X pins σ Q) X.xe s
def CP:TT:=fun _ H Q=>Q true H
theorem cR{X:Cx}:PIf X [] CP:=fun _ _ _ H _ I h=>wpAny_tests_nil ⟨H,I,h⟩
theorem kZ{prog:Program}{w:World}{A:Around}{R:Result->Shared->Prop}{s:Shared}{elt target iter:Expr}{ifs:List Expr}{scope:Scope}{pos:Pos}{it acc:Value}{env:Env}(I:Nat->Shared->Prop)
  (turn:∀n s,I n s->wpAny (model prog w) A (pyNext it) (fun r s₁=>match r with
   |none=>R (.ok .next) s₁
   |some v=>wpAny (model prog w) A (letOwnedTupleGo target it v) (fun _ s₀=>wpAny (model prog w) A (assign target env v) (fun _ s₂=>
     wpAny (model prog w) A (forIn ifs true fun c r=>if r=true then do let ok<-isTrue c env (eval c env);pure (ForInStep.yield ok)else pure (ForInStep.yield r)) (fun ok s₃=>
      if ok=true then wpAny (model prog w) A (eval elt env) (fun x s₄=>
       wpAny (model prog w) A (call (.builtin "list.append") [acc,x]) (fun _ s₅=>∃m,m<n/\I m s₅) (fun _ _=>False) s₄) (fun _ _=>False) s₃
      else ∃m,m<n/\I m s₃) (fun _ _=>False) s₂) (fun _ _=>False) s₀) (fun _ _=>False) s₁) (fun _ _=>False) s)
  (n:Nat) (h:I n s):
  codeAny (model prog w) A (.compLoop (.ListComp elt [⟨target,iter,ifs,0⟩] scope pos) 0 it acc env) R s:=by
 refine codeAny_loop rfl I (fun n s hI=>?_) n h;show wpAny _ A ((compTurn (.ListComp elt [⟨target,iter,ifs,0⟩] scope pos) 0 it acc env).onRaise (fun x=>do noteFrame x env;theTreesLotGoes x)) _ _ s
 refine wpAny_noted ?_;rw[compTurn_list];refine wpAny_bind (wpAny_standAt (wpAny_bind (wpAny_mono (turn n s hI) (fun r s₁ h₁=>?_) fun _ _ h'=>h'.elim)));cases r with
 |none=>exact wpAny_pure h₁
 |some v=>
  refine wpAny_bind (wpAny_mono h₁ (fun _ s₀ h₀=>?_) fun _ _ h'=>h'.elim);refine wpAny_bind (wpAny_mono h₀ (fun _ s₂ h₂=>wpAny_bind (wpAny_mono h₂ (fun ok s₃ h₃=>?_) fun _ _ h'=>h'.elim)) fun _ _ h'=>h'.elim);cases ok with
  |false=>exact wpAny_pure ⟨rfl,h₃⟩
  |true=>
   exact wpAny_bind (wpAny_bind (wpAny_mono h₃ (fun x s₄ h₄=>wpAny_bind (wpAny_mono h₄ (fun _ s₅ h₅=>wpAny_pure (wpAny_pure ⟨rfl,h₅⟩)) fun _ _ h'=>h'.elim)) fun _ _ h'=>h'.elim))
structure pY(ix:List (Option Nat))(g:TG)(tc:TT)(te:TE)(σ:St)(Q:VK)(J:It)(H1:Hp):Prop where
 go:∀D,H1 D=none->∃W:Nat->Nat->St->Hp->Prop,(∃m,W 0 m (cst ix σ) (upd H1 D (.lst [])))/\
  ∀i m σ' H',W i m σ' H'->(J.stop i H'/\Q (.ref D) H')∨(J.go i H'/\∀x H2,J.yld i H' x H2->g x σ' H2 fun σ3 H3=>tc σ3 H3 fun b H4=>
   if b=true then te σ3 H4 fun y H5=>∃ys,H5 D=some (.lst ys)/\ys.length<sizeLine/\∃m',m'<m/\W (i+1) m' σ3 (upd H5 D (.lst (ys++[y])))
   else ∃m',m'<m/\W (i+1) m' σ3 H4)
def Jh(ix:List (Option Nat))(wi:TI)(g:TG)(tc:TT)(te:TE):TE:=fun σ H Q=>wi σ H fun J H1=>pY ix g tc te σ Q J H1
structure zX(X:Cx)(scope sc:Scope)(N:List Str)(ix:List (Option Nat)):Prop where
 rel:relabel scope X.env=sc
 kind:scope.kind = .function
 cell:∀y∈scope.names,y.2≠ .cell
 names:∀x∈scope.names,x.2 = .local->scope.names.lookup x.1=some .local
 free:∀y∈scope.names,y.2 = .free->X.env.kindOf y.1=some .cell∨X.env.kindOf y.1=some .free
 len:N.length=ix.length
 ix:∀(j:Nat) (x:Str) (i:Nat),N[j]?=some x->ix[j]?=some (some i)->X.N[i]?=some x/\(x,NameKind.free)∈scope.names/\(sc.names.lookup x=some .cell∨sc.names.lookup x=some .free)
 has:∀x,(sc.names.lookup x=some .cell∨sc.names.lookup x=some .free)->(x,NameKind.free)∈scope.names
theorem vN{X:Cx}{tg iter elt:Expr}{ifs:List Expr}{scope sc:Scope}{pos ip:Pos}{wi:TI}{g:TG}{tc:TT}{te:TE}{N:List Str}{ix:List (Option Nat)}(O:zX X scope sc N ix)(hc:X.calm=true)(hi:PI X tg iter wi)
  (hb:∀cl C s₀ H₀ ex,PG (cCx X sc N cl C s₀ H₀ ex) tg g/\PIf (cCx X sc N cl C s₀ H₀ ex) ifs tc/\PE (cCx X sc N cl C s₀ H₀ ex) elt te) (hs:∀x,foldedSetIterable iter X.env x=pure x)
  {use:Option (Value->Sem Unit)} {QQ:Value->Shared->Prop} {pins:List (Addr×Obj)} {s:Shared} {σ:St} {H:Hp} {Q:VK} (I:Inv X pins σ H s) (h:Jh ix wi g tc te σ H Q)
  (fin:∀(D C:Addr) (s6:Shared) (H5:Hp) (m:Str->Option Value),Inv X pins σ H5 s6->s6.heap.Ns C m->Gd X pins H5 C->Q (.ref D) H5->compPost (model X.prog X.w) X.A X.xe use QQ (.ref D) C (.ok .next) s6):
  wpAny (model X.prog X.w) X.A (comprehension (.ListComp elt [⟨tg,iter,ifs,0⟩] scope pos) scope X.env ip (newList []) false (eval iter X.env) use) QQ X.xe s:=by
 have hcl:∃cl,closureFor scope X.env=pure cl/\(∀x c,cl.lookup x=some c->X.env.cells.lookup x=some c)/\∀y∈scope.names,y.2 = .free->∃c,cl.lookup y.1=some c:=
  Bc fun y hy hf=>I.ok.has y.1 (O.free y hy hf)
 obtain⟨cl,ecl,Jz,Vm⟩:=hcl;refine wpAny_comprehension_free (use:=use) rfl hs ecl O.kind O.names (thn (hi pins s σ H _ I h) fun v s1 h1=>thn h1 fun itv s2 h2=>?_);obtain⟨it,fp,tn,J,H2,e,I2,T,st2,f2,q2⟩:=h2;subst e;obtain⟨W,⟨m0,w0⟩,turn⟩:=q2.go s2.heap.objs.size I2.fresh;refine wpAny_newObj_type ?_;have I3:=I2.SD (its:=[]) (t':=s2.toks) (ys:=[]) .nil (Nat.zero_le _);generalize eH3:upd H2 s2.heap.objs.size (.lst [])=H3 at I3 w0;have eD:H3 s2.heap.objs.size=some (.lst []):=by rw[<-eH3];exact aB
 have Xy:∀b∈fp,b≠s2.heap.objs.size:=fun b hb z=>by
  obtain⟨o,ho,_⟩:=T.obj _ _ st2 b hb;exact absurd (Heap.lt_size ho) (by rw[z];exact Nat.lt_irrefl _)
 have st3:tn 0 (s2.heap.push { cls:= .type "list",dict:=none,data:= .seq ([]:List Value).toArray }):=T.keep _ _ _ st2 fun b _ o e=>Heap.get?_push_of_some _ e;have f3:∀b∈fp,Gd X pins H3 b:=fun b hb=>⟨by rw[<-eH3,eG (Xy b hb)];exact(f2 b hb).1,(f2 b hb).2⟩;generalize es3:({ s2 with heap:=s2.heap.push { cls:= .type "list",dict:=none,data:= .seq ([]:List Value).toArray },toks:=s2.toks }:Shared)=s3 at I3;have VB:tn 0 s3.heap:=by rw[<-es3];exact st3
 refine wpAny_newFunctionEnv O.cell (fun y hy=>nomatch hy) (fun h4 Wl Xc=>?_) O.kind;have Kg:∀b o,s3.heap.get? b=some o->h4.get? b=some o:=fun b o e=>(Xc.2 b (Nat.ne_of_lt (Heap.lt_size e))).trans (Heap.get?_push_of_some _ e);have I4:Inv X pins σ H3 { s3 with heap:=h4,toks:=s3.toks+([]:List (Str×Value)).length }:=I3.kept Kg;have Wf:({ newEnv scope s3.heap.objs.size X.env.globals cl X.env.qual none .none (some X.env) builtinsNs with scope:=relabel scope X.env }:Env)=Ve sc cl s3.heap.objs.size X.env:=by rw[O.rel];rfl
 rw[Wf];show codeAny _ _ _ (compPost (model X.prog X.w) X.A X.xe use QQ (.ref s2.heap.objs.size) s3.heap.objs.size) _;generalize eC:s3.heap.objs.size=C;generalize es4:({ s3 with heap:=h4,toks:=s3.toks+([]:List (Str×Value)).length }:Shared)=s4 at I4;have h4s:s4.heap=h4:=by rw[<-es4]
 have o4s:s4.os=s3.os:=by rw[<-es4]
 have fC:∀b∈fp,b≠C:=fun b hb z=>by
  obtain⟨o,ho,_⟩:=T.obj _ _ VB b hb;exact absurd (Heap.lt_size ho) (by rw[z,eC];exact Nat.lt_irrefl _)
 have okC:(cCx X sc N cl C s3 H3 fp).Ok:=by
  refine⟨I3.ok.mod,?_,I3.ok.glob,I3.ok.blt,Nat.le_of_eq eC,fun x y c h1 h2=>I3.ok.inj x y c (Jz x c h1) (Jz y c h2),fun x hx=>?_,fun x c z _=>(nomatch z),I3.ok.hd,I3.ok.frames,.inl rfl,fun b hb=>⟨fC b hb,fun x c e=>(f3 b hb).2.2.2.2.1 x c (Jz x c e)⟩,
   I3.bs,Nat.le_trans I3.ok.bsz I3.sz,fun b o e hb=>?_,fun b hb z=>?_,I3.stack,I3.El⟩
  ·show sc.kind = .function;rw[<-O.rel];exact O.kind
  ·exact Vm (x,.free) (O.has x hx) rfl
  ·rcases(f3 b hb).2.2.2.1 with z|z
   ·exact I3.ok.Ls b o e z
   ·exact absurd (Nat.lt_of_lt_of_le (Heap.lt_size e) (Nat.le_trans I3.ok.bsz z)) (Nat.lt_irrefl _)
  ·rcases List.mem_cons.mp (I3.D9 b z)with z|z
   ·exact(f3 b hb).2.1 z
   ·exact(f3 b hb).2.2.1 z
 have IC:Inv (cCx X sc N cl C s3 H3 fp) [] (cst ix σ) H3 s4:=by
  refine⟨okC,o4s,I4.bare,?_,?_,fun x c e=>I4.cell x c (Jz x c e),?_,fun x c e=>I4.su x c (Jz x c e),fun p hp=>(nomatch hp),I4.hok,?_⟩
  ·rw[h4s];exact Un.kept Kg
  ·refine⟨_,by rw[h4s,<-eC];exact Wl,fun j x v e1 e2 e3=>?_⟩;have e2':(cst ix σ)[j]?=some (some v):=e2;unfold cst at e2';rw[List.getElem?_map]at e2';cases q:ix[j]? with
   |none=>rw[q]at e2';cases e2'
   |some o=>
    rw[q]at e2';cases o with
    |none=>cases e2'
    |some i=>
     obtain⟨hx,hm,hsc⟩:=O.ix j x i e1 q;cases q2:σ[i]? with
     |none=>simp[q2]at e2'
     |some w'=>
      simp[q2]at e2';subst e2';obtain⟨m,hn,hl⟩:=I4.loc;have kf:=O.free (x,.free) hm rfl;have vis:Vis X.env.scope x:=by
       rcases kf with k|k
       ·exact .inr (.inl k)
       ·exact .inr (.inr k)
      obtain⟨u,r,l⟩:=hl i x v hx q2 vis;refine⟨u,r,?_⟩;rcases l with⟨k,_⟩|⟨_,c,e,z⟩
      ·rcases kf with k'|k'
       ·rw[k]at k';cases k'
       ·rw[k]at k';cases k'
      ·obtain⟨c',e'⟩:=Vm (x,.free) hm rfl;have:=Jz x c' e';rw[e]at this;cases this;exact .inr ⟨hsc,c,e',z⟩
  ·rw[<-eC];exact I3.fresh
  ·show(cst ix σ).length=N.length;rw[O.len];simp[cst]
 have st4:tn 0 s4.heap:=T.keep _ _ _ VB fun b _ o e=>by rw[h4s];exact Kg b o e
 have stat:∀{H':Hp},(∀b∈fp,H' b=none)->∀b∈fp,Gd (cCx X sc N cl C s3 H3 fp) [] H' b:=fun hn b hb=>
  ⟨hn b hb,fC b hb,okC.Nh b hb,.inl hb,fun x c e=>(f3 b hb).2.2.2.2.1 x c (Jz x c e),fun p hp=>(nomatch hp)⟩
 obtain⟨hg,ht,he⟩:=hb cl C s3 H3 fp;have loop:codeAny (model X.prog X.w) X.A (.compLoop (.ListComp elt [⟨tg,iter,ifs,0⟩] scope pos) 0 (.ref it) (.ref s2.heap.objs.size) (Ve sc cl C X.env))
   (compPost (model X.prog X.w) X.A X.xe use QQ (.ref s2.heap.objs.size) C) s4:=by
  refine kZ (fun n s'=>∃i σ' H',Inv (cCx X sc N cl C s3 H3 fp) [] σ' H' s'/\tn i s'.heap/\(∀b∈fp,H' b=none)/\W i n σ' H') ?_ m0 ⟨0,cst ix σ,H3,IC,st4,fun b hb=>(f3 b hb).1,w0⟩;rintro n s5 ⟨i,σ5,H5,I5,st5,fr5,w5⟩;rcases turn i n σ5 H5 w5 with⟨stop,qn⟩|⟨go,step⟩
  ·refine thn (T.done (cCx X sc N cl C s3 H3 fp) rfl rfl rfl hc i [] s5 σ5 H5 (fun _ _=>False) I5 (stat fr5) st5 stop) fun r s6 ⟨hr,I6⟩=>?_;subst hr;obtain⟨m,hn,_⟩:=id I6.loc;have I7:Inv X pins σ H5 s6:=I3.O3 (ch:=fp) I6.os I6.base I6.hok I6.bare fun b hb=>⟨(f3 b hb).2.2.2.1,(f3 b hb).2.1,(f3 b hb).2.2.2.2.1,(f3 b hb).2.2.2.2.2⟩;exact fin _ C s6 H5 m I7 hn (I3.Mz (Nat.le_of_eq eC) I6.free) qn
  ·refine thn (T.item (cCx X sc N cl C s3 H3 fp) rfl rfl rfl hc i [] s5 σ5 H5 (fun _ _=>False) I5 (stat fr5) st5 go) fun r s6 ⟨u,hr,h6⟩=>?_;subst hr;refine thn h6 fun _ s7 ⟨x,H7,I7,r7,y7,st7,fr7⟩=>?_;have I7':=I7.pinned (stat fr7) (T.obj _ _ st7);have again:∀{σ9:St} {H9:Hp} {s9:Shared} {m':Nat},Inv (cCx X sc N cl C s3 H3 fp) ([]++vM fp s7.heap) σ9 H9 s9->m'<n->W (i+1) m' σ9 H9->
     ∃m,m<n/\∃i σ' H',Inv (cCx X sc N cl C s3 H3 fp) [] σ' H' s9/\tn i s9.heap/\(∀b∈fp,H' b=none)/\W i m σ' H':=fun {σ9 H9 s9 m'} I9 hm w9=>by
    refine⟨m',hm,i+1,σ9,H9,I9.nD,T.keep _ _ _ st7 fun b hb o e=>(I9.pin (b,o) (List.mem_append_right _ (List.mem_append_right _ (jh hb e)))).1,fun b hb=>?_,w9⟩;obtain⟨o,e,d⟩:=T.obj _ _ st7 b hb;exact(I9.pin (b,o) (List.mem_append_right _ (List.mem_append_right _ (jh hb e)))).2.1
   refine thn (hg _ s7 σ5 H7 x u _ I7' r7 (step x H7 y7)) fun _ s8 ⟨σ8,H8,I8,q8⟩=>?_;refine thn (ht _ s8 σ8 H8 _ I8 q8) fun b s9 ⟨H9,I9,q9⟩=>?_;cases b with
   |false=>
    rw[if_neg Bool.false_ne_true]at q9;obtain⟨m',hm,w9⟩:=q9;rw[if_neg Bool.false_ne_true];exact again I9 hm w9
   |true=>
    rw[if_pos rfl]at q9;rw[if_pos rfl];refine thn (he _ s9 σ8 H9 _ I9 q9) fun y s10 ⟨yv,H10,I10,r10,ys,e10,z10,m',hm,w10⟩=>?_;refine thn (vp _ s10 σ8 H10 (.ref s2.heap.objs.size) [yv] (.ref s2.heap.objs.size) [y] (fun _ H'=>W (i+1) m' σ8 H') I10 rfl (.cons r10 .nil) ⟨_,ys,yv,rfl,rfl,e10,z10,w10⟩) fun _ s11 ⟨_,H11,I11,_,w11⟩=>?_;exact again I11 hm w11
 exact codeAny_compStart_list loop (T.self _ _ _ _ _ st4 loop)
theorem dG{X:Cx}{tg iter elt:Expr}{ifs:List Expr}{scope sc:Scope}{pos:Pos}{wi:TI}{g:TG}{tc:TT}{te:TE}{N:List Str}{ix:List (Option Nat)}(O:zX X scope sc N ix)(hc:X.calm=true)(hi:PI X tg iter wi)
  (hb:∀cl C s₀ H₀ ex,PG (cCx X sc N cl C s₀ H₀ ex) tg g/\PIf (cCx X sc N cl C s₀ H₀ ex) ifs tc/\PE (cCx X sc N cl C s₀ H₀ ex) elt te)
  (hs:∀x,foldedSetIterable iter X.env x=pure x:=by intro _;rfl):PE X (.ListComp elt [⟨tg,iter,ifs,0⟩] scope pos) (Jh ix wi g tc te):=by
 intro pins s σ H Q I h;rw[eval_ListComp];exact vN (use:=none) (QQ:=EP X pins σ Q) O hc hi hb hs I h fun D C s6 H5 m I7 hn f q=>⟨m,hn,fun h' hs'=>⟨.ref D,H5,I7.turned (it:=C) (t':=s6.toks) (fun b o hb e=>(hs'.2 b hb).trans e) f.1 f.2.1 f.2.2.2.1 f.2.2.2.2.1 f.2.2.2.2.2,rfl,q⟩⟩
theorem xG{X:Cx}{i:Nat}{y:Str}{py spos:Pos}{tg iter elt:Expr}{ifs:List Expr}{scope sc:Scope}{pos:Pos}{wi:TI}{g:TG}{tc:TT}{te:TE}{N:List Str}{ix:List (Option Nat)}(hN:X.N.Nodup)(hi':X.N[i]?=some y)(hx:Loc X.env.scope y)
  (O:zX X scope sc N ix) (hc:X.calm=true) (hi:PI X tg iter wi)
  (hb:∀cl C s₀ H₀ ex,PG (cCx X sc N cl C s₀ H₀ ex) tg g/\PIf (cCx X sc N cl C s₀ H₀ ex) ifs tc/\PE (cCx X sc N cl C s₀ H₀ ex) elt te)
  (hs:∀x,foldedSetIterable iter X.env x=pure x:=by intro _;rfl) (hsw:swapsWith (.ListComp elt [⟨tg,iter,ifs,0⟩] scope pos) (some (.Name y py)) spos.line X.env=pure true:=by rfl)
  (hf:X.fn y=true∨X.env.scope.names.lookup y=some .local:=by first|exact .inl rfl|exact .inr rfl|assumption):
  PS X (.Assign [.Name y py] (.ListComp elt [⟨tg,iter,ifs,0⟩] scope pos) spos) (Q5 (Jh ix wi g tc te) (nq i)):=by
 intro pins s σ H D I h;rw[exec_Assign_Name_used _ _ _ _ hsw];refine wpAny_bind (wpAny_standAt (wpAny_bind ?_));show wpAny _ X.A (do let _<-comprehension (.ListComp elt [⟨tg,iter,ifs,0⟩] scope pos) scope X.env _ (newList []) false (eval iter X.env) (some (assign (.Name y py) X.env))) _ _ s
 refine wpAny_bind (wpAny_mono (vN (use:=some (assign (.Name y py) X.env)) (QQ:=fun _ s'=>∃σ' H',Inv X pins σ' H' s'/\D.nx σ' H') O hc hi hb hs I h fun D1 C s6 H5 m I7 hn f q=>?_) (fun _ s' ⟨σ',H',I',q'⟩=>wpAny_pure (wpAny_pure ⟨σ',H',I',q'⟩)) fun _ _ e=>e);obtain⟨o,es,ep,ho,hc1,hc2⟩:=id hn;have I8:=I7.pinned (fp:=[C]) (fun b hb=>by
  have e:b=C:=by simpa using hb
  subst e;exact f) (fun b hb=>by
  have e:b=C:=by simpa using hb
  subst e;exact⟨o,ho,fun v z=>by first|(rw[hc1.2]at z;cases z)|(rw[hc2.1]at z;cases z)|(rw[hc1]at z;cases z)|(simp_all)⟩)
 show wpAny _ X.A (assign (.Name y py) X.env (.ref D1)) _ _ _;refine wpAny_assign_Name (ux I8 hN hi' hx (v:= .ref D1) rfl (fun s7 I9=>?_) hf);have hC:=(I9.pin (C,o) (List.mem_append_right _ (List.mem_append_right _ (jh (by simp) ho)))).1;refine⟨m,⟨o,es,ep,hC,hc1,hc2⟩,fun h' hs'=>⟨_,H5,I9.nD.turned (it:=C) (t':=s7.toks) (fun b o hb e=>(hs'.2 b hb).trans e) f.1 f.2.1 f.2.2.2.1 f.2.2.2.2.1 f.2.2.2.2.2,q⟩⟩
mutual
inductive RdD(K:W.Frag)(H:Hp):V->PyData->Prop
 |non:RdD K H .non .none
 |bl (b:Bool):RdD K H (.bl b) (.bool b)
 |int (i:Int):RdD K H (.int i) (.int i)
 |str (x:Str):RdD K H (.str x) (.str x)
 |lst {a:Addr} {xs:List V} {ds:List PyData}:SqL K H a xs->vR K H xs ds->RdD K H (.ref a) (.list ds)
 |tup {a:Addr} {xs:List V} {ds:List PyData}:SqT K H a xs->vR K H xs ds->RdD K H (.ref a) (.tuple ds)
inductive vR(K:W.Frag)(H:Hp):List V->List PyData->Prop
 |nil:vR K H [] []
 |cons {x:V} {d:PyData} {xs:List V} {ds:List PyData}:RdD K H x d->vR K H xs ds->vR K H (x::xs) (d::ds)
end
section
variable {X:Cx} {pins:List (Addr×Obj)} {σ:St} {H:Hp} {s:Shared}
mutual
theorem Inv.reads(I:Inv X pins σ H s):∀{x:V} {d:PyData} {u:Value},RdD X.K H x d->RelV x u->∃as,Reads s.heap u d as
 |_,_,_,.non,r=>by cases r;exact⟨_,.none⟩
 |_,_,_,.bl b,r=>by cases r;exact⟨_,.bool b⟩
 |_,_,_,.int i,r=>by obtain⟨t,rfl⟩:=r;exact⟨_,.int i t⟩
 |_,_,_,.str x,r=>by obtain⟨t,rfl⟩:=r;exact⟨_,.str x t⟩
 |_,_,_,.lst hq hs,r=>by
  cases r;obtain⟨its,rv,pl,_⟩:=I.list hq;obtain⟨as,ra⟩:=Inv.readsAll I hs rv;obtain⟨o,ho,hc,n,hd⟩:=pl.isList;exact⟨_,.list ho hc hd (by simpa using ra)⟩
 |_,_,_,.tup hq hs,r=>by
  cases r;obtain⟨its,rv,pl,_⟩:=I.tuple hq;obtain⟨as,ra⟩:=Inv.readsAll I hs rv;obtain⟨o,ho,hc,n,hd⟩:=pl;exact⟨_,.tuple ho hc hd (by simpa using ra)⟩
theorem Inv.readsAll(I:Inv X pins σ H s):∀{xs:List V} {ds:List PyData} {us:List Value},vR X.K H xs ds->Vals xs us->∃as,ReadsAll s.heap us ds as
 |_,_,_,.nil,.nil=>⟨_,.nil⟩
 |_,_,_,.cons h1 h2,.cons r1 r2=>by
  obtain⟨as,a⟩:=Inv.reads I h1 r1;obtain⟨bs,b⟩:=Inv.readsAll I h2 r2;exact⟨_,.cons a b⟩
end
theorem vR.ints{K:W.Frag}{H:Hp}:∀ns:List Int,vR K H (ns.map V.int) (ns.map PyData.int)
 |[]=> .nil
 |n::r=> .cons (.int n) (vR.ints r)
def fM(kb:List (Key×V)):List (Key×V)->Bool
 |[]=>true
 |(k,v)::r=>match GR kb k with
  |none=>false
  |some y=>eqV v y&&fM kb r
theorem yu{A:Around}{kb:List (Key×V)}{vb:List (Key×Value)}(hb:KV kb vb)(fb:kb.all (fun p=>rz p.2)=true):∀{ka:List (Key×V)} {va:List (Key×Value)},KV ka va->ka.all (fun p=>rz p.2)=true->
  W.KeqHits A s vb va (fM kb ka)
 |[],_,.nil,_=> .nil
 |(k,v)::r,(k',v')::r',.cons ⟨e,rv⟩ t,f=>by
  cases (show k=k' from e);rw[List.all_cons,Bool.and_eq_true]at f;have hv:=KV.val hb k;cases q:GR kb k with
  |none=>
   have hn:valueAt vb k=none:=FD.none_of (by rw[q]at hv;exact hv);have e2:fM kb ((k,v)::r)=false:=by simp[fM,q]
   rw[e2];exact .miss hn
  |some y=>
   rw[q]at hv;obtain⟨u,hu,ru⟩:=FD.some_of hv;have fy:rz y=true:=by
    unfold GR at q;cases q2:kb.find? (fun kv=>decide (kv.1=k))with
    |none=>rw[q2]at q;cases q
    |some p=>
     rw[q2]at q;cases q;exact List.all_eq_true.mp fb p (List.mem_of_find?_eq_some q2)
   have e2:fM kb ((k,v)::r)=(eqV v y&&fM kb r):=by simp[fM,q]
   rw[e2];exact .hit hu (Od rv ru f.1 fy) (yu hb fb t f.2)
end
section
variable {X:Cx}
def E8(K:W.Frag)(g:Bool->Bool):R2:=fun x y H Q=>match x,y with
 |.int i,.int j=>Q (.bl (g (decide (i=j)))) H
 |.bl i,.bl j=>Q (.bl (g (decide (i=j)))) H
 |.str i,.str j=>Q (.bl (g (decide (i=j)))) H
 |.non,.non=>Q (.bl (g true)) H
 |.ref a,.ref b=>(∃d e,RdD K H (.ref a) d/\RdD K H (.ref b) e/\SeqAt.shaped d=true/\SeqAt.shaped e=true/\Q (.bl (g (PyData.eqv d e))) H)∨
   (∃ka kb,H a=some (.dK ka)/\H b=some (.dK kb)/\ka.all (fun p=>rz p.2)=true/\kb.all (fun p=>rz p.2)=true/\Q (.bl (g (ka.length==kb.length&&fM kb ka))) H)
 |.non,.ref _=>False
 |.ref _,.non=>False
 |x,y=>O8 x y=true/\Q (.bl (g (decide (x=y)))) H
theorem LD{k:Nat}(hr:mR k X.A):OpR X (compareOp .Eq) (fun x y H Q=>∃d e,RdD X.K H x d/\RdD X.K H y e/\SeqAt.shaped d=true/\SeqAt.shaped e=true/\Q (.bl (PyData.eqv d e)) H):=by
 intro pins s σ H x y v u Q I rx ry h;obtain⟨d,e,h1,h2,h3,h4,q⟩:=h;obtain⟨as,ra⟩:=I.reads h1 rx;obtain⟨bs,rb⟩:=I.reads h2 ry;exact eq_dataH ra rb h3 h4 hr.units ⟨.bl _,H,I,rfl,q⟩
theorem Mp{k:Nat}(hr:mR k X.A):OpR X (compareOp .NotEq) (fun x y H Q=>∃d e,RdD X.K H x d/\RdD X.K H y e/\SeqAt.shaped d=true/\SeqAt.shaped e=true/\Q (.bl (!PyData.eqv d e)) H):=by
 intro pins s σ H x y v u Q I rx ry h;obtain⟨d,e,h1,h2,h3,h4,q⟩:=h;obtain⟨as,ra⟩:=I.reads h1 rx;obtain⟨bs,rb⟩:=I.reads h2 ry;exact ne_dataH ra rb h3 h4 hr.units ⟨.bl _,H,I,rfl,q⟩
theorem Mj{k:Nat}(hr:mR k X.A):OpR X (compareOp .Eq) (fun x y H Q=>∃a b ka kb,x = .ref a/\y = .ref b/\H a=some (.dK ka)/\H b=some (.dK kb)/\ka.all (fun p=>rz p.2)=true/\kb.all (fun p=>rz p.2)=true/\Q (.bl (ka.length==kb.length&&fM kb ka)) H):=by
 intro pins s σ H x y v u Q I rx ry h;obtain⟨a,b,ka,kb,rfl,rfl,h1,h2,h3,h4,q⟩:=h;cases rx;cases ry;obtain⟨_,ea,va,ra,da⟩:ka.length<=sizeLine/\(a==sysModules)=false/\∃vs,KV ka vs/\s.heap.DictOf (oY X.prog X.w) a vs:=I.hok a _ h1;obtain⟨_,eb,vb,rb,db⟩:kb.length<=sizeLine/\(b==sysModules)=false/\∃vs,KV kb vs/\s.heap.DictOf (oY X.prog X.w) b vs:=I.hok b _ h2;refine W.keq_eq ea eb da db hr.HB (fun _=>yu rb h4 ra h3) ⟨.bl _,H,I,?_,q⟩;show _=Value.bool _;rw[Paired.length ra,Paired.length rb]
theorem MD{k:Nat}(hr:mR k X.A):OpR X (compareOp .NotEq) (fun x y H Q=>∃a b ka kb,x = .ref a/\y = .ref b/\H a=some (.dK ka)/\H b=some (.dK kb)/\ka.all (fun p=>rz p.2)=true/\kb.all (fun p=>rz p.2)=true/\Q (.bl (!(ka.length==kb.length&&fM kb ka))) H):=by
 intro pins s σ H x y v u Q I rx ry h;obtain⟨a,b,ka,kb,rfl,rfl,h1,h2,h3,h4,q⟩:=h;cases rx;cases ry;obtain⟨_,ea,va,ra,da⟩:ka.length<=sizeLine/\(a==sysModules)=false/\∃vs,KV ka vs/\s.heap.DictOf (oY X.prog X.w) a vs:=I.hok a _ h1;obtain⟨_,eb,vb,rb,db⟩:kb.length<=sizeLine/\(b==sysModules)=false/\∃vs,KV kb vs/\s.heap.DictOf (oY X.prog X.w) b vs:=I.hok b _ h2;refine W.keq_ne ea eb da db hr.HB (fun _=>yu rb h4 ra h3) ⟨.bl _,H,I,?_,q⟩;show _=Value.bool _;rw[Paired.length ra,Paired.length rb]
theorem ML{i j:Int}:decide (V.int i=V.int j)=decide (i=j):=by simp
theorem K1{i j:Bool}:decide (V.bl i=V.bl j)=decide (i=j):=by simp
theorem Nv{i j:Str}:decide (V.str i=V.str j)=decide (i=j):=by simp
theorem v_eq{k:Nat}(hr:mR k X.A):OpR X (compareOp .Eq) (E8 X.K id):=by
 refine(Qd.or ((LD hr).or (Mj hr))).imp fun x y H Q h=>?_;unfold E8 at h;split at h
 ·exact .inl ⟨rfl,by rw[ML];exact h⟩
 ·exact .inl ⟨rfl,by rw[K1];exact h⟩
 ·exact .inl ⟨rfl,by rw[Nv];exact h⟩
 ·exact .inl ⟨rfl,by rw[decide_eq_true rfl];exact h⟩
 ·rcases h with⟨d,e,h⟩|⟨ka,kb,h⟩
  ·exact .inr (.inl ⟨d,e,h⟩)
  ·exact .inr (.inr ⟨_,_,ka,kb,rfl,rfl,h⟩)
 ·exact h.elim
 ·exact h.elim
 ·exact .inl h
theorem Xi{k:Nat}(hr:mR k X.A):OpR X (compareOp .NotEq) (E8 X.K not):=by
 refine(Tg.or ((Mp hr).or (MD hr))).imp fun x y H Q h=>?_;unfold E8 at h;split at h
 ·exact .inl ⟨rfl,by rw[ML];exact h⟩
 ·exact .inl ⟨rfl,by rw[K1];exact h⟩
 ·exact .inl ⟨rfl,by rw[Nv];exact h⟩
 ·exact .inl ⟨rfl,by rw[decide_eq_true rfl];exact h⟩
 ·rcases h with⟨d,e,h⟩|⟨ka,kb,h⟩
  ·exact .inr (.inl ⟨d,e,h⟩)
  ·exact .inr (.inr ⟨_,_,ka,kb,rfl,rfl,h⟩)
 ·exact h.elim
 ·exact h.elim
 ·exact .inl h
end
end L2
namespace PySem.SeqAt
open AutoSeq1 (wpAny_loadPart')
open MeetsSeq MeetsSeq2 MeetsSeq3 SeqRoads2
section
variable {A:Around} {s:Shared}
end
end PySem.SeqAt
namespace L2
open PySem PySem.Spec PyProof.Rows
section
variable {X:Cx}
end
theorem boot_sum:bootBuiltins "sum" = some (.builtin "sum"):=by decide +kernel
theorem boot_max:bootBuiltins "max" = some (.builtin "max"):=by decide +kernel
theorem boot_int:bootBuiltins "int" = some (.type "int"):=by decide +kernel
theorem boot_tuple:bootBuiltins "tuple" = some (.type "tuple"):=by decide +kernel
theorem boot_list:bootBuiltins "list" = some (.type "list"):=by decide +kernel
structure Fn(K:W.Frag)(mg:Str->Option Value)(x:Str)(st:Stmt)(ps:List Str):Prop where
 ex:∃(f:Addr) (fd:FuncData),Fun K x x st f fd/\mg x=some (.ref f)/\Binds K fd ps []
theorem Fn.cal{P:Program}{w:World}{K:W.Frag}{mg:Str->Option Value}{base:Heap}{x:Str}{st:Stmt}{N ps:List Str}{k:Nat}{sp:Sp}(F:Fn K mg x st ps)(S:aO N ps (aj st))(len:∀vs H Q E,sp vs H Q E->vs.length=ps.length)
  (hbody:∀(f:Addr) (cdv:Value) (A:Around) (outer:List Env) (s:Shared) (H:Hp) (vs:List V) (Q:VK) (E:XK),mR k (A.deeper (envOfC x (aj st) s.heap.objs.size f cdv))->sp vs H Q E->
   ∃t,PSs (cxF P w K mg base N x (aj st) f cdv A outer s H E).nox (aC st) t/\t { nx:=fun _ H'=>Q .non H',rt:=Q } (start N vs) H):Cal P w K mg base x (k+1) ps sp:=by
 obtain⟨f,fd,F,m,b⟩:=F.ex;exact⟨f,fd,m,F.kp,b,F.okN S len fun cdv A outer s H vs Q E hr h=>hbody f cdv A outer s H vs Q E hr h⟩
theorem Same.new{H:Hp}{p:Addr}(h:H p=none)(o:HO):Same H (upd H p o):=fun b u q=>by rw[eG (dU q h)];exact q
theorem Same.upd{H H':Hp}{p:Addr}(g:Same H H')(h:H p=none)(o:HO):Same H (L2.upd H' p o):=fun b u q=>by rw[eG (dU q h)];exact g b u q
theorem Same.Td{K:W.Frag}{H H':Hp}{a:Addr}{xs:List V}(e:Same H H')(h:SqT K H a xs):SqT K H' a xs:=by
 rcases h with(h|⟨o,h⟩)|h
 ·exact .inl (.inl (e _ _ h))
 ·exact .inl (.inr ⟨o,e _ _ h⟩)
 ·exact .inr h
theorem mulL{i j:Int}(h1:-(2^64)<i)(h2:i<2^64):IntMulOk i j:= .of_left (intBits_le_64 h1 h2)
theorem mulR{i j:Int}(h1:-(2^64)<j)(h2:j<2^64):IntMulOk i j:= .of_right (intBits_le_64 h1 h2)
theorem jA{N:List Str}(h:decide N.Nodup=true:=by kernel_rfl):N.Nodup:=of_decide_eq_true h
abbrev csF(l:List (Str×NameKind)):Scope:={ kind:= .function,names:=l,isGenerator:=false,isCoroutine:=false }
theorem cT{X:Cx}{scope sc:Scope}{N:List Str}{ix:List (Option Nat)}(sc':relabel scope X.env=sc:=by kernel_rfl)(kind:scope.kind = .function:=by kernel_rfl)(cell:scope.names.all (fun y=>y.2 != .cell)=true:=by kernel_rfl)
  (names:scope.names.all (fun x=>x.2 != .local||scope.names.lookup x.1==some .local)=true:=by kernel_rfl)
  (free:scope.names.all (fun y=>y.2 != .free||(X.env.scope.names.lookup y.1==some .cell||X.env.scope.names.lookup y.1==some .free))=true:=by kernel_rfl)
  (len:N.length=ix.length:=by kernel_rfl)
  (hix:(N.zip ix).all (fun p=>match p.2 with
   |none=>true
   |some i=>X.N[i]?==some p.1&&scope.names.any (fun y=>y.1==p.1&&y.2== .free)&&(sc.names.lookup p.1==some .cell||sc.names.lookup p.1==some .free))=true:=by kernel_rfl)
  (has:sc.names.all (fun y=>(y.2 != .cell&&y.2 != .free)||scope.names.any (fun z=>z.1==y.1&&z.2== .free))=true:=by kernel_rfl):zX X scope sc N ix:=by
 have mem:∀x:Str,scope.names.any (fun y=>y.1==x&&y.2== .free)=true->(x,NameKind.free)∈scope.names:=fun x h=>by
  obtain⟨y,hy,e⟩:=List.any_eq_true.mp h;rw[Bool.and_eq_true]at e;obtain⟨a,b⟩:=y;have e1:a=x:=eq_of_beq e.1;have e2:b = .free:=eq_of_beq e.2;subst e1;subst e2;exact hy
 refine⟨sc',kind,fun y hy e=>?_,fun x hx e=>?_,fun y hy e=>?_,len,fun j x i h1 h2=>?_,fun x hx=>?_⟩
 ·have:=List.all_eq_true.mp cell y hy;rw[e]at this;cases this
 ·have:=List.all_eq_true.mp names x hx;rw[e]at this;simpa using this
 ·have:=List.all_eq_true.mp free y hy;rw[e]at this;simpa[Env.kindOf]using this
 ·have hm:(x,some i)∈N.zip ix:=by
   have:(N.zip ix)[j]?=some (x,some i):=by
    rw[List.getElem?_zip_eq_some];exact⟨h1,h2⟩
   exact List.mem_of_getElem? this
  have:=List.all_eq_true.mp hix _ hm;simp only[Bool.and_eq_true]at this;obtain⟨⟨a1,a2⟩,a3⟩:=this;refine⟨eq_of_beq a1,mem x a2,?_⟩;rw[Bool.or_eq_true]at a3;rcases a3 with z|z
  ·exact .inl (eq_of_beq z)
  ·exact .inr (eq_of_beq z)
 ·have hm:∃k,(x,k)∈sc.names/\(k = .cell∨k = .free):=by
   rcases hx with z|z
   ·exact⟨_,PySem.mem_of_lookup z,.inl rfl⟩
   ·exact⟨_,PySem.mem_of_lookup z,.inr rfl⟩
  obtain⟨k,hk,e⟩:=hm;have:=List.all_eq_true.mp has _ hk;rw[Bool.or_eq_true]at this;rcases this with z|z
  ·rcases e with e|e<;>(subst e;simp at z)
  ·exact mem x z
structure fQ(K:W.Frag)(x:Str)(st:Stmt):Prop where
 ex:∃(f:Addr) (oc:Value) (od:Option Addr) (kV doc pm:Value) (an:Option Addr) (cdv ct:Value) (sl:Array (Option Value)),W.nsIn K mainGlobals x=some (some (.ref f))/\
  K.lookup f=some ⟨oc,od,.func (W.fnOf x x (aD st) (aC st) (aj st) .none kV doc pm an cdv ct),sl⟩/\W.codeIn K cdv x=true/\W.keepIn K (.ref f)=true
theorem JF{K:W.Frag}{x:Str}{st:Stmt}{f:Addr}{oc:Value}{od:Option Addr}{kV doc pm:Value}{an:Option Addr}{cdv ct:Value}{sl:Array (Option Value)}(a:W.nsIn K mainGlobals x=some (some (.ref f)))
  (l:K.lookup f=some ⟨oc,od,.func (W.fnOf x x (aD st) (aC st) (aj st) .none kV doc pm an cdv ct),sl⟩) (c:W.codeIn K cdv x=true) (k:W.keepIn K (.ref f)=true):fQ K x st:=
 ⟨f,oc,od,kV,doc,pm,an,cdv,ct,sl,a,l,c,k⟩
theorem fQ.fn{K:W.Frag}{h:Heap}{mg:Str->Option Value}{x:Str}{st:Stmt}{ps:List Str}(F:fQ K x st)(X:K.In h)(G:h.Ns mainGlobals mg)
  (hb:∀(kV doc pm:Value) (an:Option Addr) (cdv ct:Value) (us:List Value),us.length=ps.length->bindArgs (W.fnOf x x (aD st) (aC st) (aj st) .none kV doc pm an cdv ct) ⟨us,[]⟩=pure (ps.zip us)):Fn K mg x st ps:=by
 obtain⟨f,oc,od,kV,doc,pm,an,cdv,ct,sl,a,l,c,k⟩:=F.ex;have FF:=Ih (st:=st) l c k;exact⟨f,_,FF,W.mg_of X G a,FF.binds hb⟩
theorem fQ.fnA{K:W.Frag}{h:Heap}{mg:Str->Option Value}{x:Str}{st:Stmt}{ps:List Str}(F:fQ K x st)(X:K.In h)(G:h.Ns mainGlobals mg)
  (hb:∀(kV doc pm:Value) (an:Option Addr) (cdv ct:Value) (us:List Value),us.length=ps.length->bindArgs (W.fnOf x x (aD st) (aC st) (aj st) .none kV doc pm an cdv ct) ⟨us,[]⟩=pure (ps.zip us):=by
   intro _ _ _ _ _ _ us hl;first
    |(obtain⟨_,rfl⟩:=L2.us1 hl;rfl)
    |(obtain⟨_,_,rfl⟩:=L2.us2 hl;rfl)
    |(obtain⟨_,_,_,rfl⟩:=L2.us3 hl;rfl)
    |(obtain⟨_,_,_,_,rfl⟩:=L2.us4 hl;rfl)
    |(obtain rfl:=L2.us0 hl;rfl)
    |(obtain⟨_,_,_,_,_,rfl⟩:=L2.us5 hl;rfl)
    |(obtain⟨_,_,_,_,_,_,rfl⟩:=L2.us6 hl;rfl)):Fn K mg x st ps:=F.fn X G hb
theorem cA{N P:List Str}{sc:Scope}(kind:sc.kind = .function:=by rfl)(co:sc.isCoroutine=false:=by rfl)(gen:sc.isGenerator=false:=by rfl)(nd:N.Nodup:=by decide +kernel)(pre:N.take P.length=P:=by rfl)
  (par:∀x∈P,sc.names.lookup x=some .local∨sc.names.lookup x=some .cell:=by decide +kernel) (Ew:∀y∈sc.names,y.2≠ .free:=by decide +kernel):aO N P sc:=⟨kind,co,gen,nd,pre,par,Ew⟩
structure ItS(J:It)(xs:List V)(H1:Hp):Prop where
 go:∀i H',Same H1 H'->i<xs.length->J.go i H'
 yld:∀i H' x H2,Same H1 H'->J.yld i H' x H2->H2=H'/\(i<xs.length->xs[i]?=some x)
 stop:∀i H',Same H1 H'->xs.length<=i->J.stop i H'
theorem zH{K:W.Frag}{a:Addr}{xs:List V}{H1:Hp}(hq:SqL K H1 a xs):ItS (Itl K a) xs H1:=
 ⟨fun i H' g h=>⟨xs,xs[i],g.seq hq,by simp[h]⟩,fun i H' x H2 g y=>⟨y.1,fun _=>y.2 xs (g.seq hq)⟩,fun i H' g h=>⟨xs,g.seq hq,h⟩⟩
theorem Di{K:W.Frag}{a:Addr}{xs:List V}{H1:Hp}(hq:SqT K H1 a xs):ItS (Itt K a) xs H1:=
 ⟨fun i H' g h=>⟨xs,xs[i],g.Td hq,by simp[h]⟩,fun i H' x H2 g y=>⟨y.1,fun _=>y.2 xs (g.Td hq)⟩,fun i H' g h=>⟨xs,g.Td hq,h⟩⟩
theorem mU{lo:Int}{n:Nat}{H1:Hp}:ItS (Itr lo n) ((List.range n).map fun i=>V.int (lo+(i:Nat))) H1:=
 ⟨fun i H' g h=>show i<n by simpa using h,fun i H' x H2 g y=>⟨y.1,fun h=>by
  have h':i<n:=by simpa using h
  rw[List.getElem?_map,List.getElem?_range h',y.2];rfl⟩,fun i H' g h=>show n<=i by simpa using h⟩
theorem jP{J:It}{xs:List V}{ix:List (Option Nat)}{tc:TT}{te:TE}{σ:St}{H1:Hp}{Q:VK}(I:ItS J xs H1)(hz:xs.length<=sizeLine){rest:St}(hst:cst ix σ=none::rest)(p:V->Bool)(F:V->V)
  (ht:∀H' x,Same H1 H'->x∈xs->∀k:Bool->Hp->Prop,k (p x) H'->tc (some x::rest) H' k)
  (he:∀H' x,Same H1 H'->x∈xs->p x=true->∀k:VK,k (F x) H'->te (some x::rest) H' k)
  (hQ:∀D,H1 D=none->Q (.ref D) (upd H1 D (.lst ((xs.filter p).map F)))):
  pY ix (nq 0) tc te σ Q J H1:=by
 constructor;intro D hD;refine⟨fun i m σ' H'=>m=xs.length-i/\i<=xs.length/\(∃o,σ'=o::rest)/\H'=upd H1 D (.lst (((xs.take i).filter p).map F)),⟨xs.length,by simp,Nat.zero_le _,⟨none,hst⟩,by simp⟩,?_⟩;rintro i m σ' H' ⟨rfl,hi,⟨o,rfl⟩,rfl⟩;have g:Same H1 (upd H1 D (.lst (((xs.take i).filter p).map F))):=Same.new hD _;by_cases hlt:i<xs.length
 ·refine .inr ⟨I.go i _ g hlt,fun x H2 y=>?_⟩;obtain⟨rfl,hx⟩:=I.yld i _ x H2 g y;have hx:=hx hlt;have hm:x∈xs:=List.mem_of_getElem? hx;have et:xs.take (i+1)=xs.take i++[x]:=by
   rw[List.take_add_one,hx];rfl
  show tc (some x::rest) _ _;refine ht _ x g hm _ ?_;cases hp:p x with
  |true=>
   rw[if_pos rfl];refine he _ x g hm hp _ ⟨_,aB,?_,xs.length-(i+1),by omega,rfl,hlt,⟨_,rfl⟩,?_⟩
   ·have h1:(((xs.take i).filter p).map F).length<=i:=by
     rw[List.length_map];exact Nat.le_trans (List.length_filter_le _ _) (by rw[List.length_take];omega)
    omega
   ·rw[JM,et,List.filter_append,List.map_append];simp[hp]
  |false=>
   rw[if_neg Bool.false_ne_true];refine⟨xs.length-(i+1),by omega,rfl,hlt,⟨_,rfl⟩,?_⟩;rw[et,List.filter_append];simp[hp]
 ·have e:i=xs.length:=by omega
  subst e;refine .inl ⟨I.stop _ _ g (Nat.le_refl _),?_⟩;rw[List.take_length];exact hQ D hD
structure Bar(t:TE)(σ:St)(H:Hp)(Q:VK):Prop where
 go:t σ H Q
def Wr(t:TE):TE:=fun σ H Q=>Bar t σ H Q
theorem Bar.by{t:TE}{σ:St}{H:Hp}{Q:VK}(R:V->Hp->Prop)(h:∀k:VK,(∀v H1,R v H1->k v H1)->t σ H k)(q:∀v H1,R v H1->Q v H1):Bar t σ H Q:=⟨h Q q⟩
theorem C8{X:Cx}{e:Expr}{t:TE}(h:PE X e t):PE X e (Wr t):=fun pins s σ H Q I q=>h pins s σ H Q I q.go
structure Hl(t:TS)(D:Ends)(σ:St)(H:Hp):Prop where
 go:t D σ H
def Qj(t:TS):TS:=fun D σ H=>Hl t D σ H
theorem tE{X:Cx}{st:Stmt}{t:TS}(h:PS X st t):PS X st (Qj t):=fun pins s σ H D I q=>h pins s σ H D I q.go
theorem Hl.by{t:TS}{D:Ends}{σ:St}{H:Hp}(R:St->Hp->Prop)(h:∀N:St->Hp->Prop,(∀σ' H',R σ' H'->N σ' H')->t { D with nx:=N } σ H)(q:∀σ' H',R σ' H'->D.nx σ' H'):Hl t D σ H:=by
 constructor;exact h D.nx q
end L2
namespace HT
open PySem PyProof.Rows
section
variable {prog:Program} {w:World} {A:Around} {E:Value->Shared->Prop} {s:Shared}
theorem o9{t sl:Addr}{items:Array Value}{vl vu:Value}{lo hi:Option Int}{Q:Value->Shared->Prop}(ht:IsTup s.heap t items)(hs:s.heap.IsSliceOf sl vl vu .none)(pl:IsPart vl lo)(pu:IsPart vu hi)
  (hw:sIx items.size 0 lo=0/\sIx items.size items.size hi=items.size) (h:Q (.ref t) s):wpAny (model prog w) A (getItem (.ref t) (.ref sl)) Q E s:=by
 obtain⟨os,hos,hcs,hds⟩:=id hs;have hTs:s.TypeIs (.ref sl) "slice" := ⟨os,hos,hcs⟩;unfold getItem;try with_reducible refine wpAny_holding ?_
 first|refine wpAny_bind (wpAny_pure ?_)|skip
 refine wpAny_bind (wpAny_sequenceKey ht.typeIs (by decide) ?_);refine wpAny_bind (wpAny_callSpecial?_slot (name:=Str.ofString "__getitem__") ht.typeIs PyProof.Rows.slot_tuple_getitem
  (wpAny_call_entry PyProof.Rows.slot_tuple_getitem ht.typeIs entry_tuple_getitem ?_ (args_tuple_getitem _ _)))
 show wpAny _ _ (Builtin.Tuple.tupleItemsOf (.ref t)>>=_) _ _ s;refine wpAny_bind (tupleItemsOf_ ht ?_);refine wpAny_bind (wpAny_typeOf hTs ?_);rw[if_pos (by decide)];refine wpAny_bind (jD hs pl pu ?_);have hyes:(((sIx items.size 0 lo:Nat):Int)==0&&(1:Int)==1&&(sIx items.size items.size hi-sIx items.size 0 lo)==items.size)=true:=by
  rw[hw.1,hw.2];simp
 show wpAny _ _ (if(((sIx items.size 0 lo:Nat):Int)==0&&(1:Int)==1&&(sIx items.size items.size hi-sIx items.size 0 lo)==items.size)=true then _ else _) _ _ s;rw[if_pos hyes];unfold Builtin.Tuple.tupleIsExact;refine wpAny_bind (wpAny_bind (wpAny_typeOf ht.typeIs (wpAny_pure ?_)));rw[if_pos (by decide)];exact wpAny_bind (wpAny_rule (wpAny_pure ⟨_,rfl,wpAny_pure h⟩))
end
end HT
namespace L2
open PySem PySem.Spec PyProof.Rows
section
variable {X:Cx}
theorem DF:SlR X (fun x lo hi H Q=>∃a xs,x = .ref a/\SqT X.K H a xs/\(HT.sIx xs.length 0 lo=0/\HT.sIx xs.length xs.length hi=xs.length)/\Q (.ref a) H):=by
 intro pins s σ H x v vl vu lo hi sl Q I rx hs pl pu h;obtain⟨a,xs,rfl,hx,hw,q⟩:=h;cases rx;obtain⟨its,r,ht,hz⟩:=I.tuple hx;have hlen:its.toArray.size=xs.length:=by rw[List.size_toArray];exact r.length.symm
 refine⟨"tuple",_,PyProof.Rows.slot_tuple_getitem.lookup,ht.typeIs,?_⟩;exact HT.o9 ht hs pl pu (by rw[hlen];exact hw) ⟨.ref a,H,I,rfl,q⟩
end
theorem boot_min:bootBuiltins "min" = some (.builtin "min"):=by decide +kernel
section
variable {X:Cx} (K:W.Frag)
theorem SlR.imp{r r':V->Option Int->Option Int->Hp->VK->Prop}(h:SlR X r)(i:∀x lo hi H Q,r' x lo hi H Q->r x lo hi H Q):SlR X r':=fun pins s σ H x v vl vu lo hi sl Q I rx hs pl pu q=>h pins s σ H x v vl vu lo hi sl Q I rx hs pl pu (i _ _ _ _ _ q)
theorem fV(hK:X.K=K:=by rfl):OpR X (binaryOp .Add) (GB K):=by subst hK;exact v_add
theorem xix(hK:X.K=K:=by rfl):IxR X (UN K):=by subst hK;exact Wg
theorem xeq{k:Nat}(hr:mR k X.A)(hK:X.K=K:=by rfl):OpR X (compareOp .Eq) (E8 K id):=by subst hK;exact v_eq hr
theorem xne{k:Nat}(hr:mR k X.A)(hK:X.K=K:=by rfl):OpR X (compareOp .NotEq) (E8 K not):=by subst hK;exact Xi hr
theorem iW(hK:X.K=K:=by rfl):oh X (.builtin "len") (fun xs H Q=>∃x n,xs=[x]/\Vq K x H n/\Q (.int n) H):=by subst hK;exact Gi
theorem Oq(hc:X.calm=true)(hK:X.K=K:=by rfl):oh X (.builtin "sum") (fun xs H Q=>∃(l:Addr) (ns:List Int),xs=[.ref l]/\SqL K H l (ns.map V.int)/\Q (.int ns.sum) H):=by subst hK;exact v_sum hc
theorem xlist(hK:X.K=K:=by rfl):oh X (.type "list") (fun xs H Q=>∃p ys,xs=[.ref p]/\(SqL K H p ys∨SqT K H p ys)/\∀l,H l=none->Q (.ref l) (upd H l (.lst ys))):=by subst hK;exact vm
theorem gw(hK:X.K=K:=by rfl):oh X (.type "tuple") (fun xs H Q=>∃p ys,xs=[.ref p]/\((SqL K H p ys/\∀l,H l=none->Q (.ref l) (upd H l (.tup ys)))∨(SqT K H p ys/\Q (.ref p) H))):=by subst hK;exact tZ
def VZ(K:W.Frag):V->Option Int->Option Int->Hp->VK->Prop:=fun x lo hi H Q=>match x with
 |.ref a=>(∃xs,SqL K H a xs/\∀p,H p=none->Q (.ref p) (upd H p (.lst (vO xs lo hi))))∨
   (∃xs,SqT K H a xs/\¬(HT.sIx xs.length 0 lo=0/\HT.sIx xs.length xs.length hi=xs.length)/\∀p,H p=none->Q (.ref p) (upd H p (.tup (vO xs lo hi))))∨
   (∃xs,SqT K H a xs/\(HT.sIx xs.length 0 lo=0/\HT.sIx xs.length xs.length hi=xs.length)/\Q (.ref a) H)
 |_=>False
theorem xsl(hK:X.K=K:=by rfl):SlR X (VZ K):=by
 subst hK;refine(Jd.or (Mg.or DF)).imp fun x lo hi H Q h=>?_;unfold VZ at h;split at h
 ·rcases h with⟨xs,h⟩|⟨xs,h⟩|⟨xs,h⟩
  ·exact .inl ⟨_,xs,rfl,h⟩
  ·exact .inr (.inl ⟨_,xs,rfl,h⟩)
  ·exact .inr (.inr ⟨_,xs,rfl,h⟩)
 ·exact h.elim
theorem KQ{tg l:Expr}{tl:TE}(hl:PE X l tl)(hK:X.K=K:=by rfl):PI X tg l (Vo K tl):=by subst hK;exact K3 hl
theorem Ng{es:List Expr}{k:Nat}{t:TGs}{n:Nat}{pos:Pos}(hc:X.calm=true)(h:PGs X es t)(hK:X.K=K:=by rfl)
  (hn:(assignEach es X.env).length=n:=by rfl) (hst:(assignEach es X.env).findIdx? (·.1)=none:=by rfl):PG X (.Tuple es k pos) (Vt K n t):=by subst hK;exact NZ hc h hn hst
theorem rM{o e:Expr}{to:TE}{te:TE}{apos cpos:Pos}(ho:PE X o to)(he:PE X e te)(hK:X.K=K:=by rfl)
  (hbase:attributeBase o "append" X.env (eval o X.env)=eval o X.env:=by rfl)
  (hfew:((backTo cpos (starEach [e] X.env)).all (fun x=>!x.1)&&(backToKw cpos (keywordEach [] X.env)).all (fun x=>x.1.isSome)
   && decide ([e].length+([]:List Keyword).length+(if([]:List Keyword).isEmpty then 0 else 1)<30))=true:=by rfl)
  (hline:(apos.endLine==cpos.line)=true:=by rfl) (hs:starEach [e] X.env=(false,eval e X.env)::starEach [] X.env:=by rfl):
  PE X (.Call (.Attribute o "append" apos) [e] [] cpos) (tBM K "list" Dh to (xQ te Vp)):=by
 subst hK;exact Qx PySem.F.plainAttrs_list PySem.F.slot_list_append PySem.F.type_list_append vp ho (aG he ak hs) hbase hfew hline hs rfl
theorem Xq{o:Expr}{to:TE}{apos cpos:Pos}(ho:PE X o to)(hK:X.K=K:=by rfl)(hbase:attributeBase o "pop" X.env (eval o X.env)=eval o X.env:=by rfl)(hline:(apos.endLine==cpos.line)=true:=by rfl):
  PE X (.Call (.Attribute o "pop" apos) [] [] cpos) (Ot K "list" Vl to):=by
 subst hK;exact Hy PySem.F.plainAttrs_list PySem.F.slot_list_pop PySem.F.type_list_pop Mi ho hbase hline
end
section
variable {X:Cx} {es:List Expr} {te:TE} {t:TA}
theorem fO{c:Const}{j}{p:Pos}(h:PE X (.Constant c j p) te)(hr:PA X es t):PA X ((.Constant c j p)::es) (xQ te t):=aG h hr rfl
theorem aN{x:Str}{p:Pos}(h:PE X (.Name x p) te)(hr:PA X es t):PA X ((.Name x p)::es) (xQ te t):=aG h hr rfl
theorem OL{as:List Expr}{j}{p:Pos}(h:PE X (.Tuple as j p) te)(hr:PA X es t):PA X ((.Tuple as j p)::es) (xQ te t):=aG h hr rfl
theorem kY{a:Expr}{o:Operator}{b:Expr}{p:Pos}(h:PE X (.BinOp a o b p) te)(hr:PA X es t):PA X ((.BinOp a o b p)::es) (xQ te t):=aG h hr rfl
theorem KR{o:UnaryOp}{a:Expr}{p:Pos}(h:PE X (.UnaryOp o a p) te)(hr:PA X es t):PA X ((.UnaryOp o a p)::es) (xQ te t):=aG h hr rfl
end
section
variable {X:Cx} {pins:List (Addr×Obj)} {σ:St} {H:Hp} {s:Shared}
end
section
variable {prog:Program} {w:World} {A:Around} {E:Value->Shared->Prop} {h:Heap} {g:Array GenState} {d:Drawn} {t:Nat} {os:OsState} {a C:Addr} {o:Obj} {K:W.Frag}
end
section
variable {X:Cx} {a:Expr} {ta:TE}
end
end L2
namespace L2
open PySem
theorem gR:∀ns:List Int,PyData.canLayAll0 (ns.map PyData.int)=true
 |[]=>rfl
 |n::r=>by
  have:=gR r;simp[PyData.canLayAll0,PyData.canLay0,this]
theorem je:∀ns:List Int,PyData.depthAll (ns.map PyData.int)<=1
 |[]=>by simp[PyData.depthAll]
 |n::r=>by
  have:=je r;simp[PyData.depthAll,PyData.depth];omega
theorem qU(ns:List Int):SeqAt.shaped (.list (ns.map .int))=true:=by
 have h1:=gR ns;have h2:=je ns;simp only[SeqAt.shaped,PyData.canLay0,PyData.depth,h1,Bool.true_and];exact decide_eq_true (by omega)
theorem tu(ns:List Int):SeqAt.shaped (.tuple (ns.map .int))=true:=by
 have h1:=gR ns;have h2:=je ns;simp only[SeqAt.shaped,PyData.canLay0,PyData.depth,h1,Bool.true_and];exact decide_eq_true (by omega)
theorem Gh(ns ms:List Int):PyData.eqv (.list (ns.map .int)) (.list (ms.map .int))=decide (ns=ms):=by
 rw[PyData.eqv];exact W.ked_eqvAll ns ms
theorem yG(ns ms:List Int):PyData.eqv (.tuple (ns.map .int)) (.tuple (ms.map .int))=decide (ns=ms):=by
 rw[PyData.eqv];exact W.ked_eqvAll ns ms
theorem W6{K:W.Frag}{g:Bool->Bool}{H:Hp}{a b:Addr}{ns ms:List Int}{Q:VK}(ha:SqL K H a (ns.map V.int))(hb:SqL K H b (ms.map V.int))(q:Q (.bl (g (decide (ns=ms)))) H):E8 K g (.ref a) (.ref b) H Q:=
 .inl ⟨_,_,.lst ha (vR.ints ns),.lst hb (vR.ints ms),qU ns,qU ms,by rw[Gh];exact q⟩
theorem Um{K:W.Frag}{g:Bool->Bool}{H:Hp}{a b:Addr}{ns ms:List Int}{Q:VK}(ha:SqT K H a (ns.map V.int))(hb:SqT K H b (ms.map V.int))(q:Q (.bl (g (decide (ns=ms)))) H):E8 K g (.ref a) (.ref b) H Q:=
 .inl ⟨_,_,.tup ha (vR.ints ns),.tup hb (vR.ints ms),tu ns,tu ms,by rw[yG];exact q⟩
end L2
set_option maxHeartbeats 4000000
namespace L2
open PySem PySem.Spec PyProof.Rows
def Itd(lo:Int)(n:Nat):It:=⟨fun i _=>i<n,fun i H x H'=>H'=H/\x = .int (lo-i),fun i _=>n<=i⟩
theorem iT{P:Program}{w:World}{K:W.Frag}{tg:Expr}(it:Addr)(lo:Int)(n:Nat):Turn P w K tg (Itd lo n) [it] it (fun i h=>IsRangeIter h it (lo+(i:Nat)*(-1)) ((n:Int)-(i:Nat)) (-1)) where
 mem:=by simp
 obj:=fun i h st b hb=>by
  have e:b=it:=by simpa using hb
  subst e;exact⟨_,st,fun v z=>by
   have z':Data.fields _=Data.cell v:=z;cases z'⟩
 keep:=fun i h h' st k=>k it (by simp) _ st
 item:=by
  intro X hP hw hK hc i pins s σ H E I hf st hg;subst hP hw hK;obtain⟨f0,f1,f2,f3,f4,f5⟩:=hf it (by simp);have W:=Walks.range (prog:=X.prog) (w:=X.w) (I.ok.hd hc) it lo (-1) n;refine W.item i s _ _ hg st fun v h' tk hv st' kk=>?_;obtain⟨t,rfl⟩:=hv;have I1:Inv X pins σ H { s with heap:=h',toks:=tk }:=I.turned (fun b o hb e=>kk b o (by simpa using hb) e) f0 f1 f3 f4 f5;refine⟨_,rfl,Fo (s:={ s with heap:=h',toks:=tk }) (n:= "range_iterator") st' rfl rfl (by decide) ⟨.int (lo-i),H,I1,⟨t,?_⟩,⟨rfl,rfl⟩,st',fun b hb=>(hf b hb).1⟩⟩;rw[Int.mul_neg_one];rfl
 done:=by
  intro X hP hw hK hc i pins s σ H E I hf st hg;subst hP hw hK;obtain⟨f0,f1,f2,f3,f4,f5⟩:=hf it (by simp);exact wpAny_pyNext_range_end (I.ok.hd hc) st (by have:n<=i:=hg;omega) fun h' eb=>⟨rfl,I.turned (t':=s.toks) (fun b o hb e=>eb b o hb e) f0 f1 f3 f4 f5⟩
 self:=fun _ _ _ _ _ st h=>wpAny_pyIter_rangeiter st h
theorem rangeSize_down(a b:Int):Builtin.Range.rangeSize a b (-1)=if b<a then a-b else 0:=by
 unfold Builtin.Range.rangeSize;simp only[show ¬(-1:Int)>0 by decide,if_false,Int.neg_neg,Int.ediv_one];split<;>omega
theorem small_down{a b:Int}(ha:-(2^62)<=a)(ha':a<2^62)(hb:-(2^62)<=b)(hb':b<2^62):Builtin.Range.small a b (-1)=true:=by
 unfold Builtin.Range.small;rw[rangeSize_down];simp only[Builtin.Range.rangeFitsLong,Bool.and_eq_true,Bool.or_eq_true,decide_eq_true_eq,beq_iff_eq,show ¬(-1:Int)>0 by decide,if_false];split<;>omega
section
variable {X:Cx} {tg:Expr}
theorem Jk{pins:List (Addr×Obj)}{σ:St}{H:Hp}{s:Shared}{R:It->Hp->Prop}{E:Value->Shared->Prop}{lo hi:Int}{t u v:Tok}{tk:Nat}(I:Inv X pins σ H s)(h1:-(2^62)<=lo)(h2:lo<2^62)(h3:-(2^62)<=hi)(h4:hi<2^62)
  (q:R (Itd lo (lo-hi).toNat) H):wpAny (model X.prog X.w) X.A (pyIter (.ref s.heap.objs.size)) (PIE X pins σ tg R) E { s with heap:=s.heap.push { cls:= .type "range",data:= .fields #[.int lo t,.int hi u,.int (-1) v] },toks:=tk }:=by
 refine wpAny_pyIter_range (IsRange.new ..) (small_down h1 h2 h3 h4) ?_;have I1:Inv X pins σ H { s with heap:=s.heap.push { cls:= .type "range",data:= .fields #[.int lo t,.int hi u,.int (-1) v] },toks:=tk }:=I.kept fun b o e=>Heap.get?_push_of_some _ e;refine⟨(s.heap.push { cls:= .type "range",data:= .fields #[.int lo t,.int hi u,.int (-1) v] }).objs.size,[(s.heap.push { cls:= .type "range",data:= .fields #[.int lo t,.int hi u,.int (-1) v] }).objs.size],_,_,H,rfl,
  I1.kept (t':=tk) fun b o e=>Heap.get?_push_of_some _ e,iT _ lo (lo-hi).toNat,?_,fun b hb=>?_,q⟩
 ·have e1:lo+((0:Nat):Int)*(-1)=lo:=by simp
  have e2:(((lo-hi).toNat:Nat):Int)-((0:Nat):Int)=Builtin.Range.rangeSize lo hi (-1):=by rw[rangeSize_down];split<;>omega
  show IsRangeIter _ _ (lo+((0:Nat):Int)*(-1)) ((((lo-hi).toNat:Nat):Int)-((0:Nat):Int)) (-1);rw[e1,e2];exact Heap.get?_push_size _ rfl
 ·have e:b=(s.heap.push { cls:= .type "range",data:= .fields #[.int lo t,.int hi u,.int (-1) v] }).objs.size:=by simpa using hb
  subst e;exact I1.Mz (Nat.le_refl _) (I1.hok.fresh (Nat.le_refl _))
def R9(ta:TA):TI:=fun σ H R=>ta σ H fun vs H1=>∃i j:Int,vs=[.int i,.int j,.int (-1)]/\(-(2^62)<=i/\i<2^62/\-(2^62)<=j/\j<2^62)/\R (Itd i (i-j).toNat) H1
theorem wk{a b c:Expr}{ta:TA}{p pos:Pos}(hg:Gl X "range")(hm:X.mg "range" = none)(ha:PA X [a,b,c] ta)(hs:starEach [a,b,c] X.env=(false,eval a X.env)::starEach [b,c] X.env:=by rfl)(hs2:(backTo pos (starEach [b,c] X.env)).any (·.1)=false:=by rfl):
  PI X tg (.Call (.Name "range" p) [a,b,c] [] pos) (R9 ta):=by
 intro pins s σ H R I h;refine Call_ (wB I hg hm boot_range (PyProof.Rows.callWith_type1 (thn (ha pos pins s σ H _ I h) fun us s1 ⟨vs,H1,I1,r1,q1⟩=>?_) hs hs2));obtain⟨i,j,e,⟨q1,q2,q3,q4⟩,q⟩:=q1;subst e;cases r1 with
 |cons r rr=>
  cases rr with
  |cons r' rr=>
   cases rr with
   |cons r'' rr=>
    cases rr;obtain⟨t,rfl⟩:=r;obtain⟨t',rfl⟩:=r';obtain⟨t'',rfl⟩:=r'';exact call_range_3 (by decide) (Jk (tk:=s1.toks) I1 q1 q2 q3 q4 q) (.inl (PyProof.noPylong_small (by omega)))
end
theorem zN{lo:Int}{n:Nat}{g:TG}{tb:TS}{D:Ends}{σ:St}{H:Hp}(Pv:Nat->St->Hp->Prop)(h0:Pv 0 σ H)
  (hs:∀i σ H,i<n->Pv i σ H->g (.int (lo-i)) σ H fun σ2 H2=>tb { D with nx:=Pv (i+1),ct:=Pv (i+1),bk:=D.nx } σ2 H2) (hd:∀σ H,Pv n σ H->D.nx σ H):
  ∃W:Nat->Nat->St->Hp->Prop,(∃m,W 0 m σ H)/\∀i m σ H,W i m σ H->
   ((Itd lo n).stop i H/\D.nx σ H)∨((Itd lo n).go i H/\∃N:St->Hp->Prop,(∀σ' H',N σ' H'->∃m',m'<m/\W (i+1) m' σ' H')/\∀x H',(Itd lo n).yld i H x H'->g x σ H' fun σ2 H2=>tb { D with nx:=N,ct:=N,bk:=D.nx } σ2 H2):=by
 refine⟨fun i m σ H=>m=n-i/\i<=n/\Pv i σ H,⟨n,by simp,Nat.zero_le _,h0⟩,?_⟩;rintro i m σ H ⟨rfl,hi,p⟩;by_cases hlt:i<n
 ·refine .inr ⟨hlt,Pv (i+1),fun σ' H' p'=>⟨n-(i+1),by omega,rfl,hlt,p'⟩,fun x H' y=>?_⟩;obtain⟨e,y⟩:=y;subst e y;exact hs i σ _ hlt p
 ·have e:i=n:=by omega
  subst e;exact .inl ⟨Nat.le_refl _,hd σ H p⟩
section
variable {X:Cx}
end
section
variable {X:Cx}
end
end L2
namespace Att
open PySem PySem.W PySem.Calls PyProof.Rows
theorem xg{ns:List Int}(h:WData.layableAll [WData.list (ns.map WData.int)]=true):∀x∈ns,Builtin.Int.intBits x<=1048576:=by
 intro x hx;obtain⟨h1,_,h3⟩:=layableW_iff.mp (layW_cons h).1;simp only[WData.canLay]at h1;simp only[WData.weight]at h3;have hm:WData.int x∈ns.map WData.int:=List.mem_map.mpr ⟨x,hx,rfl⟩;have hc:WData.canLayAll (ns.map WData.int)=true:=by simpa using h1
 obtain⟨_,_,c⟩:=items_part hm hc;have e:WData.weight (.int x)=Builtin.Int.intBits x:=rfl;rw[e]at c;have:(2:Nat)^20=1048576:=by decide
 omega
theorem wG{l:OpenLaw}{n:Nat}{q:Program}{loose:List Str}{XP:(Str->Option Value)->Heap->Prop}{YP:World->Heap->Prop}{d:DefRec}
  (hn:l.most=some n) (hdf:d.params.defaults=[])
  (call:∀(w:World) (s₀ s₁:Shared) (mg mb:Str->Option Value) (fa:Addr) (o:Obj) (pm cd doc:Value) (a:Addr) (vs:List Value) (ns:List Int),
   Ground q loose [] XP w s₀ mg mb s₁.heap->YP w s₁.heap->
   s₁.heap.get? fa=some o->o.data = .func (docDef d.name d.params d.body d.scope pm cd doc)->s₁.heap.CodeRec cd d.name->mg d.name=some (.ref fa)->
   s₁.heap.get? a=some { cls:= .type "list",data:= .seq vs.toArray }->IntsAre vs ns->ns.length<=n->(∀x∈ns,Builtin.Int.intBits x<=1048576)->s₁.gens=#[]->
   codeAny (model l.prog w) callerA (.call (.ref fa) ⟨[.ref a],[]⟩) (fun r s'=>r = .ok (.ret (.bool true))/\OldK s₁.heap s'.heap/\s'.os=s₁.os/\AllBare s'.gens) s₁):
  WalkO q loose XP YP l.row.toRowW d [] (fun f vs=>PySem.call f vs):=by
 intro w s₀ s₁ mg mb G Y fa o pm cd doc dV kV ho hd hcd hD hmg hg args vals as hpre hlay hrd hwl hlo;obtain rfl:dV = .none:=Dflts.none hD hdf;obtain rfl:kV = .none:=Dflts.noKw hD;obtain⟨a,vs,ns,rfl,rfl,hobj,hints,hlen⟩:=Ed hn hpre hwl;refine enter_call (codeAny_mono (call w s₀ s₁ mg mb fa o pm cd doc a vs ns G Y ho (fd_plain hd) hcd hmg hobj hints hlen (xg hlay) hg) fun r s' hq=>?_);obtain⟨rfl,h2,h3,h4⟩:=hq;exact⟨.inl ⟨.bool true,.bool true,[],rfl,fun _=>rfl,.bool true,Ci l _,fun _=>⟨List.Pairwise.nil,fun _ hm=>(nomatch hm)⟩⟩,h2,h3,h4⟩
end Att
namespace L2
open PySem PySem.Spec PyProof.Rows
theorem GN{l:W.OpenLaw}{n k:Nat}{q:Program}{loose:List Str}{XP:(Str->Option Value)->Heap->Prop}{YP:World->Heap->Prop}{d:DefRec}{K:Params->W.Frag}{CX:World->CXT}{sp:World->Sp}{x:Str}
  (hn:l.most=some n) (hn2:n<=sizeLine) (hdf:d.params.defaults=[]) (hr:mR k callerA)
  (hY:∀(w:World) (h:Heap),YP w h->(K w.params).In h)
  (F:∀(w:World) (mg:Str->Option Value) (fa:Addr) (h:Heap),(K w.params).In h->h.Ns mainGlobals mg->mg d.name=some (.ref fa)->
   ∃fd:FuncData,(∀(s:Shared) (u:Value),BindsTo s fd ⟨[u],[]⟩ [(x,u)])/\
    ∀base:Heap,(K w.params).In base->base.Ns mainGlobals mg->E7 l.prog w (K w.params) mg base (CX w) k fa fd [x] (sp w))
  (hsp:∀(w:World) (H:Hp) (a:Addr) (ns:List Int),ns.length<=n->(∀x∈ns,Builtin.Int.intBits x<=1048576)->Only H->SqL (K w.params) H a (ns.map V.int)->sp w [.ref a] H (fun v _=>v = .bl true) fun _ _ _=>False)
  (hCX:∀(w:World) (H:Hp) (s:Shared) (e:Value) (s':Shared),CX w [] H s (fun _ _ _=>False) e s'->False):
  W.WalkO q loose XP YP l.row.toRowW d [] (fun f vs=>PySem.call f vs):=by
 refine Att.wG hn hdf fun w s₀ s₁ mg mb fa o pm cd doc a vs ns G Y ho hd hcd hmg hobj hints hlen Uz hg=>?_;have KX:=hY w _ Y;obtain⟨fd,hb,hF⟩:=F w mg fa _ KX G.T.g hmg;exact FN KX G.T.g G.T.b G.T.builtins G.T.nolimit G.T.nodigits hg hobj hints (Nat.le_trans hlen hn2) hr hF hb (fun H hO hS=>hsp w H a ns hlen Uz hO hS) fun H e s'=>hCX w H s₁ e s'
section
variable {X:Cx}
def MX:V->List V->Hp->VK->Prop:=fun x vs H Q=>∃n:Int,x = .int n/\vs=[]/\Q (.int (Builtin.Int.intBits n:Nat)) H
theorem Js:MtR X "int.bit_length" MX:=by
 intro pins s σ H x vs v us Q I rx rv h;obtain⟨n,rfl,rfl,q⟩:=h;obtain⟨t,rfl⟩:=rx;cases rv;exact call_gives F.slot_int_bit_length (typeIs_int s n t) F.entry_int_bit_length (F.args_int_bit_length_1 _) (AutoIntG2.int_bit_length_int_0 n t) ⟨.int _,H,I.tok _,⟨_,rfl⟩,q⟩
theorem UL(K:W.Frag){o:Expr}{to:TE}{apos cpos:Pos}(ho:PE X o to)(hK:X.K=K:=by rfl)(hbase:attributeBase o "bit_length" X.env (eval o X.env)=eval o X.env:=by rfl)(hline:(apos.endLine==cpos.line)=true:=by rfl):
  PE X (.Call (.Attribute o "bit_length" apos) [] [] cpos) (Ot K "int" MX to):=by
 subst hK;exact Hy PySem.F.plainAttrs_int PySem.F.slot_int_bit_length PySem.F.type_int_bit_length Js ho hbase hline
end
end L2
namespace Rm
def tk(b n:Int):Int:=if b=0 then n else n%b
theorem bf(n:Int):tk 0 n=n:=if_pos rfl
theorem fP{b:Int}(h:b≠0)(n:Int):tk b n=n%b:=if_neg h
theorem jG(b n:Int):tk b (tk b n)=tk b n:=by
 unfold tk;split
 ·rfl
 ·exact Int.emod_emod_of_dvd _ (Int.dvd_refl b)
theorem bU(b x y:Int):tk b (tk b x+y)=tk b (x+y):=by
 unfold tk;split
 ·rfl
 ·exact Int.emod_add_emod ..
theorem dZ(b x y:Int):tk b (x+tk b y)=tk b (x+y):=by
 rw[Int.add_comm,bU,Int.add_comm]
theorem bG(b x y:Int):tk b (x*tk b y)=tk b (x*y):=by
 unfold tk;split
 ·rfl
 ·rw[Int.mul_emod,Int.emod_emod_of_dvd _ (Int.dvd_refl b),<-Int.mul_emod]
theorem dw(b x y:Int):tk b (tk b x*y)=tk b (x*y):=by
 rw[Int.mul_comm,bG,Int.mul_comm]
theorem aQ{b x x' y y':Int}(h:tk b x=tk b x')(h':tk b y=tk b y'):tk b (x+y)=tk b (x'+y'):=by
 rw[<-bU,<-dZ,h,h',dZ,bU]
def S(rule:List Int)(f:Nat->Int)(n:Nat):Nat->Int
 |0=>0
 |m+1=>S rule f n m+rule.getD m 0*f (n-1-m)
theorem yM{rule:List Int}{f g:Nat->Int}{n:Nat}:∀{m:Nat},(∀k,k<m->f (n-1-k)=g (n-1-k))->S rule f n m=S rule g n m
 |0,_=>rfl
 |m+1,h=>by
  unfold S;rw[yM fun k hk=>h k (by omega),h m (by omega)]
theorem yK{rule:List Int}{f:Nat->Int}{n d:Nat}:∀{m:Nat},m<=n->S rule (fun i=>f (d+i)) n m=S rule f (d+n) m
 |0,_=>rfl
 |m+1,h=>by
  unfold S;rw[yK (by omega),show d+n-1-m=d+(n-1-m)by omega]
theorem MF(b:Int){rule:List Int}{f g:Nat->Int}{c:Int}{n:Nat}:∀m:Nat,tk b (S rule (fun i=>tk b (f i+c*g i)) n m)=tk b (S rule f n m+c*S rule g n m)
 |0=>by simp[S]
 |m+1=>by
  unfold S;have h1:=MF b (rule:=rule) (f:=f) (g:=g) (c:=c) (n:=n) m;have h2:tk b (rule.getD m 0*tk b (f (n-1-m)+c*g (n-1-m)))=tk b (rule.getD m 0*(f (n-1-m)+c*g (n-1-m))):=bG ..;rw[aQ h1 h2];congr 1;rw[Int.mul_add,Int.mul_add,Int.mul_left_comm (rule.getD m 0) c];omega
theorem getD_map{f:Int->Int}(h0:f 0=0):∀(l:List Int) (k:Nat),(l.map f).getD k 0=f (l.getD k 0)
 |[],k=>by simp[h0]
 |x::r,0=>by simp
 |x::r,k+1=>by
  have:=getD_map h0 r k;simpa using this
theorem M8(p:Int){rule:List Int}{f:Nat->Int}{n:Nat}:∀m:Nat,tk p (S (rule.map (tk p)) (fun i=>tk p (f i)) n m)=tk p (S rule f n m)
 |0=>rfl
 |m+1=>by
  unfold S;refine aQ (M8 p m) ?_;rw[getD_map (by unfold tk;split<;>simp),bG,dw]
def row(b:Int)(rule starts:List Int):Nat->List Int
 |0=>[]
 |n+1=>row b rule starts n++[if n<starts.length then starts.getD n 0 else tk b (S rule (fun i=>(row b rule starts n).getD i 0) n rule.length)]
theorem dH(b:Int)(rule starts:List Int):∀n,(row b rule starts n).length=n
 |0=>rfl
 |n+1=>by simp[row,dH b rule starts n]
def at_(b:Int)(rule starts:List Int)(n:Nat):Int:=(row b rule starts (n+1)).getD n 0
theorem tX(b:Int)(rule starts:List Int):∀{n i:Nat},i<n->(row b rule starts n).getD i 0=at_ b rule starts i
 |n+1,i,h=>by
  by_cases e:i=n
  ·subst e;rfl
  ·have hi:i<n:=by omega
   have hl:=dH b rule starts n;have:=tX b rule starts (n:=n) (i:=i) hi;rw[<-this];show(row b rule starts n++_).getD i 0=_;rw[List.getD_eq_getElem?_getD,List.getElem?_append_left (by omega),<-List.getD_eq_getElem?_getD]
theorem zV(b:Int)(rule starts:List Int)(n:Nat):at_ b rule starts n=if n<starts.length then starts.getD n 0 else tk b (S rule (fun i=>(row b rule starts n).getD i 0) n rule.length):=by
 unfold at_;have hl:=dH b rule starts n;show(row b rule starts n++_).getD n 0=_;rw[List.getD_eq_getElem?_getD,List.getElem?_append_right (by omega),hl];simp
theorem oV{b:Int}{rule starts:List Int}{n:Nat}(h:n<starts.length):at_ b rule starts n=starts.getD n 0:=by
 rw[zV,if_pos h]
theorem ni{b:Int}{rule starts:List Int}{n:Nat}(hl:rule.length=starts.length)(h:starts.length<=n):at_ b rule starts n=tk b (S rule (at_ b rule starts) n rule.length):=by
 rw[zV,if_neg (by omega)];congr 1;refine yM fun k hk=>tX b rule starts (by omega)
theorem Ef(b:Int)(rule starts:List Int):∀n,row b rule starts n=(List.range n).map (at_ b rule starts)
 |0=>rfl
 |n+1=>by
  rw[List.range_succ,List.map_append,<-Ef b rule starts n];show _++[_]=_++[at_ b rule starts n];rw[zV]
theorem Gy(b:Int)(rule starts:List Int)(n:Nat):row b rule starts (n+1)=row b rule starts n++[at_ b rule starts n]:=by
 rw[zV];rfl
theorem lX{b:Int}{rule starts:List Int}(hl:rule.length=starts.length){g:Nat->Int}(h1:∀i,i<starts.length->g i=starts.getD i 0)
  (h2:∀i,starts.length<=i->g i=tk b (S rule g i rule.length)):∀n,at_ b rule starts n=g n:=by
 intro n;induction n using Nat.strongRecOn with
 |ind n ih=>
  by_cases h:n<starts.length
  ·rw[oV h,h1 n h]
  ·rw[ni hl (by omega),h2 n (by omega)];congr 1;exact yM fun k hk=>ih _ (by omega)
theorem dR{b:Int}{rule starts:List Int}:∀{n:Nat},n<=starts.length->row b rule starts n=starts.take n
 |0,_=>by simp[row]
 |n+1,h=>by
  rw[Gy,dR (by omega),oV (by omega),List.take_add_one,List.getD_eq_getElem?_getD,List.getElem?_eq_getElem (by omega)];rfl
theorem wD{b:Int}{rule starts w:List Int}{d:Nat}(hl:rule.length=starts.length)(hw:w.length=starts.length)(h:∀i,i<w.length->w.getD i 0=at_ b rule starts (d+i))(n:Nat):
  at_ b rule w n=at_ b rule starts (d+n):=by
 refine lX (by omega) (g:=fun i=>at_ b rule starts (d+i)) (fun i hi=>(h i hi).symm) (fun i hi=>?_) n;rw[yK (by omega),ni hl (by omega)]
theorem Nu{p:Int}{rule starts:List Int}(hp:p≠0)(hl:rule.length=starts.length)(n:Nat):at_ p (rule.map (tk p)) (starts.map (tk p)) n=tk p (at_ 0 rule starts n):=by
 refine lX (by simpa using hl) (g:=fun i=>tk p (at_ 0 rule starts i)) (fun i hi=>?_) (fun i hi=>?_) n
 ·rw[oV (by simpa using hi),getD_map (by unfold tk;split<;>simp)]
 ·rw[List.length_map]at hi;show tk p (at_ 0 rule starts i)=_;rw[ni hl hi,bf,List.length_map];exact(M8 p _).symm
theorem Ec{b c:Int}{rule s1 s2 s3:List Int}(h1:rule.length=s1.length)(h2:rule.length=s2.length)(h3:rule.length=s3.length)
  (h:∀i,i<s3.length->s3.getD i 0=tk b (s1.getD i 0+c*s2.getD i 0)) (n:Nat):at_ b rule s3 n=tk b (at_ b rule s1 n+c*at_ b rule s2 n):=by
 refine lX h3 (g:=fun i=>tk b (at_ b rule s1 i+c*at_ b rule s2 i)) (fun i hi=>?_) (fun i hi=>?_) n
 ·rw[oV (by omega),oV (by omega),h i hi]
 ·rw[MF,ni h1 (by omega),ni h2 (by omega),bU,<-dZ,bG,dZ]
def Bd(n:Nat)(x:Int):Prop:=x.natAbs<2^n
theorem Bd.mono{m n:Nat}{x:Int}(h:Bd m x)(hmn:m<=n):Bd n x:=Nat.lt_of_lt_of_le h (Nat.pow_le_pow_right (by decide) hmn)
theorem Bd.mul{m n:Nat}{x y:Int}(h:Bd m x)(h':Bd n y):Bd (m+n) (x*y):=by
 unfold Bd at *;rw[Int.natAbs_mul,Nat.pow_add];exact Nat.mul_lt_mul'' h h'
theorem Bd.add{n:Nat}{x y:Int}(h:Bd n x)(h':Bd n y):Bd (n+1) (x+y):=by
 unfold Bd at *;have:=Int.natAbs_add_le x y;rw[Nat.pow_succ];omega
theorem Bd.zero(n:Nat):Bd n 0:=Nat.pow_pos (by decide)
theorem Bd.of{n:Nat}{x:Int}(h1:-(2^n)<x)(h2:x<2^n):Bd n x:=by
 unfold Bd;have e:((2^n:Nat):Int)=(2:Int)^n:=by simp
 omega
theorem Bd.emod{n:Nat}{x b:Int}(hb:0<b)(h:Bd n b):Bd n (x%b):=by
 unfold Bd at *;have:=Int.emod_nonneg x (show b≠0 by omega);have:=Int.emod_lt_of_pos x hb;omega
theorem Bd.S{rule:List Int}{f:Nat->Int}{n a c:Nat}(hr:∀k,Bd a (rule.getD k 0)):∀m:Nat,(∀k,k<m->Bd c (f (n-1-k)))->Bd (a+c+m) (Rm.S rule f n m)
 |0,_=>Bd.zero _
 |m+1,h=>by
  unfold Rm.S;refine Bd.add (n:=a+c+m) (Bd.S hr m fun k hk=>h k (by omega)) (((hr m).mul (h m (by omega))).mono (by omega))
theorem yp(l:List Int)(k:Nat):l.getD k 0=0∨l.getD k 0∈l:=by
 by_cases h:k<l.length
 ·right;rw[List.getD_eq_getElem?_getD,List.getElem?_eq_getElem h];exact List.getElem_mem h
 ·left;rw[List.getD_eq_getElem?_getD,List.getElem?_eq_none (by omega)];rfl
theorem Bd.getD{l:List Int}{n:Nat}(h:∀x∈l,Bd n x)(k:Nat):Bd n (l.getD k 0):=by
 rcases yp l k with e|e
 ·rw[e];exact .zero n
 ·exact h _ e
theorem uU{b x:Int}{n:Nat}(hb:0<=b)(hb':Bd n b)(h:Bd n x):Bd n (tk b x):=by
 unfold tk;split
 ·exact h
 ·exact Bd.emod (by omega) hb'
theorem Bq{b:Int}{rule starts:List Int}{a c:Nat}(hl:rule.length=starts.length)(hb:0<=b)(hb':Bd c b)(hr:∀x∈rule,Bd a x)(hs:∀x∈starts,Bd c x):
  ∀n,Bd (c+n*(a+rule.length)) (at_ b rule starts n):=by
 intro n;induction n using Nat.strongRecOn with
 |ind n ih=>
  by_cases h:n<starts.length
  ·rw[oV h];exact(Bd.getD hs n).mono (by omega)
  ·rw[ni hl (by omega)];by_cases h0:rule.length=0
   ·rw[h0];exact uU hb (hb'.mono (by omega)) (.zero _)
   ·have hn:0<n:=by omega
    have q:=Bd.S (rule:=rule) (f:=at_ b rule starts) (n:=n) (a:=a) (c:=c+(n-1)*(a+rule.length)) (fun k=>Bd.getD hr k) rule.length fun k hk=>by
     refine(ih (n-1-k) (by omega)).mono ?_;have:(n-1-k)*(a+rule.length)<=(n-1)*(a+rule.length):=Nat.mul_le_mul_right _ (by omega);omega
    have e:n*(a+rule.length)=(n-1)*(a+rule.length)+(a+rule.length):=by
     obtain⟨m,rfl⟩:∃m,n=m+1:=⟨n-1,by omega⟩;rw[Nat.add_sub_cancel,Nat.succ_mul]
    exact uU hb (hb'.mono (by omega)) (q.mono (by omega))
theorem Ad{b:Int}{rule starts:List Int}(hl:rule.length=starts.length)(hb:0<b)(hs:∀x∈starts,0<=x/\x<b)(n:Nat):0<=at_ b rule starts n/\at_ b rule starts n<b:=by
 by_cases h:n<starts.length
 ·rw[oV h,List.getD_eq_getElem?_getD,List.getElem?_eq_getElem h];exact hs _ (List.getElem_mem h)
 ·rw[ni hl (by omega),fP (by omega)];exact⟨Int.emod_nonneg _ (by omega),Int.emod_lt_of_pos _ hb⟩
end Rm
namespace Om
def qP:List Nat:=[2,3,5,7,11,13,17,19,23,29,31,37,41,43,47,53,59,61,67,71,73,79,83,89,97,101,103,107,109,113,127,131,137,139,149,151,157,163,167,173,179,181,191,193,197,199,211,223,227,229,233,239,241,251,257,263,269,271,277,281,283,293,307,311,313,317,331,337,347,349,353,359,367,373,379,383,389,397,401,409,419,421,431,433,439,443,449,457,461,463,467,479,487,491,499,503,509,521,523,541,547,557,563,569,571,577,587,593,599,601,607,613,617,619,631,641,643,647,653,659,661,673,677,683,691,701,709,719,727,733,739,743,751,757,761,769,773,787,797,809,811,821,823,827,829,839,853,857,859,863,877,881,883,887,907,911,919,929,937,941,947,953,967,971,977,983,991,997]
theorem mod_mul{x y x' y' p:Int}(h:x%p=x'%p)(h':y%p=y'%p):(x*y)%p=(x'*y')%p:=by
 rw[Int.mul_emod,h,h',<-Int.mul_emod]
theorem yr{x x' p:Int}(h:x%p=x'%p):∀n:Nat,(x^n)%p=(x'^n)%p
 |0=>by simp
 |n+1=>by rw[Int.pow_succ,Int.pow_succ];exact mod_mul (yr h n) h
def Keeps(p a:Int)(e:Nat)(power square:Int)(left:Nat):Prop:=(power*square^left)%p=(a^e)%p
theorem yL(p a:Int)(e:Nat):Keeps p a e 1 a e:=by unfold Keeps;rw[Int.one_mul]
theorem lU(x:Int):∀n:Nat,(x*x)^n=x^(2*n)
 |0=>by simp
 |n+1=>by
  rw[Int.pow_succ,lU x n,show 2*(n+1)=2*n+1+1 by omega,Int.pow_succ,Int.pow_succ,Int.mul_assoc]
theorem Eh{p a:Int}{e:Nat}{power square:Int}{left:Nat}(h:Keeps p a e power square left)(ho:left%2=1):Keeps p a e (power*square%p) (square*square%p) (left/2):=by
 unfold Keeps at *;have h1:(power*square%p)%p=(power*square)%p:=Int.emod_emod_of_dvd _ (Int.dvd_refl p);have h2:=yr (p:=p) (x:=square*square%p) (x':=square*square) (Int.emod_emod_of_dvd _ (Int.dvd_refl p)) (left/2);rw[mod_mul h1 h2,<-h,lU,Int.mul_assoc];have e2:left=2*(left/2)+1:=by omega
 conv=>rhs;rw[e2,Int.pow_succ]
 rw[Int.mul_comm square]
theorem Bh{p a:Int}{e:Nat}{power square:Int}{left:Nat}(h:Keeps p a e power square left)(ho:¬left%2=1):Keeps p a e power (square*square%p) (left/2):=by
 unfold Keeps at *;have h2:=yr (p:=p) (x:=square*square%p) (x':=square*square) (Int.emod_emod_of_dvd _ (Int.dvd_refl p)) (left/2);rw[mod_mul rfl h2,<-h,lU];have e2:left=2*(left/2):=by omega
 conv=>rhs;rw[e2]
theorem D4{p a:Int}{e:Nat}{power square:Int}(h:Keeps p a e power square 0):power%p=a^e%p:=by
 unfold Keeps at h
 rwa [Int.pow_zero,Int.mul_one]at h
end Om
namespace Pm
open Rm
def sm:Nat->(Nat->Int)->Int
 |0,_=>0
 |n+1,f=>sm n f+f n
theorem aA{f g:Nat->Int}:∀{n:Nat},(∀k,k<n->f k=g k)->sm n f=sm n g
 |0,_=>rfl
 |n+1,h=>by rw[sm,sm,aA fun k hk=>h k (by omega),h n (by omega)]
theorem fX:∀n:Nat,sm n (fun _=>0)=0
 |0=>rfl
 |n+1=>by rw[sm,fX n];rfl
theorem fY{f:Nat->Int}{n:Nat}(h:∀k,k<n->f k=0):sm n f=0:=by rw[aA h,fX]
theorem cN(f:Nat->Int):∀n:Nat,sm (n+1) f=f 0+sm n (fun i=>f (i+1))
 |0=>by simp[sm]
 |n+1=>by
  rw[sm,cN f n,sm,Int.add_assoc]
theorem cG(f g:Nat->Int):∀n:Nat,sm n (fun k=>f k+g k)=sm n f+sm n g
 |0=>rfl
 |n+1=>by rw[sm,sm,sm,cG f g n];omega
theorem bw(c:Int)(f:Nat->Int):∀n:Nat,sm n (fun k=>c*f k)=c*sm n f
 |0=>by simp[sm]
 |n+1=>by rw[sm,sm,bw c f n,Int.mul_add]
theorem fH{f:Nat->Int}{m:Nat}:∀{n:Nat},m<=n->(∀k,m<=k->k<n->f k=0)->sm n f=sm m f
 |0,h,_=>by rw[show m=0 by omega]
 |n+1,h,h0=>by
  by_cases e:m=n+1
  ·rw[e]
  ·rw[sm,fH (n:=n) (by omega) (fun k h1 h2=>h0 k h1 (by omega)),h0 n (by omega) (by omega),Int.add_zero]
theorem tk0(b:Int):tk b 0=0:=by unfold tk;split<;>simp
theorem jd{b:Int}{f g:Nat->Int}:∀{n:Nat},(∀k,k<n->tk b (f k)=tk b (g k))->tk b (sm n f)=tk b (sm n g)
 |0,_=>rfl
 |n+1,h=>by
  rw[sm,sm];exact aQ (jd fun k hk=>h k (by omega)) (h n (by omega))
theorem qp(f:Nat->Int):∀n:Nat,((List.range n).map f).sum=sm n f
 |0=>rfl
 |n+1=>by rw[List.range_succ,List.map_append,List.sum_append,qp f n];simp[sm]
def cv:(Nat->Int)->(Nat->Int)->Nat->Int
 |f,g,0=>f 0*g 0
 |f,g,k+1=>f 0*g (k+1)+cv (fun i=>f (i+1)) g k
theorem gb:∀(f g:Nat->Int) (k:Nat),cv f g k=sm (k+1) (fun j=>f j*g (k-j))
 |f,g,0=>by simp[cv,sm]
 |f,g,k+1=>by
  rw[cv,gb _ g k,cN (fun j=>f j*g (k+1-j))];refine congrArg (_ + ·) (aA fun j hj=>?_);rw[show k+1-(j+1)=k-j by omega]
theorem wW:∀(f g:Nat->Int) (k:Nat),cv f g (k+1)=cv f (fun i=>g (i+1)) k+f (k+1)*g 0
 |f,g,0=>rfl
 |f,g,k+1=>by
  rw[cv,wW (fun i=>f (i+1)) g k,cv,Int.add_assoc]
theorem dF:∀(f g:Nat->Int) (k:Nat),cv f g k=cv g f k
 |f,g,0=>Int.mul_comm _ _
 |f,g,k+1=>by
  rw[cv,wW,dF (fun i=>f (i+1)) g k,Int.add_comm,Int.mul_comm]
theorem eZ{f f' g g':Nat->Int}{k:Nat}(h:∀i,i<=k->f i=f' i)(h':∀i,i<=k->g i=g' i):cv f g k=cv f' g' k:=by
 rw[gb,gb];exact aA fun j hj=>by rw[h j (by omega),h' _ (by omega)]
theorem gZ{b:Int}{f f' g g':Nat->Int}{k:Nat}(h:∀i,i<=k->tk b (f i)=tk b (f' i))(h':∀i,i<=k->tk b (g i)=tk b (g' i)):tk b (cv f g k)=tk b (cv f' g' k):=by
 rw[gb,gb];exact jd fun j hj=>by rw[<-dw,<-bG,h j (by omega),h' _ (by omega),bG,dw]
theorem eX(f f' g:Nat->Int)(k:Nat):cv (fun i=>f i+f' i) g k=cv f g k+cv f' g k:=by
 rw[gb,gb,gb,<-cG];exact aA fun j _=>Int.add_mul ..
theorem yJ(f g g':Nat->Int)(k:Nat):cv f (fun i=>g i+g' i) k=cv f g k+cv f g' k:=by
 rw[dF,eX,dF,dF g']
theorem fu(c:Int)(f g:Nat->Int)(k:Nat):cv (fun i=>c*f i) g k=c*cv f g k:=by
 rw[gb,gb,<-bw];exact aA fun j _=>Int.mul_assoc ..
theorem bJ:∀(f g h:Nat->Int) (k:Nat),cv (cv f g) h k=cv f (cv g h) k
 |f,g,h,0=>by simp[cv,Int.mul_assoc]
 |f,g,h,k+1=>by
  have e:(fun i=>cv f g (i+1))=fun i=>f 0*(fun i=>g (i+1)) i+cv (fun i=>f (i+1)) g i:=rfl;rw[cv,e,eX (fun i=>f 0*(fun i=>g (i+1)) i),fu,bJ (fun i=>f (i+1)) g h k,cv,cv,cv];rw[Int.mul_add,Int.mul_assoc];omega
theorem eV{f g:Nat->Int}{k:Nat}(h:∀i,i<=k->f i=0∨g (k-i)=0):cv f g k=0:=by
 rw[gb];exact fY fun j hj=>by rcases h j (by omega)with e|e<;>rw[e]<;>simp
def co(p:List Int)(k:Nat):Int:=p.getD k 0
theorem dB(k:Nat):co [] k=0:=by simp[co]
theorem cF(x:Int)(r:List Int):co (x::r) 0=x:=by simp[co]
theorem fU(x:Int)(r:List Int)(k:Nat):co (x::r) (k+1)=co r k:=by simp[co]
theorem bh{p:List Int}{k:Nat}(h:p.length<=k):co p k=0:=by
 rw[co,List.getD_eq_getElem?_getD,List.getElem?_eq_none h];rfl
theorem qZ{p:List Int}{k:Nat}(h:k<p.length):co p k=p[k]:=by
 rw[co,List.getD_eq_getElem?_getD,List.getElem?_eq_getElem h];rfl
theorem DK{p:List Int}{k:Nat}(h:k<p.length):co p k∈p:=by rw[qZ h];exact List.getElem_mem h
def ofF(n:Nat)(f:Nat->Int):List Int:=(List.range n).map f
theorem aM(n:Nat)(f:Nat->Int):(ofF n f).length=n:=by simp[ofF]
theorem bI(n:Nat)(f:Nat->Int)(k:Nat):co (ofF n f) k=if k<n then f k else 0:=by
 by_cases h:k<n
 ·rw[if_pos h,co,ofF,List.getD_eq_getElem?_getD,List.getElem?_map,List.getElem?_range h];rfl
 ·rw[if_neg h,bh (by rw[aM];omega)]
theorem Ak(n:Nat)(f:Nat->Int):ofF (n+1) f=ofF n f++[f n]:=by
 rw[ofF,List.range_succ,List.map_append];rfl
theorem HZ(p:List Int):ofF p.length (co p)=p:=by
 apply List.ext_getElem (by rw[aM]);intro i h1 h2;simp only[ofF,List.getElem_map,List.getElem_range];exact qZ h2
theorem nM{p q:List Int}(hl:p.length=q.length)(h:∀k,co p k=co q k):p=q:=by
 rw[<-HZ p,<-HZ q,hl];exact List.map_congr_left fun k _=>h k
theorem pK(p:List Int)(i:Nat)(x:Int)(k:Nat)(hi:i<p.length):co (p.set i x) k=if k=i then x else co p k:=by
 unfold co;rw[List.getD_eq_getElem?_getD,List.getElem?_set,List.getD_eq_getElem?_getD];by_cases e:i=k
 ·subst e;simp[hi]
 ·rw[if_neg e,if_neg (fun z=>e z.symm)]
theorem tW{f:Int->Int}(h:f 0=0)(p:List Int)(k:Nat):co (p.map f) k=f (co p k):=getD_map h p k
theorem bW(p q:List Int)(k:Nat):co (p++q) k=if k<p.length then co p k else co q (k-p.length):=by
 unfold co;by_cases h:k<p.length
 ·rw[if_pos h,List.getD_eq_getElem?_getD,List.getElem?_append_left h,<-List.getD_eq_getElem?_getD]
 ·rw[if_neg h,List.getD_eq_getElem?_getD,List.getElem?_append_right (by omega),<-List.getD_eq_getElem?_getD]
def trim:List Int->List Int
 |[]=>[]
 |x::r=>if x=0/\trim r=[]then[]else x::trim r
theorem f9:∀(p:List Int) (k:Nat),co (trim p) k=co p k
 |[],k=>rfl
 |x::r,k=>by
  rw[trim];have ih:=f9 r;by_cases h:x=0/\trim r=[]
  ·rw[if_pos h];rw[h.2]at ih;cases k with
   |zero=>rw[dB,cF,h.1]
   |succ k=>rw[fU,<-ih k,dB,dB]
  ·rw[if_neg h];cases k with
   |zero=>rw[cF,cF]
   |succ k=>rw[fU,fU,ih k]
theorem qj{p:List Int}:trim p=[]↔∀k,co p k=0:=by
 constructor
 ·intro h k;rw[<-f9,h,dB]
 ·intro h;induction p with
  |nil=>rfl
  |cons x r ih=>
   rw[trim,if_pos ⟨by have:=h 0;rwa [cF]at this,ih fun k=>by have:=h (k+1);rwa [fU]at this⟩]
theorem j8:∀{p q:List Int},(∀k,co p k=co q k)->trim p=trim q
 |[],q,h=>by rw[show trim q=[]from qj.mpr fun k=>by rw[<-h k,dB]];rfl
 |x::r,[],h=>by rw[show trim (x::r)=[]from qj.mpr fun k=>by rw[h k,dB]];rfl
 |x::r,y::s,h=>by
  have e1:=h 0;rw[cF,cF]at e1;have e2:trim r=trim s:=j8 fun k=>by have:=h (k+1);rwa [fU,fU]at this
  rw[trim,trim,e1,e2]
theorem Cr(p:List Int):trim (trim p)=trim p:=j8 (f9 p)
theorem cB:∀p:List Int,(trim p).length<=p.length
 |[]=>Nat.le_refl _
 |x::r=>by
  have:=cB r;rw[trim];split
  ·simp
  ·simp;omega
theorem qY:∀{p:List Int} {n:Nat},(∀k,n<=k->co p k=0)->(trim p).length<=n
 |[],n,_=>Nat.zero_le _
 |x::r,0,h=>by rw[qj.mpr fun k=>h k (Nat.zero_le _)];exact Nat.le_refl 0
 |x::r,n+1,h=>by
  have:=qY (p:=r) (n:=n) fun k hk=>by have:=h (k+1) (by omega);rwa [fU]at this
  rw[trim];split
  ·simp
  ·simp;omega
theorem vL(p:List Int):trim (p++[0])=trim p:=j8 fun k=>by
 rw[bW];by_cases h:k<p.length
 ·rw[if_pos h]
 ·rw[if_neg h,bh (p:=p) (by omega)];cases k-p.length with
  |zero=>rfl
  |succ j=>rw[fU,dB]
theorem rZ:∀(p:List Int) {x:Int},x≠0->trim (p++[x])=p++[x]
 |[],x,h=>by simp[trim,h]
 |y::r,x,h=>by
  show trim (y::(r++[x]))=_;rw[trim,rZ r h,if_neg (by simp)];rfl
theorem m8{p:List Int}{x:Int}(h:x∈trim p):x∈p:=by
 induction p with
 |nil=>exact h
 |cons y r ih=>
  rw[trim]at h;split at h
  ·cases h
  ·rcases List.mem_cons.mp h with rfl|h
   ·exact List.mem_cons_self
   ·exact List.mem_cons_of_mem _ (ih h)
structure Py(b:Int)(p:List Int):Prop where
 tr:trim p=p
 nu:∀x∈p,tk b x=x
theorem Py.co{b:Int}{p:List Int}(h:Py b p)(k:Nat):tk b (co p k)=co p k:=by
 by_cases hk:k<p.length
 ·exact h.nu _ (DK hk)
 ·rw[bh (by omega),tk0]
theorem Py.ext{b:Int}{p q:List Int}(h:Py b p)(h':Py b q)(e:∀k,tk b (Pm.co p k)=tk b (Pm.co q k)):p=q:=by
 rw[<-h.tr,<-h'.tr];exact j8 fun k=>by rw[<-h.co k,<-h'.co k];exact e k
theorem Py.of{b:Int}{p:List Int}(h:∀x∈p,tk b x=x):Py b (trim p):=⟨Cr p,fun x hx=>h x (m8 hx)⟩
theorem Py.nil(b:Int):Py b []:=⟨rfl,fun _ h=>nomatch h⟩
theorem fJ{n:Nat}{f:Nat->Int}{x:Int}(h:x∈ofF n f):∃k,k<n/\x=f k:=by
 obtain⟨k,hk,e⟩:=List.mem_map.mp h;exact⟨k,List.mem_range.mp hk,e.symm⟩
theorem Py.ofF(b:Int)(n:Nat)(f:Nat->Int):Py b (trim (Pm.ofF n fun k=>tk b (f k))):=Py.of fun x hx=>by
 obtain⟨k,_,rfl⟩:=fJ hx;exact jG ..
def add(b:Int)(p q:List Int):List Int:=trim (ofF (max p.length q.length) fun k=>tk b (co p k+co q k))
def mul(b:Int)(p q:List Int):List Int:=trim (ofF (p.length+q.length) fun k=>tk b (cv (co p) (co q) k))
theorem B7(b:Int)(p q:List Int):Py b (mul b p q):=Py.ofF ..
theorem zx(b:Int)(p q:List Int)(k:Nat):co (add b p q) k=tk b (co p k+co q k):=by
 rw[add,f9,bI];split
 ·rfl
 ·rw[bh (p:=p) (by omega),bh (p:=q) (by omega),Int.add_zero,tk0]
theorem u5(b:Int)(p q:List Int)(k:Nat):co (mul b p q) k=tk b (cv (co p) (co q) k):=by
 rw[mul,f9,bI];split
 ·rfl
 ·rw[eV,tk0];intro i hi;by_cases h:i<p.length
  ·exact .inr (bh (by omega))
  ·exact .inl (bh (by omega))
def W(f g:Nat->Int)(i k c:Nat):Int:=sm i (fun j=>if j<=c then f j*g (c-j)else 0)+(if i<=c/\c-i<k then f i*g (c-i)else 0)
theorem Ms(f g:Nat->Int)(c:Nat):W f g 0 0 c=0:=by simp[W,sm]
theorem MH{f g:Nat->Int}{i k c:Nat}:W f g i (k+1) c=W f g i k c+(if c=i+k then f i*g k else 0):=by
 unfold W;by_cases h:c=i+k
 ·rw[if_pos h,if_pos (by omega),if_neg (by omega),show c-i=k by omega];omega
 ·rw[if_neg h];by_cases h2:i<=c/\c-i<k
  ·rw[if_pos h2,if_pos (by omega)];omega
  ·rw[if_neg h2,if_neg (by omega)];omega
theorem Te{f g:Nat->Int}{i n c:Nat}(hg:∀k,n<=k->g k=0):W f g i n c=W f g (i+1) 0 c:=by
 unfold W;rw[sm,if_neg (show ¬(i+1<=c/\c-(i+1)<0)by omega)];by_cases h:i<=c
 ·rw[if_pos h];by_cases h2:c-i<n
  ·rw[if_pos ⟨h,h2⟩];omega
  ·rw[if_neg (by omega),hg _ (by omega),Int.mul_zero];omega
 ·rw[if_neg (by omega),if_neg h];omega
theorem J3{f g:Nat->Int}{m c:Nat}(hf:∀k,m<=k->f k=0):W f g m 0 c=cv f g c:=by
 unfold W;rw[if_neg (by omega),Int.add_zero,gb];by_cases h:m<=c+1
 ·rw[fH (n:=c+1) h fun k h1 _=>by rw[hf k h1,Int.zero_mul]];exact aA fun j hj=>if_pos (by omega)
 ·rw[fH (m:=c+1) (n:=m) (by omega) fun k h1 _=>if_neg (by omega)];exact aA fun j hj=>if_pos (by omega)
end Pm
namespace Pm
open Rm
theorem mF(F:Nat->Nat->Int)(m:Nat):∀n:Nat,sm m (fun k=>sm n (fun j=>F k j))=sm n (fun j=>sm m (fun k=>F k j))
 |0=>by simp only[sm];exact fX m
 |n+1=>by
  simp only[sm];rw[cG,mF F m n]
theorem zY(rule:List Int)(f:Nat->Int)(n:Nat):∀m:Nat,S rule f n m=sm m (fun k=>co rule k*f (n-1-k))
 |0=>rfl
 |m+1=>by rw[S,sm,zY rule f n m];rfl
def ks(p:List Int)(a:Nat->Int)(n:Nat):Int:=sm p.length (fun k=>co p k*a (n+k))
theorem Mf{b:Int}{rule p:List Int}{a:Nat->Int}(ha:∀n,rule.length<=n->tk b (a n)=tk b (S rule a n rule.length)){n:Nat}(hn:rule.length<=n):
  tk b (ks p a n)=tk b (S rule (ks p a) n rule.length):=by
 have e1:tk b (ks p a n)=tk b (sm p.length (fun k=>co p k*sm rule.length (fun j=>co rule j*a (n+k-1-j)))):=by
  refine jd fun k _=>?_;rw[<-bG,ha (n+k) (by omega),bG,zY]
 rw[e1,zY];congr 1;have e2:(fun k=>co p k*sm rule.length (fun j=>co rule j*a (n+k-1-j)))=fun k=>sm rule.length (fun j=>co rule j*(co p k*a (n+k-1-j))):=by
  funext k
  rw[<-bw];exact aA fun j _=>Int.mul_left_comm ..
 rw[e2,mF];refine aA fun j hj=>?_;rw[bw];congr 1;refine aA fun k _=>?_;rw[show n-1-j+k=n+k-1-j by omega]
theorem Et{b:Int}{rule p:List Int}{a:Nat->Int}(ha:∀n,rule.length<=n->tk b (a n)=tk b (S rule a n rule.length))(h0:∀n,n<rule.length->tk b (ks p a n)=0):
  ∀n,tk b (ks p a n)=0:=by
 intro n;induction n using Nat.strongRecOn with
 |ind n ih=>
  by_cases h:n<rule.length
  ·exact h0 n h
  ·rw[Mf ha (by omega),zY];have:tk b (sm rule.length fun k=>co rule k*ks p a (n-1-k))=tk b (sm rule.length fun _=>0):=jd fun k hk=>by
    rw[<-bG,ih (n-1-k) (by omega),Int.mul_zero]
   rw[this,fX,tk0]
def aK(b:Int)(c:List Int):List Int:=ofF c.length (fun k=>tk b (0-co c (c.length-1-k)))++[1]
def gk(b:Int)(p:List Int):List Int:=ofF (p.length-1) (fun k=>tk b (0-co p (p.length-1-1-k)))
theorem aY(b:Int)(c:List Int):(aK b c).length=c.length+1:=by simp[aK,aM]
theorem sZ(b x:Int):tk b (0-tk b (0-x))=tk b x:=by
 have h:tk b (tk b (0-x)+(0-tk b (0-x)))=tk b ((0-x)+(0-tk b (0-x))):=bU ..;have e1:tk b (0-x)+(0-tk b (0-x))=0:=by omega
 rw[e1]at h;have h2:tk b (tk b (0-tk b (0-x))+(0-x))=tk b 0:=by rw[bU,Int.add_comm];exact h.symm
 have h3:tk b (tk b (0-tk b (0-x)))=tk b x:=by
  have:=aQ h2 (rfl:tk b x=tk b x);rw[show tk b (0-tk b (0-x))+(0-x)+x=tk b (0-tk b (0-x))by omega,Int.zero_add]at this;exact this
 rwa [jG]at h3
theorem zW{b:Int}{rule starts:List Int}(hl:rule.length=starts.length):∀n,rule.length<=n->tk b (at_ b rule starts n)=tk b (S rule (at_ b rule starts) n rule.length):=fun n hn=>by
 rw[ni hl (by omega),jG]
theorem CD{f:Nat->Int}{c:Nat}:∀n:Nat,(∀k,k<n->Bd c (f k))->Bd (c+n) (sm n f)
 |0,_=>Bd.zero _
 |n+1,h=>by
  rw[sm];exact Bd.add (n:=c+n) (CD n fun k hk=>h k (by omega)) ((h n (by omega)).mono (by omega))
theorem mD{p:List Int}{u:Nat}(h:∀x∈p,Bd u x)(k:Nat):Bd u (co p k):=Bd.getD h k
theorem Ro{p q:List Int}{u v:Nat}(h:∀x∈p,Bd u x)(h':∀x∈q,Bd v x)(k:Nat):Bd (u+v+p.length) (cv (co p) (co q) k):=by
 rw[<-J3 (m:=p.length) fun j hj=>bh hj,W,if_neg (by omega),Int.add_zero];refine CD _ fun j _=>?_;split
 ·exact(mD h j).mul (mD h' _)
 ·exact Bd.zero _
theorem C0{b:Int}{p q:List Int}{u v:Nat}(hb:0<=b)(hb1:b<1000)(hu:10<=u)(h:∀x∈p,Bd u x)(h':∀x∈q,Bd v x):∀x∈mul b p q,Bd (u+v+p.length) x:=by
 intro x hx;obtain⟨k,_,rfl⟩:=fJ (m8 hx);refine uU hb ?_ (Ro h h' k);exact(Bd.of (n:=10) (by omega) (by omega)).mono (by omega)
theorem ji{b:Int}{c:List Int}{u:Nat}(hb:0<=b)(hb1:b<1000)(hu:10<=u)(h:∀x∈c,Bd u x):∀x∈aK b c,Bd u x:=by
 intro x hx;rcases List.mem_append.mp hx with hx|hx
 ·obtain⟨k,_,rfl⟩:=fJ hx;refine uU hb ((Bd.of (n:=10) (by omega) (by omega)).mono (by omega)) ?_;have:=mD h (c.length-1-k);unfold Bd at this⊢;rw[Int.zero_sub,Int.natAbs_neg];exact this
 ·rw[List.mem_singleton.mp hx];exact(Bd.of (n:=10) (by decide) (by decide)).mono hu
end Pm
namespace Pm
open Rm
theorem cg(x:Int)(j:Nat):∀n:Nat,sm n (fun i=>if i=j then x else 0)=if j<n then x else 0
 |0=>by simp[sm]
 |n+1=>by
  rw[sm,cg x j n];by_cases h:n=j
  ·rw[if_pos h,if_neg (by omega),if_pos (by omega)];omega
  ·rw[if_neg h];by_cases h2:j<n
   ·rw[if_pos h2,if_pos (by omega)];omega
   ·rw[if_neg h2,if_neg (by omega)];omega
theorem dh{b x y:Int}:tk b (x-y)=0↔tk b x=tk b y:=by
 constructor
 ·intro h;have:=aQ (b:=b) (x:=x-y) (x':=0) (y:=y) (y':=y) (by rw[h,tk0]) rfl
  rwa [show x-y+y=x by omega,Int.zero_add]at this
 ·intro h;have:=aQ (b:=b) (x:=x) (x':=y) (y:=-y) (y':=-y) h rfl;rw[show x + -y=x-y by omega,show y + -y=0 by omega,tk0]at this;exact this
theorem m7(f:Int)(s:Nat)(g:Nat->Int)(k:Nat):cv (fun i=>if i=s then f else 0) g k=if s<=k then f*g (k-s)else 0:=by
 rw[gb];have e:sm (k+1) (fun j=>(if j=s then f else 0)*g (k-j))=sm (k+1) (fun j=>if j=s then f*g (k-s)else 0):=aA fun j _=>by
  by_cases h:j=s
  ·rw[if_pos h,if_pos h,h]
  ·rw[if_neg h,if_neg h,Int.zero_mul]
 rw[e,cg];by_cases h:s<=k
 ·rw[if_pos h,if_pos (by omega)]
 ·rw[if_neg h,if_neg (by omega)]
structure Mon(m:List Int):Prop where
 pos:0<m.length
 one:co m (m.length-1)=1
structure Div(b:Int)(p m q r:List Int):Prop where
 qy:Py b q
 ry:Py b r
 short:r.length<m.length
 eq:∀k,tk b (cv (co q) (co m) k+co r k)=tk b (co p k)
theorem Div.uniq{b:Int}{p m q r q' r':List Int}(hm:Mon m)(h:Div b p m q r)(h':Div b p m q' r'):q=q'/\r=r':=by
 have hp:=hm.pos;have e1:∀k,tk b (cv (fun i=>co q i-co q' i) (co m) k+(co r k-co r' k))=0:=by
  intro k;have e2:cv (fun i=>co q i-co q' i) (co m) k=cv (co q) (co m) k-cv (co q') (co m) k:=by
   have:=eX (co q) (fun i=>-1*co q' i) (co m) k;rw[fu]at this;have e3:(fun i=>co q i + -1*co q' i)=fun i=>co q i-co q' i:=by funext i;omega
   rw[e3]at this;omega
  rw[e2,show cv (co q) (co m) k-cv (co q') (co m) k+(co r k-co r' k)=(cv (co q) (co m) k+co r k)-(cv (co q') (co m) k+co r' k)by omega,dh,h.eq,h'.eq]
 have e4:∀d j,q.length+q'.length<=j+d->tk b (co q j-co q' j)=0:=by
  intro d;induction d with
  |zero=>intro j hj;rw[bh (by omega),bh (by omega)];exact tk0 b
  |succ d ih=>
   intro j hj;have e5:=e1 (j+(m.length-1));have hs:=h.short;have hs':=h'.short;rw[bh (p:=r) (by omega),bh (p:=r') (by omega),Int.sub_zero,Int.add_zero,gb]at e5;rw[<-e5];have e6:tk b (sm (j+(m.length-1)+1) fun i=>(co q i-co q' i)*co m (j+(m.length-1)-i))=tk b (sm (j+(m.length-1)+1) fun i=>if i=j then co q j-co q' j else 0):=jd fun i hi=>by
    by_cases c:i=j
    ·rw[if_pos c,c,show j+(m.length-1)-j=m.length-1 by omega,hm.one,Int.mul_one]
    ·rw[if_neg c];by_cases c2:i<j
     ·rw[bh (p:=m) (by omega),Int.mul_zero]
     ·rw[<-dw,ih i (by omega),Int.zero_mul]
   rw[e6,cg,if_pos (by omega)]
 have eq:q=q':=h.qy.ext h'.qy fun k=>dh.mp (e4 (q.length+q'.length) k (by omega));refine⟨eq,h.ry.ext h'.ry fun k=>?_⟩;have e7:=e1 k;rw[eq]at e7;have e8:(fun i=>co q' i-co q' i)=fun _=>0:=by funext i;omega
 rw[e8,eV (fun _ _=> .inl rfl),Int.zero_add]at e7;exact dh.mp e7
structure DP(b:Int)(p m:List Int)(s:Nat)(o l:List Int):Prop where
 eq:∀k,tk b (cv (co o) (co m) k+co l k)=tk b (co p k)
 zero:∀k,s+(m.length-1)<=k->co l k=0
 low:∀k,k<s->co o k=0
 ol:o.length=p.length-(m.length-1)
 ll:l.length=p.length
 on:∀k,tk b (co o k)=co o k
 ln:∀k,tk b (co l k)=co l k
theorem DP.start{b:Int}{p m:List Int}(hp:∀k,tk b (co p k)=co p k):DP b p m (p.length-(m.length-1)) (ofF (p.length-(m.length-1)) fun _=>0) p:=by
 have z:∀k,co (ofF (p.length-(m.length-1)) fun _=>0) k=0:=fun k=>by rw[bI];split<;>rfl
 exact⟨fun k=>by rw[eV fun i _=> .inl (z i),Int.zero_add],fun k hk=>bh (by omega),fun k _=>z k,aM _ _,rfl,fun k=>by rw[z,tk0],hp⟩
def lf(b f:Int)(s t:Nat)(l m:List Int)(k:Nat):Int:=if s<=k/\k<s+t then tk b (co l k-f*co m (k-s))else co l k
theorem J2(b f:Int)(s:Nat)(l m:List Int)(k:Nat):lf b f s 0 l m k=co l k:=if_neg (by omega)
theorem Ks(b f:Int)(s t:Nat)(l m:List Int)(k:Nat):lf b f s (t+1) l m k=if k=s+t then tk b (lf b f s t l m k-f*co m t)else lf b f s t l m k:=by
 unfold lf;by_cases h:k=s+t
 ·rw[if_pos h,if_pos (by omega),if_neg (by omega),show k-s=t by omega]
 ·rw[if_neg h];by_cases h2:s<=k/\k<s+t
  ·rw[if_pos h2,if_pos (by omega)]
  ·rw[if_neg h2,if_neg (by omega)]
theorem Mh{b f:Int}{s:Nat}{l m:List Int}(hl:∀k,tk b (co l k)=co l k)(k:Nat):lf b f s m.length l m k=tk b (co l k-(if s<=k then f*co m (k-s)else 0)):=by
 unfold lf;by_cases h:s<=k
 ·rw[if_pos h];by_cases h2:k<s+m.length
  ·rw[if_pos ⟨h,h2⟩]
  ·rw[if_neg (by omega),bh (p:=m) (by omega),Int.mul_zero,Int.sub_zero,hl]
 ·rw[if_neg (by omega),if_neg h,Int.sub_zero,hl]
theorem DP.step{b:Int}{p m o l l':List Int}{s:Nat}(hm:Mon m)(h:DP b p m (s+1) o l)(hs:s<p.length-(m.length-1))(hl:l'.length=l.length)(e:∀k,co l' k=lf b (co l (s+(m.length-1))) s m.length l m k):
  DP b p m s (o.set s (co l (s+(m.length-1)))) l':=by
 have hp:=hm.pos;have ho:=h.ol;have eo:co (o.set s (co l (s+(m.length-1))))=fun k=>co o k+(if k=s then co l (s+(m.length-1))else 0):=by
  funext k
  rw[pK _ _ _ _ (by omega)];by_cases c:k=s
  ·rw[if_pos c,if_pos c,c,h.low s (by omega),Int.zero_add]
  ·rw[if_neg c,if_neg c,Int.add_zero]
 have el:∀k,co l' k=tk b (co l k-(if s<=k then co l (s+(m.length-1))*co m (k-s)else 0)):=fun k=>by rw[e,Mh h.ln]
 refine⟨fun k=>?_,fun k hk=>?_,fun k hk=>?_,by rw[List.length_set,ho],by rw[hl,h.ll],fun k=>?_,fun k=>by rw[el,jG]⟩
 ·rw[eo,eX (co o),m7,el,dZ,<-h.eq k];congr 1;omega
 ·rw[el,if_pos (by omega)];by_cases c:k=s+(m.length-1)
  ·rw[c,show s+(m.length-1)-s=m.length-1 by omega,hm.one,Int.mul_one,Int.sub_self,tk0]
  ·rw[h.zero k (by omega),bh (p:=m) (by omega),Int.mul_zero,Int.sub_zero,tk0]
 ·rw[eo];simp only;rw[h.low k (by omega),if_neg (by omega),Int.add_zero]
 ·rw[pK _ _ _ _ (by omega)];split
  ·exact h.ln _
  ·exact h.on _
theorem DP.stop{b:Int}{p m o l:List Int}(hm:Mon m)(h:DP b p m 0 o l):Div b p m (trim o) (trim l):=by
 have hp:=hm.pos;have y:∀{x:List Int},(∀k,tk b (co x k)=co x k)->Py b (trim x):=fun hx=>Py.of fun z hz=>by
  obtain⟨k,hk,e⟩:=List.mem_iff_getElem.mp hz;rw[<-e,<-qZ hk];exact hx k
 refine⟨y h.on,y h.ln,?_,fun k=>?_⟩
 ·have:=qY (p:=l) (n:=m.length-1) fun k hk=>h.zero k (by omega);omega
 ·rw[f9,<-h.eq k];congr 2;exact eZ (fun i _=>f9 _ _) (fun _ _=>rfl)
end Pm
namespace Pm
open Rm
theorem yZ(g:Nat->Int)(j:Nat):∀m:Nat,sm (j+m) (fun k=>if j<=k then g (k-j)else 0)=sm m g
 |0=>by
  rw[Nat.add_zero];exact fY fun k hk=>if_neg (by omega)
 |m+1=>by
  rw[<-Nat.add_assoc,sm,sm,yZ g j m,if_pos (by omega),Nat.add_sub_cancel_left]
theorem iQ(p:List Int)(a:Nat->Int)(n:Nat){N:Nat}(h:p.length<=N):sm N (fun k=>co p k*a (n+k))=ks p a n:=
 fH h fun k h1 _=>by rw[bh h1,Int.zero_mul]
theorem JX{b:Int}{p q:List Int}{a:Nat->Int}(h:∀k,tk b (co p k)=tk b (co q k))(n:Nat):tk b (ks p a n)=tk b (ks q a n):=by
 rw[<-iQ p a n (Nat.le_max_left p.length q.length),<-iQ q a n (Nat.le_max_right p.length q.length)];exact jd fun k _=>by rw[<-dw,h k,dw]
theorem HY{b:Int}(p q:List Int)(a:Nat->Int)(n:Nat):tk b (ks (add b p q) a n)=tk b (ks p a n+ks q a n):=by
 have hl:(add b p q).length<=max p.length q.length:=by
  have:=cB (ofF (max p.length q.length) fun k=>tk b (co p k+co q k))
  rwa [aM]at this
 rw[<-iQ _ a n hl,<-iQ p a n (Nat.le_max_left p.length q.length),<-iQ q a n (Nat.le_max_right p.length q.length),<-cG];exact jd fun k _=>by rw[zx,dw,Int.add_mul]
theorem Hq{b:Int}(p q:List Int)(a:Nat->Int)(n:Nat):tk b (ks (mul b p q) a n)=tk b (ks p (ks q a) n):=by
 have hl:(mul b p q).length<=p.length+q.length:=by
  have:=cB (ofF (p.length+q.length) fun k=>tk b (cv (co p) (co q) k))
  rwa [aM]at this
 rw[<-iQ _ a n hl];have e1:tk b (sm (p.length+q.length) fun k=>co (mul b p q) k*a (n+k))=tk b (sm (p.length+q.length) fun k=>sm p.length fun j=>co p j*(if j<=k then co q (k-j)*a (n+k)else 0)):=jd fun k _=>by
  rw[u5,dw,<-J3 (m:=p.length) fun j hj=>bh hj,W,if_neg (by omega),Int.add_zero,Int.mul_comm,<-bw];congr 1;refine aA fun j _=>?_;by_cases h:j<=k
  ·rw[if_pos h,if_pos h,Int.mul_comm,Int.mul_assoc]
  ·rw[if_neg h,if_neg h,Int.mul_zero,Int.mul_zero]
 rw[e1,mF];congr 1;refine aA fun j hj=>?_;rw[bw];congr 1;have e2:(fun k=>if j<=k then co q (k-j)*a (n+k)else 0)=fun k=>if j<=k then(fun i=>co q i*a (n+j+i)) (k-j)else 0:=by
  funext k
  by_cases h:j<=k
  ·rw[if_pos h,if_pos h];show _=co q (k-j)*a (n+j+(k-j));rw[show n+j+(k-j)=n+k by omega]
  ·rw[if_neg h,if_neg h]
 rw[e2,show p.length+q.length=j+(p.length-j+q.length)by omega];refine(yZ (fun i=>co q i*a (n+j+i)) j _).trans ?_;exact iQ q a (n+j) (by omega)
theorem IG{b:Int}{p:List Int}{a:Nat->Int}(h:∀n,tk b (a n)=0)(n:Nat):tk b (ks p a n)=0:=by
 have:tk b (ks p a n)=tk b (sm p.length fun _=>0):=jd fun k _=>by rw[<-bG,h,Int.mul_zero]
 rw[this,fX,tk0]
def Kp(b:Int)(p:List Int)(a:Nat->Int):Prop:=∀n,tk b (ks p a n)=0
theorem Kp.V3{b:Int}{q:List Int}{a:Nat->Int}(h:Kp b q a)(p:List Int):Kp b (mul b p q) a:=fun n=>by rw[Hq];exact IG h n
theorem Kp.congr{b:Int}{p q:List Int}{a:Nat->Int}(e:∀k,tk b (co p k)=tk b (co q k))(h:Kp b p a):Kp b q a:=fun n=>by rw[<-JX e];exact h n
theorem Kp.aK{b:Int}{rule:List Int}{a:Nat->Int}(ha:∀n,rule.length<=n->tk b (a n)=tk b (S rule a n rule.length)):Kp b (aK b rule) a:=fun n=>by
 unfold ks;rw[aY,sm];have e1:co (Pm.aK b rule) rule.length=1:=by
  rw[Pm.aK,bW,aM,if_neg (by omega),Nat.sub_self];rfl
 have e2:tk b (sm rule.length fun k=>co (Pm.aK b rule) k*a (n+k))=tk b (sm rule.length fun k=>-1*(co rule (rule.length-1-k)*a (n+k))):=jd fun k hk=>by
  rw[Pm.aK,bW,aM,if_pos hk,bI,if_pos hk,dw,Int.zero_sub,Int.neg_mul,Int.neg_one_mul]
 have e3:S rule a (n+rule.length) rule.length=sm rule.length fun k=>co rule (rule.length-1-k)*a (n+k):=by
  rw[zY];have rev:∀(m:Nat) (f:Nat->Int),sm m f=sm m fun k=>f (m-1-k):=by
   intro m;induction m with
   |zero=>intro f;rfl
   |succ m ih=>
    intro f;rw[cN,sm,ih fun i=>f (i+1),Int.add_comm];have:m+1-1-m=0:=by omega
    rw[this];congr 1;exact aA fun k hk=>by rw[show m-1-k+1=m+1-1-k by omega]
  rw[rev];exact aA fun k hk=>by rw[show n+rule.length-1-(rule.length-1-k)=n+k by omega]
 rw[e1,Int.one_mul,<-bU,e2,bU,bw,<-e3,<-dZ,ha (n+rule.length) (by omega),dZ,Int.neg_one_mul,Int.add_left_neg,tk0]
theorem Div.kp{b:Int}{p m q r:List Int}{a:Nat->Int}(h:Div b p m q r)(hm:Kp b m a):Kp b p a↔Kp b r a:=by
 have e:∀n,tk b (ks p a n)=tk b (ks r a n):=fun n=>by
  have e1:∀k,tk b (co (Pm.add b (mul b q m) r) k)=tk b (co p k):=fun k=>by rw[zx,u5,jG,bU];exact h.eq k
  rw[<-JX e1,HY,<-bU,hm.V3 q n,Int.zero_add]
 exact⟨fun z n=>by rw[<-e];exact z n,fun z n=>by rw[e];exact z n⟩
def In2(b:Int)(p q x:List Int):Prop:=∃u v,∀k,tk b (co x k)=tk b (cv (co u) (co p) k+cv (co v) (co q) k)
theorem Jj(p q:List Int)(k:Nat):co (add 0 p q) k=co p k+co q k:=by rw[zx,bf]
theorem Dp(p q:List Int)(k:Nat):co (mul 0 p q) k=cv (co p) (co q) k:=by rw[u5,bf]
theorem In2.left(b:Int)(p q:List Int):In2 b p q p:=⟨[1],[],fun k=>by
 rw[eV (f:=co []) fun i _=> .inl (dB _),Int.add_zero,gb,fH (m:=1) (by omega) fun j h1 _=>by rw[show co [1] j=0 from bh (by simpa using h1),Int.zero_mul]];simp[sm,cF]⟩
theorem In2.swap{b:Int}{p q x:List Int}(h:In2 b p q x):In2 b q p x:=by
 obtain⟨u,v,e⟩:=h;exact⟨v,u,fun k=>by rw[e,Int.add_comm]⟩
theorem In2.trans{b:Int}{p q g s x:List Int}(hg:In2 b p q g)(hs:In2 b p q s)(h:In2 b g s x):In2 b p q x:=by
 obtain⟨a,c,eg⟩:=hg;obtain⟨a',c',es⟩:=hs;obtain⟨u,v,e⟩:=h;refine⟨add 0 (mul 0 u a) (mul 0 v a'),add 0 (mul 0 u c) (mul 0 v c'),fun k=>?_⟩;have e1:tk b (cv (co u) (co g) k)=tk b (cv (co u) (fun i=>cv (co a) (co p) i+cv (co c) (co q) i) k):=gZ (fun _ _=>rfl) fun i _=>eg i;have e2:tk b (cv (co v) (co s) k)=tk b (cv (co v) (fun i=>cv (co a') (co p) i+cv (co c') (co q) i) k):=gZ (fun _ _=>rfl) fun i _=>es i;rw[e,aQ e1 e2];congr 1;have f1:∀y z:List Int,co (add 0 (mul 0 u y) (mul 0 v z))=fun i=>cv (co u) (co y) i+cv (co v) (co z) i:=fun y z=>by
  funext i;rw[Jj,Dp,Dp]
 rw[f1,f1,eX (cv (co u) (co a)),eX (cv (co u) (co c)),yJ,yJ,bJ,bJ,bJ,bJ];omega
theorem Div.in1{b:Int}{p m q r:List Int}(h:Div b p m q r):In2 b m r p:=by
 refine⟨q,[1],fun k=>?_⟩;obtain⟨u,v,e⟩:=In2.left b r [];rw[<-h.eq k];have:cv (co [1]) (co r) k=co r k:=by
  rw[gb,fH (m:=1) (by omega) fun j h1 _=>by rw[show co [1] j=0 from bh (by simpa using h1),Int.zero_mul]];simp[sm,cF]
 rw[this]
theorem Div.in2{b:Int}{p m q r:List Int}(h:Div b p m q r):In2 b p m r:=by
 refine⟨[1],q.map (-1 * ·),fun k=>?_⟩;have e1:cv (co [1]) (co p) k=co p k:=by
  rw[gb,fH (m:=1) (by omega) fun j h1 _=>by rw[show co [1] j=0 from bh (by simpa using h1),Int.zero_mul]];simp[sm,cF]
 have e2:co (q.map (-1 * ·))=fun i=>-1*co q i:=by funext i;rw[tW (by simp)]
 rw[e1,e2,fu];have:=aQ (h.eq k) (rfl:tk b (-1*cv (co q) (co m) k)=tk b (-1*cv (co q) (co m) k));rw[<-this];congr 1;omega
structure Gcd(b:Int)(p q g:List Int):Prop where
 py:Py b g
 mon:Mon g
 sum:In2 b p q g
 one:In2 b g [] p
 two:In2 b g [] q
theorem In2.dv{b:Int}{g p:List Int}(h:In2 b g [] p):∃u,∀k,tk b (co p k)=tk b (cv (co u) (co g) k):=by
 obtain⟨u,v,e⟩:=h;exact⟨u,fun k=>by rw[e,eV (g:=co []) fun i _=> .inr (dB _),Int.add_zero]⟩
end Pm
namespace Pm
open Rm
theorem tD{p:List Int}(h:p≠[]):p=p.dropLast++[co p (p.length-1)]:=by
 have hp:0<p.length:=List.length_pos_iff.mpr h
 conv=>lhs;rw[<-List.dropLast_concat_getLast h]
 congr 2;rw[qZ (by omega),List.getLast_eq_getElem]
theorem ig{p:List Int}(h:p≠[])(h0:co p (p.length-1)≠0):trim p=p:=by
 have e:=tD h;rw[e,rZ _ h0]
theorem uQ{p:List Int}(h:p≠[])(ht:trim p=p):co p (p.length-1)≠0:=by
 intro z;have e:=tD h;rw[z]at e;have e2:trim p=trim p.dropLast:=by
  conv=>lhs;rw[e]
  exact vL _
 have:=cB p.dropLast;rw[<-e2,ht,List.length_dropLast]at this;have hp:0<p.length:=List.length_pos_iff.mpr h;omega
structure u6(b:Int)(p m:List Int):Prop where
 py:Py b m
 len:m.length=p.length
 mon:p≠[]->Mon m
 to:∃c,∀k,tk b (co m k)=tk b (c*co p k)
 of:∃c,∀k,tk b (co p k)=tk b (c*co m k)
theorem In2.scale{b:Int}{p m:List Int}(h:∃c,∀k,tk b (co m k)=tk b (c*co p k))(q:List Int):In2 b p q m:=by
 obtain⟨c,e⟩:=h;refine⟨[c],[],fun k=>?_⟩;rw[eV (f:=co []) fun i _=> .inl (dB _),Int.add_zero,e,gb,fH (m:=1) (by omega) fun j h1 _=>by rw[show co [c] j=0 from bh (by simpa using h1),Int.zero_mul]];simp[sm,cF]
theorem u6.nil(b:Int):u6 b [] []:=⟨Py.nil b,rfl,fun h=>absurd rfl h,⟨0,fun k=>by rw[dB,Int.zero_mul]⟩,⟨0,fun k=>by rw[dB,Int.zero_mul]⟩⟩
def m5(P:Nat)(p:List Int):List Int:=p.map fun x=>x*(co p (p.length-1))^(P-2)%(P:Int)
structure Hg(b:Int)(p q g s:List Int):Prop where
 gy:Py b g
 sy:Py b s
 gm:g≠[]->Mon g
 sm_:s≠[]->Mon s
 some:s=[]->g≠[]
 gi:In2 b p q g
 si:In2 b p q s
 pi:In2 b g s p
 qi:In2 b g s q
theorem Hg.start{b:Int}{p q g s:List Int}(hg:u6 b p g)(hs:u6 b q s)(h:q=[]->p≠[]):Hg b p q g s:=by
 have lg:=hg.len;have ls:=hs.len;have pn:g≠[]->p≠[]:=fun z e=>z (List.eq_nil_of_length_eq_zero (by rw[lg,e];rfl));have qn:s≠[]->q≠[]:=fun z e=>z (List.eq_nil_of_length_eq_zero (by rw[ls,e];rfl));refine⟨hg.py,hs.py,fun z=>hg.mon (pn z),fun z=>hs.mon (qn z),fun z e=>?_,In2.scale hg.to q,(In2.scale hs.to p).swap,In2.scale hg.of s,(In2.scale hs.of g).swap⟩;have q0:q=[]:=List.eq_nil_of_length_eq_zero (by rw[<-ls,z];rfl);exact h q0 (List.eq_nil_of_length_eq_zero (by rw[<-lg,e];rfl))
theorem Hg.step{b:Int}{p q g s o l m:List Int}(h:Hg b p q g s)(hs:s≠[])(d:Div b g s o l)(hm:u6 b l m):Hg b p q s m:=by
 have lm:=hm.len;have ln:m≠[]->l≠[]:=fun z e=>z (List.eq_nil_of_length_eq_zero (by rw[lm,e];rfl));have li:In2 b p q l:=h.gi.trans h.si d.in2;have gs:In2 b s m g:=(In2.left b s m).trans (In2.scale hm.of s).swap d.in1;refine⟨h.sy,hm.py,h.sm_,fun z=>hm.mon (ln z),fun _=>hs,h.si,li.trans li (In2.scale hm.to l),?_,?_⟩
 ·exact gs.trans (In2.left b s m) h.pi
 ·exact gs.trans (In2.left b s m) h.qi
theorem Hg.stop{b:Int}{p q g s:List Int}(h:Hg b p q g s)(hs:s=[]):Gcd b p q g:=by
 subst hs;exact⟨h.gy,h.gm (h.some rfl),h.gi,h.pi,h.qi⟩
end Pm
namespace Pm
open Rm
theorem wL{p:List Int}{k:Nat}(h:co p k≠0):k<p.length:=by
 by_cases c:k<p.length
 ·exact c
 ·exact absurd (bh (by omega)) h
theorem dz(b:Int)(c:List Int):Mon (aK b c):=⟨by rw[aY];omega,by
 rw[aY,aK,bW,aM,if_neg (by omega),show c.length+1-1-c.length=0 by omega];rfl⟩
theorem dY(b:Int)(p:List Int):(gk b p).length=p.length-1:=by rw[gk,aM]
theorem nH{b:Int}{w:List Int}(hw:∀k,tk b (co w k)=co w k)(hm:Mon w):aK b (gk b w)=w:=by
 have hp:=hm.pos;refine nM (by rw[aY,dY];omega) fun k=>?_;rw[aK,bW,aM,dY];by_cases h:k<w.length-1
 ·rw[if_pos h,bI,if_pos h,gk,bI,if_pos (by omega),sZ,show w.length-1-1-(w.length-1-1-k)=k by omega,hw]
 ·rw[if_neg h];by_cases c:k=w.length-1
  ·rw[c,Nat.sub_self,hm.one];rfl
  ·rw[bh (p:=w) (by omega),bh];simp;omega
theorem Dk{b:Int}{rule:List Int}{a:Nat->Int}(n:Nat):tk b (ks (aK b rule) a n)=tk b (a (n+rule.length)-S rule a (n+rule.length) rule.length):=by
 unfold ks;rw[aY,sm];have e1:co (aK b rule) rule.length=1:=by
  rw[aK,bW,aM,if_neg (by omega),Nat.sub_self];rfl
 have e2:tk b (sm rule.length fun k=>co (aK b rule) k*a (n+k))=tk b (sm rule.length fun k=>-1*(co rule (rule.length-1-k)*a (n+k))):=jd fun k hk=>by
  rw[aK,bW,aM,if_pos hk,bI,if_pos hk,dw,Int.zero_sub,Int.neg_mul,Int.neg_one_mul]
 have e3:S rule a (n+rule.length) rule.length=sm rule.length fun k=>co rule (rule.length-1-k)*a (n+k):=by
  rw[zY];have rev:∀(m:Nat) (f:Nat->Int),sm m f=sm m fun k=>f (m-1-k):=by
   intro m;induction m with
   |zero=>intro f;rfl
   |succ m ih=>
    intro f;rw[cN,sm,ih fun i=>f (i+1),Int.add_comm];have:m+1-1-m=0:=by omega
    rw[this];congr 1;exact aA fun k hk=>by rw[show m-1-k+1=m+1-1-k by omega]
  rw[rev];exact aA fun k hk=>by rw[show n+rule.length-1-(rule.length-1-k)=n+k by omega]
 rw[e1,Int.one_mul,<-bU,e2,bU,bw,<-e3];congr 1;omega
theorem Kp.rec{b:Int}{rule:List Int}{a:Nat->Int}(h:Kp b (Pm.aK b rule) a):∀n,rule.length<=n->tk b (a n)=tk b (S rule a n rule.length):=fun n hn=>by
 have:=h (n-rule.length);rw[Dk,show n-rule.length+rule.length=n by omega]at this;exact dh.mp this
theorem E3{b:Int}{w:List Int}{a:Nat->Int}(hw:∀k,tk b (co w k)=co w k)(hm:Mon w)(hk:Kp b w a)(ha:∀n,tk b (a n)=a n){starts:List Int}(hl:starts.length=w.length-1)(hs:∀i,i<starts.length->starts.getD i 0=a i)(n:Nat):
  at_ b (gk b w) starts n=a n:=by
 have lr:=dY b w;rw[<-nH hw hm]at hk;refine lX (by omega) (g:=a) (fun i hi=>(hs i hi).symm) (fun i hi=>?_) n;rw[<-ha i];exact hk.rec i (by omega)
end Pm
namespace Dm
open Pm
def sg(m:Nat):Int:=if m%2=0 then 1 else -1
theorem pH(m:Nat):sg (m+1)=-sg m:=by
 unfold sg;by_cases h:m%2=0
 ·rw[if_pos h,if_neg (by omega)]
 ·rw[if_neg h,if_pos (by omega)];rfl
theorem E6(m n:Nat):sg (m+n)=sg m*sg n:=by
 induction n with
 |zero=>simp[sg]
 |succ n ih=>rw[<-Nat.add_assoc,pH,pH,ih,Int.mul_neg]
theorem Nj(m:Nat):sg m*sg m=1:=by
 unfold sg;split<;>rfl
def sk(c k:Nat):Nat:=if k<c then k else k+1
theorem QZ(c k:Nat):sk c k≠c:=by unfold sk;split<;>omega
def det:Nat->(Nat->Nat->Int)->Int
 |0,_=>1
 |n+1,f=>sm (n+1) fun c=>sg (n+c)*f n c*det n fun i k=>f i (sk c k)
theorem bY:∀{n:Nat} {f g:Nat->Nat->Int},(∀i k,i<n->k<n->f i k=g i k)->det n f=det n g
 |0,_,_,_=>rfl
 |n+1,f,g,h=>by
  unfold det;refine aA fun c hc=>?_;rw[h n c (by omega) hc,bY fun i k hi hk=>h i (sk c k) (by omega) (by unfold sk;split<;>omega)]
def jJ(f:Nat->Nat->Int)(j:Nat)(u:Nat->Int):Nat->Nat->Int:=fun i k=>if k=j then u i else f i k
def mj(f:Nat->Nat->Int)(j:Nat)(u:Nat->Int):Nat->Nat->Int:=fun i k=>if i=j then u k else f i k
theorem d9(f:Nat->Nat->Int)(j:Nat)(u:Nat->Int)(i:Nat):jJ f j u i j=u i:=if_pos rfl
theorem jB{f:Nat->Nat->Int}{j k:Nat}{u:Nat->Int}{i:Nat}(h:k≠j):jJ f j u i k=f i k:=if_neg h
theorem JH{c j:Nat}(h:c≠j):∃j',sk c j'=j/\(∀k,sk c k=j->k=j'):=by
 refine⟨if j<c then j else j-1,?_,fun k hk=>?_⟩
 ·unfold sk;split<;>(try split)<;>omega
 ·unfold sk at hk;split at hk<;>split<;>omega
theorem sG{n c j:Nat}(f:Nat->Nat->Int)(u:Nat->Int)(h:c≠j)(hc:c<n+1)(hj:j<n+1):∃j',j'<n/\∀u,(fun i k=>jJ f j u i (sk c k))=jJ (fun i k=>f i (sk c k)) j' u:=by
 obtain⟨j',e1,e2⟩:=JH h;refine⟨j',?_,fun u=>?_⟩
 ·unfold sk at e1;split at e1<;>omega
 ·funext i k
  unfold jJ;by_cases z:k=j'
  ·rw[if_pos z,if_pos (by rw[z,e1])]
  ·rw[if_neg z,if_neg fun w=>z (e2 k w)]
theorem gQ:∀{n:Nat} (f:Nat->Nat->Int) {j:Nat} (_:j<n) (a:Int) (u v:Nat->Int),det n (jJ f j fun i=>a*u i+v i)=a*det n (jJ f j u)+det n (jJ f j v)
 |0,_,_,h,_,_,_=>absurd h (Nat.not_lt_zero _)
 |n+1,f,j,hj,a,u,v=>by
  unfold det;rw[<-bw,<-cG];refine aA fun c hc=>?_;by_cases e:c=j
  ·subst e;have m:∀w,(fun i k=>jJ f c w i (sk c k))=fun i k=>f i (sk c k):=fun w=>by funext i k;exact jB (QZ c k)
   rw[m,m,m,d9,d9,d9];rw[Int.mul_add,Int.add_mul];congr 1;rw[show sg (n+c)*(a*u n)=a*(sg (n+c)*u n)from Int.mul_left_comm ..,Int.mul_assoc a]
  ·obtain⟨j',hj',m⟩:=sG f u e hc hj;rw[m,m,m,gQ _ hj',jB e,jB e,jB e,Int.mul_add];congr 1;exact Int.mul_left_comm ..
theorem kO:∀{n:Nat} {f:Nat->Nat->Int} {j:Nat},j+1<n->(∀i,i<n->f i j=f i (j+1))->det n f=0
 |0,_,_,h,_=>absurd h (Nat.not_lt_zero _)
 |n+1,f,j,hj,h=>by
  unfold det;have e:sm (n+1) (fun c=>sg (n+c)*f n c*det n fun i k=>f i (sk c k))=sm (n+1) (fun c=>(if c=j then sg (n+j)*f n j*det n (fun i k=>f i (sk j k))else 0)+(if c=j+1 then -(sg (n+j)*f n j*det n (fun i k=>f i (sk j k)))else 0)):=aA fun c hc=>by
   by_cases e1:c=j
   ·rw[if_pos e1,if_neg (by omega),e1,Int.add_zero]
   ·by_cases e2:c=j+1
    ·rw[if_neg e1,if_pos e2,e2,Int.zero_add,<-h n (by omega),show n+(j+1)=n+j+1 by omega,pH];have:det n (fun i k=>f i (sk (j+1) k))=det n (fun i k=>f i (sk j k)):=bY fun i k hi hk=>by
      by_cases z:k=j
      ·subst z;rw[show sk (k+1) k=k by unfold sk;rw[if_pos (by omega)],show sk k k=k+1 by unfold sk;rw[if_neg (by omega)],h i (by omega)]
      ·rw[show sk (j+1) k=sk j k by unfold sk;split<;>split<;>omega]
     rw[this,Int.neg_mul,Int.neg_mul]
    ·rw[if_neg e1,if_neg e2,Int.add_zero];have:det n (fun i k=>f i (sk c k))=0:=by
      by_cases z:j+1<c
      ·exact kO (j:=j) (by omega) fun i hi=>by rw[show sk c j=j by unfold sk;rw[if_pos (by omega)],show sk c (j+1)=j+1 by unfold sk;rw[if_pos (by omega)]];exact h i (by omega)
      ·exact kO (j:=j-1) (by omega) fun i hi=>by rw[show sk c (j-1)=j by unfold sk;rw[if_neg (by omega)];omega,show sk c (j-1+1)=j+1 by unfold sk;rw[if_neg (by omega)];omega];exact h i (by omega)
     rw[this,Int.mul_zero]
  rw[e,cG];have s1:∀(x:Int) (t N:Nat),t<N->sm N (fun c=>if c=t then x else 0)=x:=fun x t N ht=>by rw[cg,if_pos ht]
  rw[s1 _ _ _ (by omega),s1 _ _ _ hj];omega
def sw(j i:Nat):Nat:=if i=j then j+1 else if i=j+1 then j else i
theorem nU(f:Nat->Nat->Int)(j:Nat):jJ f j (fun i=>f i j)=f:=by
 funext i k;unfold jJ;split
 ·rename_i h;rw[h]
 ·rfl
theorem xM{n:Nat}(f:Nat->Nat->Int){j:Nat}(hj:j+1<n):det n (fun i k=>f i (sw j k))=-det n f:=by
 let D:=fun(x y:Nat->Int)=>det n (jJ (jJ f j x) (j+1) y)
 have z:∀x,D x x=0:=fun x=>kO hj fun i _=>by
  rw[jB (by omega),d9,d9]
 have l2:∀x y y',D x (fun i=>1*y i+y' i)=1*D x y+D x y':=fun x y y'=>gQ _ hj 1 y y';have cm:∀x y,jJ (jJ f j x) (j+1) y=jJ (jJ f (j+1) y) j x:=fun x y=>by
  funext i k;unfold jJ;split<;>(try split)<;>first|rfl|omega
 have l1:∀x x' y,D (fun i=>1*x i+x' i) y=1*D x y+D x' y:=fun x x' y=>by
  show det n _=1*det n _+det n _;rw[cm,cm,cm];exact gQ _ (by omega) 1 x x'
 have a:=z fun i=>1*f i j+f i (j+1);rw[l1,l2,l2,z,z]at a;have e1:D (fun i=>f i j) (fun i=>f i (j+1))=det n f:=by
  show det n _=_;rw[nU f j,nU]
 have e2:D (fun i=>f i (j+1)) (fun i=>f i j)=det n (fun i k=>f i (sw j k)):=bY fun i k _ _=>by
  unfold jJ sw;by_cases c1:k=j+1
  ·rw[if_pos c1,if_neg (by omega),if_pos c1]
  ·rw[if_neg c1];by_cases c2:k=j
   ·rw[if_pos c2,if_pos c2]
   ·rw[if_neg c2,if_neg c2,if_neg c1]
 rw[e1,e2]at a;omega
def mv(h m k:Nat):Nat:=if k<h then k else if k<m then k+1 else if k=m then h else k
theorem CG{h m:Nat}(hm:h<m)(k:Nat):mv h m k=sw h (mv (h+1) m k):=by
 unfold mv sw
 repeat' split
 all_goals omega
theorem mJ{n:Nat}:∀(d:Nat) (f:Nat->Nat->Int) {h m:Nat},m=h+d->m<n->det n (fun i k=>f i (mv h m k))=sg d*det n f
 |0,f,h,m,e,hm=>by
  have:det n (fun i k=>f i (mv h m k))=det n f:=bY fun i k _ _=>by
   rw[show mv h m k=k by unfold mv;split<;>(try split)<;>(try split)<;>omega]
  rw[this];simp[sg]
 |d+1,f,h,m,e,hm=>by
  have e1:(fun i k=>f i (mv h m k))=fun i k=>(fun i k=>f i (sw h k)) i (mv (h+1) m k):=by
   funext i k;rw[CG (by omega)]
  rw[e1,mJ d (fun i k=>f i (sw h k)) (by omega) hm,xM f (by omega),pH,Int.mul_neg,Int.neg_mul]
theorem nO{n:Nat}{f:Nat->Nat->Int}{a b:Nat}(hab:a<b)(hb:b<n)(h:∀i,i<n->f i a=f i b):det n f=0:=by
 have e:=mJ (n:=n) (b-1-a) f (h:=a) (m:=b-1) (by omega) (by omega);have z:det n (fun i k=>f i (mv a (b-1) k))=0:=kO (j:=b-1) (by omega) fun i hi=>by
  rw[show mv a (b-1) (b-1)=a by unfold mv;rw[if_neg (by omega),if_neg (by omega),if_pos rfl],show mv a (b-1) (b-1+1)=b by unfold mv;rw[if_neg (by omega),if_neg (by omega),if_neg (by omega)];omega];exact h i hi
 rw[z]at e;have s:=Nj (b-1-a);have:sg (b-1-a)*(sg (b-1-a)*det n f)=det n f:=by rw[<-Int.mul_assoc,s,Int.one_mul]
 rw[<-e,Int.mul_zero]at this;exact this.symm
theorem jj:∀{n:Nat} (f:Nat->Nat->Int) {j:Nat} (_:j<n) (a:Int) (u v:Nat->Int),det n (mj f j fun i=>a*u i+v i)=a*det n (mj f j u)+det n (mj f j v)
 |0,_,_,h,_,_,_=>absurd h (Nat.not_lt_zero _)
 |n+1,f,j,hj,a,u,v=>by
  unfold det;rw[<-bw,<-cG];refine aA fun c hc=>?_;by_cases e:j=n
  ·subst e;have m:∀w,det j (fun i k=>mj f j w i (sk c k))=det j (fun i k=>f i (sk c k)):=fun w=>bY fun i k hi _=>if_neg (by omega);rw[m,m,m];show sg (j+c)*(if j=j then _ else _)*_=a*(sg (j+c)*(if j=j then _ else _)*_)+sg (j+c)*(if j=j then _ else _)*_;rw[if_pos rfl,if_pos rfl,if_pos rfl,Int.mul_add,Int.add_mul];congr 1;rw[show sg (j+c)*(a*u c)=a*(sg (j+c)*u c)from Int.mul_left_comm ..,Int.mul_assoc a]
  ·have m:∀w:Nat->Int,(fun i k=>mj f j w i (sk c k))=mj (fun i k=>f i (sk c k)) j fun k=>w (sk c k):=fun w=>by funext i k;rfl
   have r:∀w:Nat->Int,mj f j w n c=f n c:=fun w=>if_neg (fun z=>e z.symm);rw[m,m,m,r,r,r,jj (fun i k=>f i (sk c k)) (by omega) a (fun k=>u (sk c k)) (fun k=>v (sk c k)),Int.mul_add];congr 1;exact Int.mul_left_comm ..
theorem tri(T:Nat->Nat->Int):∀N:Nat,sm (N+1) (fun c=>sm N (fun c'=>T c c'))=sm (N+1) (fun b=>sm b (fun a=>T b a+T a (b-1)))
 |0=>by simp[sm]
 |N+1=>by
  have ih:=tri T N;rw[sm,show(fun c=>sm (N+1) fun c'=>T c c')=fun c=>sm N (fun c'=>T c c')+T c N from rfl,cG,ih]
  conv=>rhs;rw[sm]
  rw[cG,Nat.add_sub_cancel];have e:(fun c'=>T (N+1) c')=T (N+1):=rfl;rw[e];omega
theorem Qe{a b:Nat}(h:a<b)(k:Nat):sk b (sk a k)=sk a (sk (b-1) k):=by
 unfold sk
 repeat' split
 all_goals omega
theorem oG:∀{n:Nat} {f:Nat->Nat->Int} {j:Nat},j+1<n->(∀k,k<n->f j k=f (j+1) k)->det n f=0
 |0,_,_,h,_=>absurd h (Nat.not_lt_zero _)
 |1,_,_,h,_=>absurd h (by omega)
 |n+2,f,j,hj,h=>by
  by_cases e:j=n
  ·subst e;have e1:det (j+2) f=sm (j+1+1) fun c=>sm (j+1) fun c'=>sg (j+1+c)*f (j+1) c*(sg (j+c')*f j (sk c c')*det j fun i k=>f i (sk c (sk c' k))):=by
    show sm (j+1+1) _=_;refine aA fun c _=>?_;rw[show det (j+1) (fun i k=>f i (sk c k))=sm (j+1) fun c'=>sg (j+c')*f j (sk c c')*det j fun i k=>f i (sk c (sk c' k))from rfl,<-bw]
   rw[e1,tri];refine fY fun b hb=>fY fun a ha=>?_;have f1:sk b a=a:=by unfold sk;rw[if_pos ha]
   have f2:sk a (b-1)=b:=by unfold sk;rw[if_neg (by omega)];omega
   have f3:(fun i k=>f i (sk b (sk a k)))=fun i k=>f i (sk a (sk (b-1) k)):=by funext i k;rw[Qe ha]
   rw[f1,f2,f3,<-h b (by omega),<-h a (by omega)];have s1:sg (j+1+b)*sg (j+a)=-(sg (j+1+a)*sg (j+(b-1))):=by
    rw[<-E6,<-E6,<-pH];unfold sg;rw[show(j+1+b+(j+a))%2=(j+1+a+(j+(b-1))+1)%2 by omega]
   generalize det j (fun i k=>f i (sk a (sk (b-1) k)))=M;have t1:sg (j+1+b)*f j b*(sg (j+a)*f j a*M)=(sg (j+1+b)*sg (j+a))*(f j b*f j a*M):=by
    simp only[Int.mul_assoc,Int.mul_left_comm]
   have t2:sg (j+1+a)*f j a*(sg (j+(b-1))*f j b*M)=(sg (j+1+a)*sg (j+(b-1)))*(f j b*f j a*M):=by
    simp only[Int.mul_assoc,Int.mul_left_comm]
   rw[t1,t2,s1,Int.neg_mul];omega
  ·unfold det;refine fY fun c hc=>?_;rw[oG (n:=n+1) (j:=j) (by omega) fun k hk=>h (sk c k) (by unfold sk;split<;>omega),Int.mul_zero]
theorem nT(f:Nat->Nat->Int)(j:Nat):mj f j (f j)=f:=by
 funext i k;unfold mj;split
 ·rename_i h;rw[h]
 ·rfl
theorem xO{n:Nat}(f:Nat->Nat->Int){j:Nat}(hj:j+1<n):det n (fun i k=>f (sw j i) k)=-det n f:=by
 let D:=fun(x y:Nat->Int)=>det n (mj (mj f j x) (j+1) y)
 have z:∀x,D x x=0:=fun x=>oG hj fun k _=>by
  show(if j=j+1 then x k else if j=j then x k else f j k)=(if j+1=j+1 then x k else _);rw[if_neg (by omega),if_pos rfl,if_pos rfl]
 have l2:∀x y y',D x (fun i=>1*y i+y' i)=1*D x y+D x y':=fun x y y'=>jj _ hj 1 y y';have cm:∀x y,mj (mj f j x) (j+1) y=mj (mj f (j+1) y) j x:=fun x y=>by
  funext i k;unfold mj;split<;>(try split)<;>first|rfl|omega
 have l1:∀x x' y,D (fun i=>1*x i+x' i) y=1*D x y+D x' y:=fun x x' y=>by
  show det n _=1*det n _+det n _;rw[cm,cm,cm];exact jj _ (by omega) 1 x x'
 have a:=z fun i=>1*f j i+f (j+1) i;rw[l1,l2,l2,z,z]at a;have e1:D (fun i=>f j i) (fun i=>f (j+1) i)=det n f:=by
  show det n _=_;rw[nT f j,nT]
 have e2:D (fun i=>f (j+1) i) (fun i=>f j i)=det n (fun i k=>f (sw j i) k):=bY fun i k _ _=>by
  unfold mj sw;by_cases c1:i=j+1
  ·rw[if_pos c1,if_neg (by omega),if_pos c1]
  ·rw[if_neg c1];by_cases c2:i=j
   ·rw[if_pos c2,if_pos c2]
   ·rw[if_neg c2,if_neg c2,if_neg c1]
 rw[e1,e2]at a;omega
theorem qC{n:Nat}:∀(d:Nat) (f:Nat->Nat->Int) {h m:Nat},m=h+d->m<n->det n (fun i k=>f (mv h m i) k)=sg d*det n f
 |0,f,h,m,e,hm=>by
  have:det n (fun i k=>f (mv h m i) k)=det n f:=bY fun i k _ _=>by
   rw[show mv h m i=i by unfold mv;split<;>(try split)<;>(try split)<;>omega]
  rw[this];simp[sg]
 |d+1,f,h,m,e,hm=>by
  have e1:(fun i k=>f (mv h m i) k)=fun i k=>(fun i k=>f (sw h i) k) (mv (h+1) m i) k:=by
   funext i k;rw[CG (by omega)]
  rw[e1,qC d (fun i k=>f (sw h i) k) (by omega) hm,xO f (by omega),pH,Int.mul_neg,Int.neg_mul]
theorem vo{n:Nat}{f:Nat->Nat->Int}{a b:Nat}(hab:a<b)(hb:b<n)(h:∀k,k<n->f a k=f b k):det n f=0:=by
 have e:=qC (n:=n) (b-1-a) f (h:=a) (m:=b-1) (by omega) (by omega);have z:det n (fun i k=>f (mv a (b-1) i) k)=0:=oG (j:=b-1) (by omega) fun k hk=>by
  rw[show mv a (b-1) (b-1)=a by unfold mv;rw[if_neg (by omega),if_neg (by omega),if_pos rfl],show mv a (b-1) (b-1+1)=b by unfold mv;rw[if_neg (by omega),if_neg (by omega),if_neg (by omega)];omega];exact h k hk
 rw[z]at e;have s:=Nj (b-1-a);have:sg (b-1-a)*(sg (b-1-a)*det n f)=det n f:=by rw[<-Int.mul_assoc,s,Int.one_mul]
 rw[<-e,Int.mul_zero]at this;exact this.symm
theorem wV{n:Nat}(f:Nat->Nat->Int){a b:Nat}(hab:a<b)(hb:b<n):det n (mj (mj f a (f b)) b fun k=>-1*f a k+0)=det n f:=by
 let D:=fun(x y:Nat->Int)=>det n (mj (mj f a x) b y)
 have z:∀x,D x x=0:=fun x=>vo hab hb fun k _=>by
  show(if a=b then x k else if a=a then x k else f a k)=(if b=b then x k else _);rw[if_neg (by omega),if_pos rfl,if_pos rfl]
 have l2:∀(c:Int) x y y',D x (fun i=>c*y i+y' i)=c*D x y+D x y':=fun c x y y'=>jj _ hb c y y';have cm:∀x y,mj (mj f a x) b y=mj (mj f b y) a x:=fun x y=>by
  funext i k;unfold mj;split<;>(try split)<;>first|rfl|omega
 have l1:∀x x' y,D (fun i=>1*x i+x' i) y=1*D x y+D x' y:=fun x x' y=>by
  show det n _=1*det n _+det n _;rw[cm,cm,cm];exact jj _ (by omega) 1 x x'
 have q:=z fun i=>1*f a i+f b i;rw[l1,l2,l2,z,z]at q;have e1:D (f a) (f b)=det n f:=by
  show det n _=_;rw[nT f a,nT]
 have e3:D (f b) (fun k=>-1*f a k+0)=-1*D (f b) (f a)+D (f b) (fun _=>0):=l2 (-1) (f b) (f a) (fun _=>0);have e4:D (f b) (fun _=>0)=0:=by
  have:=l2 0 (f b) (fun _=>0) (fun _=>0);have e5:=l2 (-1) (f b) (fun _=>0) (fun _=>0);simp only[Int.mul_zero,Int.add_zero]at e5;omega
 show D (f b) (fun k=>-1*f a k+0)=_;rw[e3,e4];have e6:D (fun i=>f a i) (fun i=>f b i)=det n f:=e1;have e7:D (fun i=>f b i) (fun i=>f a i)=D (f b) (f a):=rfl;rw[e6,e7]at q;omega
end Dm
namespace Dm
open Pm
theorem lY{n:Nat}(f:Nat->Nat->Int){j:Nat}(hj:j<n):det n (jJ f j fun _=>0)=0:=by
 have e:=gQ f hj (-1) (fun _=>0) (fun _=>0);simp only[Int.mul_zero,Int.add_zero]at e;omega
theorem pq{n:Nat}(f:Nat->Nat->Int){j:Nat}(hj:j<n)(x:Nat->Int)(u:Nat->Nat->Int):∀m:Nat,det n (jJ f j fun i=>sm m fun h=>x h*u h i)=sm m fun h=>x h*det n (jJ f j (u h))
 |0=>lY f hj
 |m+1=>by
  rw[sm,<-pq f hj x u m];have e:=gQ f hj (x m) (u m) (fun i=>sm m fun h=>x h*u h i);rw[Int.add_comm,<-e];congr 2
  funext i
  rw[sm,Int.add_comm]
theorem Ke{n:Nat}{f:Nat->Nat->Int}{x:Nat->Int}(h:∀i,i<n->sm n (fun k=>f i k*x k)=0){j:Nat}(hj:j<n):x j*det n f=0:=by
 have e1:det n (jJ f j fun i=>sm n fun k=>x k*f i k)=0:=by
  rw[<-lY f hj];refine bY fun i k hi _=>?_;unfold jJ;split
  ·rw[<-h i hi];exact aA fun k _=>Int.mul_comm ..
  ·rfl
 rw[pq f hj x (fun k i=>f i k)]at e1;have e2:sm n (fun k=>x k*det n (jJ f j fun i=>f i k))=sm n (fun k=>if k=j then x j*det n f else 0):=aA fun k hk=>by
  by_cases c:k=j
  ·rw[if_pos c,c,nU]
  ·rw[if_neg c];have z:det n (jJ f j fun i=>f i k)=0:=by
    rcases Nat.lt_or_gt_of_ne c with l|l
    ·exact nO l hj fun i _=>by rw[d9,jB (by omega)]
    ·exact nO l hk fun i _=>by rw[d9,jB (by omega)]
   rw[z,Int.mul_zero]
 rw[e2,cg,if_pos hj]at e1;exact e1
def Bk(A:Nat->Nat->Int)(hd:Nat->Nat):Nat->Nat->Int:=fun i h=>A i (hd h)
def dt(A:Nat->Nat->Int)(hd:Nat->Nat)(r:Nat):Int:=det r (Bk A hd)
def cr(A:Nat->Nat->Int)(hd:Nat->Nat)(r h k:Nat):Int:=det r (jJ (Bk A hd) h fun i=>A i k)
def bd(A:Nat->Nat->Int)(hd:Nat->Nat)(r i k:Nat):Int:=det (r+1) fun i' k'=>A (if i'=r then i else i') (if k'=r then k else hd k')
theorem rP(A:Nat->Nat->Int)(hd:Nat->Nat)(r i k:Nat):bd A hd r i k=A i k*dt A hd r-sm r fun h=>A i (hd h)*cr A hd r h k:=by
 unfold bd;rw[det,sm];have e1:sg (r+r)*A (if r=r then i else r) (if r=r then k else hd r)*det r (fun i' k'=>A (if i'=r then i else i') (if sk r k'=r then k else hd (sk r k')))=A i k*dt A hd r:=by
  rw[if_pos rfl,if_pos rfl,show sg (r+r)=1 by unfold sg;rw[if_pos (by omega)],Int.one_mul];congr 1;exact bY fun i' k' hi hk=>by
   rw[if_neg (by omega),show sk r k'=k' by unfold sk;rw[if_pos hk],if_neg (by omega)];rfl
 rw[e1];have e2:sm r (fun c=>sg (r+c)*A (if r=r then i else r) (if c=r then k else hd c)*det r (fun i' k'=>A (if i'=r then i else i') (if sk c k'=r then k else hd (sk c k'))))=sm r fun h=>-1*(A i (hd h)*cr A hd r h k):=aA fun c hc=>by
  rw[if_pos rfl,if_neg (by omega)];have m:det r (fun i' k'=>A (if i'=r then i else i') (if sk c k'=r then k else hd (sk c k')))=sg (r-1-c)*cr A hd r c k:=by
   rw[cr,<-mJ (n:=r) (r-1-c) (jJ (Bk A hd) c fun i=>A i k) (h:=c) (m:=r-1) (by omega) (by omega)];refine bY fun i' k' hi hk=>?_;rw[if_neg (by omega)];unfold sk mv jJ Bk;by_cases c1:k'<c
   ·rw[if_pos c1,if_pos c1,if_neg (by omega),if_neg (by omega)]
   ·rw[if_neg c1,if_neg c1];by_cases c2:k'<r-1
    ·rw[if_pos c2,if_neg (by omega),if_neg (by omega)]
    ·rw[if_neg c2,if_pos (show k'+1=r by omega),if_pos (show k'=r-1 by omega),if_pos rfl]
  rw[m];have s:sg (r+c)*sg (r-1-c)=-1:=by
   rw[<-E6];unfold sg;rw[if_neg (by omega)]
  have t:sg (r+c)*A i (hd c)*(sg (r-1-c)*cr A hd r c k)=(sg (r+c)*sg (r-1-c))*(A i (hd c)*cr A hd r c k):=by simp only[Int.mul_assoc,Int.mul_left_comm]
  rw[t,s]
 rw[e2,bw];omega
theorem Dg{A:Nat->Nat->Int}{hd:Nat->Nat}{r i:Nat}(k:Nat)(h:i<r):bd A hd r i k=0:=vo h (Nat.lt_succ_self r) fun k' _=>by
 rw[if_neg (by omega),if_pos rfl]
theorem Ib{A:Nat->Nat->Int}{hd:Nat->Nat}{r i:Nat}(k:Nat)(h:i<r):sm r (fun h=>A i (hd h)*cr A hd r h k)=A i k*dt A hd r:=by
 have:=rP A hd r i k;rw[Dg k h]at this;omega
theorem D3(A:Nat->Nat->Int)(hd:Nat->Nat)(r i k:Nat):sm r (fun h=>A i (hd h)*cr A hd r h k)=A i k*dt A hd r-bd A hd r i k:=by
 have:=rP A hd r i k;omega
def more(hd:Nat->Nat)(r c:Nat):Nat->Nat:=fun h=>if h=r then c else hd h
theorem uR(A:Nat->Nat->Int)(hd:Nat->Nat)(r c:Nat):dt A (more hd r c) (r+1)=bd A hd r r c:=bY fun i k _ _=>by
 unfold Bk more;by_cases h:i=r
 ·rw[if_pos h,h]
 ·rw[if_neg h]
theorem Ji(A:Nat->Nat->Int)(hd:Nat->Nat)(r c k:Nat):cr A (more hd r c) (r+1) r k=bd A hd r r k:=bY fun i k' _ _=>by
 unfold jJ Bk more;by_cases h:i=r
 ·rw[if_pos h,h];by_cases h2:k'=r
  ·rw[if_pos h2,if_pos h2]
  ·rw[if_neg h2,if_neg h2,if_neg h2]
 ·rw[if_neg h];by_cases h2:k'=r
  ·rw[if_pos h2,if_pos h2]
  ·rw[if_neg h2,if_neg h2,if_neg h2]
theorem zu(A:Nat->Nat->Int)(hd:Nat->Nat)(r c i k:Nat):
  sm r (fun h=>A i (hd h)*(bd A hd r r c*cr A hd r h k-cr A hd r h c*bd A hd r r k))+A i c*(dt A hd r*bd A hd r r k)=bd A hd r r c*(A i k*dt A hd r-bd A hd r i k)+bd A hd r r k*bd A hd r i c:=by
 have e1:sm r (fun h=>A i (hd h)*(bd A hd r r c*cr A hd r h k-cr A hd r h c*bd A hd r r k))=bd A hd r r c*sm r (fun h=>A i (hd h)*cr A hd r h k) + -(bd A hd r r k)*sm r (fun h=>A i (hd h)*cr A hd r h c):=by
  rw[<-bw,<-bw,<-cG];refine aA fun h _=>?_;rw[Int.mul_sub,Int.neg_mul,Int.mul_left_comm,<-Int.mul_assoc (A i (hd h)),Int.mul_comm (A i (hd h)*cr A hd r h c)];omega
 rw[e1,D3,D3,Int.mul_sub (-bd A hd r r k),Int.neg_mul,Int.neg_mul];have e2:A i c*(dt A hd r*bd A hd r r k)=bd A hd r r k*(A i c*dt A hd r):=by simp only[Int.mul_assoc,Int.mul_left_comm,Int.mul_comm]
 rw[e2];omega
theorem Eu{A:Nat->Nat->Int}{hd:Nat->Nat}{r c:Nat}(hp:bd A hd r r c≠0){h:Nat}(hh:h<r)(k:Nat):dt A hd r*cr A (more hd r c) (r+1) h k=bd A hd r r c*cr A hd r h k-cr A hd r h c*bd A hd r r k:=by
 let x:=fun h=>dt A hd r*cr A (more hd r c) (r+1) h k-(if h=r then dt A hd r*bd A hd r r k else bd A hd r r c*cr A hd r h k-cr A hd r h c*bd A hd r r k)
 have key:=Ke (n:=r+1) (f:=Bk A (more hd r c)) (x:=x) (fun i hi=>?_) (j:=h) (by omega)
 ·have e:det (r+1) (Bk A (more hd r c))=bd A hd r r c:=uR A hd r c;rw[e]at key;rcases Int.mul_eq_zero.mp key with z|z
  ·have z':dt A hd r*cr A (more hd r c) (r+1) h k-(if h=r then dt A hd r*bd A hd r r k else bd A hd r r c*cr A hd r h k-cr A hd r h c*bd A hd r r k)=0:=z;rw[if_neg (by omega)]at z';omega
  ·exact absurd z hp
 ·have e1:sm (r+1) (fun h=>Bk A (more hd r c) i h*x h)=dt A hd r*sm (r+1) (fun h=>A i (more hd r c h)*cr A (more hd r c) (r+1) h k) + -1*sm (r+1) (fun h=>A i (more hd r c h)*(if h=r then dt A hd r*bd A hd r r k else bd A hd r r c*cr A hd r h k-cr A hd r h c*bd A hd r r k)):=by
   rw[<-bw,<-bw,<-cG];refine aA fun h _=>?_;show A i (more hd r c h)*(dt A hd r*cr A (more hd r c) (r+1) h k-_)=_;rw[Int.mul_sub,Int.mul_left_comm];omega
  rw[e1,Ib k hi,uR,sm,if_pos rfl,show more hd r c r=c from if_pos rfl];have e2:sm r (fun h=>A i (more hd r c h)*(if h=r then dt A hd r*bd A hd r r k else bd A hd r r c*cr A hd r h k-cr A hd r h c*bd A hd r r k))=sm r (fun h=>A i (hd h)*(bd A hd r r c*cr A hd r h k-cr A hd r h c*bd A hd r r k)):=aA fun h hh=>by
   rw[if_neg (by omega),show more hd r c h=hd h from if_neg (by omega)]
  rw[e2,zu];have e3:dt A hd r*(A i k*bd A hd r r c)=bd A hd r r c*(A i k*dt A hd r):=by simp only[Int.mul_assoc,Int.mul_left_comm,Int.mul_comm]
  rw[e3,Int.mul_sub];have e4:bd A hd r r c*bd A hd r i k=bd A hd r r k*bd A hd r i c:=by
   by_cases z:i<r
   ·rw[Dg k z,Dg c z,Int.mul_zero,Int.mul_zero]
   ·rw[show i=r by omega,Int.mul_comm]
  rw[e4];omega
theorem J6{A:Nat->Nat->Int}{hd:Nat->Nat}{r c:Nat}(hp:bd A hd r r c≠0)(i k:Nat):dt A hd r*bd A (more hd r c) (r+1) i k=bd A hd r r c*bd A hd r i k-bd A hd r i c*bd A hd r r k:=by
 rw[rP A (more hd r c) (r+1),uR,Int.mul_sub,<-bw,sm,Ji,show more hd r c r=c from if_pos rfl];have e2:sm r (fun h=>dt A hd r*(A i (more hd r c h)*cr A (more hd r c) (r+1) h k))=sm r (fun h=>A i (hd h)*(bd A hd r r c*cr A hd r h k-cr A hd r h c*bd A hd r r k)):=aA fun h hh=>by
  rw[Int.mul_left_comm,Eu hp hh,show more hd r c h=hd h from if_neg (by omega)]
 have e5:=zu A hd r c i k;rw[e2,show dt A hd r*(A i c*bd A hd r r k)=A i c*(dt A hd r*bd A hd r r k)from Int.mul_left_comm ..,e5,Int.mul_sub];have e3:dt A hd r*(A i k*bd A hd r r c)=bd A hd r r c*(A i k*dt A hd r):=by simp only[Int.mul_assoc,Int.mul_left_comm,Int.mul_comm]
 rw[e3,Int.mul_comm (bd A hd r i c)];omega
def En(A:Nat->Nat->Int)(hd:Nat->Nat)(r i k:Nat):Int:=if i<r then cr A hd r i k else bd A hd r i k
theorem JT{A:Nat->Nat->Int}{hd:Nat->Nat}{r c:Nat}(hp:En A hd r r c≠0){i:Nat}(hi:i≠r)(k:Nat):dt A hd r*En A (more hd r c) (r+1) i k=En A hd r r c*En A hd r i k-En A hd r i c*En A hd r r k:=by
 have er:∀k,En A hd r r k=bd A hd r r k:=fun k=>if_neg (by omega);rw[er]at hp⊢;rw[er];unfold En;by_cases h:i<r
 ·rw[if_pos (by omega),if_pos h,if_pos h];exact Eu hp h k
 ·rw[if_neg (by omega),if_neg h,if_neg h];exact J6 hp i k
theorem JN(A:Nat->Nat->Int)(hd:Nat->Nat)(r c:Nat):dt A (more hd r c) (r+1)=En A hd r r c:=by
 rw[uR];exact(if_neg (by omega)).symm
theorem J4(A:Nat->Nat->Int)(hd:Nat->Nat):dt A hd 0=1:=rfl
theorem LK(A:Nat->Nat->Int)(hd:Nat->Nat)(r i k:Nat):A i k*dt A hd r=sm r (fun h=>A i (hd h)*En A hd r h k)+(if i<r then 0 else En A hd r i k):=by
 have e:sm r (fun h=>A i (hd h)*En A hd r h k)=sm r (fun h=>A i (hd h)*cr A hd r h k):=aA fun h hh=>by
  unfold En;rw[if_pos hh]
 rw[e];by_cases c:i<r
 ·rw[if_pos c,Ib k c,Int.add_zero]
 ·rw[if_neg c,D3];unfold En;rw[if_neg c];omega
end Dm
namespace Dm
open Pm Rm
def Dom(b:Int):Prop:=∀x y,tk b x≠0->tk b (x*y)=0->tk b y=0
theorem Dom.zero:Dom 0:=fun x y hx h=>by
 rw[bf]at *;rcases Int.mul_eq_zero.mp h with z|z
 ·exact absurd z hx
 ·exact z
theorem dO{b x:Int}:tk b x=0↔∃e,x=b*e:=by
 unfold tk;split
 ·rename_i h
  constructor
  ·intro z;exact⟨0,by rw[z,Int.mul_zero]⟩
  ·rintro⟨e,he⟩;rw[he,h,Int.zero_mul]
 ·constructor
  ·intro z;exact⟨x/b,(Int.mul_ediv_cancel' (Int.dvd_of_emod_eq_zero z)).symm⟩
  ·rintro⟨e,he⟩;rw[he];exact Int.mul_emod_right b e
def turn(A:Nat->Nat->Int)(a c:Nat):Nat->Nat->Int:=mj (mj A a (A c)) c fun k=>-1*A a k+0
inductive Swp(n:Nat)(A0:Nat->Nat->Int):(Nat->Nat->Int)->Prop
 |refl:Swp n A0 A0
 |step {A:Nat->Nat->Int} {a c:Nat}:Swp n A0 A->a<c->c<n->Swp n A0 (turn A a c)
theorem Swp.det{n:Nat}{A0 A:Nat->Nat->Int}(h:Swp n A0 A):Dm.det n A=Dm.det n A0:=by
 induction h with
 |refl=>rfl
 |step _ h1 h2 ih=>rw[<-ih];exact wV _ h1 h2
theorem jm{A:Nat->Nat->Int}{a c i:Nat}(h1:i≠a)(h2:i≠c)(k:Nat):turn A a c i k=A i k:=by
 unfold turn mj;rw[if_neg h2,if_neg h1]
theorem uz{A:Nat->Nat->Int}{a c:Nat}(h:a≠c)(k:Nat):turn A a c a k=A c k:=by
 unfold turn mj;rw[if_neg h,if_pos rfl]
theorem iT(A:Nat->Nat->Int)(a c k:Nat):turn A a c c k=-A a k:=by
 unfold turn mj;rw[if_pos rfl];show -1*A a k+0=-A a k;omega
theorem Du{A:Nat->Nat->Int}{hd:Nat->Nat}{r a c:Nat}(ha:r<=a)(hc:r<=c):dt (turn A a c) hd r=dt A hd r:=bY fun i k hi _=>jm (by omega) (by omega) _
theorem CY{A:Nat->Nat->Int}{hd:Nat->Nat}{r a c:Nat}(ha:r<=a)(hc:r<=c)(h k:Nat):cr (turn A a c) hd r h k=cr A hd r h k:=bY fun i k' hi _=>by
 show(if k'=h then turn A a c i k else turn A a c i (hd k'))=if k'=h then A i k else A i (hd k');rw[jm (by omega) (by omega),jm (by omega) (by omega)]
theorem Ds{A:Nat->Nat->Int}{hd:Nat->Nat}{r a c:Nat}(ha:r<=a)(hac:a<c)(i k:Nat):En (turn A a c) hd r i k=if i=a then En A hd r c k else if i=c then -En A hd r a k else En A hd r i k:=by
 have hc:r<=c:=by omega
 unfold En;by_cases h:i<r
 ·rw[if_pos h,if_neg (by omega),if_neg (by omega),if_pos h];exact CY ha hc i k
 ·rw[if_neg h,rP,Du ha hc];have e:∀j,sm r (fun h=>turn A a c j (hd h)*cr (turn A a c) hd r h k)=sm r (fun h=>turn A a c j (hd h)*cr A hd r h k):=fun j=>aA fun h _=>by rw[CY ha hc]
  rw[e];by_cases h1:i=a
  ·rw[if_pos h1,if_neg (by omega),rP,h1,uz (by omega)];congr 1;exact aA fun h _=>by rw[uz (by omega)]
  ·rw[if_neg h1];by_cases h2:i=c
   ·rw[if_pos h2,if_neg (by omega),rP,h2,iT];have:sm r (fun h=>turn A a c c (hd h)*cr A hd r h k)=-1*sm r (fun h=>A a (hd h)*cr A hd r h k):=by
     rw[<-bw];exact aA fun h _=>by rw[iT,Int.neg_mul];omega
    rw[this,Int.neg_mul];omega
   ·rw[if_neg h2,if_neg h,rP,jm h1 h2];congr 1;exact aA fun h _=>by rw[jm h1 h2]
def ln(L:List (List Int))(i:Nat):List Int:=L.getD i []
structure ClI(b:Int)(n W u:Nat)(A0:Nat->Nat->Int)(c:Nat)(A:Nat->Nat->Int)(hd:Nat->Nat)(r:Nat)(L:List (List Int))(last:Int):Prop where
 sw:Swp n A0 A
 len:L.length=n
 wd:∀i,i<n->(ln L i).length=W
 en:∀i k,i<n->k<W->co (ln L i) k=tk b (En A hd r i k)
 la:last=tk b (dt A hd r)
 nz:tk b (dt A hd r)≠0
 rn:r<=n
 hc:∀h,h<r->hd h<c
 up:∀h h',h<h'->h'<r->hd h<hd h'
 zero:∀k,k<c->(∀h,h<r->hd h≠k)->∀i,r<=i->i<n->tk b (En A hd r i k)=0
 full:c<=n->(r=c/\∀h,h<r->hd h=h)∨tk b (det n A)=0
 bdd:∀i k,Bd u (A i k)
 ge:∀h,h<r->∀k,k<hd h->(∀h',h'<r->hd h'≠k)->tk b (En A hd r h k)=0
theorem HS{u:Nat}:∀{n:Nat} {f:Nat->Nat->Int},(∀i k,i<n->k<n->Bd u (f i k))->Bd (n*(u+n)+1) (det n f)
 |0,_,_=>by
  show Bd (0*(u+0)+1) 1;rw[Nat.zero_mul];exact Bd.of (by decide) (by decide)
 |n+1,f,h=>by
  unfold det;have e:Bd (u+(n*(u+n)+1)+(n+1)) (sm (n+1) fun c=>sg (n+c)*f n c*det n fun i k=>f i (sk c k)):=CD _ fun c hc=>by
   have b1:=h n c (by omega) hc;have b2:=HS (u:=u) (n:=n) (f:=fun i k=>f i (sk c k)) fun i k hi hk=>h i (sk c k) (by omega) (by unfold sk;split<;>omega);have b3:=b1.mul b2;unfold Bd at b3⊢;rw[Int.mul_assoc,Int.natAbs_mul];have:(sg (n+c)).natAbs=1:=by unfold sg;split<;>rfl
   rw[this,Nat.one_mul];exact b3
  refine e.mono ?_;have:(n+1)*(u+(n+1))=n*(u+n)+n+u+(n+1):=by
   rw[Nat.succ_mul,show u+(n+1)=u+n+1 by omega,Nat.mul_add n (u+n) 1];omega
  omega
end Dm
namespace Dm
open Rm Pm
theorem oB{b x:Int}(h:tk b x=0):tk b (-x)=0:=by
 have:=bG b (-1) x;rw[h,Int.mul_zero,tk0]at this;rw[show -x=-1*x by omega,<-this]
theorem Dd{b x:Int}(y:Int)(h:tk b x=0):tk b (y*x)=0:=by rw[<-bG,h,Int.mul_zero,tk0]
theorem Kl{b x y:Int}(h:tk b x=0)(h':tk b y=0):tk b (x+y)=0:=by rw[<-bU,h,Int.zero_add,h']
theorem IK{b x y:Int}(h:tk b x=0)(h':tk b y=0):tk b (x-y)=0:=by rw[Int.sub_eq_add_neg];exact Kl h (oB h')
theorem Ia(f:Nat->Int)(n:Nat):sm n (fun k=>-f k)=-sm n f:=by
 have e:(fun k=>-f k)=fun k=>-1*f k:=funext fun k=>by omega
 rw[e,bw];omega
theorem Oc(f g:Nat->Int)(n:Nat):sm n (fun k=>f k-g k)=sm n f-sm n g:=by
 have e:(fun k=>f k-g k)=fun k=>f k + -g k:=funext fun k=>by omega
 rw[e,cG,Ia];omega
def Rel(b:Int)(n m:Nat)(A:Nat->Nat->Int)(x:Nat->Int):Prop:=∀i,i<n->tk b (sm m fun k=>A i k*x k)=0
theorem E5(A:Nat->Nat->Int)(x:Nat->Int)(i m:Nat):sm m (fun k=>-A i k*x k)=-sm m fun k=>A i k*x k:=by
 rw[<-Ia];exact aA fun k _=>Int.neg_mul ..
theorem Rel.turn{b:Int}{n m:Nat}{A:Nat->Nat->Int}{x:Nat->Int}{a c:Nat}(hac:a<c)(hc:c<n):Rel b n m A x↔Rel b n m (turn A a c) x:=by
 have ha:a<n:=by omega
 constructor
 ·intro h i hi;by_cases c1:i=c
  ·rw[c1,aA (g:=fun k=>-A a k*x k) fun k _=>by rw[iT],E5];exact oB (h a ha)
  ·by_cases c2:i=a
   ·rw[c2,aA (g:=fun k=>A c k*x k) fun k _=>by rw[uz (by omega)]];exact h c hc
   ·rw[aA (g:=fun k=>A i k*x k) fun k _=>by rw[jm c2 c1]];exact h i hi
 ·intro h i hi;by_cases c1:i=c
  ·have:=h a ha;rw[aA (g:=fun k=>A c k*x k) fun k _=>by rw[uz (by omega)]]at this;rw[c1];exact this
  ·by_cases c2:i=a
   ·have:=h c hc;rw[aA (g:=fun k=>-A a k*x k) fun k _=>by rw[iT],E5]at this;rw[c2];have:=oB this
    rwa [Int.neg_neg]at this
   ·have:=h i hi;rw[aA (g:=fun k=>A i k*x k) fun k _=>by rw[jm c2 c1]]at this;exact this
theorem Swp.rel{b:Int}{n m:Nat}{A0 A:Nat->Nat->Int}{x:Nat->Int}(h:Swp n A0 A):Rel b n m A0 x↔Rel b n m A x:=by
 induction h with
 |refl=>exact Iff.rfl
 |step _ h1 h2 ih=>exact ih.trans (Rel.turn h1 h2)
def Ind(b:Int)(n m:Nat)(A:Nat->Nat->Int):Prop:=∀x,Rel b n m A x->∀k,k<m->tk b (x k)=0
theorem Fx{A:Nat->Nat->Int}{hd:Nat->Nat}{r m k:Nat}{b:Int}{n:Nat}(hm:∀h,h<r->hd h<m)(hk:k<m)(hz:∀i,r<=i->i<n->tk b (En A hd r i k)=0):
  Rel b n m A fun j=>sm r (fun h=>if j=hd h then En A hd r h k else 0)-if j=k then dt A hd r else 0:=fun i hi=>by
 have e:sm m (fun j=>A i j*(sm r (fun h=>if j=hd h then En A hd r h k else 0)-if j=k then dt A hd r else 0))=sm r (fun h=>A i (hd h)*En A hd r h k)-A i k*dt A hd r:=by
  rw[aA (g:=fun j=>sm r (fun h=>if j=hd h then A i (hd h)*En A hd r h k else 0)-if j=k then A i k*dt A hd r else 0) fun j _=>?_,Oc,cg,if_pos hk,mF]
  ·congr 1;exact aA fun h hh=>by rw[cg,if_pos (hm h hh)]
  ·rw[Int.mul_sub,<-bw];congr 1
   ·refine aA fun h _=>?_;by_cases c:j=hd h
    ·rw[if_pos c,if_pos c,c]
    ·rw[if_neg c,if_neg c,Int.mul_zero]
   ·by_cases c:j=k
    ·rw[if_pos c,if_pos c,c]
    ·rw[if_neg c,if_neg c,Int.mul_zero]
 rw[e];have q:=LK A hd r i k;by_cases c:i<r
 ·rw[if_pos c,Int.add_zero]at q;rw[q,Int.sub_self,tk0]
 ·rw[if_neg c]at q;rw[q,show sm r (fun h=>A i (hd h)*En A hd r h k)-(sm r (fun h=>A i (hd h)*En A hd r h k)+En A hd r i k)=-En A hd r i k by omega];exact oB (hz i (by omega) hi)
end Dm
namespace Pm
open Rm
def Fs(f:Nat->Int)(n:Nat):Prop:=∀k,n<=k->f k=0
theorem Fs.co(p:List Int):Fs (co p) p.length:=fun _ h=>bh h
theorem Fs.mono{f:Nat->Int}{m n:Nat}(h:Fs f m)(hmn:m<=n):Fs f n:=fun k hk=>h k (by omega)
theorem Fs.add{f g:Nat->Int}{n:Nat}(h:Fs f n)(h':Fs g n):Fs (fun k=>f k+g k) n:=fun k hk=>by show f k+g k=0;rw[h k hk,h' k hk];rfl
theorem Fs.mul{f:Nat->Int}{n:Nat}(c:Int)(h:Fs f n):Fs (fun k=>c*f k) n:=fun k hk=>by show c*f k=0;rw[h k hk,Int.mul_zero]
theorem Fs.cv{f g:Nat->Int}{m n:Nat}(h:Fs f m)(h':Fs g n):Fs (Pm.cv f g) (m+n):=fun k hk=>eV fun i _=>by
 by_cases c:m<=i
 ·exact .inl (h i c)
 ·exact .inr (h' _ (by omega))
theorem uM{b x:Int}(y:Int)(h:tk b x=0):tk b (y*x)=0:=by rw[<-bG,h,Int.mul_zero,tk0]
theorem kJ{b:Int}{m:List Int}(hm:Mon m){f:Nat->Int}{n:Nat}(hf:Fs f n)(h:∀k,m.length-1<=k->tk b (cv f (co m) k)=0):∀k,tk b (f k)=0:=by
 have q:∀d j,n<=j+d->tk b (f j)=0:=fun d=>by
  induction d with
  |zero=>intro j hj;rw[hf j hj,tk0]
  |succ d ih=>
   intro j hj;have e:=h (j+(m.length-1)) (by omega);rw[gb]at e;have e2:tk b (sm (j+(m.length-1)+1) fun i=>f i*co m (j+(m.length-1)-i))=tk b (sm (j+(m.length-1)+1) fun i=>if i=j then f j else 0):=jd fun i hi=>by
    by_cases c:i=j
    ·rw[if_pos c,c,Nat.add_sub_cancel_left,hm.one,Int.mul_one]
    ·rw[if_neg c,tk0];by_cases d2:i<j
     ·rw[bh (by have:=hm.pos;omega),Int.mul_zero,tk0]
     ·rw[Int.mul_comm];exact uM _ (ih i (by omega))
   rw[e2,cg,if_pos (by omega)]at e;exact e
 exact fun k=>q n k (by omega)
def Dv(b:Int)(m:List Int)(f:Nat->Int):Prop:=∃s n,Fs s n/\∀k,tk b (f k)=tk b (cv s (co m) k)
theorem Dv.congr{b:Int}{m:List Int}{f g:Nat->Int}(e:∀k,tk b (f k)=tk b (g k))(h:Dv b m f):Dv b m g:=by
 obtain⟨s,n,hs,h⟩:=h;exact⟨s,n,hs,fun k=>by rw[<-e,h]⟩
theorem Dv.zero(b:Int)(m:List Int):Dv b m fun _=>0:=⟨fun _=>0,0,fun _ _=>rfl,fun k=>by rw[eV fun i _=> .inl rfl]⟩
theorem Dv.add{b:Int}{m:List Int}{f g:Nat->Int}(h:Dv b m f)(h':Dv b m g):Dv b m fun k=>f k+g k:=by
 obtain⟨s,n,hs,h⟩:=h;obtain⟨s',n',hs',h'⟩:=h';exact⟨fun k=>s k+s' k,n+n',(hs.mono (by omega)).add (hs'.mono (by omega)),fun k=>by rw[eX];exact aQ (h k) (h' k)⟩
theorem Dv.smul{b:Int}{m:List Int}{f:Nat->Int}(c:Int)(h:Dv b m f):Dv b m fun k=>c*f k:=by
 obtain⟨s,n,hs,h⟩:=h;exact⟨fun k=>c*s k,n,hs.mul c,fun k=>by rw[fu,<-bG,h,bG]⟩
theorem Dv.sub{b:Int}{m:List Int}{f g:Nat->Int}(h:Dv b m f)(h':Dv b m g):Dv b m fun k=>f k-g k:=
 (h.add (h'.smul (-1))).congr fun k=>by rw[show f k + -1*g k=f k-g k by omega]
theorem Dv.mul{b:Int}{m:List Int}{f g:Nat->Int}{n:Nat}(hg:Fs g n)(h:Dv b m f):Dv b m (cv g f):=by
 obtain⟨s,n',hs,h⟩:=h;exact⟨cv g s,n+n',hg.cv hs,fun k=>by rw[bJ];exact gZ (fun i _=>rfl) fun i _=>h i⟩
theorem Dv.self{b:Int}{m:List Int}{g:Nat->Int}{n:Nat}(hg:Fs g n):Dv b m (cv g (co m)):=⟨g,n,hg,fun _=>rfl⟩
theorem Dv.short{b:Int}{m:List Int}(hm:Mon m){f:Nat->Int}(hf:Fs f (m.length-1))(h:Dv b m f):∀k,tk b (f k)=0:=by
 obtain⟨s,n,hs,h⟩:=h;have z:=kJ (b:=b) hm hs fun k hk=>by rw[<-h,hf k hk,tk0]
 intro k;rw[h,<-tk0 b,<-eV (f:=fun _=>(0:Int)) (g:=co m) (k:=k) fun i _=> .inl rfl];exact gZ (fun i _=>by rw[z,tk0]) fun i _=>rfl
def tp(P:List Int)(a:Nat->Int)(k:Nat):Int:=sm (P.length-1-k) fun i=>co P (k+1+i)*a i
theorem BK(P:List Int)(a:Nat->Int):Fs (tp P a) (P.length-1):=fun k hk=>by unfold tp;rw[show P.length-1-k=0 by omega];rfl
theorem LY{b:Int}{P:List Int}{a a':Nat->Int}(h:∀n,tk b (a n)=tk b (a' n))(k:Nat):tk b (tp P a k)=tk b (tp P a' k):=jd fun i _=>by rw[<-bG,h,bG]
theorem Mx(P:List Int)(c:Int)(a a':Nat->Int)(k:Nat):tp P (fun n=>c*a n+a' n) k=c*tp P a k+tp P a' k:=by
 unfold tp;rw[<-bw,<-cG];refine aA fun i _=>?_;rw[Int.mul_add,Int.mul_left_comm]
theorem FP{b:Int}{P:List Int}(hP:0<P.length){a:Nat->Int}(h0:tk b (ks P a 0)=0)(k:Nat):tk b (if k=0 then 0 else tp P a (k-1))=tk b (tp P (fun n=>a (n+1)) k+a 0*co P k):=by
 by_cases c:k=0
 ·rw[if_pos c,c,tk0,<-h0];refine congrArg (tk b) ?_;unfold ks tp;obtain⟨N,hN⟩:∃N,P.length=N+1:=⟨P.length-1,by omega⟩;rw[hN,cN,Nat.add_sub_cancel,Nat.sub_zero,Int.add_comm,Int.mul_comm (co P 0)];congr 1;exact aA fun i _=>by rw[Nat.zero_add,Nat.zero_add,Nat.add_comm 1 i]
 ·rw[if_neg c];by_cases d:k<P.length
  ·refine congrArg (tk b) ?_;unfold tp;rw[show P.length-1-(k-1)=(P.length-1-k)+1 by omega,cN,Int.add_comm];congr 1
   ·exact aA fun i _=>by rw[show k-1+1+(i+1)=k+1+i by omega]
   ·rw[show k-1+1+0=k by omega,Int.mul_comm]
  ·rw[BK P a (k-1) (by omega),BK P _ k (by omega),bh (by omega),Int.mul_zero];rfl
theorem Dc(x:Int)(q:List Int)(f:Nat->Int)(k:Nat):cv (co (x::q)) f k=x*f k+(if k=0 then 0 else cv (co q) f (k-1)):=by
 cases k with
 |zero=>rw[cv,cF,if_pos rfl,Int.add_zero]
 |succ k=>
  rw[cv,cF,if_neg (by omega),Nat.add_sub_cancel];congr 1
theorem WG(q f:Nat->Int)(k:Nat):(if k=0 then 0 else cv q f (k-1))=cv q (fun i=>if i=0 then 0 else f (i-1)) k:=by
 cases k with
 |zero=>rw[if_pos rfl,cv,if_pos rfl,Int.mul_zero]
 |succ k=>rw[if_neg (by omega),Nat.add_sub_cancel,wW,if_pos rfl,Int.mul_zero,Int.add_zero];rfl
theorem Kh(x:Int)(q:List Int)(a:Nat->Int)(n:Nat):ks (x::q) a n=x*a n+ks q (fun n=>a (n+1)) n:=by
 unfold ks;rw[List.length_cons,cN,cF,Nat.add_zero];congr 1
theorem uO{b:Int}{P:List Int}(hP:0<P.length):∀(q:List Int) {a:Nat->Int},Kp b P a->Dv b P fun k=>cv (co q) (tp P a) k-tp P (ks q a) k
 |[],a,_=>(Dv.zero b P).congr fun k=>by
  rw[eV fun i _=> .inl (dB i)];have:tp P (ks [] a) k=0:=fY fun i _=>by show co P (k+1+i)*0=0;exact Int.mul_zero _
  rw[this];rfl
 |x::q,a,h=>by
  have h1:Kp b P fun n=>a (n+1):=fun n=>by
   have e:ks P (fun n=>a (n+1)) n=ks P a (n+1):=aA fun k _=>by show _*a (n+k+1)=_*a (n+1+k);rw[show n+k+1=n+1+k by omega]
   rw[e];exact h (n+1)
  have ih:=uO hP q h1;have d:=Dv.self (b:=b) (m:=P) ((Fs.co q).mul (a 0));refine(ih.add d).congr fun k=>?_;have e1:tk b (if k=0 then 0 else cv (co q) (tp P a) (k-1))=tk b (cv (co q) (tp P fun n=>a (n+1)) k+a 0*cv (co q) (co P) k):=by
   rw[WG,<-fu,gZ (fun i _=>rfl) fun i _=>FP hP (h 0) i,yJ];congr 2;rw[dF,fu,fu,dF]
  have e2:tp P (ks (x::q) a) k=x*tp P a k+tp P (ks q fun n=>a (n+1)) k:=by
   rw[<-Mx];unfold tp;exact aA fun i _=>by rw[Kh]
  rw[Dc,e2,fu];have e3:=aQ e1 (rfl:tk b (-(tp P (ks q fun n=>a (n+1)) k))=_);rw[show x*tp P a k+(if k=0 then 0 else cv (co q) (tp P a) (k-1))-(x*tp P a k+tp P (ks q fun n=>a (n+1)) k)=(if k=0 then 0 else cv (co q) (tp P a) (k-1)) + -(tp P (ks q fun n=>a (n+1)) k)by omega,e3];refine congrArg (tk b) ?_;omega
theorem yX{b:Int}{P:List Int}(hm:Mon P){e:Nat->Int}(h:∀k,tk b (tp P e k)=0):∀n,n<P.length-1->tk b (e n)=0:=fun n=>by
 induction n using Nat.strongRecOn with
 |ind n ih=>
  intro hn;have q:=h (P.length-1-1-n);unfold tp at q;rw[show P.length-1-(P.length-1-1-n)=n+1 by omega,sm]at q;have z:tk b (sm n fun i=>co P (P.length-1-1-n+1+i)*e i)=0:=by
   have:=jd (b:=b) (n:=n) (f:=fun i=>co P (P.length-1-1-n+1+i)*e i) (g:=fun _=>0) fun i hi=>by rw[tk0];exact uM _ (ih i hi (by omega))
   rw[this,fX,tk0]
  rw[<-bU,z,Int.zero_add,show P.length-1-1-n+1+n=P.length-1 by omega,hm.one,Int.one_mul]at q;exact q
theorem CJ{b:Int}{rule:List Int}{a:Nat->Int}(ha:∀n,rule.length<=n->tk b (a n)=tk b (S rule a n rule.length))(q:List Int):
  Kp b q a↔Dv b (aK b rule) (cv (co q) (tp (aK b rule) a)):=by
 have hm:=dz b rule;have hK:Kp b (aK b rule) a:=Kp.aK ha;have A:=uO hm.pos q hK;constructor
 ·intro h;have z:Dv b (aK b rule) (tp (aK b rule) (ks q a)):=(Dv.zero b _).congr fun k=>by
   have:=LY (b:=b) (P:=aK b rule) (a:=ks q a) (a':=fun _=>0) (fun n=>by rw[h n,tk0]) k;rw[this];exact(congrArg (tk b) (show tp (aK b rule) (fun _=>0) k=0 from fY fun i _=>Int.mul_zero _)).symm
  exact(A.add z).congr fun k=>by rw[Int.sub_add_cancel]
 ·intro h;have z:Dv b (aK b rule) (tp (aK b rule) (ks q a)):=(h.sub A).congr fun k=>by
   rw[show cv (co q) (tp (aK b rule) a) k-(cv (co q) (tp (aK b rule) a) k-tp (aK b rule) (ks q a) k)=tp (aK b rule) (ks q a) k by omega]
  have n0:=yX hm (z.short hm (BK _ _));rw[aY,Nat.add_sub_cancel]at n0;exact Et ha n0
structure R7(b:Int)(p:List Int)(t:Nat->Int)(g:List Int):Prop where
 mon:Mon g
 one:Dv b g (co p)
 two:Dv b g t
 sum:∃(N:Int) (u v:Nat->Int) (n:Nat),tk b N≠0/\Fs u n/\Fs v n/\∀k,tk b (N*co g k)=tk b (cv u (co p) k+cv v t k)
theorem Er{b:Int}{m:List Int}(hm:Mon m){p:List Int}(hp:∀k,tk b (co p k)=co p k):∃q r,Div b p m q r:=by
 have go:∀d,d<=p.length-(m.length-1)->∃o l,DP b p m (p.length-(m.length-1)-d) o l:=fun d=>by
  induction d with
  |zero=>intro _;exact⟨_,_,DP.start hp⟩
  |succ d ih=>
   intro hd;obtain⟨o,l,I⟩:=ih (by omega);obtain⟨s,hs⟩:∃s,p.length-(m.length-1)-d=s+1:=⟨p.length-(m.length-1)-d-1,by omega⟩;rw[hs]at I;refine⟨o.set s (co l (s+(m.length-1))),ofF l.length fun k=>lf b (co l (s+(m.length-1))) s m.length l m k,?_⟩;rw[show p.length-(m.length-1)-(d+1)=s by omega];refine I.step hm (by omega) (aM ..) fun k=>?_;rw[bI];by_cases c:k<l.length
   ·rw[if_pos c]
   ·rw[if_neg c];have hl:=I.ll;have hmp:=hm.pos;unfold lf;rw[if_neg (by omega),bh (by omega)]
 obtain⟨o,l,I⟩:=go _ (Nat.le_refl _);rw[Nat.sub_self]at I;exact⟨_,_,I.stop hm⟩
theorem xu{b:Int}(hD:∀x y,tk b x≠0->tk b (x*y)=0->tk b y=0){L:List Int}(hL:Mon L){N:Int}(hN:tk b N≠0){f:Nat->Int}{n:Nat}(hf:Fs f n)(h:Dv b L fun k=>N*f k):Dv b L f:=by
 obtain⟨o,r,D⟩:=Er (b:=b) hL (p:=ofF n fun k=>tk b (f k)) fun k=>by
  rw[bI];split
  ·exact jG ..
  ·exact tk0 b
 have ef:∀k,tk b (co (ofF n fun k=>tk b (f k)) k)=tk b (f k):=fun k=>by
  rw[bI];by_cases c:k<n
  ·rw[if_pos c,jG]
  ·rw[if_neg c,hf k (by omega)]
 have e:∀k,tk b (f k)=tk b (cv (co o) (co L) k+co r k):=fun k=>by rw[D.eq,ef]
 have z:Dv b L fun k=>N*co r k:=(h.sub ((Dv.self (b:=b) (m:=L) (Fs.co o)).smul N)).congr fun k=>by
  rw[show N*f k-N*cv (co o) (co L) k=N*(f k-cv (co o) (co L) k)by rw[Int.mul_sub],<-bG,<-bG b N (co r k)];congr 2;have:=e k;have q:=aQ this (rfl:tk b (-cv (co o) (co L) k)=_);rw[show f k-cv (co o) (co L) k=f k + -cv (co o) (co L) k by omega,q];exact congrArg (tk b) (by omega)
 have hr:Fs (fun k=>N*co r k) (L.length-1):=((Fs.co r).mono (by have:=D.short;omega)).mul N;have z0:=z.short hL hr;refine⟨co o,o.length,Fs.co o,fun k=>?_⟩;rw[e,<-dZ,hD N _ hN (z0 k),Int.add_zero]
theorem R7.keeps{b:Int}(hD:∀x y,tk b x≠0->tk b (x*y)=0->tk b y=0){rule:List Int}{a:Nat->Int}(ha:∀n,rule.length<=n->tk b (a n)=tk b (S rule a n rule.length)){g L:List Int}(h:R7 b (aK b rule) (tp (aK b rule) a) g)(hL:Mon L)
  (hP:∀k,tk b (co (aK b rule) k)=tk b (cv (co L) (co g) k)) (q:List Int):Kp b q a↔Dv b L (co q):=by
 rw[CJ ha q];generalize aK b rule=P at h hP;obtain⟨t,nt,ht,hT⟩:=h.two;obtain⟨N,u,v,n,hN,hu,hv,hs⟩:=h.sum;generalize tp P a=T at h hT hs;have bez:∀k,tk b ((if k=0 then N else 0)-(cv u (co L) k+cv v t k))=0:=by
  refine kJ (b:=b) h.mon (n:=1+(n+L.length)+(n+nt)) (fun k hk=>?_) fun k _=>?_
  ·show(if k=0 then N else 0)-(cv u (co L) k+cv v t k)=0;rw[if_neg (by omega),hu.cv (Fs.co L) k (by omega),hv.cv ht k (by omega)];rfl
  ·have e:cv (fun k=>(if k=0 then N else 0)-(cv u (co L) k+cv v t k)) (co g) k=N*co g k + -1*(cv u (cv (co L) (co g)) k+cv v (cv t (co g)) k):=by
    rw[<-bJ,<-bJ,<-eX,<-fu];have e2:N*co g k=cv (fun k=>if k=0 then N else 0) (co g) k:=by rw[m7,if_pos (Nat.zero_le _),Nat.sub_zero]
    rw[e2,<-eX];refine eZ (fun i _=>?_) fun i _=>rfl;omega
   rw[e,<-bU,hs,bU];have e3:tk b (cv u (co P) k+cv v T k)=tk b (cv u (cv (co L) (co g)) k+cv v (cv t (co g)) k):=aQ (gZ (fun i _=>rfl) fun i _=>hP i) (gZ (fun i _=>rfl) fun i _=>hT i);have e4:=aQ e3 (rfl:tk b (-1*(cv u (cv (co L) (co g)) k+cv v (cv t (co g)) k))=_);rw[e4,show ∀x:Int,x + -1*x=0 from fun x=>by omega,tk0]
 constructor
 ·rintro⟨s,ns,hs',e⟩;have qt:∀k,tk b (cv (co q) t k-cv s (co L) k)=0:=by
   refine kJ (b:=b) h.mon (n:=(q.length+nt)+(ns+L.length)) (fun k hk=>?_) fun k _=>?_
   ·show cv (co q) t k-cv s (co L) k=0;rw[(Fs.co q).cv ht k (by omega),hs'.cv (Fs.co L) k (by omega)];rfl
   ·have e1:cv (fun k=>cv (co q) t k-cv s (co L) k) (co g) k=cv (co q) (cv t (co g)) k + -1*cv s (cv (co L) (co g)) k:=by
     rw[<-bJ,<-bJ,<-fu,<-eX];exact eZ (fun i _=>by omega) fun i _=>rfl
    have e2:tk b (cv (co q) (cv t (co g)) k)=tk b (cv s (cv (co L) (co g)) k):=by
     rw[<-gZ (fun i _=>rfl) (fun i _=>hT i),e,gZ (fun i _=>rfl) fun i _=>hP i]
    have e3:=aQ e2 (rfl:tk b (-1*cv s (cv (co L) (co g)) k)=_);rw[e1,e3,show ∀x:Int,x + -1*x=0 from fun x=>by omega,tk0]
  refine xu hD hL hN (Fs.co q) ?_;refine⟨fun k=>cv (co q) u k+cv v s k,(q.length+n)+(n+ns),((((Fs.co q).cv hu)).mono (by omega)).add ((hv.cv hs').mono (by omega)),fun k=>?_⟩;have e1:tk b (N*co q k)=tk b (cv (fun k=>cv u (co L) k+cv v t k) (co q) k):=by
   have e2:N*co q k=cv (fun k=>if k=0 then N else 0) (co q) k:=by rw[m7,if_pos (Nat.zero_le _),Nat.sub_zero]
   rw[e2];exact gZ (fun i _=>dh.mp (bez i)) fun i _=>rfl
  rw[e1,eX,eX];refine aQ ?_ ?_
  ·exact congrArg (tk b) ((dF ..).trans (bJ ..).symm)
  ·rw[bJ,bJ];refine gZ (fun i _=>rfl) fun i _=>?_;rw[dF];exact dh.mp (qt i)
 ·rintro⟨s,ns,hs',e⟩;refine⟨cv s t,ns+nt,hs'.cv ht,fun k=>?_⟩;rw[gZ (fun i _=>e i) (fun i _=>hT i),gZ (f:=cv s t) (fun i _=>rfl) (fun i _=>hP i)];refine congrArg (tk b) ?_;rw[bJ,bJ];refine eZ (fun i _=>rfl) fun i _=>?_;rw[<-bJ,<-bJ];exact eZ (fun j _=>dF ..) fun j _=>rfl
end Pm
namespace Om
def bQ(p:Nat):Prop:=2<=p/\∀d,d∣p->d=1∨d=p
theorem bQ.cop{p x:Nat}(h:bQ p)(hx:¬p∣x):Nat.Coprime p x:=by
 rcases h.2 _ (Nat.gcd_dvd_left p x)with e|e
 ·exact e
 ·exact absurd (e▸Nat.gcd_dvd_right p x) hx
theorem bQ.dvd{p x y:Nat}(h:bQ p)(hd:p∣x*y):p∣x∨p∣y:=by
 by_cases c:p∣x
 ·exact .inl c
 ·exact .inr ((h.cop c).dvd_of_dvd_mul_left hd)
def ch:Nat->Nat->Nat
 |_,0=>1
 |0,_+1=>0
 |n+1,k+1=>ch n k+ch n (k+1)
theorem qL(n:Nat):ch n 0=1:=by cases n<;>rfl
theorem sW:∀(n k:Nat),n<k->ch n k=0
 |0,k+1,_=>rfl
 |n+1,k+1,h=>by rw[ch,sW n k (by omega),sW n (k+1) (by omega)]
theorem E1:∀n,ch n n=1
 |0=>rfl
 |n+1=>by rw[ch,E1 n,sW n (n+1) (by omega)]
theorem nQ:∀n k:Nat,(k+1)*ch (n+1) (k+1)=(n+1)*ch n k
 |0,0=>rfl
 |0,k+1=>by
  have e:ch (0+1) (k+1+1)=ch 0 (k+1)+ch 0 (k+1+1):=rfl;rw[e,sW 0 (k+1) (by omega),sW 0 (k+1+1) (by omega)];simp
 |n+1,0=>by
  have:=nQ n 0;have e:ch (n+1+1) (0+1)=ch (n+1) 0+ch (n+1) (0+1):=rfl;simp only[qL]at e⊢;rw[e];rw[qL]at this;omega
 |n+1,k+1=>by
  have h1:=nQ n k;have h2:=nQ n (k+1);rw[ch,Nat.mul_add];have e1:(k+1+1)*ch (n+1) (k+1)=(n+1)*ch n k+ch (n+1) (k+1):=by rw[Nat.succ_mul,h1]
  rw[e1,h2];have e2:ch (n+1) (k+1)=ch n k+ch n (k+1):=rfl;rw[e2,Nat.succ_mul (n+1),Nat.mul_add];omega
theorem bQ.dch{p k:Nat}(h:bQ p)(h0:0<k)(hk:k<p):p∣ch p k:=by
 obtain⟨n,rfl⟩:∃n,p=n+1:=⟨p-1,by have:=h.1;omega⟩;obtain⟨j,rfl⟩:∃j,k=j+1:=⟨k-1,by omega⟩;have e:=nQ n j;rcases h.dvd (x:=j+1) (y:=Om.ch (n+1) (j+1)) (by rw[e];exact Nat.dvd_mul_right ..)with d|d
 ·exact absurd (Nat.le_of_dvd (by omega) d) (by omega)
 ·exact d
def sN(f:Nat->Nat):Nat->Nat
 |0=>0
 |n+1=>sN f n+f n
theorem Ai{f g:Nat->Nat}:∀{n:Nat},(∀k,k<n->f k=g k)->sN f n=sN g n
 |0,_=>rfl
 |n+1,h=>by rw[sN,sN,Ai fun k hk=>h k (by omega),h n (by omega)]
theorem Hw(f g:Nat->Nat):∀n,sN (fun k=>f k+g k) n=sN f n+sN g n
 |0=>rfl
 |n+1=>by rw[sN,sN,sN,Hw f g n];omega
theorem Hu(c:Nat)(f:Nat->Nat):∀n,sN (fun k=>c*f k) n=c*sN f n
 |0=>rfl
 |n+1=>by rw[sN,sN,Hu c f n,Nat.mul_add]
theorem uD(f:Nat->Nat):∀n,sN f (n+1)=f 0+sN (fun k=>f (k+1)) n
 |0=>by rw[sN,sN,sN];omega
 |n+1=>by rw[sN,uD f n,sN];omega
theorem HW{p:Nat}{f:Nat->Nat}:∀{n:Nat},(∀k,k<n->p∣f k)->p∣sN f n
 |0,_=>Nat.dvd_zero _
 |n+1,h=>Nat.dvd_add (HW fun k hk=>h k (by omega)) (h n (by omega))
theorem Mq(a:Nat):∀n,(a+1)^n=sN (fun k=>ch n k*a^k) (n+1)
 |0=>by simp[sN,ch]
 |n+1=>by
  rw[Nat.pow_succ,Mq a n,uD (fun k=>ch (n+1) k*a^k) (n+1)];have e1:sN (fun k=>ch (n+1) (k+1)*a^(k+1)) (n+1)=sN (fun k=>a*(ch n k*a^k)) (n+1)+sN (fun k=>ch n (k+1)*a^(k+1)) (n+1):=by
   rw[<-Hw];refine Ai fun k _=>?_;rw[ch,Nat.add_mul,Nat.pow_succ];congr 1;rw[Nat.mul_comm a,Nat.mul_assoc]
  have e2:sN (fun k=>ch n k*a^k) (n+1)=1+sN (fun k=>ch n (k+1)*a^(k+1)) (n+1):=by
   have e3:sN (fun k=>ch n k*a^k) (n+1+1)=sN (fun k=>ch n k*a^k) (n+1):=by rw[sN,sW n (n+1) (by omega),Nat.zero_mul,Nat.add_zero]
   rw[<-e3,uD];rw[qL,Nat.pow_zero]
  rw[e1,Hu,qL,Nat.pow_zero,Nat.mul_add,Nat.mul_one,Nat.mul_comm];omega
theorem bQ.pow{p:Nat}(h:bQ p):∀a:Nat,a^p%p=a%p
 |0=>by rw[Nat.zero_pow (by have:=h.1;omega)]
 |a+1=>by
  obtain⟨n,rfl⟩:∃n,p=n+1:=⟨p-1,by have:=h.1;omega⟩;have e:(a+1)^(n+1)=1+sN (fun k=>ch (n+1) (k+1)*a^(k+1)) n+a^(n+1):=by
   rw[Mq,sN,uD,qL,Nat.pow_zero,E1,Nat.one_mul,Nat.one_mul]
  obtain⟨c,hc⟩:(n+1)∣sN (fun k=>ch (n+1) (k+1)*a^(k+1)) n:=HW fun k hk=>Nat.dvd_trans (h.dch (by omega) (by omega)) (Nat.dvd_mul_right ..);rw[e,hc,show 1+(n+1)*c+a^(n+1)=(a^(n+1)+1)+(n+1)*c by omega,Nat.add_mul_mod_self_left,Nat.add_mod,bQ.pow h a,<-Nat.add_mod]
theorem bQ.Ml{p a:Nat}(h:bQ p)(h0:a≠0)(ha:a<p):a^(p-1)%p=1:=by
 have hp:=h.1;have e:=h.pow a;obtain⟨n,rfl⟩:∃n,p=n+1:=⟨p-1,by omega⟩;rw[Nat.add_sub_cancel];have one:1<=a^n:=Nat.pow_pos (by omega);have d:(n+1)∣a*(a^n-1):=by
  have e2:a*(a^n-1)=a^(n+1)-a:=by rw[Nat.mul_sub,Nat.mul_one,Nat.pow_succ,Nat.mul_comm]
  rw[e2];exact Nat.dvd_of_mod_eq_zero (Nat.sub_mod_eq_zero_of_mod_eq e)
 rcases h.dvd d with d|⟨c,hc⟩
 ·exact absurd (Nat.le_of_dvd (by omega) d) (by omega)
 ·rw[show a^n=1+(n+1)*c by omega,Nat.add_mul_mod_self_left];exact Nat.mod_eq_of_lt (by omega)
end Om
namespace Pm
open Rm
def Kf(f:Nat->Int)(n:Nat)(a:Nat->Int):Prop:=∀m,sm n (fun k=>f k*a (m+k))=0
theorem Kf.less{f:Nat->Int}{n m:Nat}{a:Nat->Int}(h:Kf f m a)(hf:Fs f n)(hm:n<=m):Kf f n a:=fun i=>by
 rw[<-fH (n:=m) hm fun k h1 _=>by rw[hf k h1,Int.zero_mul]];exact h i
theorem Kf.lin{f g:Nat->Int}{n:Nat}{a:Nat->Int}(c d:Int)(h:Kf f n a)(h':Kf g n a):Kf (fun k=>c*f k+d*g k) n a:=fun i=>by
 have e:sm n (fun k=>(c*f k+d*g k)*a (i+k))=c*sm n (fun k=>f k*a (i+k))+d*sm n (fun k=>g k*a (i+k)):=by
  rw[<-bw,<-bw,<-cG];exact aA fun k _=>by rw[Int.add_mul,Int.mul_assoc,Int.mul_assoc]
 rw[e,h i,h' i];simp
theorem Kf.shift{f:Nat->Int}{n:Nat}{a:Nat->Int}(s:Nat)(h:Kf f n a):Kf (fun k=>if s<=k then f (k-s)else 0) (s+n) a:=fun i=>by
 have e:∀s,sm (s+n) (fun k=>(if s<=k then f (k-s)else 0)*a (i+k))=sm n (fun k=>f k*a (i+s+k)):=fun s=>by
  induction s generalizing i with
  |zero=>rw[Nat.zero_add];exact aA fun k _=>by rw[if_pos (Nat.zero_le _)];rfl
  |succ s ih=>
   rw[show s+1+n=(s+n)+1 by omega,cN,if_neg (by omega),Int.zero_mul,Int.zero_add];rw[show i+(s+1)=(i+1)+s by omega,<-ih (i+1)];refine aA fun k _=>?_;rw[show i+(k+1)=i+1+k by omega];by_cases c:s<=k
   ·rw[if_pos c,if_pos (by omega),show k+1-(s+1)=k-s by omega]
   ·rw[if_neg c,if_neg (by omega)]
 rw[e];exact h _
theorem Kf.div{f:Nat->Int}{n:Nat}{a:Nat->Int}{c:Int}(hc:c≠0)(h:Kf (fun k=>c*f k) n a):Kf f n a:=fun i=>by
 have e:=h i;rw[show(fun k=>c*f k*a (i+k))=fun k=>c*(f k*a (i+k))from funext fun k=>Int.mul_assoc ..,bw]at e;exact(Int.mul_eq_zero.mp e).resolve_left hc
theorem Kf.of{p:List Int}{a:Nat->Int}(h:Kp 0 p a):Kf (co p) p.length a:=fun i=>by
 have:=h i;rw[bf]at this;exact this
theorem Fg:∀n:Nat,2<=n->∃p,Om.bQ p/\p∣n:=fun n=>by
 induction n using Nat.strongRecOn with
 |ind n ih=>
  intro hn;by_cases h:∀d,d∣n->d=1∨d=n
  ·exact⟨n,⟨hn,h⟩,Nat.dvd_refl n⟩
  ·obtain⟨d,hd⟩:=Classical.not_forall.mp h;obtain⟨hd,hn1⟩:=Classical.not_imp.mp hd;have h0:d≠0:=fun e=>by rw[e]at hd;have:=Nat.eq_zero_of_zero_dvd hd;omega
   have hl:=Nat.le_of_dvd (by omega) hd;have h1:d≠1:=fun e=>hn1 (.inl e);have h2:d≠n:=fun e=>hn1 (.inr e);obtain⟨p,hp,hq⟩:=ih d (by omega) (by omega);exact⟨p,hp,Nat.dvd_trans hq hd⟩
theorem least_of{Q:Nat->Prop}(h:∃n,Q n):∃n,Q n/\∀m,Q m->n<=m:=by
 obtain⟨n,hn⟩:=h;induction n using Nat.strongRecOn with
 |ind n ih=>
  by_cases c:∃m,m<n/\Q m
  ·obtain⟨m,h1,h2⟩:=c;exact ih m h1 h2
  ·exact⟨n,hn,fun m hm=>by
    by_cases d:m<n
    ·exact absurd ⟨m,d,hm⟩ c
    ·omega⟩
theorem rQ{p:Nat}{x:Int}:(p:Int)∣x↔p∣x.natAbs:=Int.ofNat_dvd_left
theorem mY{p:Nat}(hp:Om.bQ p){x y:Int}(h:(p:Int)∣x*y):(p:Int)∣x∨(p:Int)∣y:=by
 rw[rQ,Int.natAbs_mul]at h;rcases hp.dvd h with h|h
 ·exact .inl (rQ.mpr h)
 ·exact .inr (rQ.mpr h)
theorem HD{d:Int}{f:Nat->Int}:∀{n:Nat},(∀k,k<n->d∣f k)->d∣sm n f
 |0,_=>⟨0,by rw[Int.mul_zero];rfl⟩
 |n+1,h=>Int.dvd_add (HD fun k hk=>h k (by omega)) (h n (by omega))
theorem GK{d:Int}{f:Nat->Int}{n j:Nat}(hj:j<n)(h:d∣sm n f)(ho:∀k,k<n->k≠j->d∣f k):d∣f j:=by
 have e:sm n f=sm n (fun k=>if k=j then f j else 0)+sm n (fun k=>if k=j then 0 else f k):=by
  rw[<-cG];refine aA fun k _=>?_;by_cases c:k=j
  ·rw[if_pos c,if_pos c,c,Int.add_zero]
  ·rw[if_neg c,if_neg c,Int.zero_add]
 rw[cg,if_pos hj]at e;have h2:d∣sm n (fun k=>if k=j then 0 else f k):=HD fun k hk=>by
  by_cases c:k=j
  ·rw[if_pos c];exact⟨0,by rw[Int.mul_zero]⟩
  ·rw[if_neg c];exact ho k hk c
 have:f j=sm n f-sm n (fun k=>if k=j then 0 else f k):=by omega
 rw[this];exact Int.dvd_sub h h2
theorem S9{p:Nat}(hp:Om.bQ p){f g:Nat->Int}(h:∀k,(p:Int)∣cv f g k):(∀k,(p:Int)∣f k)∨∀k,(p:Int)∣g k:=by
 by_cases hf:∀k,(p:Int)∣f k
 ·exact .inl hf
 by_cases hg:∀k,(p:Int)∣g k
 ·exact .inr hg
 obtain⟨i,hi,hi'⟩:=least_of (Classical.not_forall.mp hf);obtain⟨j,hj,hj'⟩:=least_of (Classical.not_forall.mp hg);have e:=h (i+j);rw[gb]at e;have t:=GK (j:=i) (by omega) e fun k hk hne=>by
  by_cases c:k<i
  ·have:(p:Int)∣f k:=Classical.byContradiction fun z=>by have:=hi' k z;omega
   exact Int.dvd_trans this (Int.dvd_mul_right ..)
  ·have:(p:Int)∣g (i+j-k):=Classical.byContradiction fun z=>by have:=hj' _ z;omega
   exact Int.dvd_trans this (Int.dvd_mul_left ..)
 rw[Nat.add_sub_cancel_left]at t;rcases mY hp t with t|t
 ·exact absurd t hi
 ·exact absurd t hj
theorem Fs.top{f:Nat->Int}:∀{n:Nat},Fs f n->(∀k,f k=0)∨∃d,d<n/\f d≠0/\Fs f (d+1)
 |0,h=> .inl fun k=>h k (Nat.zero_le _)
 |n+1,h=>by
  by_cases c:f n=0
  ·have h':Fs f n:=fun k hk=>by
    by_cases e:k=n
    ·rw[e];exact c
    ·exact h k (by omega)
   rcases Fs.top h' with z|⟨d,h1,h2,h3⟩
   ·exact .inl z
   ·exact .inr ⟨d,by omega,h2,h3⟩
  ·exact .inr ⟨n,by omega,c,h⟩
structure Lk(a:Nat->Int)(d:Nat)(f:Nat->Int):Prop where
 fs:Fs f (d+1)
 ne:f d≠0
 kf:Kf f (d+1) a
theorem yc{a f:Nat->Int}{d:Nat}(hf:Lk a d f)(hd:∀e g,Lk a e g->d<=e):∀(n:Nat) (q:Nat->Int),Fs q n->Kf q n a->∃(m:Int) (G:Nat->Int) (N:Nat),m≠0/\Fs G N/\∀k,m*q k=cv G f k:=fun n=>by
 induction n using Nat.strongRecOn with
 |ind n ih=>
  intro q hq hk;rcases hq.top with z|⟨e,hen,hne,hfe⟩
  ·exact⟨1,fun _=>0,0,by decide,fun _ _=>rfl,fun k=>by rw[z k,eV fun i _=> .inl rfl];rfl⟩
  ·have hke:Kf q (e+1) a:=hk.less hfe (by omega);have hde:=hd e q ⟨hfe,hne,hke⟩;have ks:=hf.kf.shift (e-d);rw[show e-d+(d+1)=e+1 by omega]at ks;have kl:=hke.lin (f d) (-(q e)) ks;have fl:Fs (fun k=>f d*q k + -(q e)*(if e-d<=k then f (k-(e-d))else 0)) e:=fun k hk=>by
    show f d*q k + -(q e)*(if e-d<=k then f (k-(e-d))else 0)=0;rw[if_pos (by omega)];by_cases c:k=e
    ·rw[c,show e-(e-d)=d by omega,Int.neg_mul,Int.mul_comm (q e),Int.add_right_neg]
    ·rw[hfe k (by omega),hf.fs (k-(e-d)) (by omega),Int.mul_zero,Int.mul_zero];rfl
   obtain⟨m,G,N,hm,hG,hE⟩:=ih e hen _ fl (kl.less fl (by omega));refine⟨m*f d,fun k=>G k+m*q e*(if k=e-d then 1 else 0),N+(e-d+1),Int.mul_ne_zero hm hf.ne,fun k hk=>?_,fun k=>?_⟩
   ·show G k+m*q e*(if k=e-d then 1 else 0)=0;rw[hG k (by omega),if_neg (by omega),Int.mul_zero];rfl
   ·rw[eX,fu,m7,<-hE k];by_cases c:e-d<=k
    ·rw[if_pos c,if_pos c,Int.mul_add,Int.one_mul,Int.neg_mul,Int.mul_neg,Int.mul_assoc,Int.mul_assoc,Int.neg_add_cancel_right]
    ·rw[if_neg c,if_neg c,Int.mul_add];simp[Int.mul_assoc]
theorem RB{a:Nat->Int}{P:List Int}(hP:Mon P)(hk:Kp 0 P a):∃L,Mon L/\Py 0 L/\Kp 0 L a/\L.length<=P.length/\(∀q,Kp 0 q a->Dv 0 L (co q))/\∀e g,Lk a e g->L.length-1<=e:=by
 have hp:=hP.pos;have p0:Lk a (P.length-1) (co P):=⟨by rw[show P.length-1+1=P.length by omega];exact Fs.co P,by rw[hP.one];decide,by rw[show P.length-1+1=P.length by omega];exact Kf.of hk⟩;obtain⟨d,⟨f0,hf0⟩,hd⟩:=least_of (Q:=fun d=>∃f,Lk a d f) ⟨_,_,p0⟩;have hd':∀e g,Lk a e g->d<=e:=fun e g h=>hd e ⟨g,h⟩;obtain⟨c,⟨f,hf,hc⟩,hc'⟩:=least_of (Q:=fun c=>∃f,Lk a d f/\(f d).natAbs=c) ⟨_,f0,hf0,rfl⟩;obtain⟨m0,G0,N0,hm0,hG0,hE0⟩:=yc hf hd' P.length (co P) (Fs.co P) (Kf.of hk);obtain⟨n,⟨m,G,N,hm,hG,hE,hn⟩,hn'⟩:=least_of (Q:=fun n=>∃(m:Int) (G:Nat->Int) (N:Nat),m≠0/\Fs G N/\(∀k,m*co P k=cv G f k)/\m.natAbs=n) ⟨_,m0,G0,N0,hm0,hG0,hE0,rfl⟩;have h1:m.natAbs=1:=by
  by_cases c2:m.natAbs=1
  ·exact c2
  ·have h0:m.natAbs≠0:=by omega
   obtain⟨p,hp,hd⟩:=Fg m.natAbs (by omega);have hpp:=hp.1;have hp0:(p:Int)≠0:=by omega
   obtain⟨m',em⟩:=rQ.mpr hd;have hm':m'≠0:=fun z=>hm (by rw[em,z,Int.mul_zero]);rcases S9 hp (f:=G) (g:=f) fun k=>by rw[<-hE k,em,Int.mul_assoc];exact Int.dvd_mul_right .. with z|z
   ·exfalso
    obtain⟨G',hg⟩:=Classical.skolem.mp z;refine absurd (hn' m'.natAbs ⟨m',G',N,hm',fun k hk=>?_,fun k=>?_,rfl⟩) ?_
    ·have:=hg k;rw[hG k hk]at this;exact(Int.mul_eq_zero.mp this.symm).resolve_left hp0
    ·refine Int.eq_of_mul_eq_mul_left hp0 ?_;rw[<-fu,<-Int.mul_assoc,<-em,hE k];exact eZ (fun i _=>hg i) fun _ _=>rfl
    ·rw[<-hn,em,Int.natAbs_mul,Int.natAbs_natCast];have:0<m'.natAbs:=by omega
     have:2*m'.natAbs<=p*m'.natAbs:=Nat.mul_le_mul_right _ hpp;omega
   ·exfalso
    obtain⟨f',hg⟩:=Classical.skolem.mp z;have e:f=fun k=>p*f' k:=funext fun k=>hg k;have q:Lk a d f':=⟨fun k hk=>by
     have:=hg k;rw[hf.fs k hk]at this;exact(Int.mul_eq_zero.mp this.symm).resolve_left hp0,fun z=>hf.ne (by rw[hg d,z,Int.mul_zero]),by
     have:=hf.kf;rw[e]at this;exact this.div hp0⟩
    refine absurd (hc' _ ⟨_,q,rfl⟩) ?_;have e2:=congrArg Int.natAbs (hg d);rw[Int.natAbs_mul,Int.natAbs_natCast,hc]at e2;have hne:=q.ne;have:0<(f' d).natAbs:=by omega
    have:2*(f' d).natAbs<=p*(f' d).natAbs:=Nat.mul_le_mul_right _ hpp;rw[e2];show ¬p*(f' d).natAbs<=(f' d).natAbs;omega
 have hu:(f d).natAbs=1:=by
  rcases hG.top with z|⟨e,_,hne,hfe⟩
  ·exfalso
   have:=hE (P.length-1);rw[hP.one,Int.mul_one,eV fun i _=> .inl (z i)]at this;exact hm this
  ·have t:cv G f (e+d)=G e*f d:=by
    rw[gb,aA (g:=fun i=>if i=e then G e*f d else 0) fun i _=>by
     by_cases c3:i=e
     ·rw[if_pos c3,c3,Nat.add_sub_cancel_left]
     ·rw[if_neg c3];by_cases c4:i<e
      ·rw[hf.fs _ (by omega),Int.mul_zero]
      ·rw[hfe i (by omega),Int.zero_mul],cg,if_pos (by omega)]
   have hx:G e*f d≠0:=Int.mul_ne_zero hne hf.ne;have e1:=hE (e+d);rw[t]at e1;have hl:e+d=P.length-1:=by
    by_cases c3:P.length<=e+d
    ·rw[bh c3,Int.mul_zero]at e1;exact absurd e1.symm hx
    ·by_cases c4:e+d=P.length-1
     ·exact c4
     ·exfalso
      have e2:=hE (P.length-1);rw[hP.one,Int.mul_one,eV fun i hi=>by
       by_cases c5:e+1<=i
       ·exact .inl (hfe i c5)
       ·exact .inr (hf.fs _ (by omega))]at e2
      exact hm e2
   rw[hl,hP.one,Int.mul_one]at e1;have e3:=congrArg Int.natAbs e1;rw[Int.natAbs_mul,h1]at e3;exact Nat.eq_one_of_mul_eq_one_left e3.symm
 have hs:f d*f d=1:=by
  rcases Int.natAbs_eq (f d)with h|h<;>rw[h,hu]<;>rfl
 have hLc:∀k,co (ofF (d+1) fun k=>f d*f k) k=f d*f k:=fun k=>by
  rw[bI];by_cases c3:k<d+1
  ·rw[if_pos c3]
  ·rw[if_neg c3,hf.fs k (by omega),Int.mul_zero]
 have hM:Mon (ofF (d+1) fun k=>f d*f k):=⟨by rw[aM];omega,by rw[aM,Nat.add_sub_cancel,hLc,hs]⟩;have hK:Kp 0 (ofF (d+1) fun k=>f d*f k) a:=fun i=>by
  rw[bf];unfold ks;rw[aM,aA (g:=fun k=>f d*(f k*a (i+k))) fun k _=>by rw[hLc,Int.mul_assoc],bw,hf.kf i,Int.mul_zero]
 refine⟨ofF (d+1) fun k=>f d*f k,hM,⟨?_,fun x _=>bf x⟩,hK,?_,fun q hq=>?_,fun e g h=>by rw[aM];exact hd' e g h⟩
 ·refine ig (fun z=>?_) (by rw[hM.one];decide);have:=hM.pos;rw[z]at this;exact absurd this (by decide)
 ·rw[aM];have:=hd' _ _ p0;omega
 ·obtain⟨o,r,D⟩:=Er (b:=0) hM (p:=q) fun k=>bf _;have kr:=(D.kp hK).mp hq;have rn:r=[]:=by
   by_cases c3:r=[]
   ·exact c3
   ·exfalso
    have hl:0<r.length:=List.length_pos_iff.mpr c3;have hne:=uQ c3 D.ry.tr;have:=hd' (r.length-1) (co r) ⟨by rw[show r.length-1+1=r.length by omega];exact Fs.co r,hne,by rw[show r.length-1+1=r.length by omega];exact Kf.of kr⟩;have hsh:=D.short;rw[aM]at hsh;omega
  refine⟨co o,o.length,Fs.co o,fun k=>?_⟩;rw[<-D.eq k,rn,dB,Int.add_zero]
end Pm
namespace Dm
open Pm Rm
theorem AX{n:Nat}(f:Nat->Nat->Int)(x:Nat->Int){j:Nat}(hj:j<n):det n (jJ f j fun i=>sm n fun k=>f i k*x k)=x j*det n f:=by
 have e0:(fun i=>sm n fun k=>f i k*x k)=fun i=>sm n fun k=>x k*f i k:=funext fun i=>aA fun k _=>Int.mul_comm ..;rw[e0,pq f hj x (fun k i=>f i k)];have e2:sm n (fun k=>x k*det n (jJ f j fun i=>f i k))=sm n (fun k=>if k=j then x j*det n f else 0):=aA fun k hk=>by
  by_cases c:k=j
  ·rw[if_pos c,c,nU]
  ·rw[if_neg c];have z:det n (jJ f j fun i=>f i k)=0:=by
    rcases Nat.lt_or_gt_of_ne c with l|l
    ·exact nO l hj fun i _=>by rw[d9,jB (by omega)]
    ·exact nO l hk fun i _=>by rw[d9,jB (by omega)]
   rw[z,Int.mul_zero]
 rw[e2,cg,if_pos hj]
theorem Li{b:Int}{n:Nat}{f:Nat->Nat->Int}{x:Nat->Int}(h:Rel b n n f x){j:Nat}(hj:j<n):tk b (x j*det n f)=0:=by
 have hx:∀i,∃e,i<n->(sm n fun k=>f i k*x k)=b*e:=fun i=>by
  by_cases c:i<n
  ·obtain⟨e,he⟩:=dO.mp (h i c);exact⟨e,fun _=>he⟩
  ·exact⟨0,fun z=>absurd z c⟩
 obtain⟨e,he⟩:=Classical.skolem.mp hx;rw[<-AX f x hj];have e1:det n (jJ f j fun i=>sm n fun k=>f i k*x k)=det n (jJ f j fun i=>b*e i+0):=bY fun i k hi _=>by
  unfold jJ;split
  ·show(sm n fun k=>f i k*x k)=b*e i+0;rw[he i hi,Int.add_zero]
  ·rfl
 rw[e1,gQ f hj b e (fun _=>0),lY f hj,Int.add_zero];exact dO.mpr ⟨_,rfl⟩
theorem Bm{b:Int}{n:Nat}{f:Nat->Nat->Int}(hD:Dom b)(h:tk b (det n f)≠0):Ind b n n f:=fun x hx k hk=>
 hD (det n f) (x k) h (by rw[Int.mul_comm];exact Li hx hk)
structure Cp(b:Int)(n:Nat)(A0:Nat->Nat->Int)(c:Nat)(A:Nat->Nat->Int)(hd:Nat->Nat)(r:Nat):Prop where
 sw:Swp n A0 A
 nz:tk b (dt A hd r)≠0
 rn:r<=n
 hc:∀h,h<r->hd h<c
 up:∀h h',h<h'->h'<r->hd h<hd h'
 zero:∀k,k<c->(∀h,h<r->hd h≠k)->∀i,r<=i->i<n->tk b (En A hd r i k)=0
theorem Cp.bring{b:Int}{n:Nat}{A0:Nat->Nat->Int}{c:Nat}{A:Nat->Nat->Int}{hd:Nat->Nat}{r:Nat}(h:Cp b n A0 c A hd r){a:Nat}(hra:r<a)(han:a<n):Cp b n A0 c (turn A r a) hd r:=
 ⟨.step h.sw hra han,by rw[Du (Nat.le_refl _) (by omega)];exact h.nz,h.rn,h.hc,h.up,fun k hk hn i h1 h2=>by
  rw[Ds (Nat.le_refl _) hra];split
  ·exact h.zero k hk hn a (by omega) han
  ·split
   ·exact oB (h.zero k hk hn r (Nat.le_refl _) (by omega))
   ·exact h.zero k hk hn i h1 h2⟩
theorem Cp.free{b:Int}{n:Nat}{A0:Nat->Nat->Int}{c:Nat}{A:Nat->Nat->Int}{hd:Nat->Nat}{r:Nat}(h:Cp b n A0 c A hd r)(hD:Dom b)(hrn:r<n)(hp:tk b (En A hd r r c)≠0):Cp b n A0 (c+1) A (more hd r c) (r+1):=by
 have hpi:En A hd r r c≠0:=fun z=>hp (by rw[z];exact tk0 b);have ml:∀j,j<r->more hd r c j=hd j:=fun j hj=>if_neg (by omega);have me:more hd r c r=c:=if_pos rfl;refine⟨h.sw,by rw[JN];exact hp,by omega,fun j hj=>?_,fun j j' h1 h2=>?_,fun k hk hn i h1 h2=>?_⟩
 ·by_cases e:j=r
  ·rw[e,me];omega
  ·rw[ml j (by omega)];have:=h.hc j (by omega);omega
 ·by_cases e:j'=r
  ·rw[e,me,ml j (by omega)];exact h.hc j (by omega)
  ·rw[ml j' (by omega),ml j (by omega)];exact h.up j j' h1 (by omega)
 ·have hkc:k≠c:=fun e=>hn r (by omega) (by rw[me,e]);have hn':∀j,j<r->hd j≠k:=fun j hj=>by rw[<-ml j hj];exact hn j (by omega)
  refine hD _ _ h.nz ?_;rw[JT hpi (by omega)];exact IK (Dd _ (h.zero k (by omega) hn' i (by omega) h2)) (Dd _ (h.zero k (by omega) hn' r (Nat.le_refl _) hrn))
theorem Cp.step{b:Int}{n:Nat}{A0:Nat->Nat->Int}{c:Nat}{A:Nat->Nat->Int}{hd:Nat->Nat}{r:Nat}(h:Cp b n A0 c A hd r)(hD:Dom b):∃A hd r,Cp b n A0 (c+1) A hd r:=by
 by_cases z:∀i,r<=i->i<n->tk b (En A hd r i c)=0
 ·refine⟨A,hd,r,h.sw,h.nz,h.rn,fun j hj=>by have:=h.hc j hj;omega,h.up,fun k hk hn i h1 h2=>?_⟩;by_cases e:k=c
  ·rw[e];exact z i h1 h2
  ·exact h.zero k (by omega) hn i h1 h2
 ·obtain⟨i,hi⟩:=Classical.not_forall.mp z;obtain⟨h1,hi⟩:=Classical.not_imp.mp hi;obtain⟨h2,hi⟩:=Classical.not_imp.mp hi;by_cases e:i=r
  ·rw[e]at hi;exact⟨_,_,_,h.free hD (by omega) hi⟩
  ·refine⟨_,_,_,(h.bring (a:=i) (by omega) h2).free hD (by omega) ?_⟩;rw[Ds (Nat.le_refl _) (by omega),if_pos rfl];exact hi
theorem Cp.ex{b:Int}(hD:Dom b)(h1:tk b 1≠0)(n:Nat)(A0:Nat->Nat->Int):∀c,∃A hd r,Cp b n A0 c A hd r
 |0=>⟨A0,fun _=>0,0,.refl,by rw[J4];exact h1,Nat.zero_le _,fun h hh=>absurd hh (Nat.not_lt_zero _),fun _ _ _ h=>absurd h (Nat.not_lt_zero _),fun k hk=>absurd hk (Nat.not_lt_zero _)⟩
 |c+1=>by
  obtain⟨A,hd,r,h⟩:=Cp.ex hD h1 n A0 c;exact h.step hD
theorem DQ{hd:Nat->Nat}{r m:Nat}(hc:∀h,h<r->hd h<m)(up:∀h h',h<h'->h'<r->hd h<hd h')(sur:∀k,k<m->∃j,j<r/\hd j=k):r=m/\∀k,k<m->hd k=k:=by
 have ge:∀j,j<r->j<=hd j:=fun j=>by
  induction j with
  |zero=>intro _;exact Nat.zero_le _
  |succ j ih=>
   intro hj;have:=ih (by omega);have:=up j (j+1) (by omega) hj;omega
 have all:∀k,k<m->k<r/\hd k=k:=fun k=>by
  induction k using Nat.strongRecOn with
  |ind k ih=>
   intro hk;obtain⟨j,hj,e⟩:=sur k hk;have g:=ge j hj;by_cases c:j=k
   ·rw[<-c];exact⟨hj,by rw[e,c]⟩
   ·have:=(ih j (by omega) (by omega)).2;omega
 refine⟨?_,fun k hk=>(all k hk).2⟩;by_cases c:r<=m
 ·by_cases c2:r=m
  ·exact c2
  ·have:=(all r (by omega)).1;omega
 ·have:=hc m (by omega);have:=ge m (by omega);omega
theorem AW{b:Int}{n:Nat}{A0:Nat->Nat->Int}(hD:Dom b)(h1:tk b 1≠0)(hI:Ind b n n A0):tk b (det n A0)≠0:=by
 obtain⟨A,hd,r,h⟩:=Cp.ex hD h1 n A0 n;have H:=DQ h.hc h.up fun k hk=>by
  by_cases c:∃j,j<r/\hd j=k
  ·exact c
  ·exfalso
   have hn:∀j,j<r->hd j≠k:=fun j hj e=>c ⟨j,hj,e⟩;have R:=Fx (A:=A) (hd:=hd) (r:=r) (m:=n) (k:=k) (b:=b) (n:=n) h.hc hk (h.zero k hk hn);have z:=hI _ (h.sw.rel.mpr R) k hk;rw[if_pos rfl,fY (fun j hj=>by rw[if_neg (fun e=>hn j hj e.symm)]),Int.zero_sub]at z;have:=oB z;rw[Int.neg_neg]at this;exact h.nz this
 obtain⟨e,H⟩:=H;subst e;rw[<-h.sw.det];have:=h.nz;have q:dt A hd r=det r A:=bY fun i k _ hk=>by unfold Bk;rw[H k hk]
 rwa [q]at this
end Dm
namespace Dm
open Pm Rm
def hk(a:Nat->Int):Nat->Nat->Int:=fun i j=>a (i+j)
theorem M7(x a:Nat->Int)(l i:Nat):sm l (fun k=>hk a i k*x k)=ks (ofF l x) a i:=by
 unfold ks;rw[aM];refine aA fun k hk'=>?_;rw[bI,if_pos hk',Int.mul_comm];rfl
theorem JZ{b:Int}(hD:Dom b)(h1:tk b 1≠0){L:List Int}{a:Nat->Int}(hL:Mon L)(hw:∀k,tk b (co L k)=co L k)(hK:Kp b L a)(hm:∀q,Kp b q a->Dv b L (co q)):tk b (det (L.length-1) (hk a))≠0:=by
 refine AW hD h1 fun x hx k hk'=>?_;have e:=nH hw hL;have ha:∀n,(gk b L).length<=n->tk b (a n)=tk b (S (gk b L) a n (gk b L).length):=Kp.rec (by rw[e];exact hK);have hq:Kp b (ofF (L.length-1) x) a:=Et ha fun n hn=>by
  rw[dY]at hn;rw[<-M7];exact hx n hn
 have z:=(hm _ hq).short hL (by have:=Fs.co (ofF (L.length-1) x);rwa [aM]at this) k
 rwa [bI,if_pos hk']at z
theorem Bg{b:Int}(hD:Dom b){l:Nat}{a:Nat->Int}(h:tk b (det l (hk a))≠0){q:List Int}(hq:q.length<=l)(hK:Kp b q a):∀k,tk b (co q k)=0:=fun k=>by
 have hI:=Bm hD h (co q) fun i hi=>by
  rw[M7];have e:ks (ofF l (co q)) a i=ks q a i:=by
   rw[<-iQ q a i hq];unfold ks;rw[aM];exact aA fun k hk'=>by rw[bI,if_pos hk']
  rw[e];exact hK i
 by_cases c:k<l
 ·exact hI k c
 ·rw[bh (by omega),tk0]
theorem Dom.pr{p:Nat}(hp:Om.bQ p):Dom (p:Int):=fun x y hx h=>by
 have h2:=hp.1;obtain⟨e,he⟩:=dO.mp h;rcases mY hp (x:=x) (y:=y) ⟨e,he⟩with⟨z,hz⟩|⟨z,hz⟩
 ·exact absurd (dO.mpr ⟨z,hz⟩) hx
 ·exact dO.mpr ⟨z,hz⟩
end Dm
namespace Pm
open Rm Dm
structure GcZ(P:List Int)(T:Nat->Int)(g:List Int)(N:Int):Prop where
 mon:Mon g
 py:Py 0 g
 ne:N≠0
 one:Dv 0 g (co P)
 two:Dv 0 g T
 all:∀h:List Int,Mon h->Dv 0 h (co P)->Dv 0 h T->Dv 0 h (co g)
 good:∀(p:Nat) (s:List Int),Om.bQ p->¬(p:Int)∣N->Mon s->Dv p s (co P)->Dv p s T->s.length<=g.length
theorem Dv.by{b:Int}{m:List Int}{f:Nat->Int}(h:Dv 0 m f):Dv b m f:=by
 obtain⟨s,n,hs,h⟩:=h;exact⟨s,n,hs,fun k=>by have:=h k;rw[bf,bf]at this;rw[this]⟩
theorem Dv.len{b:Int}(h1:tk b 1=1){m p:List Int}(hm:Mon m)(hp:Mon p)(h:Dv b m (co p)):m.length<=p.length:=by
 by_cases c:m.length<=p.length
 ·exact c
 ·exfalso
  have:=h.short hm ((Fs.co p).mono (by omega)) (p.length-1);rw[hp.one,h1]at this;exact absurd this (by decide)
theorem mW{b:Int}(h1:tk b 1=1){P g:List Int}(hP:Mon P)(hg:Mon g)(h:Dv b g (co P)):∃L:List Int,Mon L/\(∀k,tk b (co L k)=co L k)/\L.length+g.length=P.length+1/\∀k,tk b (co P k)=tk b (cv (co L) (co g) k):=by
 have hl:=h.len h1 hg hP;have hp:=hP.pos;have hgp:=hg.pos;obtain⟨s,n,hs,h⟩:=h;have key:∀d j,n<=j+d->P.length-g.length<j->tk b (s j)=0:=fun d=>by
  induction d with
  |zero=>intro j hj _;rw[hs j hj,tk0]
  |succ d ih=>
   intro j hj hj2;have e:=h (j+(g.length-1));rw[bh (by omega),tk0,gb]at e;have e2:tk b (sm (j+(g.length-1)+1) fun i=>s i*co g (j+(g.length-1)-i))=tk b (sm (j+(g.length-1)+1) fun i=>if i=j then s j else 0):=jd fun i hi=>by
    by_cases c:i=j
    ·rw[if_pos c,c,Nat.add_sub_cancel_left,hg.one,Int.mul_one]
    ·rw[if_neg c,tk0];by_cases d2:i<j
     ·rw[bh (by omega),Int.mul_zero,tk0]
     ·rw[Int.mul_comm];exact uM _ (ih i (by omega) (by omega))
   rw[e2,cg,if_pos (by omega)]at e;exact e.symm
 have z:∀k,P.length-g.length<k->tk b (s k)=0:=fun k hk=>key n k (by omega) hk;have t1:tk b (s (P.length-g.length))=1:=by
  have e:=h (P.length-1);rw[hP.one,h1,gb]at e;have e2:tk b (sm (P.length-1+1) fun i=>s i*co g (P.length-1-i))=tk b (sm (P.length-1+1) fun i=>if i=P.length-g.length then s (P.length-g.length)else 0):=jd fun i hi=>by
   by_cases c:i=P.length-g.length
   ·rw[if_pos c,c,show P.length-1-(P.length-g.length)=g.length-1 by omega,hg.one,Int.mul_one]
   ·rw[if_neg c,tk0];by_cases d2:i<P.length-g.length
    ·rw[bh (by omega),Int.mul_zero,tk0]
    ·rw[Int.mul_comm];exact uM _ (z i (by omega))
  rw[e2,cg,if_pos (by omega)]at e;exact e.symm
 have hc:∀k,co (ofF (P.length-g.length+1) fun k=>tk b (s k)) k=tk b (s k):=fun k=>by
  rw[bI];by_cases c:k<P.length-g.length+1
  ·rw[if_pos c]
  ·rw[if_neg c,z k (by omega)]
 refine⟨ofF (P.length-g.length+1) fun k=>tk b (s k),⟨by rw[aM];omega,?_⟩,fun k=>?_,by rw[aM];omega,fun k=>?_⟩
 ·rw[aM,Nat.add_sub_cancel,hc,t1]
 ·rw[hc,jG]
 ·rw[h k];exact gZ (fun i _=>by rw[hc,jG]) fun i _=>rfl
theorem pZ{b:Int}{P:List Int}(hP:Mon P)(k:Nat):tk b (co P k)=tk b (co (aK b (gk b P)) k):=by
 have hp:=hP.pos;rw[aK,bW,aM,dY];by_cases c:k<P.length-1
 ·rw[if_pos c,bI,if_pos c,gk,bI,if_pos (by omega),sZ,jG];rw[show P.length-1-1-(P.length-1-1-k)=k by omega]
 ·rw[if_neg c];by_cases d:k=P.length-1
  ·rw[d,hP.one,Nat.sub_self];rfl
  ·rw[bh (by omega),bh (by simp;omega)]
theorem keepsP{b:Int}{P:List Int}{a:Nat->Int}(hm:Mon P)(hK:Kp b P a)(q:List Int):Kp b q a↔Dv b P (cv (co q) (tp P a)):=by
 have A:=uO hm.pos q hK;constructor
 ·intro h;have z:Dv b P (tp P (ks q a)):=(Dv.zero b _).congr fun k=>by
   have:=LY (b:=b) (P:=P) (a:=ks q a) (a':=fun _=>0) (fun n=>by rw[h n,tk0]) k;rw[this];exact(congrArg (tk b) (show tp P (fun _=>0) k=0 from fY fun i _=>Int.mul_zero _)).symm
  exact(A.add z).congr fun k=>by rw[Int.sub_add_cancel]
 ·intro h;have z:Dv b P (tp P (ks q a)):=(h.sub A).congr fun k=>by
   rw[show cv (co q) (tp P a) k-(cv (co q) (tp P a) k-tp P (ks q a) k)=tp P (ks q a) k by omega]
  have n0:=yX hm (z.short hm (BK _ _));have ha:∀n,(gk b P).length<=n->tk b (a n)=tk b (S (gk b P) a n (gk b P).length):=Kp.rec (hK.congr (pZ hm));exact Et ha fun n hn=>n0 n (by rw[dY]at hn;exact hn)
theorem Ag{b:Int}{m:List Int}(hm:Mon m){f g:Nat->Int}{n n':Nat}(hf:Fs f n)(hg:Fs g n')(h:∀k,tk b (cv f (co m) k)=tk b (cv g (co m) k)):∀k,tk b (f k)=tk b (g k):=fun k=>by
 refine dh.mp (kJ (b:=b) hm (f:=fun k=>f k-g k) (n:=n+n') (fun k hk=>?_) (fun k _=>?_) k)
 ·show f k-g k=0;rw[hf k (by omega),hg k (by omega)];rfl
 ·have e:cv (fun k=>f k-g k) (co m) k=cv f (co m) k + -1*cv g (co m) k:=by
   rw[<-fu,<-eX];exact eZ (fun i _=>by omega) fun i _=>rfl
  rw[e,aQ (h k) rfl,show ∀x:Int,x + -1*x=0 from fun x=>by omega,tk0]
theorem Ig{P:List Int}{a:Nat->Int}(hP:Mon P)(hK:Kp 0 P a):∃g L,Mon L/\Py 0 L/\Kp 0 L a/\(∀q,Kp 0 q a->Dv 0 L (co q))/\L.length+g.length=P.length+1/\(∀k,co P k=cv (co L) (co g) k)/\GcZ P (tp P a) g (det (L.length-1) (hk a)):=by
 obtain⟨L,hL,hLy,hKL,hLP,hall,_⟩:=RB hP hK;obtain⟨g,hg,hgy,hlen,hE⟩:=mW (b:=0) rfl hP hL (hall P hK);have hE':∀k,co P k=cv (co g) (co L) k:=fun k=>by have:=hE k;rwa [bf,bf]at this
 have hgP:Py 0 g:=⟨ig (fun z=>by have:=hg.pos;rw[z]at this;exact absurd this (by decide)) (by rw[hg.one];decide),fun x _=>bf x⟩;have hLp:=hL.pos;have hgp:=hg.pos;refine⟨g,L,hL,hLy,hKL,hall,by omega,fun k=>by rw[hE',dF],hg,hgP,?_,⟨co L,L.length,Fs.co L,fun k=>by rw[hE',dF]⟩,?_,fun h hh h1 h2=>?_,fun p s hp hN hs h1 h2=>?_⟩
 ·have:=JZ Dom.zero (by decide) hL (fun k=>bf _) hKL hall
  rwa [bf]at this
 ·obtain⟨s,n,hs,e⟩:=(keepsP hP hK L).mp hKL;refine⟨s,n,hs,Ag hL (BK P a) (hs.cv (Fs.co g)) fun k=>?_⟩;rw[dF,e k,bJ];exact congrArg (tk 0) (eZ (fun _ _=>rfl) fun i _=>hE' i)
 ·obtain⟨A,hA,hAy,hAl,hAe⟩:=mW (b:=0) rfl hP hh h1;obtain⟨B,nB,hB,hBe⟩:=h2;have hKA:Kp 0 A a:=(keepsP hP hK A).mpr ⟨B,nB,hB,fun k=>by
   have e1:tk 0 (cv (co A) (tp P a) k)=tk 0 (cv (co A) (cv B (co h)) k):=gZ (fun _ _=>rfl) fun i _=>hBe i;have e2:tk 0 (cv B (co P) k)=tk 0 (cv B (cv (co A) (co h)) k):=gZ (fun _ _=>rfl) fun i _=>hAe i;rw[e1,e2,<-bJ,<-bJ];exact congrArg (tk 0) (eZ (fun i _=>dF ..) fun _ _=>rfl)⟩
  obtain⟨C,nC,hC,hCe⟩:=hall A hKA;refine⟨C,nC,hC,Ag hL (Fs.co g) (hC.cv (Fs.co h)) fun k=>?_⟩;rw[<-hE',hAe k,gZ (fun i _=>hCe i) fun _ _=>rfl,bJ,bJ];exact congrArg (tk 0) (eZ (fun _ _=>rfl) fun i _=>dF ..)
 ·have hp2:=hp.1;have hp1:tk (p:Int) 1=1:=by rw[fP (by omega)];exact Int.emod_eq_of_lt (by decide) (by omega)
  obtain⟨A,hA,hAy,hAl,hAe⟩:=mW (b:=p) hp1 hP hs h1;obtain⟨B,nB,hB,hBe⟩:=h2;have hKp:Kp p P a:=fun n=>by have:=hK n;rw[bf]at this;rw[this,tk0]
  have hKA:Kp p A a:=(keepsP hP hKp A).mpr ⟨B,nB,hB,fun k=>by
   have e1:tk p (cv (co A) (tp P a) k)=tk p (cv (co A) (cv B (co s)) k):=gZ (fun _ _=>rfl) fun i _=>hBe i;have e2:tk p (cv B (co P) k)=tk p (cv B (cv (co A) (co s)) k):=gZ (fun _ _=>rfl) fun i _=>hAe i;rw[e1,e2,<-bJ,<-bJ];exact congrArg (tk p) (eZ (fun i _=>dF ..) fun _ _=>rfl)⟩
  by_cases c:A.length<=L.length-1
  ·exfalso
   have z:=Bg (Dom.pr hp) (fun z=>hN (dO.mp z)) c hKA (A.length-1);rw[hA.one,hp1]at z;exact absurd z (by decide)
  ·omega
end Pm
namespace Pm
open Rm Dm
theorem Ln{p:Int}(hp:p≠0){x y:Int}:tk p x=tk p y↔p∣x-y:=by
 rw[<-dh,dO];exact⟨fun⟨e,h⟩=>⟨e,h⟩,fun⟨e,h⟩=>⟨e,h⟩⟩
theorem wj{p:Nat}(hp:Om.bQ p):tk (p:Int) 1=1:=by
 have:=hp.1;rw[fP (by omega)];exact Int.emod_eq_of_lt (by decide) (by omega)
theorem Dv.same{b:Int}(h1:tk b 1=1){m p:List Int}(hm:Mon m)(hp:Mon p)(h:Dv b m (co p))(hl:m.length=p.length)(k:Nat):tk b (co p k)=tk b (co m k):=by
 obtain⟨L,hL,_,hlen,e⟩:=mW h1 hp hm h;have hm0:=hm.pos;have h2:L.length=1:=by omega
 have e0:co L 0=1:=by have:=hL.one;rwa [h2]at this
 rw[e k];refine congrArg (tk b) ?_;rw[gb,fH (m:=1) (by omega) fun j h3 _=>by rw[bh (p:=L) (by omega),Int.zero_mul]];simp[sm,e0]
structure Seen(g:List Int)(N:Int)(p:Nat)(s:List Int):Prop where
 mon:Mon s
 nu:∀k,tk (p:Int) (co s k)=co s k
 ge:g.length<=s.length
 eq:s.length=g.length->∀k,(p:Int)∣co s k-co g k
 good:¬(p:Int)∣N->s.length=g.length
theorem In2.to{b:Int}{g p q:List Int}(h:In2 b g [] p)(e:∀k,tk b (co p k)=tk b (co q k)):Dv b g (co q):=by
 obtain⟨u,h⟩:=h.dv;exact⟨co u,u.length,Fs.co u,fun k=>by rw[<-e,h]⟩
theorem GcZ.seen{P t g:List Int}{N:Int}(h:GcZ P (co t) g N){p:Nat}(hp:Om.bQ p){P' t' s:List Int}(eP:∀k,tk (p:Int) (co P' k)=tk p (co P k))(et:∀k,tk (p:Int) (co t' k)=tk p (co t k))(hs:Gcd p P' t' s):Seen g N p s:=by
 have h2:=hp.1;have h1:=wj hp;have d1:Dv p s (co P):=hs.one.to eP;have d2:Dv p s (co t):=hs.two.to et;have d3:Dv p g (co s):=by
  obtain⟨u,v,e⟩:=hs.sum;refine((((h.one.by (b:=p))).mul (Fs.co u)).add ((h.two.by (b:=p)).mul (Fs.co v))).congr fun k=>?_;rw[e];exact aQ (gZ (fun _ _=>rfl) fun i _=>(eP i).symm) (gZ (fun _ _=>rfl) fun i _=>(et i).symm)
 have hge:=d3.len h1 h.mon hs.mon;exact⟨hs.mon,hs.py.co,hge,fun e k=>(Ln (by omega)).mp (d3.same h1 h.mon hs.mon e.symm k),fun z=>by
  have:=h.good p s hp z hs.mon d1 d2;omega⟩
theorem GcZ.told{P t g h:List Int}{N:Int}(H:GcZ P (co t) g N)(hh:Mon h)(h1:Dv 0 h (co P))(h2:Dv 0 h (co t))(hl:g.length<=h.length):h=g:=by
 have d:=H.all h hh h1 h2;have:=d.len rfl hh H.mon;exact nM (by omega) fun k=>by have:=d.same rfl hh H.mon (by omega) k;rw[bf,bf]at this;exact this.symm
def nr(M x:Int):Int:=if 2*(x%M)>M then x%M-M else x%M
def Nr(M x:Int):Prop:=-M<2*x/\2*x<=M
theorem zF(M x:Int):M∣nr M x-x:=by
 have e:=Int.emod_add_mul_ediv x M;unfold nr;split
 ·exact⟨-(x/M)-1,by rw[Int.mul_sub,Int.mul_neg];omega⟩
 ·exact⟨-(x/M),by rw[Int.mul_neg];omega⟩
theorem xU{M:Int}(hM:0<M)(x:Int):Nr M (nr M x):=by
 have h0:=Int.emod_nonneg x (show M≠0 by omega);have h1:=Int.emod_lt_of_pos x hM;unfold nr Nr;split<;>omega
theorem Nr.eq{M x y:Int}(hM:0<M)(hx:Nr M x)(hy:Nr M y)(h:M∣x-y):x=y:=by
 obtain⟨c,hc⟩:=h;unfold Nr at hx hy;by_cases c0:c=0
 ·rw[c0,Int.mul_zero]at hc;omega
 ·exfalso
  rcases Int.lt_or_gt_of_ne c0 with l|l
  ·have:M*c<=M*(-1):=Int.mul_le_mul_of_nonneg_left (by omega) (by omega);omega
  ·have:M*1<=M*c:=Int.mul_le_mul_of_nonneg_left (by omega) (by omega);omega
theorem Og{M:Int}(hM:2<=M){x:Int}(h:M∣x-1):nr M x=1:=Nr.eq (M:=M) (by omega) (xU (by omega) x) (by unfold Nr;omega) (by
 have:=Int.dvd_add (zF M x) h
 rwa [show nr M x-x+(x-1)=nr M x-1 by omega]at this)
theorem uK{M:Int}{p:Nat}(hp:Om.bQ p)(hM:¬(p:Int)∣M){x:Int}(h1:M∣x)(h2:(p:Int)∣x):M*p∣x:=by
 obtain⟨y,rfl⟩:=h1;rcases mY hp h2 with z|⟨e,he⟩
 ·exact absurd z hM
 ·exact⟨e,by rw[he,Int.mul_assoc]⟩
structure WgI(P g:List Int)(N:Int)(told:List Int)(M:Int)(prime:Nat)(ripe:Bool)(bad good:Nat):Prop where
 mon:Mon told
 ge:g.length<=told.length
 le:told.length<=P.length
 pos:0<M
 div:∀q:Nat,Om.bQ q->(q:Int)∣M->q<=prime
 Ox:told.length=g.length->∀k,M∣co told k-co g k
 near:M≠1->∀k,Nr M (co told k)
 KW:∃X:Nat,(X:Int)∣N/\2^(19*bad)<=X/\∀q:Nat,Om.bQ q->q∣X->q<=prime
 Cd:0<good->told.length=g.length/\2^(19*good)<=M
 MN:2<=good->(∀k,2*(co g k).natAbs<2^(19*(good-1)))->ripe=true/\told=g
 hi:M<=2^(21*(bad+good))
 first:M=1->told=P
theorem WgI.start{P g:List Int}{N:Int}(hP:Mon P)(hl:g.length<=P.length)(prime:Nat):WgI P g N P 1 prime true 0 0:=
 ⟨hP,hl,Nat.le_refl _,by decide,fun q hq h=>by
  have:=hq.1;have h3:=Int.le_of_dvd (by decide) h;omega,fun _ k=>⟨_,(Int.one_mul _).symm⟩,fun h=>absurd rfl h,⟨1,⟨N,(Int.one_mul N).symm⟩,by decide,fun q hq h=>by
  have:=hq.1;have h3:=Nat.le_of_dvd (by decide) h;omega⟩,fun h=>absurd h (by decide),fun h=>absurd h (by decide),by decide,fun _=>rfl⟩
theorem qJ{N:Int}{prime p bad:Nat}(hp:Om.bQ p)(hlt:prime<p)(hbig:2^19<=p)(hN:(p:Int)∣N)(h:∃X:Nat,(X:Int)∣N/\2^(19*bad)<=X/\∀q:Nat,Om.bQ q->q∣X->q<=prime):
  ∃X:Nat,(X:Int)∣N/\2^(19*(bad+1))<=X/\∀q:Nat,Om.bQ q->q∣X->q<=p:=by
 obtain⟨X,h1,h2,h3⟩:=h;refine⟨X*p,?_,?_,fun q hq hd=>?_⟩
 ·have:=uK (M:=(X:Int)) hp (fun z=>by have:=h3 p hp (Int.ofNat_dvd.mp z);omega) h1 hN
  rwa [Int.natCast_mul]
 ·rw[Nat.mul_add,Nat.pow_add];exact Nat.mul_le_mul h2 hbig
 ·rcases hq.dvd hd with z|z
  ·have:=h3 q hq z;omega
  ·exact Nat.le_of_dvd (by omega) z
theorem WgI.stay{P g told s:List Int}{N M:Int}{prime p bad good:Nat}{ripe:Bool}(h:WgI P g N told M prime ripe bad good)(hp:Om.bQ p)(hlt:prime<p)(hbig:2^19<=p)(hs:Seen g N p s)(hl:told.length<s.length):WgI P g N told M p ripe (bad+1) good:=by
 have hN:(p:Int)∣N:=Classical.byContradiction fun z=>by have:=hs.good z;have:=h.ge;omega
 exact⟨h.mon,h.ge,h.le,h.pos,fun q hq hd=>by have:=h.div q hq hd;omega,h.Ox,h.near,qJ hp hlt hbig hN h.KW,h.Cd,h.MN,Int.le_trans h.hi (by
  have:(2:Nat)^(21*(bad+good))<=2^(21*(bad+1+good)):=Nat.pow_le_pow_right (by decide) (by omega)
  exact_mod_cast this),h.first⟩
theorem WgI.anew{P g told s:List Int}{N M:Int}{prime p bad good:Nat}{ripe:Bool}(h:WgI P g N told M prime ripe bad good)(hp:Om.bQ p)(hlt:prime<p)(hbig:2^19<=p)(hhi:p<=2^21)(hs:Seen g N p s)(hl:s.length<told.length):
  ∃DW rE,DW+rE=bad+good+1/\WgI P g N (s.map (nr p)) p p true DW rE:=by
 have hp2:=hp.1;have hg0:good=0:=by
  by_cases c:good=0
  ·exact c
  ·have:=(h.Cd (by omega)).1;have:=hs.ge;omega
 have hle:=h.le;have hsp:=hs.mon.pos;have hpp:(2:Int)<=p:=by omega
 have hc:∀k,co (s.map (nr p)) k=nr p (co s k):=fun k=>tW (by unfold nr;rw[Int.zero_emod];split<;>omega) s k;have hm:Mon (s.map (nr p)):=⟨by rw[List.length_map];exact hsp,by rw[List.length_map,hc,hs.mon.one];exact Og hpp ⟨0,by rw[Int.mul_zero];rfl⟩⟩;have Aw:(s.map (nr p)).length=g.length->∀k,(p:Int)∣co (s.map (nr p)) k-co g k:=fun e k=>by
  rw[hc];have:=Int.dvd_add (zF p (co s k)) (hs.eq (by rwa [List.length_map]at e) k)
  rwa [show nr p (co s k)-co s k+(co s k-co g k)=nr p (co s k)-co g k by omega]at this
 have hnear:(p:Int)≠1->∀k,Nr p (co (s.map (nr p)) k):=fun _ k=>by rw[hc];exact xU (by omega) _
 have hdiv:∀q:Nat,Om.bQ q->(q:Int)∣p->q<=p:=fun q _ hd=>Nat.le_of_dvd (by omega) (Int.ofNat_dvd.mp hd);by_cases c:s.length=g.length
 ·refine⟨bad,1,by omega,hm,by rw[List.length_map];exact hs.ge,by rw[List.length_map];omega,by omega,hdiv,Aw,hnear,?_,fun _=>⟨by rw[List.length_map];exact c,by exact_mod_cast hbig⟩,fun z=>absurd z (by decide),?_,fun z=>by omega⟩
  ·obtain⟨X,h1,h2,h3⟩:=h.KW;exact⟨X,h1,h2,fun q hq hd=>by have:=h3 q hq hd;omega⟩
  ·have:(2:Nat)^21<=2^(21*(bad+1)):=Nat.pow_le_pow_right (by decide) (by omega)
   exact_mod_cast Nat.le_trans hhi this
 ·have hN:(p:Int)∣N:=Classical.byContradiction fun z=>c (hs.good z);refine⟨bad+1,0,by omega,hm,by rw[List.length_map];exact hs.ge,by rw[List.length_map];omega,by omega,hdiv,Aw,hnear,qJ hp hlt hbig hN h.KW,fun z=>absurd z (by decide),fun z=>absurd z (by decide),?_,fun z=>by omega⟩;have:(2:Nat)^21<=2^(21*(bad+1+0)):=Nat.pow_le_pow_right (by decide) (by omega)
  exact_mod_cast Nat.le_trans hhi this
theorem WgI.join{P g told s jH:List Int}{N M:Int}{prime p bad good:Nat}{ripe Jg:Bool}(h:WgI P g N told M prime ripe bad good)(hp:Om.bQ p)(hlt:prime<p)(hbig:2^19<=p)(hhi:p<=2^21)(hs:Seen g N p s)(hl:s.length=told.length)
  (hl':jH.length=told.length) (ht:∀k,k<told.length->∃w:Int,(p:Int)∣M*w-(co s k-co told k)/\co jH k=nr (M*p) (co told k+M*w)) (hr:Jg=true↔jH=told):
  ∃DW rE,DW+rE=bad+good+1/\WgI P g N jH (M*p) p Jg DW rE:=by
 have hp2:=hp.1;have hM:=h.pos;have hpM:¬(p:Int)∣M:=fun z=>by have:=h.div p hp z;omega
 have hpp:(2:Int)<=p:=by omega
 have hMp:(2:Int)<=M*p:=by
  have:1*(2:Int)<=M*p:=Int.mul_le_mul (by omega) hpp (by decide) (by omega);omega
 have hle:=h.le;have hge:=h.ge;have htp:=h.mon.pos;have a1:∀k,M∣co jH k-co told k:=fun k=>by
  by_cases c:k<told.length
  ·obtain⟨w,_,e⟩:=ht k c;rw[e];have e1:M∣nr (M*p) (co told k+M*w)-(co told k+M*w):=Int.dvd_trans (Int.dvd_mul_right M p) (zF _ _);have e2:M∣M*w:=Int.dvd_mul_right ..;have:=Int.dvd_add e1 e2
   rwa [show nr (M * ↑p) (co told k+M*w)-(co told k+M*w)+M*w=nr (M * ↑p) (co told k+M*w)-co told k by omega]at this
  ·rw[bh (by omega),bh (by omega)];exact⟨0,by rw[Int.mul_zero];rfl⟩
 have a2:∀k,(p:Int)∣co jH k-co s k:=fun k=>by
  by_cases c:k<told.length
  ·obtain⟨w,h1,e⟩:=ht k c;rw[e];have e1:(p:Int)∣nr (M*p) (co told k+M*w)-(co told k+M*w):=Int.dvd_trans (Int.dvd_mul_left M p) (zF _ _);have:=Int.dvd_add e1 h1
   rwa [show nr (M * ↑p) (co told k+M*w)-(co told k+M*w)+(M*w-(co s k-co told k))=nr (M * ↑p) (co told k+M*w)-co s k by omega]at this
  ·rw[bh (by omega),bh (by omega)];exact⟨0,by rw[Int.mul_zero];rfl⟩
 have hnear:M*p≠1->∀k,Nr (M*p) (co jH k):=fun _ k=>by
  by_cases c:k<told.length
  ·obtain⟨w,_,e⟩:=ht k c;rw[e];exact xU (by omega) _
  ·rw[bh (by omega)];unfold Nr;omega
 have PL:co jH (jH.length-1)=1:=by
  rw[hl'];refine Nr.eq (M:=M*p) (by omega) (hnear (by omega) _) (by unfold Nr;omega) (uK hp hpM ?_ ?_)
  ·have:=a1 (told.length-1)
   rwa [h.mon.one]at this
  ·have:=a2 (told.length-1);have e:=hs.mon.one;rw[hl]at e
   rwa [e]at this
 have hm:Mon jH:=⟨by omega,PL⟩;have hdiv:∀q:Nat,Om.bQ q->(q:Int)∣M*p->q<=p:=fun q hq hd=>by
  rcases mY hq hd with z|z
  ·have:=h.div q hq z;omega
  ·exact Nat.le_of_dvd (by omega) (Int.ofNat_dvd.mp z)
 have Aw:jH.length=g.length->∀k,M*p∣co jH k-co g k:=fun e k=>by
  refine uK hp hpM ?_ ?_
  ·have:=Int.dvd_add (a1 k) (h.Ox (by omega) k)
   rwa [show co jH k-co told k+(co told k-co g k)=co jH k-co g k by omega]at this
  ·have:=Int.dvd_add (a2 k) (hs.eq (by omega) k)
   rwa [show co jH k-co s k+(co s k-co g k)=co jH k-co g k by omega]at this
 have hhi':∀x,x=bad+good+1->M*p<=2^(21*x):=fun x hx=>by
  rw[hx,show 21*(bad+good+1)=21*(bad+good)+21 by omega,Int.pow_add];exact Int.mul_le_mul h.hi (by exact_mod_cast hhi) (by omega) (Int.le_of_lt (Int.pow_pos (by decide)))
 by_cases c:s.length=g.length
 ·refine⟨bad,good+1,by omega,hm,by omega,by omega,by omega,hdiv,Aw,hnear,?_,fun _=>⟨by omega,?_⟩,fun h2 hb=>?_,hhi' _ (by omega),fun z=>by omega⟩
  ·obtain⟨X,h1,h2,h3⟩:=h.KW;exact⟨X,h1,h2,fun q hq hd=>by have:=h3 q hq hd;omega⟩
  ·rw[show 19*(good+1)=19*good+19 by omega,Int.pow_add];refine Int.mul_le_mul ?_ (by exact_mod_cast hbig) (by decide) (by omega);by_cases c0:good=0
   ·rw[c0];show(1:Int)<=M;omega
   ·exact(h.Cd (by omega)).2
  ·rw[Nat.add_sub_cancel]at hb;have hgo:=h.Cd (by omega);have hM1:M≠1:=fun z=>by
    rw[z]at hgo;have h3:=hgo.2;have:(2:Int)^(19*1)<=2^(19*good):=by exact_mod_cast Nat.pow_le_pow_right (n:=2) (by decide) (show 19*1<=19*good by omega)
    have:(2:Int)^(19*1)=524288:=by decide
    omega
   have gn:∀k,Nr M (co g k):=fun k=>by
    have h3:=hb k;have h4:=hgo.2;have h5:((2*(co g k).natAbs:Nat):Int)<M:=Int.lt_of_lt_of_le (by exact_mod_cast h3) h4;unfold Nr;omega
   have et:told=g:=nM hgo.1 fun k=>(h.near hM1 k).eq hM (gn k) (h.Ox hgo.1 k);have gn':∀k,Nr (M*p) (co g k):=fun k=>by
    have h3:=gn k;unfold Nr at h3⊢;have:M*1<=M*p:=Int.mul_le_mul_of_nonneg_left (by omega) (by omega);omega
   have et':jH=g:=nM (by omega) fun k=>(hnear (by omega) k).eq (by omega) (gn' k) (Aw (by omega) k);exact⟨hr.mpr (by rw[et',et]),et'⟩
 ·have hN:(p:Int)∣N:=Classical.byContradiction fun z=>c (hs.good z);have hg0:good=0:=by
   by_cases c0:good=0
   ·exact c0
   ·have:=(h.Cd (by omega)).1;omega
  subst hg0;exact⟨bad+1,0,by omega,hm,by omega,by omega,by omega,hdiv,Aw,hnear,qJ hp hlt hbig hN h.KW,fun z=>absurd z (by decide),fun z=>absurd z (by decide),hhi' _ (by omega),fun z=>by omega⟩
theorem WgI.few{P g told:List Int}{N M:Int}{prime bad good U V:Nat}{ripe:Bool}(h:WgI P g N told M prime ripe bad good)(hN:N≠0)(hV:Bd V N)(hU:∀k,Bd U (co g k))(hne:¬(ripe=true/\told=g)):19*(bad+good)<=V+U+38:=by
 obtain⟨X,h1,h2,_⟩:=h.KW;have b1:19*bad<=V:=by
  have h3:=Nat.le_of_dvd (by omega) (rQ.mp h1);have h4:2^(19*bad)<2^V:=Nat.lt_of_le_of_lt (Nat.le_trans h2 h3) hV;have:=(Nat.pow_lt_pow_iff_right (by decide:1<2)).mp h4;omega
 have b2:19*good<=U+38:=by
  by_cases c:2<=good
  ·by_cases d:∀k,2*(co g k).natAbs<2^(19*(good-1))
   ·exact absurd (h.MN c d) hne
   ·obtain⟨k,hk⟩:=Classical.not_forall.mp d;have h3:(co g k).natAbs<2^U:=hU k;have h4:2^(19*(good-1))<2^(U+1):=by rw[Nat.pow_succ];omega
    have:=(Nat.pow_lt_pow_iff_right (by decide:1<2)).mp h4;omega
  ·omega
 omega
end Pm
namespace Om
theorem rO{n:Nat}(h2:2<=n)(h:∀d,2<=d->d*d<=n->¬d∣n):bQ n:=⟨h2,fun d hd=>by
 by_cases c1:d=1
 ·exact .inl c1
 by_cases c2:d=n
 ·exact .inr c2
 exfalso
 obtain⟨e,he⟩:=hd;have d0:d≠0:=fun z=>by rw[z,Nat.zero_mul]at he;omega
 have e0:e≠0:=fun z=>by rw[z,Nat.mul_zero]at he;omega
 have e1:e≠1:=fun z=>by rw[z,Nat.mul_one]at he;omega
 by_cases c:d<=e
 ·exact h d (by omega) (by rw[he];exact Nat.mul_le_mul_left d c) ⟨e,he⟩
 ·exact h e (by omega) (by rw[he];exact Nat.mul_le_mul_right e (by omega)) ⟨d,by rw[he,Nat.mul_comm]⟩⟩
theorem Cv{n d:Nat}(h2:2<=d)(h:d*d<=n)(hd:d∣n):¬bQ n:=fun hp=>by
 have:d*2<=d*d:=Nat.mul_le_mul_left d h2;rcases hp.2 d hd with e|e<;>omega
def PR:Nat:=43571519119201362812999826845982751305620981793717429470673603275936152927709399635933610669671466973821241878720715105717436485894379942430461626673440299163796924436746229228614460476842261843714753967609841797025310982960825865753598345091694825344721438391478216968398650913464229700972723456395252658036295111351718208197542229884535562911430701228833268752819967566938433518416018400115565501955319083147587583881953995536441781216694995306260888155507575210
theorem K4:∀d,d<1100->2<=d->Nat.gcd d PR≠1:=by decide +kernel
theorem CN{n:Nat}(h2:2<=n)(hn:n<1210000)(h:Nat.gcd n PR=1):bQ n:=rO h2 fun d hd hdd hdv=>by
 by_cases c:d<1100
 ·refine K4 d c hd ?_;have:Nat.gcd d PR∣Nat.gcd n PR:=Nat.dvd_gcd (Nat.dvd_trans (Nat.gcd_dvd_left ..) hdv) (Nat.gcd_dvd_right ..);rw[h]at this;exact Nat.dvd_one.mp this
 ·have:1100*1100<=d*d:=Nat.mul_le_mul (by omega) (by omega);omega
def unp:Nat->Nat->List Nat
 |0,_=>[]
 |k+1,n=>2*(n%64)::unp k (n/64)
def steps:List Nat:=3::([0x20750130318504818904528504f0c23d908c0421c30c218714c28518120a0892411830c218610918224954108f,0x4908d14c10620a1460431880ca08114418618f24b0c70870cf2070810c63870831c2244093141189381141252,0x4504205514d0811431d224b0432c61051030861903830423030c42e41051810c21d42853421c528510e0c90c6,0xc24c528804b0d50460870c32040c204f0841851c204818904308f3433024831083420c31050c31c50c90cc348,0x811441532c13c81030830c40892476020c11441940cd1530cf2031c818108114118f2060c72540436842c10c3,0x9892460420c74850c11410da40314714d24320408418e3c45031c50c40d41865432822413861c308a0e00c7189,0x2413063811473051871490451c22490461491c228324e0450c310320d24504c0cb0c12c41850c32830875c310f,0x4c0c51810812c10812c61c21020c604c0860c10c50421c540230d2070872462c32413990c37855442c1207083,0xc638c0c630414124510b18c04f08414a18248310204810360804624624578708a08a0cc1821890c72c10cb114,0x18c0c60490c63c21c608f1030c31890840c22410c210510504f0931415042c42c72042461881c32c31cb105058,0x1081810cf3095550810890481080cc1c20cd2070860450432c32832040db0c51030831c50c30cc34f7410831c2,0x30304608d2432091870840872c12011413c60833c304308d08108724c48618f2010c24051c50453c40810812c6,0xc33c408408d3023100ce35104b18c1815c11923c30813861c52443872032462834431dd2410c31431843872c3,0xd00c210234c08c04f20604308f10818414130e18708120a2453060c41821030813813c21960834c624f144149,0x1cf0c20c43c318b04e0c61c20ca3027c52412481c60872ca0c224414f0450423031cf8463050c70c6143195102,0x2410c62460870841880ca0811890832471413020c32442431440c50451812430981c91460c12461821860c6186,0x1860811860c53c60490cb1833c108c04c0d404e04b6043c61821c5045303585a051862830c21874862153c124b,0x14424e0c91836c424504908318120730204e3c108a1821060c20c430e3042c778504b0c118e1020c31032c90cd,0x2451c344108119442310e10228608d0861030c20c408f2882864490451033c608f1081c318504b28e1051cc2c7,0x1c31431c62c31c80490c21812451d80c31431c32451c31562031060871833d13013c50451090c50c12451020c1,0x452824861831810c624504f0c26430c23060d51092ca1460481020543c448624224138604805250d0c20c904e,0xc22852460d03810c52853013030836030467410cc1415c40c31440c90c21020c10c86491431c32091062ca209,0x891840cf0890462430890432c43cc20f3060cc1051056ca3021052890cc0c50cc6c71834520461530cf4442c1,0x18204b0cc1021c20ca14118b2820461502040c30831ce18a09614d2030453453030c31c51060cc0871431d5081,0x10810e10c1461c57831c330210b0491430c71410833d63023460841461092463031410c30860430cc0c510b6c7,0x3c108310330c2420c11410830c13890c718e0c30460813092c31110490c84862850cd20618d4432860c30c6149,0x1492461833040c82430d21cc14114c0d60c529b08a0c81861c80c408144108c0420c10c61410c534920c04e042,0x4052460c33070c224a25518308108114c2431d40420424931940430ce10510218d0840c53c61832880d3141546,0x14a2c628354308904b0c43060811411461c204e04324234308f34324218a0c22530873c224610518a0c320c306,0x3c25830c518418b2411430430cf39524318611808408718f14f1c23010818c70c60c66892411412d61553031c3,0xc22442c30d21020452430460c644414418614c0c310210518424624528c20d3841440c23033cc241141246306,0x2410830642451830460c21d12860872c90434473050c62411502451033020ca0c920c0420c71500870cc2c10c3,0x1863830c70891843c230c3c10830e20c20421c835404b1051870c31441863891c348204b0452413cc086109386,0x1861471431123c80cc24138d0810861900c210944d1413c620a2460841442451c504f3c828230118540204c081,0x1440983c305134909c0811440cf14a1851030c50541061820c30451091822430c31082535043c6546083241081,0x4228b0451020c42091871824c51061850c63420e11c518124618218148528f0ce0cd08618115b0460c83ca201,0x28c09014a2c10c61430420c13c320714310b3012c904608a4850ca44448308d2041431032070c308918310344c,0x48c0835850cf0c12073c80ca2040c31440cc08414120a2d308125218e0c42495450451835440845450d60cb0c6,0x24150425d1954032426010c61411853c44820c72101880451c90c20481c810504654530714414119254e282241,0x830433c20cf18618318408708f0cd0830c918f1c80460cc0833071850c708c04318518418e34614905428c482,0x5110908a1440c22830c31470813830c60c70c204c0830c420161110540638a1430422820ca0d40450d51c3381,0x2093100cb0421c80c438f0450421811851c30c228c0893c150124321231e30118b0c40830c91056031060813ce,0x18c1c31433c70c231030f2093061c20cc0c11533060810841820c92441824812d80c118b2410c51c9485181141,0x30408420a0813863013021c309030c51314904914d6051020c90c42451081c338a0c204804b1c20ca089241245,0x2c43c308a2c13c30c91410c22581810c62460d124c0c91c32c660a2c10860451021061432820c408124314f285,0x3462453040c30dd04228234824d0832910c414430308d15b1050451c308a18620a8c31034410cb0c660118b0c4,0x10308120114d3050ca0c53073862445c41440930c20c13080430863c72045423420461412092832061871470c8,0x1432824021034410d14810c80c72453ca54920718804e1813020421870d818231060308610350d0831c8049383,0x44138408a0c5247188a8420604320304318b0c61022411410cb10b28f0c614a0836c70c914a0cf68714328c099,0x480494410860461430452440d26842c408414f10510608c0c31030831c20432c12075c60432d02012101491c3,0x4c224a1442c63c61c22830c21860cf0c42ca0cf3812453014430c40833060c748504b0d83031c60c2243046206,0x921861052892cd3031430d80461411470c354309024918638910218c04b4810842013c90c2544141183084083,0x430c228b24a0c92c90420423c718510618518768c1093861830467440841440c20d21c204b0d23061d2189381,0x10f2c31033860c41821c30961410861c52851080c30460c614348318d1890931892c304b04c0861030810dd0c3,0x3c240210330314d0812c30c33c90492031050cd3c54c21891021032c13811831411410833c448c1433421c53c6,0x4309e0d00842010894050c970258918524148c1414862061051874411850421c32070c954218118204c24e181,0x1441882411500c824424828f0872032850c68851c30890481ce04510b3c42d31414470c22412422610c904f086,0x2c91065431461c81050450490870817413841832c610614160e1830cd2430810890c114c1053c1308243042106,0x4c21032ca3831c21060c504615015e1c540228308744924654108a09914109e1810c81c20451051052860d2081,0x831051870830462c420d60348824c1842490c204e0420c11881021870c318818a3961460c118528510b10314c,0x18310314d3860430900cb04819c08d18524118b1c51950433810840c30830c624934f14a08108730818408f286,0xc61440cf84228204211d04524c1050420ca2064860464414433c408d0810831e92893d41c33c80c118314f309,0x8910620a2c119208424210b1c51c53c124510b1090863c41911c30890460c52860c20d21091411520c418c507,0x40b1c615050108610b40314108f2821861873d12920c20451c20551431cb0c70a80810c61460c11500c5243253,0xed4830845061050451c314394c0830451c318524118308a0c63870c92c738910b10204c483141983103084083,0xc32452460451c33891034432880450cf18408334308318305110608c0c60451050525491860c5283086049084,0xc30cc3063811894440c50c418810218d25104314905404b30108c3c31c324b3120ca0890d9146183592141093,0xc11440cc0c33031412c330730308419208a2011440813863461461032031c21870861862442463c20c9309781,0x10b1870920490ce18c0d21c21c31501852860c92c43c20cf1c34490465042490c21c51840cb2862060450ca54b,0x8108d1472092470c50481890c340614708d2cc34e1814822490c714124308c0482854c204570524108a0db206,0x3cf3cb2460421860c31c20481062450c310308718f0813090d208714924a08f0c108c18114d20c0c42c324c109,0x10314a14108718c14c1ce1c53c310c18e0421c38032851c32c40810cf0841881843031883420c304f1850c1210,0x4c50cd0c60c51870c91411831820c10cb1054090861032031c534914d0cf1440890458820c43c2247147152246,0x1111c234f18e0c720714f0c31c510318531324b0c11861431c918c5011491c66c80e80842c420144768c108042,0x38d20904e1831834093c50580ce60745524610c1550c10c320604924c3020c118b1061441463422430c4183242,0x4083cf04b0c61021890433872c418c0831c51061413812090423420c12ca3c218160c0c21c504e54148314d147,0x1891870810814430431430c904b0450c41501471441441884061851030864840c31832c90c31030861c914124e,0xc84c36c62462450c34051050483120d32060463c204248a08c0c92410c60833c60c31d50831812432c73c914f,0x14f3061030c530738430638108610c1523095821860c33031035c44920812c90481c60c22410812c6282045043,0x5450c42c40c38071460452863020c31032070861c80c77412010cb5821c93cb0cc1024810c3482105102109087,0x2421093cc0861840890513cc24708c1841856c70c31490c71460c10d524228320418f0cb18a08c10e0c92442c1,0x420420c42071952490c20492cc24a1921891831473811834441850c60433c20c72481c914708c0450c73860c1,0x4840843031983021860450c750310c2420cf04308108131704510b18954904314610b04e04c0c308c1c3182486,0x6873c21023cd1473c20ca3842c30c31030811440c23450c14821051810d52075421890d60811440c518f181386,0x430871431c60832892c10c30cb2861430480c42423c40c50451c20c424b2530c324c0c61412c40cb0480420c1,0x1022860cb0421c510230138720610204234218c0c114415b0c40cc4834440c62cd0891083071881200c12d3545,0xc40c23063630450c718c0c51c23603c918144324408438720a0872071890922861412015062410cb1025442c3,0x24408424f0c20451c21c518421b0432c40870c20462511050c30c10c61443cf2db2820c78c32971811440c2405,0x3021020ca24b24f04f14138114628920604858608131208a3020c31c534818120f1c33c60c504e04f147248282,0xc20450c60c33421038c11500c204314414c0c130534b34518138418e0d31410c52473c504524304e711184081,0xcb04930830318610308a0c518408a18344318144714a2420cf1c50c10c218310f1411830950c40c80460812ca,0x1880492c330328b04834c14628230310314108f1030c318518310f2181930c548a2011413813020c11440c2181,0x14d14115c0c324618924834b28630348e4021c51c51092031140421cb1c54870c62c330c0d30c3081302187087,0x1c308304c20139318210510228338d08124f0891c204b0cf0451051811850c709044448b04344f18438420d243,0xc21050ca1850481872040c51140ca0843020c904f2432031841442076cf2cf2496c30431431c205106a0cb288,0x1831891461870813120cf1412421c210620c3c40890cf04510b1c92071412451831c32c92431cc20a0cc203103,0x3c10872101412060450c70cf3c30c62420ca1410c210b0c324d3c324b0c10c30871431cb1060831c33020453c4,0xcc0861813c20c30457051c30c204b0492451c558504e0491430c15430832430c40c30870c20c448f08918144c,0xc51020c118f0c20d22820d20540491831500cf14a0840831032041411411460c12ca0d854e18c486187444147].flatMap (unp 60)++unp 59 0x10872c33040c224174a1683082470c314424b1891090c21810d404248c2821cf1820421093c258f1412c6106)
def FQ:Nat->List Nat->Bool
 |_,[]=>true
 |c,d::r=>match decide (0<d)&&(decide (c+d<1210000)&&Nat.beq (Nat.gcd (c+d) PR) 1)with
  |true=>FQ (c+d) r
  |false=>false
theorem JR:FQ 1000000 steps=true:=by decide +kernel
theorem Cg:steps.length=6000:=by decide +kernel
inductive Many:Nat->Nat->Prop
 |none (c:Nat):Many 0 c
 |more {k c q:Nat}:bQ q->c<q->q<1210000->Many k q->Many (k+1) c
theorem B5:∀(l:List Nat) (c:Nat),2<=c->FQ c l=true->Many l.length c
 |[],c,_,_=> .none c
 |d::r,c,h2,h=>by
  rw[FQ]at h;split at h
  ·rename_i e
   obtain⟨e1,e2⟩:=Bool.and_eq_true_iff.mp e;obtain⟨e2,e3⟩:=Bool.and_eq_true_iff.mp e2;have h1:=of_decide_eq_true e1;have h3:=of_decide_eq_true e2;exact .more (CN (by omega) h3 (Nat.eq_of_beq_eq_true e3)) (by omega) h3 (B5 r (c+d) (by omega) h)
  ·exact absurd h (by decide)
theorem many:Many 6000 1000000:=by
 have:=B5 steps 1000000 (by decide) JR
 rwa [Cg]at this
theorem Many.down{k c c':Nat}(h:Many k c)(hc:c'<=c):Many k c':=by
 cases h with
 |none=>exact .none _
 |more h1 h2 h3 h4=>exact .more h1 (by omega) h3 h4
theorem Many.next{k c:Nat}(h:Many (k+1) c):∃q,bQ q/\c<q/\q<1210000/\∀p,p<=q->Many k p:=by
 cases h with
 |more h1 h2 h3 h4=>exact⟨_,h1,h2,h3,fun p hp=>h4.down hp⟩
theorem bQ.EJ{p:Nat}{a:Int}(h:bQ p)(h0:0<a)(ha:a<(p:Int)):a^(p-1)%(p:Int)=1:=by
 obtain⟨n,rfl⟩:∃n:Nat,a=(n:Int):=⟨a.toNat,by omega⟩;have:=h.Ml (a:=n) (by omega) (by omega);have e:((n^(p-1)%p:Nat):Int)=((1:Nat):Int):=by rw[this]
 rw[Int.natCast_emod,Int.natCast_pow]at e;exact e
end Om
namespace Pm
open Rm
theorem D8{P:Nat}(hP:Om.bQ P){p:List Int}(hp:Py P p)(hn:p≠[]):u6 P p (m5 P p):=by
 have h2:=hP.1;have hpos:0<p.length:=List.length_pos_iff.mpr hn;have hP0:(P:Int)≠0:=by omega
 have tkP:∀n,tk (P:Int) n=n%(P:Int):=fun n=>fP hP0 n;have l0:=uQ hn hp.tr;have l1:=hp.co (p.length-1);rw[tkP]at l1;have r0:0<=co p (p.length-1):=by rw[<-l1];exact Int.emod_nonneg _ hP0
 have r1:co p (p.length-1)<(P:Int):=by rw[<-l1];exact Int.emod_lt_of_pos _ (by omega)
 generalize hl:co p (p.length-1)=a at l0 r0 r1;have hinv:(a^(P-2)*a)%(P:Int)=1:=by
  rw[<-Int.pow_succ,show(P-2).succ=P-1 by omega];exact hP.EJ (by omega) r1
 have e:∀k,co (m5 P p) k=co p k*a^(P-2)%(P:Int):=fun k=>by
  rw[m5,tW (by simp),hl]
 have len:(m5 P p).length=p.length:=by rw[m5,List.length_map]
 have top:co (m5 P p) ((m5 P p).length-1)=1:=by
  rw[len,e,hl,Int.mul_comm];exact hinv
 have hm:m5 P p≠[]:=fun z=>by rw[z]at len;simp at len;omega
 refine⟨⟨ig hm (by rw[top];decide),fun x hx=>?_⟩,len,fun _=>⟨by omega,top⟩,⟨a^(P-2),fun k=>?_⟩,⟨a,fun k=>?_⟩⟩
 ·obtain⟨y,_,rfl⟩:=List.mem_map.mp hx;rw[tkP];exact Int.emod_emod_of_dvd _ (Int.dvd_refl _)
 ·rw[e,tkP,tkP,Int.emod_emod_of_dvd _ (Int.dvd_refl _),Int.mul_comm]
 ·rw[e,tkP,tkP,Int.mul_emod a,Int.emod_emod_of_dvd _ (Int.dvd_refl _),<-Int.mul_emod,Int.mul_left_comm a,Int.mul_comm a,Int.mul_emod,hinv];rw[Int.mul_one,Int.emod_emod_of_dvd _ (Int.dvd_refl _)]
theorem Km{P:Nat}(hP:Om.bQ P){one other:Int}(h0:0<other)(h:other<(P:Int)):(P:Int)∣other*(one*other^(P-2)%(P:Int))-one:=by
 have h2:=hP.1;have hinv:(other^(P-2)*other)%(P:Int)=1:=by
  rw[<-Int.pow_succ,show(P-2).succ=P-1 by omega];exact hP.EJ h0 h
 have h1:(1:Int)%(P:Int)=1:=Int.emod_eq_of_lt (by decide) (by omega);refine Int.dvd_of_emod_eq_zero (Int.emod_eq_emod_iff_emod_sub_eq_zero.mp ?_);rw[Int.mul_emod,Int.emod_emod_of_dvd _ (Int.dvd_refl _),<-Int.mul_emod,Int.mul_left_comm,Int.mul_comm other,Int.mul_emod,hinv,Int.mul_one,Int.emod_emod_of_dvd _ (Int.dvd_refl _)]
theorem Ny{b f:Int}{s t:Nat}{l m:List Int}{u v:Nat}(hb:0<=b)(hb1:b<2097152)(hu:21<=u)(hf:Bd u f)(hl:∀k,Bd u (co l k))(hm:∀x∈m,Bd v x)(k:Nat):Bd (u+v+1) (lf b f s t l m k):=by
 unfold lf;split
 ·refine uU hb ((Bd.of (n:=21) (by omega) (by omega)).mono (by omega)) ?_;rw[Int.sub_eq_add_neg];refine Bd.add ((hl k).mono (by omega)) ?_;have:=hf.mul (mD hm (k-s));unfold Bd at this⊢;rw[Int.natAbs_neg];exact this
 ·exact(hl k).mono (by omega)
def jw(M t:Int)(p:Nat)(s:Int):Int:=(tk p (s-t))*(tk p M)^(p-2)%(p:Int)
def jn(M t:Int)(p:Nat)(s:Int):Int:=nr (M*p) (t+M*jw M t p s)
theorem Tf{M t s:Int}{p:Nat}(hp:Om.bQ p)(hM:¬(p:Int)∣M):(p:Int)∣M*jw M t p s-(s-t):=by
 have h2:=hp.1;have hp0:(p:Int)≠0:=by omega
 have r0:=Int.emod_nonneg M hp0;have r1:=Int.emod_lt_of_pos M (show(0:Int)<p by omega);have rn:M%(p:Int)≠0:=fun z=>hM (Int.dvd_of_emod_eq_zero z);have h:=Km hp (one:=tk p (s-t)) (other:=M%(p:Int)) (by omega) r1;unfold jw;rw[fP hp0 M];generalize tk (p:Int) (s-t)*(M%(p:Int))^(p-2)%(p:Int)=w at h;rw[fP hp0]at h;have e1:(p:Int)∣M*w-M%(p:Int)*w:=by
  rw[<-Int.sub_mul];exact Int.dvd_trans (Int.dvd_self_sub_emod) (Int.dvd_mul_right ..)
 have e2:(p:Int)∣(s-t)%(p:Int)-(s-t):=by
  have:(p:Int)∣(s-t)-(s-t)%(p:Int):=Int.dvd_self_sub_emod;have:=Int.dvd_neg.mpr this
  rwa [Int.neg_sub]at this
 have:=Int.dvd_add (Int.dvd_add e1 h) e2
 rwa [show M*w-M%(p:Int)*w+(M%(p:Int)*w-(s-t)%(p:Int))+((s-t)%(p:Int)-(s-t))=M*w-(s-t)by omega]at this
theorem GP{M t s:Int}{p:Nat}(hp:Om.bQ p):0<=jw M t p s/\jw M t p s<p:=by
 have h2:=hp.1;exact⟨Int.emod_nonneg _ (by omega),Int.emod_lt_of_pos _ (by omega)⟩
theorem Div.dv{b:Int}{P M q r:List Int}(h:Div b P M q r)(hM:Mon M):r=[]↔Dv b M (co P):=by
 constructor
 ·rintro rfl;exact⟨co q,q.length,Fs.co q,fun k=>by rw[<-h.eq k,dB,Int.add_zero]⟩
 ·intro d;have e:Dv b M (co r):=(d.sub (Dv.self (b:=b) (m:=M) (Fs.co q))).congr fun k=>by
   have e1:tk b (co P k + -cv (co q) (co M) k)=tk b ((cv (co q) (co M) k+co r k) + -cv (co q) (co M) k):=aQ (h.eq k).symm rfl;rw[show co P k-cv (co q) (co M) k=co P k + -cv (co q) (co M) k by omega,e1];exact congrArg (tk b) (by omega)
  have z:=e.short hM ((Fs.co r).mono (by have:=h.short;omega));rw[<-h.ry.tr];exact qj.mpr fun k=>by rw[<-h.ry.co k];exact z k
end Pm
namespace Pm
open Rm Dm
theorem Dy{n:Nat}{x:Int}(h:Bd n x):Bd n (-x):=by unfold Bd at h ⊢;rw[Int.natAbs_neg];exact h
end Pm
namespace Pm
open Rm Dm
theorem Je{f:Nat->Int}{n:Nat}(h:Fs f n):∃S:List Int,∀k,co S k=f k:=⟨ofF n f,fun k=>by
 rw[bI];by_cases c:k<n
 ·rw[if_pos c]
 ·rw[if_neg c,h k (by omega)]⟩
end Pm
namespace Pm
open Rm
def ev(p:List Int)(x:Int):Int:=sm p.length fun k=>co p k*x^k
theorem jQ{p:List Int}{n:Nat}(h:p.length<=n)(x:Int):sm n (fun k=>co p k*x^k)=ev p x:=
 fH h fun k h1 _=>by rw[bh h1,Int.zero_mul]
theorem zJ(x:Int):ev [] x=0:=rfl
theorem ED(c x:Int):ev [c] x=c:=by
 show 0+co [c] 0*x^0=c;rw[cF,Int.pow_zero,Int.mul_one,Int.zero_add]
abbrev lin(r:Int):List Int:=[0-r,1]
theorem IV(r:Int):Mon (lin r):=⟨by show 0<2;decide,rfl⟩
theorem Hv(f:Nat->Int)(r:Int):∀k,cv f (co (lin r)) k=(if k=0 then 0 else f (k-1))-r*f k:=fun k=>by
 rw[gb];cases k with
 |zero=>
  show 0+f 0*co (lin r) 0=_;rw[if_pos rfl,cF,Int.zero_add,Int.mul_sub,Int.mul_zero,Int.mul_comm]
 |succ k=>
  rw[if_neg (Nat.succ_ne_zero _),Nat.add_sub_cancel];rw[sm,Nat.sub_self,sm,show k+1-k=1 by omega];rw[fY fun j hj=>by rw[bh (p:=lin r) (show 2<=k+1-j by omega),Int.mul_zero]];rw[cF,fU,cF,Int.mul_one,Int.zero_add,Int.mul_sub,Int.mul_zero,Int.zero_sub,Int.mul_comm (f (k+1))];rfl
theorem zK(f:Nat->Int)(x:Int):∀n,sm (n+1) (fun k=>(if k=0 then 0 else f (k-1))*x^k)=x*sm n fun k=>f k*x^k:=fun n=>by
 rw[cN,if_pos rfl,Int.zero_mul,Int.zero_add,<-bw];refine aA fun k _=>?_;rw[if_neg (Nat.succ_ne_zero _),Nat.add_sub_cancel,Int.pow_succ,Int.mul_comm (x^k) x,<-Int.mul_assoc,<-Int.mul_assoc,Int.mul_comm (f k) x]
theorem Div.ev{p q l:List Int}{r:Int}(h:Div 0 p (lin r) q l)(x:Int):Pm.ev p x=(x-r)*Pm.ev q x+Pm.ev l x:=by
 obtain⟨n,h1,h2,h3⟩:∃n,p.length<=n+1/\q.length<=n/\l.length<=n+1:=⟨p.length+q.length+l.length,by omega,by omega,by omega⟩;rw[<-jQ h1 x,<-jQ h2 x,<-jQ h3 x];have e:∀k,co p k=(if k=0 then 0 else co q (k-1))-r*co q k+co l k:=fun k=>by
  have:=h.eq k;rw[bf,bf,Hv]at this;exact this.symm
 rw[aA (g:=fun k=>(if k=0 then 0 else co q (k-1))*x^k+(-r*(co q k*x^k)+co l k*x^k)) fun k _=>?_,cG,cG,zK,bw]
 ·have e2:sm (n+1) (fun k=>co q k*x^k)=sm n fun k=>co q k*x^k:=by
   rw[sm,bh h2,Int.zero_mul,Int.add_zero]
  rw[e2,Int.sub_mul,Int.neg_mul];omega
 ·rw[e k,Int.add_mul,Int.sub_mul,Int.neg_mul,Int.mul_assoc];omega
theorem Div.root{p q l:List Int}{r:Int}(h:Div 0 p (lin r) q l):l=[]↔Pm.ev p r=0:=by
 have e:=h.ev r;rw[Int.sub_self,Int.zero_mul,Int.zero_add]at e;have hs:l.length<2:=h.short
 match l,hs,h.ry with
 |[],_,_=>exact⟨fun _=>by rw[e,zJ],fun _=>rfl⟩
 |[c],_,hr=>
  rw[ED]at e;constructor
  ·intro z;cases z
  ·intro z;rw[e]at z
   exfalso
   have:=hr.tr;rw[z]at this;simp[trim]at this
end Pm
namespace Pm
open Rm
theorem Ko(a:Int)(p:List Int)(x:Int):ev (a::p) x=a+x*ev p x:=by
 rw[<-jQ (p:=a::p) (n:=p.length+1) (Nat.le_refl _) x,cN,cF,Int.pow_zero,Int.mul_one,<-jQ (p:=p) (Nat.le_refl _) x,<-bw];congr 1;refine aA fun k _=>?_;rw[fU,Int.pow_succ,Int.mul_comm (x^k) x,<-Int.mul_assoc,<-Int.mul_assoc,Int.mul_comm (co p k) x]
theorem K7(x:Int)(g:List Int):∀(L P:List Int),(∀k,co P k=cv (co L) (co g) k)->ev P x=ev L x*ev g x
 |[],P,h=>by
  rw[zJ,Int.zero_mul];unfold ev;exact fY fun k _=>by rw[h,eV (fun i _=> .inl (dB i)),Int.zero_mul]
 |a::L,P,h=>by
  obtain⟨Q,hQ⟩:∃Q:List Int,∀k,co Q k=cv (co L) (co g) k:=Je ((Fs.co L).cv (Fs.co g));have ih:=K7 x g L Q hQ;obtain⟨n,h1,h2,h3⟩:∃n,P.length<=n+1/\Q.length<=n/\g.length<=n+1:=⟨P.length+Q.length+g.length,by omega,by omega,by omega⟩;have e:∀k,co P k=a*co g k+(if k=0 then 0 else co Q (k-1)):=fun k=>by
   rw[h,Dc];split
   ·rfl
   ·rw[hQ]
  rw[Ko,<-jQ h1 x,aA (g:=fun k=>a*(co g k*x^k)+(if k=0 then 0 else co Q (k-1))*x^k) fun k _=>by rw[e k,Int.add_mul,Int.mul_assoc],cG,bw,zK,jQ h3,jQ h2,ih,Int.add_mul,Int.mul_assoc]
theorem B3(p:List Int)(r:Int):∃q l,Div 0 p (lin r) q l/\(∀k,co p k=(if k=0 then 0 else co q (k-1))-r*co q k+co l k)/\q.length<=p.length-1:=by
 obtain⟨q,l,h⟩:=Er (b:=0) (IV r) (p:=p) fun k=>bf _;have e:∀k,co p k=(if k=0 then 0 else co q (k-1))-r*co q k+co l k:=fun k=>by
  have:=h.eq k;rw[bf,bf,Hv]at this;exact this.symm
 have hs:l.length<2:=h.short;refine⟨q,l,h,e,?_⟩;by_cases hq:q=[]
 ·rw[hq];exact Nat.zero_le _
 ·have h0:=uQ hq h.qy.tr;have hp:0<q.length:=List.length_pos_iff.mpr hq;have h1:=e q.length;rw[if_neg (by omega),bh (p:=q) (Nat.le_refl _),Int.mul_zero,bh (p:=l) (by omega),Int.sub_zero,Int.add_zero]at h1;have:=wL (p:=p) (k:=q.length) (by rw[h1];exact h0);omega
theorem zf:∀(m:Nat) (L:List Int),Mon L->L.length=m+1->∀xs:List Int,xs.Nodup->(∀x∈xs,ev L x=0)->xs.length<=m
 |_,_,_,_,[],_,_=>Nat.zero_le _
 |0,L,hL,hl,r::ys,_,hr=>by
  exfalso
  have e:L=[1]:=nM (q:=[1]) hl fun k=>by
   cases k with
   |zero=>have:=hL.one;rw[hl]at this;exact this
   |succ k=>rw[bh (by omega),bh (by show 1<=k+1;omega)]
  have:=hr r (List.mem_cons_self ..);rw[e,ED]at this;exact absurd this (by decide)
 |m+1,L,hL,hl,r::ys,hn,hr=>by
  obtain⟨q,l,h,e,lq⟩:=B3 L r;have h0:=hr r (List.mem_cons_self ..);have l0:=h.root.mpr h0;subst l0;have hm:co q m=1:=by
   have h1:=e (m+1);rw[if_neg (by omega),Nat.add_sub_cancel,bh (p:=q) (show q.length<=m+1 by omega),Int.mul_zero,dB,Int.sub_zero,Int.add_zero]at h1;have h2:=hL.one;rw[hl,Nat.add_sub_cancel,h1]at h2;exact h2
  have hlq:q.length=m+1:=by
   have:=wL (p:=q) (k:=m) (by rw[hm];decide);omega
  obtain⟨hn1,hn2⟩:=List.nodup_cons.mp hn;have:=zf m q ⟨by omega,by rw[hlq,Nat.add_sub_cancel];exact hm⟩ hlq ys hn2 fun y hy=>by
   have h1:=h.ev y;rw[hr y (List.mem_cons_of_mem _ hy),zJ,Int.add_zero]at h1;rcases Int.mul_eq_zero.mp h1.symm with z|z
   ·exact absurd (show y=r by omega) (fun z=>hn1 (z▸hy))
   ·exact z
  rw[List.length_cons];omega
theorem DB{M:Nat}{x y:Int}(hx:x≠0)(h:Bd M (x*y)):Bd M y:=by
 unfold Bd at h⊢;rw[Int.natAbs_mul]at h;have h1:1<=x.natAbs:=by omega
 have:1*y.natAbs<=x.natAbs*y.natAbs:=Nat.mul_le_mul_right _ h1;omega
theorem wN{e:Nat}:∀(d:Nat) (g:List Int) (M:Nat),g.length<=d->∀xs:List Int,xs.Nodup->d<=xs.length->(∀x∈xs,Bd e x)->(∀x∈xs,Bd M (ev g x))->∀k,Bd (M+d*(e+3)) (co g k)
 |0,g,_,hl,_,_,_,_,_,k=>by rw[bh (by omega)];exact Bd.zero _
 |d+1,_,_,_,[],_,hd,_,_,_=>absurd hd (by show ¬d+1<=0;omega)
 |d+1,g,M,hl,r::ys,hn,hd,hx,hv,k=>by
  obtain⟨q,l,h,eq,lq⟩:=B3 g r;obtain⟨hn1,hn2⟩:=List.nodup_cons.mp hn;have hl2:l.length<2:=h.short;have er:ev l r=ev g r:=by rw[h.ev r,Int.sub_self,Int.zero_mul,Int.zero_add]
  have el:∀x,ev l x=co l 0:=fun x=>by
   match l,hl2 with
   |[],_=>rw[zJ,dB]
   |[c],_=>rw[ED,cF]
  have c0:co l 0=ev g r:=by rw[<-el r,er]
  have hr:=hv r (List.mem_cons_self ..);have ih:=wN (e:=e) d q (M+1) (by omega) ys hn2 (by rw[List.length_cons]at hd;omega) (fun x h=>hx x (List.mem_cons_of_mem _ h)) fun y hy=>by
   refine DB (x:=y-r) (fun z=>hn1 ((show y=r by omega)▸hy)) ?_;have h1:=h.ev y;rw[el y,c0]at h1;rw[show(y-r)*ev q y=ev g y + -(ev g r)by omega];exact(hv y (List.mem_cons_of_mem _ hy)).add (Dy hr)
  have b1:Bd (e+(M+1+d*(e+3))) (if k=0 then 0 else co q (k-1)):=by
   split
   ·exact Bd.zero _
   ·exact(ih _).mono (by omega)
  have b2:=Dy ((hx r (List.mem_cons_self ..)).mul (ih k));have b3:Bd (e+(M+1+d*(e+3))+1) (co l k):=by
   cases k with
   |zero=>rw[c0];exact hr.mono (by omega)
   |succ k=>rw[bh (by omega)];exact Bd.zero _
  have b4:=(b1.add b2).add b3;have e1:(d+1)*(e+3)=d*(e+3)+(e+3):=Nat.succ_mul ..;rw[eq k,Int.sub_eq_add_neg];exact b4.mono (by omega)
theorem Pg{P:List Int}{x:Int}{u e:Nat}(hu:∀k,Bd u (co P k))(hx:Bd e x):Bd (u+P.length*(e+1)+P.length) (ev P x):=by
 have hp:∀k,Bd (k*e+1) (x^k):=fun k=>by
  induction k with
  |zero=>rw[Int.pow_zero];exact(Bd.of (n:=1) (by decide) (by decide)).mono (by omega)
  |succ k ih=>
   have e1:(k+1)*e=k*e+e:=Nat.succ_mul ..;rw[Int.pow_succ];exact(ih.mul hx).mono (by omega)
 unfold ev;refine(CD (c:=u+P.length*(e+1)) P.length fun k hk=>((hu k).mul (hp k)).mono ?_).mono (by omega);have h1:(k+1)*(e+1)<=P.length*(e+1):=Nat.mul_le_mul_right _ (by omega);have h2:(k+1)*(e+1)=k*(e+1)+(e+1):=Nat.succ_mul ..;have h3:k*(e+1)=k*e+k:=Nat.mul_succ ..;omega
theorem rW(p:Int->Bool):∀xs:List Int,xs.length=(xs.filter p).length+(xs.filter fun x=>!p x).length
 |[]=>rfl
 |x::xs=>by
  have:=rW p xs;cases h:p x
  ·rw[List.filter_cons_of_neg (by rw[h];decide),List.filter_cons_of_pos (by rw[h];rfl),List.length_cons,List.length_cons];omega
  ·rw[List.filter_cons_of_pos h,List.filter_cons_of_neg (by rw[h];decide),List.length_cons,List.length_cons];omega
theorem Ae{P L g:List Int}(hL:Mon L)(he:∀k,co P k=cv (co L) (co g) k)(hl:L.length+g.length=P.length+1){u e:Nat}(hu:∀k,Bd u (co P k))(h2:P.length<=2^e)(k:Nat):Bd (u+P.length*(e+1)+P.length+g.length*(e+3)) (co g k):=by
 obtain⟨xs,hxs⟩:∃xs:List Int,xs=(List.range P.length).map Int.ofNat:=⟨_,rfl⟩;have nd:xs.Nodup:=by
  rw[hxs];refine List.Pairwise.map _ (fun a b h=>?_) (List.nodup_range (n:=P.length));exact fun z=>h (Int.ofNat.inj z)
 have ln:xs.length=P.length:=by rw[hxs];simp
 have bx:∀x∈xs,Bd e x:=fun x hx=>by
  rw[hxs]at hx;obtain⟨i,hi,rfl⟩:=List.mem_map.mp hx;have:=List.mem_range.mp hi;show(Int.ofNat i).natAbs<2^e;show i<2^e;omega
 have h0:(xs.filter fun x=>decide (ev L x=0)).length<=L.length-1:=by
  have:=hL.pos;exact zf (L.length-1) L hL (by omega) _ (nd.filter _) fun x hx=>of_decide_eq_true (List.mem_filter.mp hx).2
 have hc:xs.length=(xs.filter fun x=>decide (ev L x=0)).length+(xs.filter fun x=>!decide (ev L x=0)).length:=rW _ xs;have hp:=hL.pos;refine wN g.length g _ (Nat.le_refl _) (xs.filter fun x=>!decide (ev L x=0)) (nd.filter _) (by omega) (fun x hx=>bx x (List.mem_filter.mp hx).1) (fun x hx=>?_) k;have hne:ev L x≠0:=fun z=>by
  have:=(List.mem_filter.mp hx).2;rw[decide_eq_true z]at this;exact absurd this (by decide)
 refine DB hne ?_;rw[<-K7 x g L P he];exact Pg hu (bx x (List.mem_filter.mp hx).1)
theorem Kv{P:List Int}{a:Nat->Int}(hP:Mon P)(hK:Kp 0 P a){d u ua e U:Nat}(hS:∃Q0,Mon Q0/\Kp 0 Q0 a/\Q0.length<=d+1)(ha:∀n,n<=2*d->Bd ua (a n))(hu:∀k,Bd u (co P k))(h2:P.length<=2^e)(hU:u+P.length*(e+1)+P.length+P.length*(e+3)<=U):
  ∃g L N,Mon L/\Py 0 L/\Kp 0 L a/\(∀q,Kp 0 q a->Dv 0 L (co q))/\L.length+g.length=P.length+1/\(∀k,co P k=cv (co L) (co g) k)/\GcZ P (tp P a) g N/\Bd (d*(ua+d)+1) N/\∀k,Bd U (co g k):=by
 obtain⟨g,L,hL,hLy,hKL,hall,hlen,hE,G⟩:=Ig hP hK;obtain⟨Q0,hQ,hKQ,hQl⟩:=hS;have hLp:=hL.pos;have hl:L.length<=d+1:=Nat.le_trans ((hall Q0 hKQ).len rfl hL hQ) hQl;have hm:(L.length-1)*(ua+(L.length-1))+1<=d*(ua+d)+1:=by
  have:=Nat.mul_le_mul (show L.length-1<=d by omega) (show ua+(L.length-1)<=ua+d by omega);omega
 refine⟨g,L,_,hL,hLy,hKL,hall,hlen,hE,G,?_,fun k=>?_⟩
 ·exact(Dm.HS (u:=ua) fun i j hi hj=>ha _ (by omega)).mono hm
 ·refine(Ae hL hE hlen hu h2 k).mono (Nat.le_trans ?_ hU);have:=Nat.mul_le_mul_right (e+3) (show g.length<=P.length by omega);omega
end Pm
namespace Pm
open Rm
def unit(n j:Nat):List Int:=ofF n fun i=>if i=j then 1 else 0
theorem dJ(n j:Nat):(unit n j).length=n:=aM ..
theorem qe(n j i:Nat):(unit n j).getD i 0=if i<n then(if i=j then 1 else 0)else 0:=bI ..
def ej(b:Int)(rule:List Int)(j n:Nat):Int:=at_ b rule (unit rule.length j) n
theorem kI{b:Int}{rule:List Int}{j n:Nat}(h:n<rule.length):ej b rule j n=if n=j then 1 else 0:=by
 rw[ej,oV (by rw[dJ];exact h),qe,if_pos h]
theorem Nf{b:Int}{rule:List Int}(j:Nat):∀n,rule.length<=n->tk b (ej b rule j n)=tk b (S rule (ej b rule j) n rule.length):=zW (by rw[dJ])
theorem MZ{b:Int}(h1:tk b 1=1){rule:List Int}(j n:Nat):tk b (ej b rule j n)=ej b rule j n:=by
 by_cases h:n<rule.length
 ·rw[kI h];split
  ·exact h1
  ·exact tk0 b
 ·have e:ej b rule j n=tk b (S rule (ej b rule j) n rule.length):=ni (by rw[dJ]) (by rw[dJ];omega);rw[e,jG]
theorem J7{rule:List Int}{f:Nat->Int}{n j:Nat}(hn:rule.length<=n)(hj:j<rule.length)(h:∀i,i<n->f i=if i=n-rule.length+j then 1 else 0):
  S rule f n rule.length=co rule (rule.length-1-j):=by
 rw[zY];have e:sm rule.length (fun k=>co rule k*f (n-1-k))=sm rule.length (fun k=>if k=rule.length-1-j then co rule (rule.length-1-j)else 0):=by
  refine aA fun k hk=>?_;rw[h _ (by omega)];by_cases e:k=rule.length-1-j
  ·rw[if_pos e,if_pos (by omega),Int.mul_one,e]
  ·rw[if_neg e,if_neg (by omega),Int.mul_zero]
 rw[e,cg,if_pos (by omega)]
theorem Ky{b:Int}(h1:tk b 1=1){rule:List Int}{j:Nat}(hj:j<rule.length)(n:Nat):
  ej b rule j (n+1)=tk b ((if j=0 then 0 else ej b rule (j-1) n)+ej b rule (rule.length-1) n*co rule (rule.length-1-j)):=by
 have hw:=wD (b:=b) (rule:=rule) (starts:=unit rule.length j) (w:=ofF rule.length fun i=>ej b rule j (1+i)) (d:=1) (by rw[dJ]) (by rw[aM,dJ]) (fun i hi=>by
  rw[aM]at hi;have:=bI rule.length (fun i=>ej b rule j (1+i)) i;rw[if_pos hi]at this;exact this) n
 have e:ej b rule j (n+1)=at_ b rule (ofF rule.length fun i=>ej b rule j (1+i)) n:=by rw[hw,Nat.add_comm];rfl
 have hN:ej b rule j rule.length=tk b (co rule (rule.length-1-j)):=by
  have q:ej b rule j rule.length=tk b (S rule (ej b rule j) rule.length rule.length):=ni (by rw[dJ]) (by rw[dJ];omega);rw[q,J7 (Nat.le_refl _) hj];intro i hi;rw[kI hi,Nat.sub_self,Nat.zero_add]
 by_cases h0:j=0
 ·rw[e,if_pos h0];have q:=Ec (b:=b) (c:=co rule (rule.length-1-j)) (rule:=rule) (s1:=ofF rule.length fun _=>0) (s2:=unit rule.length (rule.length-1)) (s3:=ofF rule.length fun i=>ej b rule j (1+i)) (by rw[aM]) (by rw[dJ]) (by rw[aM]) (fun i hi=>by
   rw[aM]at hi;have e1:=bI rule.length (fun i=>ej b rule j (1+i)) i;have e2:=bI rule.length (fun _=>(0:Int)) i;rw[if_pos hi]at e1 e2;show co _ i=tk b (co _ i+_*(unit rule.length (rule.length-1)).getD i 0);rw[e1,e2,qe,if_pos hi];by_cases c:i=rule.length-1
   ·rw[if_pos c,Int.mul_one,Int.zero_add,show 1+i=rule.length by omega,hN]
   ·rw[if_neg c,Int.mul_zero,Int.zero_add,tk0,kI (by omega),if_neg (by omega)]) n
  rw[q];have z:at_ b rule (ofF rule.length fun _=>0) n=0:=by
   refine lX (by rw[aM]) (g:=fun _=>0) (fun i hi=>?_) (fun i _=>?_) n
   ·have:=bI rule.length (fun _=>(0:Int)) i;show(0:Int)=co _ i;rw[this];split<;>rfl
   ·rw[zY,fY (fun k _=>Int.mul_zero _),tk0]
  rw[z,Int.mul_comm];rfl
 ·rw[e,if_neg h0];have q:=Ec (b:=b) (c:=co rule (rule.length-1-j)) (rule:=rule) (s1:=unit rule.length (j-1)) (s2:=unit rule.length (rule.length-1)) (s3:=ofF rule.length fun i=>ej b rule j (1+i)) (by rw[dJ]) (by rw[dJ]) (by rw[aM]) (fun i hi=>by
   rw[aM]at hi;have e1:=bI rule.length (fun i=>ej b rule j (1+i)) i;rw[if_pos hi]at e1;show co _ i=tk b ((unit rule.length (j-1)).getD i 0+_*(unit rule.length (rule.length-1)).getD i 0);rw[e1,qe,qe,if_pos hi,if_pos hi];by_cases c:i=rule.length-1
   ·rw[if_pos c,if_neg (by omega),Int.mul_one,Int.zero_add,show 1+i=rule.length by omega,hN]
   ·rw[if_neg c,Int.mul_zero,Int.add_zero,kI (by omega)];by_cases d:i=j-1
    ·rw[if_pos d,if_pos (by omega),h1]
    ·rw[if_neg d,if_neg (by omega),tk0]) n
  rw[q,Int.mul_comm];rfl
theorem HL(f:Nat->Int):∀n:Nat,sm n f=sm n (fun k=>f (n-1-k))
 |0=>rfl
 |n+1=>by
  rw[cN,HL (fun i=>f (i+1)) n,sm];rw[Int.add_comm];congr 1
  ·exact aA fun k hk=>by rw[show n-1-k+1=n+1-1-k by omega]
  ·rw[show n+1-1-n=0 by omega]
theorem zO{b:Int}(h1:tk b 1=1){rule:List Int}{a:Nat->Int}(ha:∀n,rule.length<=n->tk b (a n)=tk b (S rule a n rule.length)):
  ∀n m,tk b (sm rule.length fun k=>ej b rule k n*a (m+k))=tk b (a (m+n))
 |0,m=>by
  by_cases h0:rule.length=0
  ·rw[h0,ha (m+0) (by omega),h0];rfl
  ·have e:sm rule.length (fun k=>ej b rule k 0*a (m+k))=sm rule.length (fun k=>if k=0 then a m else 0):=by
    refine aA fun k _=>?_;rw[kI (by omega)];by_cases e:k=0
    ·rw[if_pos e,if_pos e.symm,Int.one_mul,e];rfl
    ·rw[if_neg e,if_neg (fun z=>e z.symm),Int.zero_mul]
   rw[e,cg,if_pos (by omega)];rfl
 |n+1,m=>by
  by_cases h0:rule.length=0
  ·rw[h0,ha (m+(n+1)) (by omega),h0];rfl
  obtain⟨N,hN⟩:∃N,rule.length=N+1:=⟨rule.length-1,by omega⟩;have ih:=zO h1 ha n (m+1);rw[show m+(n+1)=m+1+n by omega,<-ih];have e1:tk b (sm rule.length fun k=>ej b rule k (n+1)*a (m+k))=tk b (sm rule.length fun k=>(if k=0 then 0 else ej b rule (k-1) n)*a (m+k)+ej b rule N n*(co rule (N-k)*a (m+k))):=by
   refine jd fun k hk=>?_;rw[Ky h1 hk,dw,Int.add_mul,Int.mul_assoc,hN];rfl
  rw[e1,cG,bw,hN];have e2:sm (N+1) (fun k=>(if k=0 then 0 else ej b rule (k-1) n)*a (m+k))=sm N (fun k=>ej b rule k n*a (m+1+k)):=by
   rw[cN,if_pos rfl,Int.zero_mul,Int.zero_add];refine aA fun k _=>?_;rw[if_neg (by omega),Nat.add_sub_cancel,show m+(k+1)=m+1+k by omega]
  have e3:tk b (sm (N+1) fun k=>co rule (N-k)*a (m+k))=tk b (a (m+1+N)):=by
   rw[show m+1+N=m+(N+1)by omega,ha (m+(N+1)) (by omega),zY,hN];congr 1;rw[HL];refine aA fun k hk=>?_;rw[show N-(N+1-1-k)=k by omega,show m+(N+1-1-k)=m+(N+1)-1-k by omega]
  rw[e2];show _=tk b (sm N _+_);rw[<-dZ,<-bG,e3,bG,dZ]
def Gr(b:Int)(rule:List Int)(a:Nat->Int):Prop:=∀n,rule.length<=n->tk b (a n)=tk b (S rule a n rule.length)
theorem Gr.shift{b:Int}{rule:List Int}{a:Nat->Int}(h:Gr b rule a)(m:Nat):Gr b rule fun n=>a (n+m):=fun n hn=>by
 have e:(fun n=>a (n+m))=fun n=>a (m+n):=funext fun n=>by rw[Nat.add_comm]
 rw[e,yK hn];exact h (m+n) (by omega)
theorem M9{b:Int}{p:List Int}{a a':Nat->Int}(h:∀n,tk b (a n)=tk b (a' n))(n:Nat):tk b (ks p a n)=tk b (ks p a' n):=
 jd fun k _=>by rw[<-bG,h,bG]
def Pw(b:Int)(rule:List Int)(m:Nat)(p:List Int):Prop:=∀a,Gr b rule a->∀n,tk b (ks p a n)=tk b (a (n+m))
theorem Pw.one(b:Int)(rule:List Int):Pw b rule 0 [1]:=fun a _ n=>by simp[ks,sm,cF]
theorem Pw.x(b:Int)(rule:List Int):Pw b rule 1 [0,1]:=fun a _ n=>by simp[ks,sm,cF,fU]
theorem Pw.mul{b:Int}{rule:List Int}{m m':Nat}{p q:List Int}(h:Pw b rule m p)(h':Pw b rule m' q):Pw b rule (m+m') (mul b p q):=fun a ha n=>by
 rw[Hq,M9 (h' a ha),h _ (ha.shift m'),Nat.add_assoc]
theorem Pw.left{b:Int}{rule:List Int}{m:Nat}{p q r:List Int}(h:Pw b rule m p)(d:Div b p (aK b rule) q r):Pw b rule m r:=fun a ha n=>by
 rw[<-h a ha n];have e1:∀k,tk b (co (Pm.add b (Pm.mul b q (aK b rule)) r) k)=tk b (co p k):=fun k=>by rw[zx,u5,jG,bU];exact d.eq k
 rw[<-JX e1,HY,<-bU,(Kp.aK ha).V3 q n,Int.zero_add]
theorem OB(b:Int)(rule:List Int)(j:Nat):Gr b rule (ej b rule j):=Nf j
theorem Pw.co{b:Int}(h1:tk b 1=1){rule:List Int}{m:Nat}{r:List Int}(h:Pw b rule m r)(hy:Py b r)(hs:r.length<=rule.length){j:Nat}(hj:j<rule.length):Pm.co r j=ej b rule j m:=by
 have q:=h _ (OB b rule j) 0;rw[Nat.zero_add,MZ h1,<-iQ r _ 0 hs]at q;have e:sm rule.length (fun k=>Pm.co r k*ej b rule j (0+k))=sm rule.length (fun k=>if k=j then Pm.co r j else 0):=aA fun k hk=>by
  rw[Nat.zero_add,kI hk];by_cases c:k=j
  ·rw[if_pos c,if_pos c,Int.mul_one,c]
  ·rw[if_neg c,if_neg c,Int.mul_zero]
 rw[e,cg,if_pos hj,hy.co]at q;exact q
def rest(b:Int)(rule:List Int)(m:Nat):List Int:=ofF rule.length fun j=>ej b rule j m
theorem dM(b:Int)(rule:List Int)(m:Nat):(rest b rule m).length=rule.length:=aM ..
theorem Dj{b:Int}{rule:List Int}{m j:Nat}(hj:j<rule.length):Pm.co (rest b rule m) j=ej b rule j m:=by rw[rest,bI,if_pos hj]
theorem wU{b:Int}(h1:tk b 1=1){rule:List Int}{a:Nat->Int}(ha:Gr b rule a)(n m:Nat):tk b (sm rule.length fun k=>Pm.co (rest b rule n) k*a (m+k))=tk b (a (m+n)):=by
 rw[<-zO h1 ha n m];exact congrArg (tk b) (aA fun k hk=>by rw[Dj hk])
theorem GY{b x:Int}(hb:0<b):0<=tk b x/\tk b x<b:=by
 rw[fP (by omega)];exact⟨Int.emod_nonneg _ (by omega),Int.emod_lt_of_pos _ hb⟩
end Pm
namespace Nw
open Lean.Grind
variable {R:Type} [CommRing R]
def sm:Nat->(Nat->R)->R
 |0,_=>0
 |n+1,f=>sm n f+f n
theorem aA{f g:Nat->R}:∀{n:Nat},(∀k,k<n->f k=g k)->sm n f=sm n g
 |0,_=>rfl
 |n+1,h=>by
  show sm n f+f n=sm n g+g n;rw[aA fun k hk=>h k (by omega),h n (by omega)]
theorem fX:∀n:Nat,sm n (fun _=>(0:R))=0
 |0=>rfl
 |n+1=>by show sm n _+0=0;rw[fX n];grind
theorem cG(f g:Nat->R):∀n:Nat,sm n (fun k=>f k+g k)=sm n f+sm n g
 |0=>by show(0:R)=0+0;grind
 |n+1=>by show sm n _+_=sm n f+f n+(sm n g+g n);rw[cG f g n];grind
theorem bw(c:R)(f:Nat->R):∀n:Nat,sm n (fun k=>c*f k)=c*sm n f
 |0=>by show(0:R)=c*0;grind
 |n+1=>by show sm n _+_=c*(sm n f+f n);rw[bw c f n];grind
theorem mF(F:Nat->Nat->R)(m:Nat):∀n:Nat,sm m (fun k=>sm n (fun j=>F k j))=sm n (fun j=>sm m (fun k=>F k j))
 |0=>fX m
 |n+1=>by
  show sm m (fun k=>sm n (fun j=>F k j)+F k n)=sm n (fun j=>sm m (fun k=>F k j))+sm m (fun k=>F k n);rw[cG,mF F m n]
theorem cN(f:Nat->R):∀n:Nat,sm (n+1) f=f 0+sm n (fun i=>f (i+1))
 |0=>by show 0+f 0=f 0+0;grind
 |n+1=>by
  show sm (n+1) f+f (n+1)=f 0+(sm n (fun i=>f (i+1))+f (n+1));rw[cN f n];grind
def el:List R->Nat->R
 |[],k=>if k=0 then 1 else 0
 |a::l,0=>el l 0
 |a::l,k+1=>el l (k+1)-a*el l k
theorem iC:∀l:List R,el l 0=1
 |[]=>rfl
 |a::l=>iC l
theorem Hj:∀(l:List R) (k:Nat),l.length<k->el l k=0
 |[],k,h=>by
  have:k≠0:=by simp at h;omega
  exact if_neg this
 |a::l,0,h=>absurd h (by omega)
 |a::l,k+1,h=>by
  simp at h;show el l (k+1)-a*el l k=0;rw[Hj l (k+1) (by omega),Hj l k (by omega)];grind
def pw(l:List R)(k:Nat):R:=match l with
 |[]=>0
 |a::l=>a^k+pw l k
theorem Jx(a:R)(l:List R)(k:Nat):pw (a::l) k=a^k+pw l k:=rfl
theorem Wz(a:R)(l:List R)(k:Nat):sm (k+1) (fun i=>a^(i+1)*el (a::l) (k-i))=a*el l k:=by
 have key:∀j,j<=k->sm j (fun i=>a^(i+1)*el (a::l) (k-i))=a*el l k-a^(j+1)*el l (k-j):=fun j=>by
  induction j with
  |zero=>intro _;show(0:R)=a*el l k-a^1*el l (k-0);rw[Nat.sub_zero];grind
  |succ j ih=>
   intro hj;show sm j _+a^(j+1)*el (a::l) (k-j)=_;rw[ih (by omega)];obtain⟨m,hm⟩:∃m,k-j=m+1:=⟨k-j-1,by omega⟩;rw[hm,show k-(j+1)=m by omega];show _-_+a^(j+1)*(el l (m+1)-a*el l m)=_
   grind
 show sm k _+a^(k+1)*el (a::l) (k-k)=_;rw[key k (Nat.le_refl k),Nat.sub_self,iC,iC];grind
def nt:Nat->R
 |0=>0
 |k+1=>nt k+1
theorem zB:∀(l:List R) (k:Nat),nt (k+1)*el l (k+1)+sm (k+1) (fun i=>pw l (i+1)*el l (k-i))=0
 |[],k=>by
  have e:sm (k+1) (fun i=>pw ([]:List R) (i+1)*el ([]:List R) (k-i))=0:=by
   rw[aA (g:=fun _=>(0:R)) fun i _=>by show(0:R)*_=0;grind,fX]
  rw[e,show el ([]:List R) (k+1)=0 from rfl];grind
 |a::l,k=>by
  have h1:=zB l k;have e1:sm (k+1) (fun i=>pw (a::l) (i+1)*el (a::l) (k-i))=a*el l k+sm (k+1) (fun i=>pw l (i+1)*el (a::l) (k-i)):=by
   rw[<-Wz a l k,<-cG];exact aA fun i _=>by rw[Jx];grind
  rw[e1];show nt (k+1)*(el l (k+1)-a*el l k)+_=0;cases k with
  |zero=>
   have e2:sm (0+1) (fun i=>pw l (i+1)*el (a::l) (0-i))=sm (0+1) (fun i=>pw l (i+1)*el l (0-i)):=aA fun i hi=>by
    have:i=0:=by omega
    subst this;rfl
   rw[e2];generalize sm (0+1) (fun i=>pw l (i+1)*el l (0-i))=s at h1⊢;generalize el l (0+1)=x at h1⊢;generalize el l 0=y at h1⊢;have c1:(nt (0+1):R)=1:=by show(0:R)+1=1;grind
   rw[c1]at h1⊢
   grind
  |succ k=>
   have h2:=zB l k;have e2:sm (k+1+1) (fun i=>pw l (i+1)*el (a::l) (k+1-i))=sm (k+1+1) (fun i=>pw l (i+1)*el l (k+1-i))-a*sm (k+1) (fun i=>pw l (i+1)*el l (k-i)):=by
    show sm (k+1) _+pw l (k+1+1)*el (a::l) (k+1-(k+1))=sm (k+1) _+pw l (k+1+1)*el l (k+1-(k+1))-_;rw[Nat.sub_self,iC,iC];have:sm (k+1) (fun i=>pw l (i+1)*el (a::l) (k+1-i))=sm (k+1) (fun i=>pw l (i+1)*el l (k+1-i))+(-a)*sm (k+1) (fun i=>pw l (i+1)*el l (k-i)):=by
     rw[<-bw,<-cG];refine aA fun i hi=>?_;rw[show k+1-i=(k-i)+1 by omega];show pw l (i+1)*(el l (k-i+1)-a*el l (k-i))=_
     grind
    rw[this];grind
   rw[e2];generalize sm (k+1+1) (fun i=>pw l (i+1)*el l (k+1-i))=s at h1⊢;generalize sm (k+1) (fun i=>pw l (i+1)*el l (k-i))=t at h2⊢;generalize el l (k+1+1)=x at h1⊢;generalize el l (k+1)=y at h1 h2⊢;have c1:(nt (k+1+1):R)=nt (k+1)+1:=rfl;rw[c1]at h1⊢;generalize (nt (k+1):R)=n at h1 h2⊢
   grind
def dl:List R->(Nat->R)->Nat->R
 |[],a=>a
 |x::l,a=>dl l fun n=>a (n+1)-x*a n
theorem Nx:∀(l:List R) (a:Nat->R) (n:Nat),dl l a n=sm (l.length+1) (fun k=>el l k*a (n+l.length-k))
 |[],a,n=>by
  show a n=0+el ([]:List R) 0*a (n+0-0);rw[iC,Nat.add_zero,Nat.sub_zero];grind
 |x::l,a,n=>by
  show dl l (fun n=>a (n+1)-x*a n) n=_;rw[Nx l,List.length_cons];have e1:sm (l.length+1+1) (fun k=>el (x::l) k*a (n+(l.length+1)-k))=sm (l.length+1+1) (fun k=>el l k*a (n+(l.length+1)-k))+(-x)*sm (l.length+1) (fun k=>el l k*a (n+l.length-k)):=by
   rw[cN (fun k=>el (x::l) k*a (n+(l.length+1)-k)),cN (fun k=>el l k*a (n+(l.length+1)-k)),<-bw];have:sm (l.length+1) (fun i=>el (x::l) (i+1)*a (n+(l.length+1)-(i+1)))=sm (l.length+1) (fun i=>el l (i+1)*a (n+(l.length+1)-(i+1)))+sm (l.length+1) (fun k=>-x*(el l k*a (n+l.length-k))):=by
    rw[<-cG];refine aA fun i _=>?_;show(el l (i+1)-x*el l i)*_=_;rw[show n+(l.length+1)-(i+1)=n+l.length-i by omega];grind
   rw[this];show el l 0*_+_=_
   grind
  rw[e1];show _=sm (l.length+1) _+el l (l.length+1)*_+_;rw[Hj l (l.length+1) (by omega),<-bw];have e2:sm (l.length+1) (fun k=>el l k*(a (n+l.length-k+1)-x*a (n+l.length-k)))=sm (l.length+1) (fun k=>el l k*a (n+(l.length+1)-k))+sm (l.length+1) (fun k=>-x*(el l k*a (n+l.length-k))):=by
   rw[<-cG];refine aA fun k hk=>?_;rw[show n+(l.length+1)-k=n+l.length-k+1 by omega];grind
  rw[e2];grind
theorem EV:∀(l:List R) (a b:Nat->R) (x y:R) (n:Nat),dl l (fun n=>x*a n+y*b n) n=x*dl l a n+y*dl l b n
 |[],_,_,_,_,_=>rfl
 |z::l,a,b,x,y,n=>by
  show dl l (fun n=>x*a (n+1)+y*b (n+1)-z*(x*a n+y*b n)) n=x*dl l _ n+y*dl l _ n;rw[<-EV l];exact congrArg (fun f=>dl l f n) (funext fun n=>by grind)
theorem Iv(l:List R)(n:Nat):dl l (fun _=>0) n=0:=by
 have:=EV l (fun _=>(0:R)) (fun _=>0) 0 0 n;rw[show(fun _:Nat=>(0:R)*0+0*0)=fun _=>0 from funext fun _=>by grind]at this;rw[this];grind
end Nw
namespace Nw
open Lean.Grind
structure Laws{α:Type}(z o:α)(ad mu:α->α->α)(ng:α->α):Prop where
 ad0:∀a,ad a z=a
 adC:∀a b,ad a b=ad b a
 adA:∀a b c,ad (ad a b) c=ad a (ad b c)
 muA:∀a b c,mu (mu a b) c=mu a (mu b c)
 mu1:∀a,mu a o=a
 muC:∀a b,mu a b=mu b a
 dis:∀a b c,mu a (ad b c)=ad (mu a b) (mu a c)
 ngA:∀a,ad (ng a) a=z
section
variable {α:Type} {z o:α} {ad mu:α->α->α} {ng:α->α}
def ntB(z o:α)(ad:α->α->α):Nat->α
 |0=>z
 |n+1=>ad (ntB z o ad n) o
def itB(z o:α)(ad:α->α->α)(ng:α->α):Int->α
 |.ofNat n=>ntB z o ad n
 |.negSucc n=>ng (ntB z o ad (n+1))
def pwB(z o:α)(ad mu:α->α->α)(a:α):Nat->α
 |0=>ntB z o ad 1
 |n+1=>mu (pwB z o ad mu a n) a
theorem Laws.z0(L:Laws z o ad mu ng)(a:α):ad z a=a:=by rw[L.adC,L.ad0]
theorem Laws.one(L:Laws z o ad mu ng):ntB z o ad 1=o:=L.z0 o
theorem Laws.can(L:Laws z o ad mu ng){a b:α}(h:ad b a=a):b=z:=by
 have:ad (ad b a) (ng a)=ad a (ng a):=by rw[h]
 rw[L.adA,L.adC a,L.ngA,L.ad0]at this;exact this
theorem Laws.mu0(L:Laws z o ad mu ng)(a:α):mu a z=z:=by
 refine L.can (a:=mu a z) ?_;rw[<-L.dis,L.ad0]
theorem Laws.C9(L:Laws z o ad mu ng){a b:α}(h:ad b a=z):b=ng a:=by
 have:ad (ad b a) (ng a)=ad z (ng a):=by rw[h]
 rw[L.adA,L.adC a,L.ngA,L.ad0,L.z0]at this;exact this
theorem Laws.Rp(L:Laws z o ad mu ng)(a b:α):mu (ng a) b=ng (mu a b):=by
 refine L.C9 ?_;rw[L.muC (ng a),L.muC a,<-L.dis,L.ngA,L.mu0]
theorem Laws.ng0(L:Laws z o ad mu ng):ng z=z:=by
 have:=L.ngA z;rw[L.ad0]at this;exact this
theorem Laws.ngg(L:Laws z o ad mu ng)(a:α):ng (ng a)=a:=(L.C9 (by rw[L.adC,L.ngA])).symm
theorem Laws.itN(L:Laws z o ad mu ng):∀i:Int,itB z o ad ng (-i)=ng (itB z o ad ng i)
 |.ofNat 0=>L.ng0.symm
 |.ofNat (n+1)=>rfl
 |.negSucc n=>(L.ngg _).symm
@[reducible] def Laws.ring(L:Laws z o ad mu ng):CommRing α:=
 { add:=ad,mul:=mu,neg:=ng,sub:=fun a b=>ad a (ng b),natCast:=⟨ntB z o ad⟩,ofNat:=fun n=>⟨ntB z o ad n⟩,nsmul:=⟨fun n a=>mu (ntB z o ad n) a⟩,npow:=⟨fun a n=>pwB z o ad mu a n⟩,intCast:=⟨itB z o ad ng⟩,zsmul:=⟨fun i a=>mu (itB z o ad ng i) a⟩,add_zero:=L.ad0,add_comm:=L.adC,add_assoc:=L.adA,mul_assoc:=L.muA,mul_one:=fun a=>by show mu a (ntB z o ad 1)=a;rw[L.one,L.mu1],one_mul:=fun a=>by show mu (ntB z o ad 1) a=a;rw[L.one,L.muC,L.mu1],left_distrib:=L.dis,right_distrib:=fun a b c=>by show mu (ad a b) c=ad (mu a c) (mu b c);rw[L.muC,L.dis,L.muC c,L.muC c],zero_mul:=fun a=>by show mu z a=z;rw[L.muC,L.mu0],mul_zero:=L.mu0,pow_zero:=fun a=>rfl,pow_succ:=fun a n=>rfl,mul_comm:=L.muC,ofNat_succ:=fun n=>by show ad (ntB z o ad n) o=ad (ntB z o ad n) (ntB z o ad 1);rw[L.one],neg_add_cancel:=L.ngA,sub_eq_add_neg:=fun a b=>rfl,neg_zsmul:=fun i a=>by show mu (itB z o ad ng (-i)) a=ng (mu (itB z o ad ng i) a);rw[L.itN,L.Rp],intCast_neg:=L.itN }
end
variable {R:Type} [CommRing R]
structure Xt(R:Type)[CommRing R](d:Nat)(c:Nat->R) where
 f:Nat->R
 z:∀i,d<=i->f i=0
theorem Xt.eq{d:Nat}{c:Nat->R}:∀{x y:Xt R d c},(∀i,i<d->x.f i=y.f i)->x=y
 |⟨f,hf⟩,⟨g,hg⟩,h=>by
  have:f=g:=funext fun i=>by
   by_cases q:i<d
   ·exact h i q
   ·rw[hf i (by omega),hg i (by omega)]
  subst this;rfl
section
variable {d:Nat} {c:Nat->R}
def xT(x:Xt R d c):Xt R d c:=⟨fun i=>if i<d then(if i=0 then 0 else x.f (i-1))+x.f (d-1)*c i else 0,fun i h=>if_neg (by omega)⟩
def xN:Nat->Xt R d c->Xt R d c
 |0,x=>x
 |k+1,x=>xT (xN k x)
def xAd(x y:Xt R d c):Xt R d c:=⟨fun i=>x.f i+y.f i,fun i h=>by rw[x.z i h,y.z i h];grind⟩
def xNg(x:Xt R d c):Xt R d c:=⟨fun i=>-x.f i,fun i h=>by rw[x.z i h];grind⟩
def xS(n:Nat)(g:Nat->R)(F:Nat->Xt R d c):Xt R d c:=⟨fun i=>sm n fun k=>g k*(F k).f i,fun i h=>by
 rw[aA (g:=fun _=>(0:R)) fun k _=>by rw[(F k).z i h];grind,fX]⟩
def xMu(x y:Xt R d c):Xt R d c:=xS d x.f fun k=>xN k y
def xE(hd:0<d):Xt R d c:=⟨fun i=>if i=0 then 1 else 0,fun i h=>if_neg (by omega)⟩
theorem VX(n:Nat)(g:Nat->R)(F:Nat->Xt R d c):xT (xS n g F)=xS n g fun k=>xT (F k):=Xt.eq fun i hi=>by
 show(if i<d then(if i=0 then 0 else sm n fun k=>g k*(F k).f (i-1))+(sm n fun k=>g k*(F k).f (d-1))*c i else 0)=sm n fun k=>g k*(if i<d then(if i=0 then 0 else(F k).f (i-1))+(F k).f (d-1)*c i else 0);rw[if_pos hi];have e1:(sm n fun k=>g k*(F k).f (d-1))*c i=sm n fun k=>c i*(g k*(F k).f (d-1)):=by rw[bw];grind
 rw[e1];by_cases z:i=0
 ·rw[if_pos z];rw[show((0:R)+sm n fun k=>c i*(g k*(F k).f (d-1)))=sm n fun k=>c i*(g k*(F k).f (d-1))by grind];exact aA fun k _=>by rw[if_pos hi,if_pos z];grind
 ·rw[if_neg z,<-cG];exact aA fun k _=>by rw[if_pos hi,if_neg z];grind
theorem Qh(n:Nat)(g:Nat->R)(F:Nat->Xt R d c):∀j,xN j (xS n g F)=xS n g fun k=>xN j (F k)
 |0=>rfl
 |j+1=>by show xT (xN j (xS n g F))=_;rw[Qh n g F j,VX];rfl
theorem vV(x:Xt R d c):∀i j,xN (i+j) x=xN i (xN j x)
 |0,j=>by rw[Nat.zero_add];rfl
 |i+1,j=>by rw[Nat.succ_add];show xT (xN (i+j) x)=xT (xN i (xN j x));rw[vV x i j]
theorem Q7(hd:0<d):∀k,k<d->∀i,(xN k (xE (c:=c) hd)).f i=if i=k then 1 else 0
 |0,_,i=>rfl
 |k+1,hk,i=>by
  show(if i<d then(if i=0 then 0 else(xN k (xE (c:=c) hd)).f (i-1))+(xN k (xE (c:=c) hd)).f (d-1)*c i else 0)=_;rw[Q7 hd k (by omega),Q7 hd k (by omega)];by_cases q:i<d
  ·rw[if_pos q,if_neg (show ¬d-1=k by omega)];by_cases z:i=0
   ·rw[if_pos z,if_neg (show ¬i=k+1 by omega)];grind
   ·rw[if_neg z];by_cases y:i=k+1
    ·rw[if_pos y,if_pos (by omega)];grind
    ·rw[if_neg y,if_neg (by omega)];grind
  ·rw[if_neg q,if_neg (by omega)]
theorem Ej(g:Nat->R)(i:Nat):∀n,sm n (fun k=>g k*(if i=k then 1 else 0))=if i<n then g i else 0
 |0=>by rw[if_neg (by omega)];rfl
 |n+1=>by
  show sm n _+g n*(if i=n then 1 else 0)=_;rw[Ej g i n];by_cases a:i<n
  ·rw[if_pos a,if_neg (by omega),if_pos (by omega)];grind
  ·rw[if_neg a];by_cases b:i=n
   ·rw[if_pos b,if_pos (by omega),b];grind
   ·rw[if_neg b,if_neg (by omega)];grind
theorem Oj(hd:0<d)(x:Xt R d c):xS d x.f (fun k=>xN k (xE hd))=x:=Xt.eq fun i hi=>by
 show sm d (fun k=>x.f k*(xN k (xE (c:=c) hd)).f i)=x.f i;rw[aA fun k hk=>by rw[Q7 hd k hk],Ej,if_pos hi]
theorem BW(n m:Nat)(g h:Nat->R)(x:Xt R d c):xS n g (fun k=>xN k (xS m h fun j=>xN j x))=xS m h (fun j=>xN j (xS n g fun k=>xN k x)):=Xt.eq fun i hi=>by
 show sm n (fun k=>g k*(xN k (xS m h fun j=>xN j x)).f i)=sm m (fun j=>h j*(xN j (xS n g fun k=>xN k x)).f i);have e1:sm n (fun k=>g k*(xN k (xS m h fun j=>xN j x)).f i)=sm n (fun k=>sm m fun j=>g k*(h j*(xN (k+j) x).f i)):=aA fun k _=>by
  rw[Qh,bw];exact congrArg (g k * ·) (aA fun j _=>by rw[vV])
 have e2:sm m (fun j=>h j*(xN j (xS n g fun k=>xN k x)).f i)=sm m (fun j=>sm n fun k=>g k*(h j*(xN (k+j) x).f i)):=aA fun j _=>by
  rw[Qh];show h j*sm n (fun k=>g k*(xN j (xN k x)).f i)=_;rw[<-bw];exact aA fun k _=>by rw[Nat.add_comm k j,vV];grind
 rw[e1,e2,mF]
theorem JC(hd:0<d)(x y:Xt R d c):xMu x y=xMu y x:=by
 have h:=BW d d x.f y.f (xE (c:=c) hd);rw[Oj,Oj]at h;exact h
theorem Xo(hd:0<d)(x y w:Xt R d c):xMu (xMu x y) w=xMu x (xMu y w):=by
 rw[JC hd (xMu x y) w,JC hd y w];exact BW d d w.f x.f y
theorem WX(x y w:Xt R d c)(hd:0<d):xMu x (xAd y w)=xAd (xMu x y) (xMu x w):=by
 rw[JC hd x,JC hd x y,JC hd x w];refine Xt.eq fun i hi=>?_;show sm d (fun k=>(y.f k+w.f k)*(xN k x).f i)=sm d (fun k=>y.f k*(xN k x).f i)+sm d (fun k=>w.f k*(xN k x).f i);rw[<-cG];exact aA fun k _=>by grind
def xZ:Xt R d c:=⟨fun _=>0,fun _ _=>rfl⟩
theorem LV(hd:0<d):Laws (α:=Xt R d c) xZ (xE hd) xAd xMu xNg:=
 ⟨fun a=>Xt.eq fun i _=>by show a.f i+0=a.f i;grind,fun a b=>Xt.eq fun i _=>by show a.f i+b.f i=b.f i+a.f i;grind,fun a b e=>Xt.eq fun i _=>by show a.f i+b.f i+e.f i=a.f i+(b.f i+e.f i);grind,Xo hd,fun a=>Oj hd a,JC hd,fun a b e=>WX a b e hd,fun a=>Xt.eq fun i _=>by show -a.f i+a.f i=0;grind⟩
def xX(hd:0<d):Xt R d c:=xT (xE hd)
theorem Ly(hd:0<d)(x:Xt R d c):xMu (xX hd) x=xT x:=by
 rw[JC hd];show xS d x.f (fun k=>xN k (xN 1 (xE hd)))=xT x;have:(fun k=>xN k (xN 1 (xE (c:=c) hd)))=fun k=>xT (xN k (xE hd)):=funext fun k=>by
  rw[<-vV,Nat.add_comm,vV];rfl
 rw[this,<-VX,Oj]
end
instance Xl{d:Nat}{c:Nat->R}:CommRing (Xt R (d+1) c):=(LV (Nat.succ_pos d)).ring
section
variable {d:Nat} {c:Nat->R}
theorem N5:(1:Xt R (d+1) c)=xE (Nat.succ_pos d):=(LV (Nat.succ_pos d)).one
theorem IL(x y:Xt R (d+1) c)(i:Nat):(x+y).f i=x.f i+y.f i:=rfl
theorem x_zero(i:Nat):(0:Xt R (d+1) c).f i=0:=rfl
theorem VR(x:Xt R (d+1) c)(i:Nat):∀n,(nt n*x).f i=nt n*x.f i
 |0=>by
  rw[show(nt 0:Xt R (d+1) c)*x=0 by show(0:Xt R (d+1) c)*x=0;grind,x_zero];show(0:R)=0*x.f i;grind
 |n+1=>by
  rw[show(nt (n+1):Xt R (d+1) c)*x=nt n*x+x by show(nt n+1)*x=_;grind,IL,VR x i n];show _=(nt n+1)*x.f i;grind
def xI(r:R):Xt R (d+1) c:=⟨fun i=>if i=0 then r else 0,fun i h=>if_neg (by omega)⟩
theorem Ab(r:R)(g:Nat->R):∀n,sm (n+1) (fun k=>(if k=0 then r else 0)*g k)=r*g 0
 |0=>by show 0+(if 0=0 then r else 0)*g 0=_;rw[if_pos rfl];grind
 |n+1=>by
  show sm (n+1) _+(if n+1=0 then r else 0)*g (n+1)=_;rw[Ab r g n,if_neg (by omega)];grind
theorem Mw(r:R)(x:Xt R (d+1) c)(i:Nat):(xI r*x).f i=r*x.f i:=by
 show sm (d+1) (fun k=>(if k=0 then r else 0)*(xN k x).f i)=_;rw[Ab];rfl
end
structure Hom{R S:Type}[CommRing R][CommRing S](ψ:R->S):Prop where
 one:ψ 1=1
 add:∀a b,ψ (a+b)=ψ a + ψ b
 mul:∀a b,ψ (a*b)=ψ a * ψ b
theorem Hom.zero{R S:Type}[CommRing R][CommRing S]{ψ:R->S}(h:Hom ψ):ψ 0=0:=by
 have:=h.add 0 0;rw[show(0:R)+0=0 by grind]at this
 grind
theorem Hom.neg{R S:Type}[CommRing R][CommRing S]{ψ:R->S}(h:Hom ψ)(a:R):ψ (-a)=-ψ a:=by
 have:=h.add (-a) a;rw[show -a+a=0 by grind,h.zero]at this
 grind
theorem Hom.sub{R S:Type}[CommRing R][CommRing S]{ψ:R->S}(h:Hom ψ)(a b:R):ψ (a-b)=ψ a - ψ b:=by
 rw[show a-b=a + -b by grind,h.add,h.neg];grind
theorem Hom.nt{R S:Type}[CommRing R][CommRing S]{ψ:R->S}(h:Hom ψ):∀n,ψ (nt n)=Nw.nt n
 |0=>h.zero
 |n+1=>by show ψ (Nw.nt n+1)=Nw.nt n+1;rw[h.add,h.nt n,h.one]
theorem Hom.comp{R S U:Type}[CommRing R][CommRing S][CommRing U]{ψ:R->S}{χ:S->U}(h:Hom ψ)(g:Hom χ):Hom fun r=>χ (ψ r):=
 ⟨by rw[h.one,g.one],fun a b=>by rw[h.add,g.add],fun a b=>by rw[h.mul,g.mul]⟩
structure Pur{R:Type}[CommRing R](φ:Int->R):Prop where
 hom:Hom φ
 inj:∀t,φ t=0->t=0
 pu:∀(k:Nat) (r:R) (t:Int),nt (k+1)*r=φ t->∃q,r=φ q
theorem ntI:∀n:Nat,(nt n:Int)=(n:Int)
 |0=>rfl
 |n+1=>by show(nt n:Int)+1=_;rw[ntI n];omega
theorem Pur.tf{R:Type}[CommRing R]{φ:Int->R}(h:Pur φ){k:Nat}{r:R}(e:nt (k+1)*r=0):r=0:=by
 obtain⟨q,rfl⟩:=h.pu k r 0 (by rw[e,h.hom.zero]);rw[<-h.hom.nt,<-h.hom.mul]at e;have:=h.inj _ e;rw[ntI]at this;have:q=0:=by
  rcases Int.mul_eq_zero.mp this with z|z
  ·omega
  ·exact z
 rw[this,h.hom.zero]
theorem Kc:Pur (fun t:Int=>t):=⟨⟨rfl,fun _ _=>rfl,fun _ _=>rfl⟩,fun _ h=>h,fun _ r _ _=>⟨r,rfl⟩⟩
theorem Aa{d:Nat}{c:Nat->R}:Hom (xI (d:=d) (c:=c)):=
 ⟨by rw[N5];rfl,fun a b=>Xt.eq fun i _=>by
  show(if i=0 then a+b else 0)=(if i=0 then a else 0)+(if i=0 then b else 0);split
  ·rfl
  ·grind,fun a b=>Xt.eq fun i _=>by
  rw[Mw];show(if i=0 then a*b else 0)=a*(if i=0 then b else 0);split
  ·rfl
  ·grind⟩
theorem Lb{d:Nat}{c:Nat->R}{φ:Int->R}(h:Pur φ):Pur fun t=>xI (d:=d) (c:=c) (φ t):=by
 refine⟨h.hom.comp Aa,fun t e=>h.inj t ?_,fun k r t e=>?_⟩
 ·have:=congrArg (fun x:Xt R (d+1) c=>x.f 0) e;exact this
 ·have co:∀i,nt (k+1)*r.f i=(if i=0 then φ t else 0):=fun i=>by
   have:=congrArg (fun x:Xt R (d+1) c=>x.f i) e;have t2:=VR r i (k+1);exact t2.symm.trans this
  obtain⟨q,hq⟩:=h.pu k (r.f 0) t (by rw[co 0,if_pos rfl]);refine⟨q,Xt.eq fun i _=>?_⟩;show r.f i=if i=0 then φ q else 0;by_cases z:i=0
  ·rw[if_pos z,z,hq]
  ·rw[if_neg z];have:=co i;rw[if_neg z]at this;exact h.tf this
def hn{S:Type}[CommRing S](p:Nat->S)(x:S):Nat->S
 |0=>1
 |k+1=>p (k+1)+x*hn p x k
theorem GC{d:Nat}{p:Nat->R}(p0:p 0=1):∀k,k<=d->∀i,(hn (fun k=>xI (p k)) (xX (Nat.succ_pos d)) k:Xt R (d+1) fun i=>-p (d+1-i)).f i=if i<=k then p (k-i)else 0
 |0,_,i=>by
  show(1:Xt R (d+1) _).f i=_;rw[N5];show(if i=0 then(1:R)else 0)=_;by_cases z:i=0
  ·rw[if_pos z,if_pos (by omega),Nat.zero_sub,p0]
  ·rw[if_neg z,if_neg (by omega)]
 |k+1,hk,i=>by
  show(xI (p (k+1))+xX (Nat.succ_pos d)*hn (fun k=>xI (p k)) (xX (Nat.succ_pos d)) k:Xt R (d+1) fun i=>-p (d+1-i)).f i=_;rw[IL,show ∀x:Xt R (d+1) fun i=>-p (d+1-i),xX (Nat.succ_pos d)*x=xT x from Ly (Nat.succ_pos d)];show(if i=0 then p (k+1)else 0)+(if i<d+1 then(if i=0 then 0 else(hn (fun k=>xI (p k)) (xX (Nat.succ_pos d)) k:Xt R (d+1) fun i=>-p (d+1-i)).f (i-1))+(hn (fun k=>xI (p k)) (xX (Nat.succ_pos d)) k:Xt R (d+1) fun i=>-p (d+1-i)).f (d+1-1) * -p (d+1-i)else 0)=_;rw[GC p0 k (by omega),GC p0 k (by omega),if_neg (show ¬d+1-1<=k by omega)];by_cases z:i=0
  ·rw[if_pos z,if_pos (by omega),if_pos z,if_pos (by omega),z];show p (k+1)+(0+0 * -p (d+1-0))=p (k+1)
   grind
  ·rw[if_neg z,if_neg z];by_cases q:i<d+1
   ·rw[if_pos q];by_cases y:i<=k+1
    ·rw[if_pos (by omega),if_pos y,show k-(i-1)=k+1-i by omega];grind
    ·rw[if_neg (by omega),if_neg y];grind
   ·rw[if_neg q,if_neg (by omega)];grind
theorem M6{d:Nat}{p:Nat->R}(p0:p 0=1):(hn (fun k=>xI (p k)) (xX (Nat.succ_pos d)) (d+1):Xt R (d+1) fun i=>-p (d+1-i))=0:=Xt.eq fun i hi=>by
 show(xI (p (d+1))+xX (Nat.succ_pos d)*hn (fun k=>xI (p k)) (xX (Nat.succ_pos d)) d:Xt R (d+1) fun i=>-p (d+1-i)).f i=0;rw[IL,show ∀x:Xt R (d+1) fun i=>-p (d+1-i),xX (Nat.succ_pos d)*x=xT x from Ly (Nat.succ_pos d)];show(if i=0 then p (d+1)else 0)+(if i<d+1 then(if i=0 then 0 else(hn (fun k=>xI (p k)) (xX (Nat.succ_pos d)) d:Xt R (d+1) fun i=>-p (d+1-i)).f (i-1))+(hn (fun k=>xI (p k)) (xX (Nat.succ_pos d)) d:Xt R (d+1) fun i=>-p (d+1-i)).f (d+1-1) * -p (d+1-i)else 0)=0;rw[GC p0 d (Nat.le_refl d),GC p0 d (Nat.le_refl d),if_pos hi,if_pos (show d+1-1<=d by omega),show d-(d+1-1)=0 by omega,p0];by_cases z:i=0
 ·rw[if_pos z,if_pos z,z];show p (d+1)+(0+1 * -p (d+1-0))=0;rw[Nat.sub_zero];grind
 ·rw[if_neg z,if_neg z,if_pos (by omega),show d-(i-1)=d+1-i by omega];grind
theorem splits:∀(d:Nat) (R:Type) [CommRing R] (φ:Int->R) (p:Nat->R),Pur φ->p 0=1->(∀k,d<k->p k=0)->
  ∃(S:Type) (_:CommRing S) (ψ:R->S),Hom ψ/\Pur (fun t=>ψ (φ t))/\∃l:List S,l.length=d/\∀k,el l k=ψ (p k)
 |0,R,_,φ,p,hφ,p0,pz=>⟨R,inferInstance,fun r=>r,⟨rfl,fun _ _=>rfl,fun _ _=>rfl⟩,hφ,[],rfl,fun k=>by
   show(if k=0 then(1:R)else 0)=p k;by_cases z:k=0
   ·rw[if_pos z,z,p0]
   ·rw[if_neg z,pz k (by omega)]⟩
 |d+1,R,_,φ,p,hφ,p0,pz=>by
  have hP:=Lb (d:=d) (c:=fun i=>-p (d+1-i)) hφ;obtain⟨S,iS,ψ,hψ,hp,l,ll,he⟩:=splits d (Xt R (d+1) fun i=>-p (d+1-i)) (fun t=>xI (φ t)) (fun k=>if k<=d then hn (fun k=>xI (p k)) (xX (Nat.succ_pos d)) k else 0) hP (by rw[if_pos (Nat.zero_le d)];rfl) fun k hk=>if_neg (by omega);refine⟨S,iS,fun r=>ψ (xI r),Aa.comp hψ,hp,ψ (xX (Nat.succ_pos d))::l,by rw[List.length_cons,ll],fun k=>?_⟩;have he':∀k,k<=d+1->el l k=ψ (hn (fun k=>xI (p k)) (xX (Nat.succ_pos d)) k):=fun k hk=>by
   rw[he k];by_cases z:k<=d
   ·rw[if_pos z]
   ·have e:k=d+1:=by omega
    rw[if_neg z,e,M6 p0]
  cases k with
  |zero=>rw[iC,p0];exact(Aa.comp hψ).one.symm
  |succ k=>
   by_cases z:k+1<=d+1
   ·show el l (k+1) - ψ (xX (Nat.succ_pos d))*el l k=_;rw[he' (k+1) z,he' k (by omega),<-hψ.mul,<-hψ.sub];refine congrArg ψ ?_;show(xI (p (k+1))+xX (Nat.succ_pos d)*hn (fun k=>xI (p k)) (xX (Nat.succ_pos d)) k)-_=_
    grind
   ·rw[Hj _ _ (by rw[List.length_cons,ll];omega),pz (k+1) (by omega)];exact(Aa.comp hψ).zero.symm
end Nw
namespace Nw
open Lean.Grind
section
variable {S:Type} [CommRing S] {φ:Int->S}
theorem Hom.sm(h:Hom φ)(f:Nat->Int):∀n,φ (Nw.sm n f)=Nw.sm n fun k=>φ (f k)
 |0=>h.zero
 |n+1=>by show φ (Nw.sm n f+f n)=_;rw[h.add,h.sm f n];rfl
theorem Hom.ntI(h:Hom φ)(n:Nat):φ (n:Int)=Nw.nt n:=by rw[<-h.nt,Nw.ntI]
theorem xP{R:Type}[CommRing R](f:Nat->R):∀n:Nat,sm n f=sm n fun k=>f (n-1-k)
 |0=>rfl
 |n+1=>by
  rw[cN (fun k=>f (n+1-1-k)) n];show sm n f+f n=_;rw[xP f n,Nat.add_sub_cancel,Nat.sub_zero,aA (g:=fun i=>f (n-(i+1))) fun k _=>by rw[show n-(k+1)=n-1-k by omega]]
  grind
theorem Gp(h:Hom φ){A:List S}{c s:Nat->Int}(n:Nat)(he:∀k,el A (k+1)=φ (-c k))(hs:∀k,k<n->s k=((k+1:Nat):Int)*c k+sm k fun i=>c i*s (k-1-i)):∀k,k<n->φ (s k)=pw A (k+1):=fun k=>by
 induction k using Nat.strongRecOn with
 |ind k ih=>
  intro hk;have nw:=zB A k;have e0:sm (k+1) (fun i=>pw A (i+1)*el A (k-i))=sm k (fun i=>pw A (i+1)*el A (k-i))+pw A (k+1):=by
   show sm k _+pw A (k+1)*el A (k-k)=_;rw[Nat.sub_self,iC];grind
  have e1:sm k (fun i=>pw A (i+1)*el A (k-i))=-φ (sm k fun i=>c i*s (k-1-i)):=by
   have:sm k (fun i=>pw A (i+1)*el A (k-i))=sm k fun i=>-1 * φ (c (k-1-i)*s i):=aA fun i hi=>by
    rw[<-ih i hi (by omega),show k-i=k-1-i+1 by omega,he,h.mul,h.neg];grind
   rw[this,bw,h.sm,xP (fun i=>φ (c i*s (k-1-i)))];rw[aA (f:=fun i=>φ (c (k-1-i)*s i)) (g:=fun i=>φ (c (k-1-i)*s (k-1-(k-1-i)))) fun i hi=>by rw[show k-1-(k-1-i)=i by omega]]
   grind
  rw[e0,e1,he k]at nw;rw[hs k hk,h.add,h.mul,h.ntI];rw[h.neg]at nw
  grind
theorem Fi(h:Pur φ){G:List S}{s r:Nat->Int}(n:Nat)(hp:∀k,k<n->φ (s k)=pw G (k+1))(hr:∀k,k<n->r k=(s k-sm k fun i=>r i*s (k-1-i))/((k+1:Nat):Int)):∀k,k<n->φ (r k)=-el G (k+1):=fun k=>by
 induction k using Nat.strongRecOn with
 |ind k ih=>
  intro hk;have nw:=zB G k;have e0:sm (k+1) (fun i=>pw G (i+1)*el G (k-i))=sm k (fun i=>pw G (i+1)*el G (k-i))+pw G (k+1):=by
   show sm k _+pw G (k+1)*el G (k-k)=_;rw[Nat.sub_self,iC];grind
  have e1:sm k (fun i=>pw G (i+1)*el G (k-i))=-φ (sm k fun i=>r i*s (k-1-i)):=by
   have:sm k (fun i=>pw G (i+1)*el G (k-i))=sm k fun i=>-1 * φ (r (k-1-i)*s i):=aA fun i hi=>by
    have q:=ih (k-1-i) (by omega) (by omega);rw[<-hp i (by omega),show k-i=k-1-i+1 by omega,h.hom.mul,q];grind
   rw[this,bw,h.hom.sm,xP (fun i=>φ (r i*s (k-1-i)))];rw[aA (f:=fun i=>φ (r (k-1-i)*s i)) (g:=fun i=>φ (r (k-1-i)*s (k-1-(k-1-i)))) fun i hi=>by rw[show k-1-(k-1-i)=i by omega]]
   grind
  rw[e0,e1,<-hp k hk]at nw;have key:nt (k+1) * -el G (k+1)=φ (s k-sm k fun i=>r i*s (k-1-i)):=by rw[h.hom.sub];grind
  obtain⟨q,hq⟩:=h.pu k _ _ key;rw[hq,<-h.hom.ntI,<-h.hom.mul]at key;have z:((k+1:Nat):Int)*q-(s k-sm k fun i=>r i*s (k-1-i))=0:=h.inj _ (by rw[h.hom.sub,key];grind);have z2:(s k-sm k fun i=>r i*s (k-1-i))=((k+1:Nat):Int)*q:=by omega
  rw[hr k hk,z2,Int.mul_ediv_cancel_left _ (by omega),hq]
theorem zE(h:Hom φ){A:List S}{c a:Nat->Int}(he:∀k,k<A.length->el A (k+1)=φ (-c k))(n:Nat):dl A (fun n=>φ (a n)) n=φ (a (n+A.length)-sm A.length fun k=>c k*a (n+A.length-1-k)):=by
 rw[Nx,cN,iC,Nat.sub_zero,h.sub,h.sm];have:sm A.length (fun i=>el A (i+1) * φ (a (n+A.length-(i+1))))=sm A.length fun i=>-1 * φ (c i*a (n+A.length-1-i)):=aA fun i hi=>by
  rw[he i hi,h.neg,h.mul,show n+A.length-(i+1)=n+A.length-1-i by omega];grind
 rw[this,bw];grind
end
def cof(c:Nat->Int):Nat->Int
 |0=>1
 |k+1=>-c k
theorem LZ(m:Nat)(c:Nat->Int)(hc:∀k,m<=k->c k=0):∃(S:Type) (_:CommRing S) (φ:Int->S),Pur φ/\∃A:List S,A.length=m/\∀k,el A (k+1)=φ (-c k):=by
 obtain⟨S,iS,ψ,hψ,hp,l,ll,he⟩:=splits m Int (fun t=>t) (cof c) Kc rfl fun k hk=>by
  cases k with
  |zero=>omega
  |succ k=>show -c k=0;rw[hc k (by omega)];rfl
 exact⟨S,iS,ψ,hp,l,ll,fun k=>he (k+1)⟩
section
variable {S:Type} [CommRing S]
theorem zc(x:S)(u:Nat->S):∀(e n:Nat),u (n+e)-x^e*u n=sm e fun i=>x^(e-1-i)*(u (n+i+1)-x*u (n+i))
 |0,n=>by show u n-x^0*u n=0;grind
 |e+1,n=>by
  show _=sm e (fun i=>x^(e+1-1-i)*(u (n+i+1)-x*u (n+i)))+x^(e+1-1-e)*(u (n+e+1)-x*u (n+e));have h:=zc x u e n;have e1:sm e (fun i=>x^(e+1-1-i)*(u (n+i+1)-x*u (n+i)))=x*sm e fun i=>x^(e-1-i)*(u (n+i+1)-x*u (n+i)):=by
   rw[<-bw];refine aA fun i hi=>?_;rw[show e+1-1-i=e-1-i+1 by omega];grind
  rw[e1,<-h,show e+1-1-e=0 by omega,show n+(e+1)=n+e+1 by omega];grind
theorem NS:∀(l:List S) (m:Nat) (F:Nat->Nat->S) (g:Nat->S) (n:Nat),dl l (fun n=>sm m fun i=>g i*F i n) n=sm m fun i=>g i*dl l (F i) n
 |l,0,F,g,n=>Iv l n
 |l,m+1,F,g,n=>by
  show dl l (fun n=>sm m (fun i=>g i*F i n)+g m*F m n) n=sm m _+g m*dl l (F m) n;have:=EV l (fun n=>sm m fun i=>g i*F i n) (F m) 1 (g m) n;rw[show(fun n=>sm m (fun i=>g i*F i n)+g m*F m n)=fun n=>1*sm m (fun i=>g i*F i n)+g m*F m n from funext fun n=>by grind,this,NS l m F g n];grind
theorem tM(e:Nat):∀(A:List S) (u:Nat->S),(∀n,dl A u n=0)->∀s n,dl (A.map fun x=>x^e) (fun n=>u (s+e*n)) n=0
 |[],u,h,s,n=>h _
 |x::A,u,h,s,n=>by
  show dl (A.map fun x=>x^e) (fun n=>u (s+e*(n+1))-x^e*u (s+e*n)) n=0;have e1:(fun n=>u (s+e*(n+1))-x^e*u (s+e*n))=fun n=>sm e fun i=>x^(e-1-i)*(fun n=>(fun n=>u (n+1)-x*u n) (s+i+e*n)) n:=funext fun n=>by
   rw[show s+e*(n+1)=s+e*n+e by rw[Nat.mul_succ];omega,zc];exact aA fun i _=>by show _=x^(e-1-i)*(u (s+i+e*n+1)-x*u (s+i+e*n));rw[show s+i+e*n=s+e*n+i by omega]
  rw[e1,NS (A.map fun x=>x^e) e (fun i n=>(fun n=>u (n+1)-x*u n) (s+i+e*n))];rw[aA (g:=fun _=>(0:S)) fun i _=>by rw[tM e A (fun n=>u (n+1)-x*u n) h (s+i) n];grind,fX]
theorem CB(x:S)(e:Nat):∀k,(x^e)^k=x^(e*k)
 |0=>by rw[Nat.mul_zero];grind
 |k+1=>by
  rw[Semiring.pow_succ,CB x e k,Nat.mul_succ,Semiring.pow_add]
theorem Af(e:Nat):∀(A:List S) (k:Nat),pw (A.map fun x=>x^e) k=pw A (e*k)
 |[],_=>rfl
 |x::A,k=>by show(x^e)^k+_=x^(e*k)+_;rw[CB,Af e A k]
end
theorem Ba{m e:Nat}(he:1<=e){c a s r:Nat->Int}(hc:∀k,m<=k->c k=0)(ha:∀i,a (i+m)=sm m fun k=>c k*a (i+m-1-k))
  (hs:∀k,k<e*m->s k=((k+1:Nat):Int)*c k+sm k fun i=>c i*s (k-1-i))
  (hr:∀k,k<m->r k=(s (e*(k+1)-1)-sm k fun i=>r i*s (e*(k-1-i+1)-1))/((k+1:Nat):Int)) (st i:Nat):
  a (st+e*(i+m))=sm m fun k=>r k*a (st+e*(i+m-1-k)):=by
 obtain⟨S,iS,φ,h,A,lA,eA⟩:=LZ m c hc;have kA:∀n,dl A (fun n=>φ (a n)) n=0:=fun n=>by
  rw[zE h.hom (c:=c) (fun k _=>eA k),lA,<-ha n,show a (n+m)-a (n+m)=0 by omega,h.hom.zero]
 have pA:=Gp h.hom (A:=A) (c:=c) (s:=s) (e*m) eA hs;have lG:(A.map fun x=>x^e).length=m:=by rw[List.length_map,lA]
 have pG:∀k,k<m->φ (s (e*(k+1)-1))=pw (A.map fun x=>x^e) (k+1):=fun k hk=>by
  have l1:e*(k+1)<=e*m:=Nat.mul_le_mul_left _ hk;have l0:1*1<=e*(k+1):=Nat.mul_le_mul he (by omega);rw[pA _ (by omega),Af,show e*(k+1)-1+1=e*(k+1)by omega]
 have rG:=Fi h (G:=A.map fun x=>x^e) (s:=fun k=>s (e*(k+1)-1)) (r:=r) m pG hr;have kG:=tM e A _ kA st i;rw[zE h.hom (A:=A.map fun x=>x^e) (c:=r) (a:=fun n=>a (st+e*n)) (fun k hk=>by rw[h.hom.neg,rG k (by omega)];grind),lG]at kG;have:=h.inj _ kG;omega
end Nw
namespace K40
open PySem L2
seal PA PE PS PSs PT PW PI PG PGs PO PIf
def top(i:Nat):Stmt:=PySem.Challenge.pw_nextbyrule_k40_whole_far_by_far.main.body.getD i (.Pass ⟨0,0,0,0⟩)
abbrev nZ:Stmt:=top 5
abbrev xY:Stmt:=top 6
abbrev rT:Stmt:=top 7
abbrev DR:Stmt:=top 8
abbrev jX:Stmt:=top 10
abbrev iK:Stmt:=top 11
abbrev qM:Stmt:=top 13
abbrev mK:Stmt:=top 14
abbrev yR:Stmt:=top 15
abbrev qG:Stmt:=top 16
abbrev xH:Stmt:=top 17
abbrev oN:Stmt:=top 18
abbrev qz:Stmt:=top 19
abbrev qH:Stmt:=top 20
abbrev uL:Stmt:=top 21
abbrev fK:Stmt:=top 24
abbrev jR:Stmt:=top 25
abbrev DY:Stmt:=top 26
abbrev oA:Stmt:=top 27
abbrev uE:Stmt:=top 28
abbrev iD:Stmt:=top 30
abbrev jV:Stmt:=top 31
abbrev iM:Stmt:=top 32
abbrev jq:Stmt:=top 35
abbrev rN:Stmt:=top 36
abbrev jY:Stmt:=top 37
abbrev rY:Stmt:=top 38
abbrev uI:Stmt:=top 39
abbrev gh:Stmt:=top 40
abbrev fW:Stmt:=top 41
abbrev tY:Stmt:=top 43
abbrev oX:Stmt:=top 44
abbrev oE:Stmt:=top 45
abbrev d8:Stmt:=top 49
abbrev oF:Stmt:=top 50
abbrev yg:Stmt:=top 51
abbrev oO:Stmt:=top 53
abbrev CV:Stmt:=top 54
abbrev lV:Stmt:=top 55
abbrev ur:Stmt:=top 56
abbrev jr:Stmt:=top 57
abbrev iz:Stmt:=top 58
abbrev jU:Stmt:=top 59
abbrev rR:Stmt:=top 60
abbrev Df:Stmt:=top 61
abbrev uY:Stmt:=top 62
abbrev xr:Stmt:=top 63
theorem lQ:aO ["number","divisor"] ["number"] (aj nZ):=cA
theorem Gx:aO ["by","number"] ["by","number"] (aj xY):=cA
theorem fL:aO ["prime","number","power","square","left"] ["prime","number"] (aj rT):=cA
theorem Ja:aO ["by","one","other"] ["by","one","other"] (aj DR):=cA
theorem gJ:aO ["by","rule","before","total","k"] ["by","rule","before"] (aj jX):=cA
theorem cZ:aO ["row","count","by","rule","starts","found"] ["row","count"] (aj iK):=cA
theorem pB:aO ["numbers","end"] ["numbers"] (aj qM):=cA
theorem vG:aO ["poly","k"] ["poly","k"] (aj mK):=cA
theorem qg:aO ["by","one","other","total","i","k"] ["by","one","other"] (aj yR):=cA
theorem fB:aO ["by","one","other","top","often","left","shift","factor","k"] ["by","one","other"] (aj qG):=cA
theorem zG:aO ["prime","poly","last"] ["prime","poly"] (aj xH):=cA
theorem fj:aO ["by","one","other","great","small","left"] ["by","one","other"] (aj oN):=cA
theorem pD:aO ["by","rule","length","numbers"] ["by","rule"] (aj qz):=cA
theorem tK:aO ["by","poly","length"] ["by","poly"] (aj qH):=cA
theorem Ea:aO ["by","poly","found","n"] ["by","poly","found","n"] (aj uL):=cA
theorem nW:aO ["by","n"] ["by","n"] (aj fK):=cA
theorem dj:aO ["by","poly","n","left","figure","doubled"] ["by","poly","n"] (aj jR):=cA
theorem uV:aO ["row","n","by","rule","left"] ["row","n"] (aj DY):=cA
theorem yN:aO ["row","n"] ["row","n"] (aj oA):=cA
theorem jZ:aO ["row","n","by","numbers","near","starts"] ["row","n"] (aj uE):=cA
theorem jM:aO ["rule","sums","k","reach"] ["rule","sums","k"] (aj iD):=cA
theorem gC:aO ["rule","count","sums","k","own"] ["rule","count"] (aj jV):=cA
theorem gU:aO ["sums","rule","k"] ["sums"] (aj iM):=cA
theorem iH:aO ["number","found"] ["number"] (aj jq):=cA
theorem AH:aO ["monic_one","poly"] ["monic_one","poly"] (aj rN):=cA
theorem uc:aO ["prime","poly"] ["prime","poly"] (aj jY):=cA
theorem tQ:aO ["modulus","number","rest"] ["modulus","number"] (aj rY):=cA
theorem u0:aO ["modulus","number","prime","rest","more"] ["modulus","number","prime","rest"] (aj uI):=cA
theorem aP:aO ["one","other","told","modulus","prime","ripe","seen","before"] ["one","other"] (aj gh):=cA
theorem oZ:aO ["by","one","other"] ["by","one","other"] (aj fW):=cA
theorem jc:aO ["row","poly","by","starts","top","k","parts"] ["row","poly"] (aj tY):=cA
theorem jl:aO ["row","by","poly","top"] ["row"] (aj oX):=cA
theorem mL:aO ["row","least","rule"] ["row"] (aj oE):=cA
theorem mQ:aO ["start","step"] ["start","step"] (aj d8):=cA
theorem mO:aO ["by","rule","starts","rule_taken","starts_taken"] ["by","rule","starts"] (aj oF):=cA
theorem j9:aO ["row","start","step","least","length","sums","found","rule"] ["row","start","step"] (aj yg):=cA
theorem yx:aO ["_law_script","_law_k"] ["_law_script","_law_k"] (aj oO):=cA
theorem xq:aO ["_law_cell","_law_k","_law_number"] ["_law_cell","_law_k"] (aj CV):=cA
theorem wA:aO ["_law_cell"] ["_law_cell"] (aj lV):=cA
theorem BX:aO ["_law_by","_law_number"] ["_law_by","_law_number"] (aj ur):=cA
theorem iI:aO ["_law_by","_law_cell","_law_k","_law_far","_law_small"] ["_law_by","_law_cell","_law_k"] (aj jr):=cA
theorem cC:aO ["_law_row","_law_number","_law_by","_law_rule","_law_starts","_law_some","_law_longer","_law_k"] ["_law_row","_law_number"] (aj iz):=cA
theorem cH:aO ["_law_script","_law_start","_law_by","_law_most","_law_cell","_law_size","_law_mine","_law_rule","_law_k","_law_row"] ["_law_script","_law_start","_law_by","_law_most"] (aj jU):=cA
theorem gP:aO ["_law_row","_law_count","_law_by","_law_rule","_law_starts","_law_found","_law_total"] ["_law_row","_law_count"] (aj rR):=cA
theorem BZ:aO ["_law_numbers","_law_found"] ["_law_numbers"] (aj Df):=cA
theorem rm:aO ["_law_by","_law_row","_law_one","_law_other","_law_rule","_law_both"] ["_law_by","_law_row","_law_one","_law_other"] (aj uY):=cA
theorem iY:aO ["_law_script","_law_by","_law_row","_law_cell","_law_one","_law_other","_law_both","_law_start","_law_step","_law_n"] ["_law_script"] (aj xr):=cA
abbrev Dn:=csF [(".0",.local),("number",.local),("over",.globalImplicit),("last",.cell),("prime",.cell)]
abbrev yQ:=csF [(".0",.local),("k",.local),("taken",.globalImplicit),("by",.cell),("length",.cell),("rule",.cell)]
abbrev yD:=csF [(".0",.local),("k",.local),("taken",.globalImplicit),("by",.cell),("length",.cell),("poly",.cell)]
abbrev AZ:=csF [(".0",.local),("k",.local),("found",.cell),("n",.cell),("poly",.cell)]
abbrev Fe:=csF [(".0",.local),("i",.local),("number_at",.globalImplicit),("left",.cell)]
abbrev A8:=csF [(".0",.local),("m",.local),("sum_at",.globalImplicit),("by",.cell),("near",.cell),("numbers",.cell)]
abbrev qd:=csF [(".0",.local),("i",.local),("k",.cell),("rule",.cell),("sums",.cell)]
abbrev sO:=csF [(".0",.local),("number",.local),("taken",.globalImplicit),("prime",.cell)]
abbrev nA:=csF [(".0",.local),("rest",.local),("nearest",.globalImplicit),("prime",.cell)]
abbrev nY:=csF [(".0",.local),("k",.local),("joined",.globalImplicit),("before",.cell),("modulus",.cell),("prime",.cell),("seen",.cell)]
abbrev Bv:=csF [(".0",.local),("j",.local),("k",.cell),("poly",.cell),("starts",.cell)]
abbrev vI:=csF [(".0",.local),("number",.local),("taken",.globalImplicit),("by",.cell)]
abbrev vW:=csF [(".0",.local),("number",.local),("taken",.globalImplicit),("by",.cell)]
abbrev Es:=csF [(".0",.local),("k",.local),("step",.cell),("sums",.cell)]
abbrev DC:=csF [(".0",.local),("k",.local),("found",.cell),("start",.cell),("step",.cell)]
abbrev qb:=csF [(".0",.local),("_law_one",.local),("_law_taken",.globalImplicit),("_law_by",.cell)]
abbrev sH:=csF [(".0",.local),("_law_k",.local),("_law_one_number",.globalImplicit),("_law_by",.cell),("_law_mine",.cell)]
abbrev sS:=csF [(".0",.local),("_law_k",.local),("_law_one_number",.globalImplicit),("_law_by",.cell),("_law_mine",.cell)]
abbrev xR:=csF [(".0",.local),("_law_k",.local),("_law_found",.cell),("_law_rule",.cell)]
structure Bt(mg:Str->Option Value):Prop where
 Ub:mg "int" = none
 cL:mg "len" = none
 zR:mg "list" = none
 Tw:mg "max" = none
 Pa:mg "min" = none
 cu:mg "range" = none
 GX:mg "sum" = none
 dD:mg "tuple" = none
 cI:∃t,mg "BELOW_THE_PRIMES" = some (.int 1000000 t)
 dg:∃t,mg "FARTHEST_BY_0" = some (.int 400 t)
 cU:∃t,mg "FARTHEST_START" = some (.int 100 t)
 eU:∃t,mg "WIDEST_STEP" = some (.int 10 t)
abbrev Qc:Nat:=16
theorem cJ(a:Int){b:Int}(h:0<b):0<=a%b:=Int.emod_nonneg _ (by omega)
theorem cQ(a:Int){b:Int}(h:0<b):a%b<b:=Int.emod_lt_of_pos _ h
theorem aW{ns:List Int}{k:Int}(h0:0<=k)(h1:k<(ns.length:Int)):atI (ns.map V.int) k=some (.int (ns.getD k.toNat 0)):=by
 have e:k=((k.toNat:Nat):Int):=by omega
 have hk:k.toNat<ns.length:=by omega
 conv=>lhs;rw[e]
 exact Ku (by rw[List.getElem?_map,List.getElem?_eq_getElem hk,List.getD_eq_getElem?_getD,List.getElem?_eq_getElem hk]<;>rfl)
theorem dec_true{p:Prop}[Decidable p](c:decide p=true):p:=of_decide_eq_true c
theorem dec_false{p:Prop}[Decidable p](c:¬decide p=true):¬p:=of_decide_eq_false (Bool.eq_false_iff.mpr c)
def jz(b x:Int):Prop:=b=0∨(0<=x/\x<b)
structure Rw where
 b:Int
 rule:List Int
 starts:List Int
structure lB(r:Rw):Prop where
 len:r.rule.length=r.starts.length
 short:r.rule.length<=24
 by0:0<=r.b
 by1:r.b<1000
 mC:∀x∈r.rule,jz r.b x
 iU:∀x∈r.starts,jz r.b x
 dX:∀x∈r.rule,Rm.Bd 60000 x
 jC:∀x∈r.starts,Rm.Bd 10000 x
def Rw.row(r:Rw)(n:Nat):List Int:=Rm.row r.b r.rule r.starts n
def Rw.at(r:Rw)(n:Nat):Int:=Rm.at_ r.b r.rule r.starts n
theorem lB.bd{r:Rw}(h:lB r)(n:Nat)(hn:n<=1000):Rm.Bd 61000000 (r.at n):=by
 have q:=Rm.Bq (b:=r.b) (rule:=r.rule) (starts:=r.starts) (a:=60000) (c:=10000) h.len h.by0 ((Rm.Bd.of (n:=10) (by have:=h.by0;omega) (by have:=h.by1;omega)).mono (by decide)) h.dX h.jC n;refine q.mono ?_;have h1:=h.short;have h2:n*(60000+r.rule.length)<=1000*60024:=Nat.mul_le_mul hn (by omega);omega
theorem lB.CQ{r:Rw}(h:lB r)(n:Nat)(hn:n<=1000):∀x∈r.row n,Rm.Bd 61000000 x:=by
 intro x hx;have e:r.row n=(List.range n).map r.at:=Rm.Ef ..;rw[e]at hx;obtain⟨i,hi,rfl⟩:=List.mem_map.mp hx;exact h.bd i (by have:=List.mem_range.mp hi;omega)
theorem Rw.dH(r:Rw)(n:Nat):(r.row n).length=n:=Rm.dH ..
theorem nR{x y:Int}{m n:Nat}(h:Rm.Bd m x)(h':Rm.Bd n y)(hn:m+n<=134217728):IntMulOk x y:=
 IntMulOk.of_le (intBits_le_iff.mpr h) (intBits_le_iff.mpr h') hn
def gj(H:Hp)(v:V)(r:Rw):Prop:=
 ∃a p q,v = .ref a/\H a=some (.tup [.int r.b,.ref p,.ref q])/\H p=some (.tup (r.rule.map V.int))/\H q=some (.tup (r.starts.map V.int))
theorem gj.same{H H':Hp}{v:V}{r:Rw}(h:gj H v r)(g:Same H H'):gj H' v r:=by
 obtain⟨a,p,q,e,h1,h2,h3⟩:=h;exact⟨a,p,q,e,g _ _ h1,g _ _ h2,g _ _ h3⟩
theorem NK(rule:List Int)(f:Nat->Int)(n:Nat):∀m:Nat,((List.range m).map fun k=>rule.getD k 0*f (n-1-k)).sum=Rm.S rule f n m
 |0=>rfl
 |m+1=>by
  rw[List.range_succ,List.map_append,List.sum_append,NK rule f n m];simp[Rm.S]
theorem uN(xs:List Int)(x:Int):(xs++[x]).map V.int=xs.map V.int++[.int x]:=by rw[List.map_append];rfl
def Told(H:Hp)(Q:VK)(xs:List V):Prop:=∀r H',Same H H'->H r=none->H' r=some (.lst xs)->Q (.ref r) H'
inductive Lh(K:W.Frag)(vs:List V)(H:Hp)(Q:VK)(E:XK):Prop|mk (a:Addr) (ns:List Int) (z_0:vs=[.ref a]) (z_1:SqL K H a (ns.map V.int)) (z_2:ns.length<=63) (z_3:(∀x∈ns,PySem.Builtin.Int.intBits x<=1048576)) (z_4:∀H',Q (.bl true) H')
def KJ(K:W.Frag):Sp:=fun vs H Q E=>Lh K vs H Q E
theorem Eb(xs:List V)(k:Nat):vO xs none (some (k:Int))=xs.take k:=by
 unfold vO;rw[HT.jk,HT.gG,List.drop_zero,Nat.sub_zero,List.take_eq_take_iff];omega
def sJ(H:Hp)(Q:VK)(ns:List Int):Prop:=∀p H',Same H H'->H' p=some (.tup (ns.map V.int))->Q (.ref p) H'
theorem v9{xs:List Int}{n:Nat}(h:0<n)(hn:n<=xs.length):xs.take n=xs.take (n-1)++[xs.getD (n-1) 0]:=by
 obtain⟨m,rfl⟩:∃m,n=m+1:=⟨n-1,by omega⟩;rw[Nat.add_sub_cancel,List.take_add_one,List.getElem?_eq_getElem (by omega),List.getD_eq_getElem?_getD,List.getElem?_eq_getElem (by omega)];rfl
theorem vB{xs:List Int}{n:Nat}(h:0<n)(hn:n<=xs.length)(ht:Pm.trim (xs.take n)=Pm.trim xs)(h0:xs.getD (n-1) 0=0):Pm.trim (xs.take (n-1))=Pm.trim xs:=by
 rw[v9 h hn,h0,Pm.vL]at ht;exact ht
theorem mV{xs:List Int}{n:Nat}(hn:n<=xs.length)(ht:Pm.trim (xs.take n)=Pm.trim xs)(h0:n=0∨xs.getD (n-1) 0≠0):xs.take n=Pm.trim xs:=by
 rcases h0 with h0|h0
 ·subst h0;rw[<-ht];rfl
 ·by_cases hz:n=0
  ·subst hz;rw[<-ht];rfl
  ·rw[<-ht,v9 (by omega) hn,Pm.rZ _ h0]
theorem wu{n j:Nat}{i:Int}(e:i=(j:Int))(h:j<n):ixN n i=some j:=by
 subst e;unfold ixN;rw[if_pos (by omega),if_pos (by omega),Int.toNat_natCast]
theorem gY(L:List Int)(j:Nat)(x:Int):(L.map V.int).set j (.int x)=(L.set j x).map V.int:=by rw[List.map_set]
theorem ju(n:Nat):(List.replicate n [V.int 0]).flatten=(Pm.ofF n fun _=>0).map V.int:=by
 induction n with
 |zero=>rfl
 |succ n ih=>
  rw[Pm.Ak,List.map_append,<-ih,List.replicate_succ',List.flatten_append];rfl
theorem kj{n:Nat}{ix:List (Option Nat)}{te:TE}{σ:St}{H1:Hp}{Q:VK}(hz:n<=1000){rest:St}(hst:cst ix σ=none::rest)(f:Nat->Int)
  (he:∀H' k,Same H1 H'->k<n->∀kk:VK,kk (.int (f k)) H'->te (some (.int (0+(k:Int)))::rest) H' kk)
  (hQ:∀D,H1 D=none->Q (.ref D) (upd H1 D (.lst ((Pm.ofF n f).map V.int)))):pY ix (nq 0) CP te σ Q (Itr 0 n) H1:=by
 refine jP mU (by rw[List.length_map,List.length_range];exact Nat.le_of_lt (bN hz)) hst (fun _=>true) (fun x=>match x with | .int k=> .int (f k.toNat)|_=> .non) ?_ ?_ ?_
 ·intro H2 x g2 hx k hk;exact hk
 ·intro H2 x g2 hx _ k hk;obtain⟨j,hj,rfl⟩:=List.mem_map.mp hx;have e1:(0+(j:Int)).toNat=j:=by omega
  refine he H2 j g2 (List.mem_range.mp hj) k ?_;have hk':k (V.int (f (0+(j:Int)).toNat)) H2:=hk
  rwa [e1]at hk'
 ·intro D hD;have el:((((List.range n).map fun i=>V.int (0+(i:Nat))).filter fun _=>true).map fun x=>match x with | .int k=>V.int (f k.toNat)|_=>V.non)=(Pm.ofF n f).map V.int:=by
   rw[List.filter_eq_self.mpr (by simp),List.map_map,Pm.ofF,List.map_map];refine List.map_congr_left fun k _=>?_;show V.int (f (0+(k:Int)).toNat)=V.int (f k);rw[show(0+(k:Int)).toNat=k by omega]
  rw[el];exact hQ D hD
theorem uP{K:W.Frag}{a:Addr}{xs:List Int}{ix:List (Option Nat)}{te:TE}{σ:St}{H1:Hp}{Q:VK}(hA:H1 a=some (.tup (xs.map V.int)))(hz:xs.length<=1000){rest:St}(hst:cst ix σ=none::rest)(f:Int->Int)
  (he:∀H' x,Same H1 H'->x∈xs->∀kk:VK,kk (.int (f x)) H'->te (some (.int x)::rest) H' kk)
  (hQ:∀D,H1 D=none->Q (.ref D) (upd H1 D (.lst ((xs.map f).map V.int)))):pY ix (nq 0) CP te σ Q (Itt K a) H1:=by
 refine jP (Di (SqT.of hA)) (by rw[List.length_map];exact Nat.le_of_lt (bN hz)) hst (fun _=>true) (fun x=>match x with | .int k=> .int (f k)|_=> .non) ?_ ?_ ?_
 ·intro H2 x g2 hx k hk;exact hk
 ·intro H2 x g2 hx _ k hk;obtain⟨y,hy,rfl⟩:=List.mem_map.mp hx;exact he H2 y g2 hy k hk
 ·intro D hD;have el:(((xs.map V.int).filter fun _=>true).map fun x=>match x with | .int k=>V.int (f k)|_=>V.non)=(xs.map f).map V.int:=by
   rw[List.filter_eq_self.mpr (by simp),List.map_map,List.map_map];rfl
  rw[el];exact hQ D hD
theorem E9{K:W.Frag}{a:Addr}{xs:List Int}{ix:List (Option Nat)}{te:TE}{σ:St}{H1:Hp}{Q:VK}(hA:H1 a=some (.lst (xs.map V.int)))(hz:xs.length<=1000){rest:St}(hst:cst ix σ=none::rest)(f:Int->Int)
  (he:∀H' x,Same H1 H'->x∈xs->∀kk:VK,kk (.int (f x)) H'->te (some (.int x)::rest) H' kk)
  (hQ:∀D,H1 D=none->Q (.ref D) (upd H1 D (.lst ((xs.map f).map V.int)))):pY ix (nq 0) CP te σ Q (Itl K a) H1:=by
 refine jP (zH (SqL.of hA)) (by rw[List.length_map];exact Nat.le_of_lt (bN hz)) hst (fun _=>true) (fun x=>match x with | .int k=> .int (f k)|_=> .non) ?_ ?_ ?_
 ·intro H2 x g2 hx k hk;exact hk
 ·intro H2 x g2 hx _ k hk;obtain⟨y,hy,rfl⟩:=List.mem_map.mp hx;exact he H2 y g2 hy k hk
 ·intro D hD;have el:(((xs.map V.int).filter fun _=>true).map fun x=>match x with | .int k=>V.int (f k)|_=>V.non)=(xs.map f).map V.int:=by
   rw[List.filter_eq_self.mpr (by simp),List.map_map,List.map_map];rfl
  rw[el];exact hQ D hD
theorem jt:∀P∈Om.qP,2<=P/\P<1000:=by decide +kernel
def ByP(b:Int):Prop:=b=0∨∃P:Nat,P∈Om.qP/\b=(P:Int)
theorem ByP.one{b:Int}(h:ByP b):Rm.tk b 1=1:=by
 rcases h with rfl|⟨P,hP,rfl⟩
 ·exact Rm.bf 1
 ·have:=jt P hP;rw[Rm.fP (by omega)];exact Int.emod_eq_of_lt (by decide) (by omega)
inductive G7(vs:List V)(H:Hp)(Q:VK)(E:XK):Prop|mk (b n:Int) (z_0:vs=[.int b,.int n]) (z_1:0<=b) (z_2:Q (.int (Rm.tk b n)) H)
def Ce:Sp:=fun vs H Q E=>G7  vs H Q E
abbrev fG(P w K mg base):=Cal P w K mg base "taken" 1 ["by","number"] Ce
inductive KL(K:W.Frag)(vs:List V)(H:Hp)(Q:VK)(E:XK):Prop|mk (b:Int) (r s:Addr) (rule before:List Int) (z_0:vs=[.int b,.ref r,.ref s]) (z_1:0<=b) (z_2:SqT K H r (rule.map V.int)) (z_3:SqL K H s (before.map V.int)) (z_4:rule.length<=before.length) (z_5:rule.length<=24) (z_6:before.length<=1000) (z_7:(∀x∈rule,Rm.Bd 60000 x)) (z_8:(∀x∈before,Rm.Bd 61000000 x)) (z_9:Q (.int (Rm.tk b (Rm.S rule (fun i=>before.getD i 0) before.length rule.length))) H)
def NV(K:W.Frag):Sp:=fun vs H Q E=>KL K vs H Q E
abbrev pU(P w K mg base):=Cal P w K mg base "next_place" 2 ["by","rule","before"] (NV K)
inductive G6(K:W.Frag)(vs:List V)(H:Hp)(Q:VK)(E:XK):Prop|mk (v:V) (r:Rw) (c:Int) (z_0:vs=[v,.int c]) (z_1:gj H v r) (z_2:lB r) (z_3:0<=c) (z_4:c<=900) (z_5:Told H Q ((r.row c.toNat).map V.int))
def JD(K:W.Frag):Sp:=fun vs H Q E=>G6 K vs H Q E
abbrev iG(P w K mg base):=Cal P w K mg base "first_places" 3 ["row","count"] (JD K)
inductive Cw(vs:List V)(H:Hp)(Q:VK)(E:XK):Prop|mk (n:Nat) (z_0:vs=[.int n]) (z_1:n<2097152) (z_2:∀b:Bool,(b=true↔Om.bQ n)->Q (.bl b) H)
def Fj:Sp:=fun vs H Q E=>Cw  vs H Q E
abbrev tV(P w K mg base):=Cal P w K mg base "is_prime" 1 ["number"] Fj
inductive G5(vs:List V)(H:Hp)(Q:VK)(E:XK):Prop|mk (n q:Nat) (z_0:vs=[.int n]) (z_1:Om.bQ q) (z_2:n<q) (z_3:q<2097152) (z_4:∀p:Nat,Om.bQ p->n<p->p<=q->Q (.int p) H)
def JK:Sp:=fun vs H Q E=>G5  vs H Q E
abbrev nK(P w K mg base):=Cal P w K mg base "prime_above" 2 ["number"] JK
inductive yE(vs:List V)(H:Hp)(Q:VK)(E:XK):Prop|mk (P:Nat) (a:Int) (z_0:vs=[.int P,.int a]) (z_1:Om.bQ P) (z_2:P<2097152) (z_3:0<a) (z_4:a<(P:Int)) (z_5:∀x:Int,0<=x->x<2097152->x%(P:Int)=a^(P-2)%(P:Int)->Q (.int x) H)
def Bo:Sp:=fun vs H Q E=>yE  vs H Q E
abbrev vq(P w K mg base):=Cal P w K mg base "inverse" 2 ["prime","number"] Bo
inductive G3(vs:List V)(H:Hp)(Q:VK)(E:XK):Prop|mk (P:Nat) (one other:Int) (z_0:vs=[.int P,.int one,.int other]) (z_1:Om.bQ P) (z_2:P<2097152) (z_3:0<other) (z_4:other<(P:Int)) (z_5:Q (.int (one*other^(P-2)%(P:Int))) H)
def Jq:Sp:=fun vs H Q E=>G3  vs H Q E
abbrev Eo(P w K mg base):=Cal P w K mg base "over" 3 ["by","one","other"] Jq
inductive Il(K:W.Frag)(vs:List V)(H:Hp)(Q:VK)(E:XK):Prop|mk (l:Addr) (xs:List Int) (z_0:vs=[.ref l]) (z_1:SqL K H l (xs.map V.int)) (z_2:sJ H Q (Pm.trim xs))
def N7(K:W.Frag):Sp:=fun vs H Q E=>Il K vs H Q E
abbrev jO(P w K mg base):=Cal P w K mg base "trimmed" 1 ["numbers"] (N7 K)
inductive GV(vs:List V)(H:Hp)(Q:VK)(E:XK):Prop|mk (a:Addr) (p:List Int) (k:Int) (z_0:vs=[.ref a,.int k]) (z_1:H a=some (.tup (p.map V.int))) (z_2:0<=k) (z_3:Q (.int (Pm.co p k.toNat)) H)
def Iw:Sp:=fun vs H Q E=>GV  vs H Q E
abbrev qO(P w K mg base):=Cal P w K mg base "number_at" 1 ["poly","k"] Iw
inductive Gk(vs:List V)(H:Hp)(Q:VK)(E:XK):Prop|mk (b:Int) (a c:Addr) (p r:List Int) (z_0:vs=[.int b,.ref a,.ref c]) (z_1:0<=b) (z_2:H a=some (.tup (p.map V.int))) (z_3:H c=some (.tup (r.map V.int))) (z_4:p.length<=400) (z_5:r.length<=400) (z_6:(∀x∈p,Rm.Bd 1000000 x)) (z_7:(∀x∈r,Rm.Bd 1000000 x)) (z_8:sJ H Q (Pm.mul b p r))
def JQ:Sp:=fun vs H Q E=>Gk  vs H Q E
abbrev xK(P w K mg base):=Cal P w K mg base "times" 2 ["by","one","other"] JQ
def Qg(H:Hp)(Q:VK)(b:Int)(P M:List Int):Prop:=∀t x y q r H',Same H H'->H' t=some (.tup [.ref x,.ref y])->H' x=some (.tup (List.map V.int q))->H' y=some (.tup (List.map V.int r))->Pm.Div b P M q r->
 (∀z∈q,Rm.Bd 5900000 z)->(∀z∈r,Rm.Bd 5900000 z)->q.length<=P.length->Q (.ref t) H'
inductive xV(vs:List V)(H:Hp)(Q:VK)(E:XK):Prop|mk (b:Int) (a c:Addr) (P M:List Int) (z_0:vs=[.int b,.ref a,.ref c]) (z_1:0<=b) (z_2:b<2097152) (z_3:H a=some (.tup (P.map V.int))) (z_4:H c=some (.tup (M.map V.int))) (z_5:P.length<=40) (z_6:M.length<=40) (z_7:Pm.Mon M) (z_8:(∀k,Rm.tk b (Pm.co P k)=Pm.co P k)) (z_9:(∀x∈P,Rm.Bd 900000 x)) (V8:(∀x∈M,Rm.Bd 124000 x)) (Wi:Qg H Q b P M)
def BP:Sp:=fun vs H Q E=>xV  vs H Q E
theorem EB{L:List Int}{u:Nat}(h:∀k,Rm.Bd u (Pm.co L k)):∀x∈Pm.trim L,Rm.Bd u x:=fun x hx=>by
 obtain⟨k,hk,e⟩:=List.mem_iff_getElem.mp hx;rw[<-e,<-Pm.qZ hk,Pm.f9];exact h k
theorem max_zero(m n:Nat):(if(m:Int)-((n:Int)-1)>0 then(m:Int)-((n:Int)-1)else 0).toNat=m-(n-1)∨n=0:=by
 by_cases h:n=0
 ·exact .inr h
 ·left;split<;>omega
abbrev jf(P w K mg base):=Cal P w K mg base "divided" 2 ["by","one","other"] BP
def Sq(H:Hp)(Q:VK)(b:Int)(p:List Int):Prop:=∀t m H',Same H H'->H' t=some (.tup (List.map V.int m))->Pm.u6 b p m->Q (.ref t) H'
inductive Dz(vs:List V)(H:Hp)(Q:VK)(E:XK):Prop|mk (P:Nat) (a:Addr) (p:List Int) (z_0:vs=[.int P,.ref a]) (z_1:Om.bQ P) (z_2:P<2097152) (z_3:H a=some (.tup (p.map V.int))) (z_4:p.length<=300) (z_5:Pm.Py P p) (z_6:Sq H Q P p)
def Fz:Sp:=fun vs H Q E=>Dz  vs H Q E
abbrev Dw(P w K mg base):=Cal P w K mg base "monic" 4 ["prime","poly"] Fz
def Lg(H:Hp)(Q:VK)(b:Int)(p r:List Int):Prop:=∀t g H',Same H H'->H' t=some (.tup (List.map V.int g))->Pm.Gcd b p r g->g.length<=max p.length r.length->Q (.ref t) H'
inductive wI(vs:List V)(H:Hp)(Q:VK)(E:XK):Prop|mk (P:Nat) (a c:Addr) (p r:List Int) (z_0:vs=[.int P,.ref a,.ref c]) (z_1:Om.bQ P) (z_2:P<2097152) (z_3:H a=some (.tup (p.map V.int))) (z_4:H c=some (.tup (r.map V.int))) (z_5:p.length<=40) (z_6:r.length<=40) (z_7:Pm.Py P p) (z_8:Pm.Py P r) (z_9:(r=[]->p≠[])) (V8:Lg H Q P p r)
def yC:Sp:=fun vs H Q E=>wI  vs H Q E
theorem Jm{P:Nat}(h0:2<=P)(h:P<2097152){p:List Int}(hp:Pm.Py P p):∀x∈p,Rm.Bd 124000 x:=fun x hx=>by
 have:=hp.nu x hx;rw[Rm.fP (by omega)]at this;rw[<-this];exact Rm.Bd.emod (by omega) ((Rm.Bd.of (n:=21) (by omega) (by omega)).mono (by decide))
abbrev n8(P w K mg base):=Cal P w K mg base "greatest" 5 ["by","one","other"] yC
inductive AK(vs:List V)(H:Hp)(Q:VK)(E:XK):Prop|mk (M x:Int) (z_0:vs=[.int M,.int x]) (z_1:0<M) (z_2:Q (.int (Pm.nr M x)) H)
def Cj:Sp:=fun vs H Q E=>AK  vs H Q E
abbrev rK(P w K mg base):=Cal P w K mg base "nearest" 1 ["modulus","number"] Cj
inductive Cm(vs:List V)(H:Hp)(Q:VK)(E:XK):Prop|mk (M t:Int) (p:Nat) (s:Int) (z_0:vs=[.int M,.int t,.int p,.int s]) (z_1:Om.bQ p) (z_2:p<2097152) (z_3:0<M) (z_4:¬(p:Int)∣M) (z_5:Q (.int (Pm.jn M t p s)) H)
def GF:Sp:=fun vs H Q E=>Cm  vs H Q E
abbrev zZ(P w K mg base):=Cal P w K mg base "joined" 4 ["modulus","number","prime","rest"] GF
inductive wC(vs:List V)(H:Hp)(Q:VK)(E:XK):Prop|mk (p:Nat) (a:Addr) (P:List Int) (z_0:vs=[.int p,.ref a]) (z_1:0<p) (z_2:H a=some (.tup (P.map V.int))) (z_3:P.length<=100) (z_4:sJ H Q (Pm.trim (P.map (Rm.tk p))))
def yH:Sp:=fun vs H Q E=>wC  vs H Q E
abbrev pO(P w K mg base):=Cal P w K mg base "taken_poly" 2 ["prime","poly"] yH
inductive Am(vs:List V)(H:Hp)(Q:VK)(E:XK):Prop|mk (m a:Addr) (M P:List Int) (z_0:vs=[.ref m,.ref a]) (z_1:H m=some (.tup (M.map V.int))) (z_2:H a=some (.tup (P.map V.int))) (z_3:M.length<=40) (z_4:P.length<=40) (z_5:Pm.Mon M) (z_6:(∀x∈M,Rm.Bd 124000 x)) (z_7:(∀x∈P,Rm.Bd 900000 x)) (z_8:∀b H',Same H H'->(b=true↔Pm.Dv 0 M (Pm.co P))->Q (.bl b) H')
def EA:Sp:=fun vs H Q E=>Am  vs H Q E
abbrev vY(P w K mg base):=Cal P w K mg base "divides" 3 ["monic_one","poly"] EA
inductive QB(vs:List V)(H:Hp)(Q:VK)(E:XK):Prop|mk (a c:Addr) (P t g:List Int) (N:Int) (U V':Nat) (z_0:vs=[.ref a,.ref c]) (z_1:H a=some (.tup (P.map V.int))) (z_2:H c=some (.tup (t.map V.int))) (z_3:P.length<=40) (z_4:t.length<=40) (z_5:Pm.Mon P) (z_6:(∀x∈P,Rm.Bd 124000 x)) (z_7:(∀x∈t,Rm.Bd 900000 x)) (z_8:Pm.GcZ P (Pm.co t) g N) (z_9:Rm.Bd V' N) (V8:(∀k,Rm.Bd U (Pm.co g k))) (Wi:V'+U+57<=112100) (XD:sJ H Q g)
def Wa:Sp:=fun vs H Q E=>QB  vs H Q E
theorem DM(p:Nat)(P:List Int)(k:Nat):Rm.tk (p:Int) (Pm.co (Pm.trim (P.map (Rm.tk p))) k)=Rm.tk p (Pm.co P k):=by
 rw[Pm.f9,Pm.tW (Pm.tk0 _),Rm.jG]
theorem HJ(p:Nat)(P:List Int):Pm.Py p (Pm.trim (P.map (Rm.tk p))):=Pm.Py.of fun x hx=>by
 obtain⟨y,_,rfl⟩:=List.mem_map.mp hx;exact Rm.jG ..
theorem EW(p:Nat)(P:List Int):(Pm.trim (P.map (Rm.tk p))).length<=P.length:=by
 have:=Pm.cB (P.map (Rm.tk p))
 rwa [List.length_map]at this
theorem Ni{p:Nat}(hp:Om.bQ p){P:List Int}(hP:Pm.Mon P):Pm.trim (P.map (Rm.tk p))≠[]:=fun z=>by
 have:=DM p P (P.length-1);rw[z,Pm.dB,hP.one,Pm.wj hp,Pm.tk0]at this;exact absurd this (by decide)
theorem Ug{P g told:List Int}{N M:Int}{prime bad good:Nat}{ripe:Bool}(I:Pm.WgI P g N told M prime ripe bad good)(bP:∀x∈P,Rm.Bd 124000 x)(h:bad+good<=5900):∀x∈told,Rm.Bd 124000 x:=fun x hx=>by
 by_cases c:M=1
 ·rw[I.first c]at hx;exact bP x hx
 ·obtain⟨k,hk,e⟩:=List.mem_iff_getElem.mp hx;have n:=I.near c k;rw[Pm.qZ hk,e]at n;unfold Pm.Nr at n;have h1:=I.hi;have h2:(2:Int)^(21*(bad+good))<=2^123900:=by exact_mod_cast Nat.pow_le_pow_right (n:=2) (by decide) (show 21*(bad+good)<=123900 by omega)
  have h3:M<=2^123900:=Int.le_trans h1 h2;have hpos:=I.pos;refine(show Rm.Bd 123900 x from ?_).mono (by decide);generalize hB:(2:Int)^123900=B at h3;have h4:-B<x/\x<B:=by omega
  unfold Rm.Bd;have h5:(x.natAbs:Int)<((2^123900:Nat):Int):=by
   rw[Int.natCast_pow];show(x.natAbs:Int)<(2:Int)^123900;rw[hB];omega
  exact_mod_cast h5
def Lj(H:Hp)(a c:Addr)(P' g:List Int)(N:Int)(m:Nat)(σ':St)(H':Hp):Prop:=∃(o6 o7:Option V) (tt:Addr) (told:List Int) (M:Int) (prime:Nat) (ripe:Bool) (bad good:Nat),m=6000-(bad+good)/\σ'=[some (.ref a),some (.ref c),some (.ref tt),some (.int M),some (.int (prime:Int)),some (.bl ripe),o6,o7]/\Same H H'/\H' tt=some (.tup (told.map V.int))/\Pm.WgI P' g N told M prime ripe bad good/\Om.Many (6000-(bad+good)) prime/\1000000<=prime/\bad+good<=5900
abbrev jF(P w K mg base):=Cal P w K mg base "whole_greatest" 6 ["one","other"] Wa
inductive Ca(vs:List V)(H:Hp)(Q:VK)(E:XK):Prop|mk (b:Int) (a:Addr) (c:List Int) (z_0:vs=[.int b,.ref a]) (z_1:0<=b) (z_2:H a=some (.tup (c.map V.int))) (z_3:c.length<=100) (z_4:sJ H Q (Pm.aK b c))
def Ge:Sp:=fun vs H Q E=>Ca  vs H Q E
abbrev m9(P w K mg base):=Cal P w K mg base "of_rule" 2 ["by","rule"] Ge
inductive CF(vs:List V)(H:Hp)(Q:VK)(E:XK):Prop|mk (b:Int) (a:Addr) (p:List Int) (z_0:vs=[.int b,.ref a]) (z_1:0<=b) (z_2:H a=some (.tup (p.map V.int))) (z_3:0<p.length) (z_4:p.length<=100) (z_5:sJ H Q (Pm.gk b p))
def G4:Sp:=fun vs H Q E=>CF  vs H Q E
abbrev vC(P w K mg base):=Cal P w K mg base "rule_of" 2 ["by","poly"] G4
theorem vU{lo:Int}{n:Nat}{ix:List (Option Nat)}{te:TE}{σ:St}{H1:Hp}{Q:VK}(hz:n<=1000){rest:St}(hst:cst ix σ=none::rest)(f:Nat->Int)
  (he:∀H' k,Same H1 H'->k<n->∀kk:VK,kk (.int (f k)) H'->te (some (.int (lo+(k:Int)))::rest) H' kk)
  (hQ:∀D,H1 D=none->Q (.ref D) (upd H1 D (.lst ((Pm.ofF n f).map V.int)))):pY ix (nq 0) CP te σ Q (Itr lo n) H1:=by
 refine jP mU (by rw[List.length_map,List.length_range];exact Nat.le_of_lt (bN hz)) hst (fun _=>true) (fun x=>match x with | .int k=> .int (f (k-lo).toNat)|_=> .non) ?_ ?_ ?_
 ·intro H2 x g2 hx k hk;exact hk
 ·intro H2 x g2 hx _ k hk;obtain⟨j,hj,rfl⟩:=List.mem_map.mp hx;have e1:(lo+(j:Int)-lo).toNat=j:=by omega
  refine he H2 j g2 (List.mem_range.mp hj) k ?_;have hk':k (V.int (f (lo+(j:Int)-lo).toNat)) H2:=hk
  rwa [e1]at hk'
 ·intro D hD;have el:((((List.range n).map fun i=>V.int (lo+(i:Nat))).filter fun _=>true).map fun x=>match x with | .int k=>V.int (f (k-lo).toNat)|_=>V.non)=(Pm.ofF n f).map V.int:=by
   rw[List.filter_eq_self.mpr (by simp),List.map_map,Pm.ofF,List.map_map];refine List.map_congr_left fun k _=>?_;show V.int (f (lo+(k:Int)-lo).toNat)=V.int (f k);rw[show(lo+(k:Int)-lo).toNat=k by omega]
  rw[el];exact hQ D hD
theorem wY:(Om.qP.all fun p=>(List.range 32).all fun d=>decide (d<2)||decide (p<d*d)||decide (p%d≠0))=true:=by decide +kernel
theorem Av{P:Nat}(h:P∈Om.qP):Om.bQ P:=by
 have hr:=jt P h;refine Om.rO hr.1 fun d hd hdd hdv=>?_;have h32:d<32:=by
  by_cases c:d<32
  ·exact c
  ·have:32*32<=d*d:=Nat.mul_le_mul (by omega) (by omega);omega
 have:=List.all_eq_true.mp (List.all_eq_true.mp wY P h) d (List.mem_range.mpr h32);simp only[Bool.or_eq_true,decide_eq_true_eq]at this;have:=Nat.mod_eq_zero_of_dvd hdv;omega
def D5(r:Rw):List Int:=Pm.trim (Pm.ofF r.rule.length fun k=>Rm.tk r.b (Pm.tp (Pm.aK r.b r.rule) r.at k))
theorem yd(r:Rw)(k:Nat):Pm.co (D5 r) k=Rm.tk r.b (Pm.tp (Pm.aK r.b r.rule) r.at k):=by
 rw[D5,Pm.f9,Pm.bI];by_cases c:k<r.rule.length
 ·rw[if_pos c]
 ·rw[if_neg c,Pm.BK _ _ k (by rw[Pm.aY];omega),Pm.tk0]
theorem Fv(r:Rw):(D5 r).length<=r.rule.length:=by
 have:=Pm.cB (Pm.ofF r.rule.length fun k=>Rm.tk r.b (Pm.tp (Pm.aK r.b r.rule) r.at k))
 rwa [Pm.aM]at this
theorem lB.qI{r:Rw}(ok:lB r):∀x∈Pm.aK r.b r.rule,Rm.Bd 60000 x:=Pm.ji ok.by0 ok.by1 (by decide) ok.dX
theorem Iu{r:Rw}(ok:lB r):∀x∈D5 r,Rm.Bd 900000 x:=fun x hx=>by
 obtain⟨k,_,rfl⟩:=Pm.fJ (Pm.m8 hx);refine Rm.uU ok.by0 ((Rm.Bd.of (n:=10) (by have:=ok.by0;omega) (by have:=ok.by1;omega)).mono (by decide)) ?_;have hs:=ok.short;have hl:=ok.len;unfold Pm.tp;rw[Pm.aY,Nat.add_sub_cancel];refine(Pm.CD (c:=70000) _ fun i hi=>?_).mono (by omega);refine(Rm.Bd.mul (m:=60000) (n:=10000) (Pm.mD ok.qI _) ?_).mono (by omega);have e:r.at i=r.starts.getD i 0:=Rm.oV (by omega);rw[e];exact Rm.Bd.getD ok.jC _
inductive LX(vs:List V)(H:Hp)(Q:VK)(E:XK):Prop|mk (v:V) (r:Rw) (a:Addr) (z_0:vs=[v,.ref a]) (z_1:gj H v r) (z_2:lB r) (z_3:H a=some (.tup ((Pm.aK r.b r.rule).map V.int))) (z_4:sJ H Q (D5 r))
def RN:Sp:=fun vs H Q E=>LX  vs H Q E
abbrev za(P w K mg base):=Cal P w K mg base "top_of" 2 ["row","poly"] RN
inductive Cu(vs:List V)(H:Hp)(Q:VK)(E:XK):Prop|mk (b:Int) (a c:Addr) (P t:List Int) (z_0:vs=[.int b,.ref a,.ref c]) (z_1:H a=some (.tup (P.map V.int))) (z_2:H c=some (.tup (t.map V.int))) (z_3:P.length<=40) (z_4:t.length<=40) (z_5:Pm.Mon P) (z_6:(∀x∈P,Rm.Bd 124000 x)) (z_7:(∀x∈t,Rm.Bd 900000 x)) (z_8:((b=0/\∃(g:List Int) (N:Int) (U V':Nat),Pm.GcZ P (Pm.co t) g N/\Rm.Bd V' N/\(∀k,Rm.Bd U (Pm.co g k))/\V'+U+57<=112100/\sJ H Q g)∨
 (∃p:Nat,b=(p:Int)/\Om.bQ p/\p<2097152/\Pm.Py p P/\Pm.Py p t/\Lg H Q p P t)))
def GD:Sp:=fun vs H Q E=>Cu  vs H Q E
abbrev jE(P w K mg base):=Cal P w K mg base "shared_divisor" 7 ["by","one","other"] GD
structure gW(b:Int)(f:Nat->Int)(L:List Int):Prop where
 mon:Pm.Mon L
 nu:∀k,Rm.tk b (Pm.co L k)=Pm.co L k
 kp:Pm.Kp b L f
 all:∀q,Pm.Kp b q f->Pm.Dv b L (Pm.co q)
def Tame(r:Rw):Prop:=r.b=0->∃d ua u:Nat,10<=u/\(∀x∈r.rule,Rm.Bd u x)/\(∃Q0,Pm.Mon Q0/\Pm.Kp 0 Q0 r.at/\Q0.length<=d+1)/\(∀n,n<=2*d->Rm.Bd ua (r.at n))/\d*(ua+d)+1+(u+400)+57<=112100
theorem lB.kp{r:Rw}(ok:lB r):Pm.Kp r.b (Pm.aK r.b r.rule) r.at:=Pm.Kp.aK (Pm.zW ok.len)
theorem HX{b:Int}{L:List Int}(h:Pm.Mon L)(hn:∀k,Rm.tk b (Pm.co L k)=Pm.co L k):Pm.Py b L:=⟨Pm.ig (fun z=>by have:=h.pos;rw[z]at this;exact absurd this (by decide)) (by rw[h.one];decide),fun x hx=>by
 obtain⟨k,hk,e⟩:=List.mem_iff_getElem.mp hx;have:=hn k
 rwa [Pm.qZ hk,e]at this⟩
theorem Dq(b:Int)(c:List Int)(h1:Rm.tk b 1=1)(k:Nat):Rm.tk b (Pm.co (Pm.aK b c) k)=Pm.co (Pm.aK b c) k:=by
 have h:∀x∈Pm.aK b c,Rm.tk b x=x:=fun x hx=>by
  rcases List.mem_append.mp hx with hx|hx
  ·obtain⟨j,_,e⟩:=Pm.fJ hx;rw[e,Rm.jG]
  ·rw[List.mem_singleton.mp hx,h1]
 by_cases hk:k<(Pm.aK b c).length
 ·exact h _ (Pm.DK hk)
 ·rw[Pm.bh (by omega),Pm.tk0]
theorem G9{p:Nat}(hp:Om.bQ p){r:Rw}(ok:lB r)(hb:r.b=(p:Int)){g L o:List Int}(hG:Pm.Gcd p (Pm.aK r.b r.rule) (D5 r) g)(D:Pm.Div p (Pm.aK r.b r.rule) g o L):gW r.b r.at o/\o.length<=r.rule.length+1:=by
 have h1:=Pm.wj hp;have hm:=Pm.dz r.b r.rule;have hd:Pm.Dv p g (Pm.co (Pm.aK r.b r.rule)):=hG.one.to fun _=>rfl;obtain⟨L',hL',hn',hl',e'⟩:=Pm.mW h1 hm hG.mon hd;have D':Pm.Div p (Pm.aK r.b r.rule) g L' []:=⟨HX hL' hn',Pm.Py.nil _,hG.mon.pos,fun k=>by rw[Pm.dB,Int.add_zero];exact(e' k).symm⟩;obtain⟨eo,_⟩:=D.uniq hG.mon D';subst eo;have W:Pm.R7 p (Pm.aK p r.rule) (Pm.tp (Pm.aK p r.rule) r.at) g:=by
  rw[<-hb];refine⟨hG.mon,by rw[hb];rw[hb]at hd;exact hd,?_,?_⟩
  ·rw[hb];refine(hG.two.to (q:=D5 r) fun _=>rfl).congr fun k=>?_;rw[yd,hb,Rm.jG]
  ·obtain⟨u,v,e⟩:=hG.sum;refine⟨1,Pm.co u,Pm.co v,u.length+v.length,by rw[hb,h1];decide,(Pm.Fs.co u).mono (by omega),(Pm.Fs.co v).mono (by omega),fun k=>?_⟩;rw[Int.one_mul,hb];rw[hb]at e;rw[e k];refine Rm.aQ rfl (Pm.gZ (fun _ _=>rfl) fun i _=>?_);rw[yd,hb,Rm.jG]
 have ha:∀n,r.rule.length<=n->Rm.tk (p:Int) (r.at n)=Rm.tk p (Rm.S r.rule r.at n r.rule.length):=by
  rw[<-hb];exact Pm.zW ok.len
 have K:=W.keeps (Dm.Dom.pr hp) ha hL' (by rw[<-hb];rw[<-hb]at e';exact e');refine⟨⟨hL',by rw[hb];exact hn',?_,fun q hq=>?_⟩,?_⟩
 ·rw[hb];refine(K o).mpr ⟨fun k=>if k=0 then 1 else 0,1,fun k hk=>if_neg (by omega),fun k=>?_⟩;rw[Pm.m7,if_pos (Nat.zero_le _),Int.one_mul,Nat.sub_zero]
 ·rw[hb]at hq ⊢;exact(K q).mp hq
 ·have:=hG.mon.pos;rw[Pm.aY]at hl';omega
inductive Hh(vs:List V)(H:Hp)(Q:VK)(E:XK):Prop|mk (v:V) (r:Rw) (z_0:vs=[v]) (z_1:gj H v r) (z_2:lB r) (z_3:ByP r.b) (z_4:Tame r) (z_5:∀t L H',Same H H'->H' t=some (.tup (List.map V.int L))->gW r.b r.at L->L.length<=r.rule.length+1->Q (.ref t) H')
def Jr:Sp:=fun vs H Q E=>Hh  vs H Q E
abbrev tO(P w K mg base):=Cal P w K mg base "least_of" 8 ["row"] Jr
def gq(r:Rw)(L:List Int):Rw:=⟨r.b,Pm.gk r.b L,r.starts.take (L.length-1)⟩
inductive Gm(vs:List V)(H:Hp)(Q:VK)(E:XK):Prop|mk (v:V) (r:Rw) (z_0:vs=[v]) (z_1:gj H v r) (z_2:lB r) (z_3:ByP r.b) (z_4:Tame r) (z_5:∀v' L H',Same H H'->gj H' v' (gq r L)->gW r.b r.at L->L.length<=r.rule.length+1->Q v' H')
def J1:Sp:=fun vs H Q E=>Gm  vs H Q E
abbrev oK(P w K mg base):=Cal P w K mg base "shortest" 9 ["row"] J1
theorem vK{n:Nat}{ix:List (Option Nat)}{te:TE}{σ:St}{H1:Hp}{Q:VK}(hz:n<=1000){rest:St}(hst:cst ix σ=none::rest)(P:Int->Prop)
  (he:∀H' k,Same H1 H'->k<n->∀kk:VK,(∀x H2,Same H' H2->P x->kk (.int x) H2)->te (some (.int (0+(k:Int)))::rest) H' kk)
  (hQ:∀D H' xs,H1 D=none->Same H1 H'->H' D=some (.lst (List.map V.int xs))->xs.length=n->(∀x∈xs,P x)->Q (.ref D) H'):pY ix (nq 0) CP te σ Q (Itr 0 n) H1:=by
 have I:ItS (Itr 0 n) ((List.range n).map fun i=>V.int (0+(i:Nat))) H1:=mU;have lI:((List.range n).map fun i=>V.int (0+(i:Nat))).length=n:=by rw[List.length_map,List.length_range]
 constructor;intro D hD;refine⟨fun i m σ' H'=>m=n-i/\i<=n/\(∃o,σ'=o::rest)/\Same H1 H'/\∃xs:List Int,H' D=some (.lst (xs.map V.int))/\xs.length=i/\∀x∈xs,P x,⟨n,rfl,Nat.zero_le _,⟨none,hst⟩,Same.new hD _,[],aB,rfl,fun _ h=>nomatch h⟩,?_⟩;rintro i m σ' H' ⟨rfl,hi,⟨o,rfl⟩,g,xs,hl,lx,hP⟩;by_cases hlt:i<n
 ·refine .inr ⟨I.go i _ g (by rw[lI];exact hlt),fun x H2 y=>?_⟩;obtain⟨rfl,hx⟩:=I.yld i _ x H2 g y;have hx:=hx (by rw[lI];exact hlt);rw[List.getElem?_map,List.getElem?_range hlt]at hx;cases hx;change te (some (.int (0+(i:Int)))::rest) H2 _;refine he H2 i g hlt _ fun x H3 g3 hx=>⟨_,g3 _ _ hl,by rw[List.length_map,lx];exact bN (by omega),n-(i+1),by omega,rfl,hlt,⟨_,rfl⟩,Same.upd (g.trans g3) hD _,xs++[x],?_,by rw[List.length_append,lx];rfl,fun z hz=>?_⟩
  ·rw[aB,uN]
  ·rcases List.mem_append.mp hz with hz|hz
   ·exact hP z hz
   ·rw[List.mem_singleton.mp hz];exact hx
 ·have e:i=n:=by omega
  subst e;exact .inl ⟨I.stop _ _ g (by rw[lI];exact Nat.le_refl _),hQ D H' xs hD g hl lx hP⟩
theorem Aj{ns:List Int}{k:Int}(j:Nat)(h0:k<0)(e:k+(ns.length:Int)=(j:Int)):atI (ns.map V.int) k=some (.int (ns.getD j 0)):=by
 have hj:j<ns.length:=by omega
 unfold atI ixN;rw[List.length_map,if_neg (by omega),if_pos (by omega),show(k+(ns.length:Int)).toNat=j by omega];show(ns.map V.int)[j]?=_;rw[List.getElem?_map,List.getElem?_eq_getElem hj,List.getD_eq_getElem?_getD,List.getElem?_eq_getElem hj];rfl
theorem HN{x:Int}{n:Nat}(h:Rm.Bd n x):∀k:Nat,Rm.Bd (n*k+1) (x^k)
 |0=>by rw[Int.pow_zero,Nat.mul_zero];exact Rm.Bd.of (by decide) (by decide)
 |k+1=>by
  rw[Int.pow_succ];exact((HN h k).mul h).mono (by rw[Nat.mul_succ];omega)
def byF:List Int:=[0,0,0,2,3,5,7,11,101,997]
structure ByF(b:Int):Prop where
 lo:0<=b
 hi:b<1000
 one:Rm.tk b 1=1
 p:ByP b
theorem Qy:∀k<10,byF.getD k 0=0∨((byF.getD k 0).toNat∈Om.qP/\byF.getD k 0=((byF.getD k 0).toNat:Int)):=by decide +kernel
theorem C1:∀k<10,0<=byF.getD k 0/\byF.getD k 0<1000/\Rm.tk (byF.getD k 0) 1=1:=by decide
theorem LQ{k:Nat}(h:k<10):ByF (byF.getD k 0):=⟨(C1 k h).1,(C1 k h).2.1,(C1 k h).2.2,(Qy k h).imp id fun z=>⟨_,z⟩⟩
theorem pL{b:Int}(hb:0<=b)(x:Int):jz b (Rm.tk b x):=by
 by_cases h:b=0
 ·exact .inl h
 ·rw[Rm.fP h];exact .inr ⟨cJ _ (by omega),cQ _ (by omega)⟩
theorem lu{b x:Int}{n:Nat}(hb:ByF b)(hn:10<=n)(h:Rm.Bd n x):Rm.Bd n (Rm.tk b x):=
 Rm.uU hb.lo ((Rm.Bd.of (n:=10) (by have:=hb.lo;omega) (by have:=hb.hi;omega)).mono hn) h
theorem SG{rule:List Int}{f:Nat->Int}{n a c:Nat}(hr:∀k,Rm.Bd a (rule.getD k 0)):∀m:Nat,m<=16->(∀k,k<m->Rm.Bd c (f (n-1-k)))->Rm.Bd (a+c+4) (Rm.S rule f n m):=fun m hm h=>by
 have key:∀m,(∀k,k<m->Rm.Bd c (f (n-1-k)))->(Rm.S rule f n m).natAbs<=m*2^(a+c):=fun m=>by
  induction m with
  |zero=>intro _;exact Nat.zero_le _
  |succ m ih=>
   intro h;unfold Rm.S;have h1:=ih fun k hk=>h k (by omega);have h2:(rule.getD m 0*f (n-1-m)).natAbs<2^(a+c):=(hr m).mul (h m (by omega));have h3:=Int.natAbs_add_le (Rm.S rule f n m) (rule.getD m 0*f (n-1-m));rw[Nat.succ_mul];omega
 have k1:=key m h;have k2:m*2^(a+c)<=16*2^(a+c):=Nat.mul_le_mul_right _ hm;show(Rm.S rule f n m).natAbs<2^(a+c+4);by_cases h0:m=0
 ·rw[h0];exact Nat.pow_pos (by decide)
 ·have k3:(Rm.S rule f n m).natAbs<16*2^(a+c):=by
   obtain⟨m',rfl⟩:∃m',m=m'+1:=⟨m-1,by omega⟩;have q1:=key m' fun k hk=>h k (by omega);unfold Rm.S;have h2:(rule.getD m' 0*f (n-1-m')).natAbs<2^(a+c):=(hr m').mul (h m' (by omega));have h3:=Int.natAbs_add_le (Rm.S rule f n m') (rule.getD m' 0*f (n-1-m'));have q2:m'*2^(a+c)<=15*2^(a+c):=Nat.mul_le_mul_right _ (by omega);omega
  rw[Nat.pow_add];have:(2:Nat)^4=16:=by decide
  omega
theorem Ld{b:Int}{rule starts:List Int}{a c:Nat}(hl:rule.length=starts.length)(h16:rule.length<=16)(hb:0<=b)(hb':Rm.Bd c b)(hr:∀x∈rule,Rm.Bd a x)(hs:∀x∈starts,Rm.Bd c x):
  ∀n,Rm.Bd (c+n*(a+4)) (Rm.at_ b rule starts n):=by
 intro n;induction n using Nat.strongRecOn with
 |ind n ih=>
  by_cases h:n<starts.length
  ·rw[Rm.oV h];exact(Rm.Bd.getD hs n).mono (by omega)
  ·rw[Rm.ni hl (by omega)];by_cases h0:rule.length=0
   ·rw[h0];exact Rm.uU hb (hb'.mono (by omega)) (.zero _)
   ·have hn:0<n:=by omega
    have q:=SG (rule:=rule) (f:=Rm.at_ b rule starts) (n:=n) (a:=a) (c:=c+(n-1)*(a+4)) (fun k=>Rm.Bd.getD hr k) rule.length h16 fun k hk=>by
     refine(ih (n-1-k) (by omega)).mono ?_;have:(n-1-k)*(a+4)<=(n-1)*(a+4):=Nat.mul_le_mul_right _ (by omega);omega
    have e:n*(a+4)=(n-1)*(a+4)+(a+4):=by
     obtain⟨m,rfl⟩:∃m,n=m+1:=⟨n-1,by omega⟩;rw[Nat.add_sub_cancel,Nat.succ_mul]
    exact Rm.uU hb (hb'.mono (by omega)) (q.mono (by omega))
theorem HM{b x:Int}(h:jz b x):Rm.tk b x=x:=by
 rcases h with rfl|⟨h1,h2⟩
 ·exact Rm.bf x
 ·rw[Rm.fP (by omega)];exact Int.emod_eq_of_lt h1 h2
theorem Ik{b x:Int}{n:Nat}(hb:ByF b)(hn:10<=n)(h0:b≠0)(h:jz b x):Rm.Bd n x:=by
 have:=hb.hi;rcases h with z|z
 ·exact absurd z h0
 ·exact(Rm.Bd.of (n:=10) (by omega) (by omega)).mono hn
structure Bs(b:Int)(m:Nat)(r:Rw):Prop where
 by_:r.b=b
 len:r.rule.length=r.starts.length
 short:r.rule.length<=m
 m12:m<=12
 mC:∀x∈r.rule,jz b x
 iU:∀x∈r.starts,jz b x
 dX:∀x∈r.rule,Rm.Bd 13 x
 jC:∀x∈r.starts,Rm.Bd 31 x
theorem Bs.Bq{b:Int}{m:Nat}{r:Rw}(hb:ByF b)(h:Bs b m r)(n:Nat):Rm.Bd (31+n*17) (r.at n):=by
 have e:=h.by_;have:=h.short;have:=h.m12;have:=hb.lo;have:=hb.hi;exact Ld h.len (by omega) (by rw[e];exact hb.lo) (Rm.Bd.of (by omega) (by omega)) h.dX h.jC n
theorem Bs.wJ{b:Int}{m:Nat}{r:Rw}(hb:ByF b)(h:Bs b m r)(n:Nat):jz b (r.at n):=by
 by_cases z:b=0
 ·exact .inl z
 ·have e:=h.by_;have h0:=hb.lo;have:=Rm.Ad (b:=r.b) (rule:=r.rule) (starts:=r.starts) h.len (by omega) (fun x hx=>?_) n
  ·rw[e]at this;exact .inr (by have q:r.at n=Rm.at_ b r.rule r.starts n:=(by rw[<-e];rfl);rw[q];exact this)
  ·rcases h.iU x hx with y|y
   ·exact absurd y z
   ·rw[e];exact y
def uS(s:Nat):Nat:=13+12*s
structure RwS(b:Int)(r0:Rw)(s:Nat)(r:Rw):Prop where
 by_:r.b=b
 len:r.rule.length=r.starts.length
 short:r.rule.length<=12
 mC:∀x∈r.rule,jz b x
 dX:∀x∈r.rule,Rm.Bd (uS s) x
 same:∀n,r.at n=r0.at n
theorem RwS.up{b:Int}{r0:Rw}{s:Nat}{r:Rw}(h:RwS b r0 s r):RwS b r0 (s+1) r:=
 ⟨h.by_,h.len,h.short,h.mC,fun x hx=>(h.dX x hx).mono (by unfold uS;omega),h.same⟩
theorem RwS.starts{b:Int}{r0:Rw}{s:Nat}{r:Rw}(h:RwS b r0 s r){x:Int}(hx:x∈r.starts):∃k,k<r.starts.length/\x=r0.at k:=by
 obtain⟨k,hk,e⟩:=List.mem_iff_getElem.mp hx;refine⟨k,hk,?_⟩;have e1:r.at k=r.starts.getD k 0:=Rm.oV hk;rw[<-h.same k,e1,List.getD_eq_getElem?_getD,List.getElem?_eq_getElem hk,<-e];rfl
theorem RwS.ok{b:Int}(hb:ByF b){m:Nat}{r0 r:Rw}{s:Nat}(h0:Bs b m r0)(h:RwS b r0 s r)(hs:s<=3):lB r:=by
 have e:=h.by_;have h12:=h.short;have hl:=h.len;refine⟨h.len,by omega,by rw[e];exact hb.lo,by rw[e];exact hb.hi,by rw[e];exact h.mC,fun x hx=>?_,fun x hx=>(h.dX x hx).mono (by unfold uS;omega),fun x hx=>?_⟩
 ·obtain⟨k,_,rfl⟩:=h.starts hx;rw[e];exact h0.wJ hb k
 ·obtain⟨k,hk,rfl⟩:=h.starts hx;exact(h0.Bq hb k).mono (by have:k*17<=12*17:=Nat.mul_le_mul_right _ (by omega);omega)
def AF(n:Int)(rule:List Int)(i k:Nat):Int:=(if k=0 then n else if k<=i then -(n*Pm.co rule (k-1))else 0)+(if k<i then Pm.co rule k else 0)
def cX(n:Int)(rule:List Int)(i:Nat):List Int:=Pm.ofF (rule.length+1) fun k=>AF n rule i k
theorem cj(n:Int)(rule:List Int)(i:Nat):(cX n rule i).length=rule.length+1:=Pm.aM ..
theorem kW{n:Int}{rule:List Int}{i k:Nat}(h:k<rule.length+1):Pm.co (cX n rule i) k=AF n rule i k:=by rw[cX,Pm.bI,if_pos h]
theorem Br(n:Int)(rule:List Int):cX n rule 0=[n]++Pm.ofF rule.length fun _=>0:=by
 refine Pm.nM (by rw[cj,List.length_append,Pm.aM];simp;omega) fun k=>?_;by_cases h:k<rule.length+1
 ·rw[kW h,Pm.bW,Pm.bI];unfold AF;rw[if_neg (Nat.not_lt_zero _),Int.add_zero];by_cases c:k=0
  ·rw[if_pos c,if_pos (by simp;omega),c];rfl
  ·rw[if_neg c,if_neg (by omega),if_neg (by simp;omega)];split<;>rfl
 ·rw[Pm.bh (by rw[cj];omega),Pm.bh (by rw[List.length_append,Pm.aM];simp;omega)]
theorem Bl{n:Int}{rule:List Int}{i:Nat}(hi:i<rule.length):
  ((cX n rule i).set i (Pm.co (cX n rule i) i+Pm.co rule i)).set (i+1) (Pm.co ((cX n rule i).set i (Pm.co (cX n rule i) i+Pm.co rule i)) (i+1)-n*Pm.co rule i)=cX n rule (i+1):=by
 refine Pm.nM (by rw[List.length_set,List.length_set,cj,cj]) fun k=>?_;rw[Pm.pK _ _ _ _ (by rw[List.length_set,cj];omega),Pm.pK _ _ _ _ (by rw[cj];omega),Pm.pK _ _ _ _ (by rw[cj];omega)];by_cases h:k<rule.length+1
 ·rw[kW h,kW (by omega),kW (by omega),kW h,if_neg (by omega:¬i+1=i)];unfold AF;by_cases c:k=i+1
  ·rw[if_pos c,if_neg (by omega),if_neg (by omega),if_neg (by omega),if_neg (by omega),if_pos (by omega),if_neg (by omega),c,Nat.add_sub_cancel];omega
  ·rw[if_neg c];by_cases d:k=i
   ·rw[if_pos d,d,if_neg (Nat.lt_irrefl i),if_pos (by omega:i<i+1)];by_cases z:i=0
    ·rw[if_pos z,if_pos z];omega
    ·rw[if_neg z,if_neg z,if_pos (by omega),if_pos (by omega)];omega
   ·rw[if_neg d];by_cases z:k=0
    ·rw[if_pos z,if_pos z];by_cases y:k<i
     ·rw[if_pos y,if_pos (by omega)]
     ·rw[if_neg y,if_neg (by omega)]
    ·rw[if_neg z,if_neg z];by_cases y:k<i
     ·rw[if_pos (by omega:k<=i),if_pos y,if_pos (by omega:k<=i+1),if_pos (by omega:k<i+1)]
     ·rw[if_neg (by omega:¬k<=i),if_neg y,if_neg (by omega:¬k<=i+1),if_neg (by omega:¬k<i+1)]
 ·rw[if_neg (by omega),if_neg (by omega),Pm.bh (by rw[cj];omega),Pm.bh (by rw[cj];omega)]
theorem Fb{n:Int}{rule:List Int}{u:Nat}(hu:10<=u)(hn:Rm.Bd 10 n)(h:∀x∈rule,Rm.Bd u x)(i:Nat):∀x∈cX n rule i,Rm.Bd (u+12) x:=fun x hx=>by
 obtain⟨k,_,rfl⟩:=Pm.fJ hx;unfold AF;refine(Rm.Bd.add (n:=u+11) ?_ ?_).mono (by omega)
 ·split
  ·exact hn.mono (by omega)
  ·split
   ·have:=(hn.mul (Pm.mD h (k-1))).mono (show 10+u<=u+11 by omega);unfold Rm.Bd at this⊢;rw[Int.natAbs_neg];exact this
   ·exact Rm.Bd.zero _
 ·split
  ·exact(Pm.mD h k).mono (by omega)
  ·exact Rm.Bd.zero _
def ou(b n:Int)(rule:List Int):List Int:=Pm.ofF (rule.length+1) fun k=>Rm.tk b (0-((if k<rule.length then 0-Pm.co rule k else 0)-n*(if k=0 then 1 else 0-Pm.co rule (k-1))))
theorem jx(b n:Int)(rule:List Int):(ou b n rule).length=rule.length+1:=Pm.aM ..
theorem AJ{b n:Int}{r:Rw}(hl:r.rule.length=r.starts.length)(hs:∀x∈r.starts,jz b x)(hb:r.b=b)(m:Nat):Rm.at_ b (ou b n r.rule) (r.row (r.rule.length+1)) m=r.at m:=by
 have e0:∀i,i<r.rule.length+1->(r.row (r.rule.length+1)).getD i 0=r.at i:=fun i hi=>Rm.tX _ _ _ hi;refine Rm.lX (by rw[jx,Rw.dH]) (g:=r.at) (fun i hi=>?_) (fun i hi=>?_) m
 ·rw[Rw.dH]at hi;exact(e0 i hi).symm
 ·rw[Rw.dH]at hi;have h1:r.at i=Rm.tk b (Rm.S r.rule r.at i r.rule.length):=by rw[<-hb];exact Rm.ni hl (by omega)
  rw[jx,h1,Pm.zY,Pm.zY];have e1:Rm.tk b (Pm.sm (r.rule.length+1) fun k=>Pm.co (ou b n r.rule) k*r.at (i-1-k))=Rm.tk b (Pm.sm (r.rule.length+1) fun k=>(if k<r.rule.length then Pm.co r.rule k*r.at (i-1-k)else 0)+n*(if k=0 then r.at (i-1)else -(Pm.co r.rule (k-1)*r.at (i-1-k)))):=Pm.jd fun k hk=>by
   rw[ou,Pm.bI,if_pos hk,Rm.dw];refine congrArg (Rm.tk b) ?_;by_cases c:k=0
   ·rw[if_pos c,if_pos c,c];by_cases d:0<r.rule.length
    ·rw[if_pos d,if_pos d,Nat.sub_zero,Int.mul_one,show(0-(0-Pm.co r.rule 0-n))=Pm.co r.rule 0+n by omega,Int.add_mul]
    ·rw[if_neg d,if_neg d,Nat.sub_zero,Int.mul_one,show(0-(0-n))=n by omega,Int.zero_add]
   ·rw[if_neg c,if_neg c];by_cases d:k<r.rule.length
    ·rw[if_pos d,if_pos d,Int.sub_mul,Int.sub_mul,Int.mul_assoc,Int.sub_mul,Int.sub_mul,Int.mul_sub,Int.mul_neg];omega
    ·rw[if_neg d,if_neg d,Int.sub_mul,Int.sub_mul,Int.mul_assoc,Int.sub_mul,Int.mul_sub,Int.mul_neg];omega
  rw[e1,Pm.cG,Pm.bw];have e2:Pm.sm (r.rule.length+1) (fun k=>if k<r.rule.length then Pm.co r.rule k*r.at (i-1-k)else 0)=Pm.sm r.rule.length fun k=>Pm.co r.rule k*r.at (i-1-k):=by
   rw[Pm.sm,if_neg (Nat.lt_irrefl _),Int.add_zero];exact Pm.aA fun k hk=>if_pos hk
  have e3:Pm.sm (r.rule.length+1) (fun k=>if k=0 then r.at (i-1)else -(Pm.co r.rule (k-1)*r.at (i-1-k)))=r.at (i-1) + -1*Pm.sm r.rule.length fun k=>Pm.co r.rule k*r.at (i-1-1-k):=by
   rw[Pm.cN,if_pos rfl,<-Pm.bw];congr 1;refine Pm.aA fun k _=>?_;rw[if_neg (by omega),Nat.add_sub_cancel,show i-1-(k+1)=i-1-1-k by omega];omega
  rw[e2,e3];have z:Rm.tk b (r.at (i-1) + -1*Pm.sm r.rule.length fun k=>Pm.co r.rule k*r.at (i-1-1-k))=0:=by
   have h2:r.at (i-1)=Rm.tk b (Rm.S r.rule r.at (i-1) r.rule.length):=by rw[<-hb];exact Rm.ni hl (by omega)
   rw[h2,Pm.zY,Rm.bU,show ∀x:Int,x + -1*x=0 from fun x=>by omega,Pm.tk0]
  rw[<-Rm.dZ,<-Rm.bG,z,Int.mul_zero,Pm.tk0,Int.add_zero]
theorem uJ(b n:Int)(rule:List Int):(cX n rule rule.length).map (Rm.tk b)=ou b n rule:=by
 refine Pm.nM (by rw[List.length_map,cj,jx]) fun k=>?_;by_cases hk:k<rule.length+1
 ·rw[Pm.tW (Pm.tk0 b),kW hk,ou,Pm.bI,if_pos hk];refine congrArg (Rm.tk b) ?_;unfold AF;by_cases c:k=0
  ·rw[if_pos c,if_pos c,Int.mul_one];split<;>omega
  ·rw[if_neg c,if_neg c,if_pos (by omega),Int.mul_sub,Int.mul_zero];split<;>omega
 ·rw[Pm.bh (by rw[List.length_map,cj];omega),Pm.bh (by rw[jx];omega)]
theorem RwS.longer{b:Int}{m:Nat}{r0:Rw}{s:Nat}{r:Rw}(hb:ByF b)(h0:Bs b m r0)(h:RwS b r0 s r)(hs3:s<=3)(hs:r.rule.length<12){n:Int}(hn:Rm.Bd 10 n):
  RwS b r0 (s+1) ⟨b,(cX n r.rule r.rule.length).map (Rm.tk b),r.row (r.rule.length+1)⟩:=by
 have e:=h.by_;have ok:=h.ok hb h0 hs3;refine⟨rfl,?_,?_,fun x hx=>?_,fun x hx=>?_,fun k=>?_⟩
 ·show((cX n r.rule r.rule.length).map (Rm.tk b)).length=(r.row (r.rule.length+1)).length;rw[List.length_map,cj,Rw.dH]
 ·show((cX n r.rule r.rule.length).map (Rm.tk b)).length<=12;rw[List.length_map,cj];omega
 ·obtain⟨y,_,rfl⟩:=List.mem_map.mp hx;exact pL hb.lo y
 ·obtain⟨y,hy,rfl⟩:=List.mem_map.mp hx;exact lu hb (by unfold uS;omega) ((Fb (by unfold uS;omega) hn h.dX _ y hy).mono (by unfold uS;omega))
 ·have:=AJ (b:=b) (n:=n) (r:=r) h.len (fun x hx=>by have:=ok.iU x hx;rw[e]at this;exact this) e k;rw[<-h.same k,<-this];show Rm.at_ b ((cX n r.rule r.rule.length).map (Rm.tk b)) _ k=_;rw[uJ]
theorem GQ{J:It}{xs:List V}{ix:List (Option Nat)}{te:TE}{σ:St}{H1:Hp}{Q:VK}(I:ItS J xs H1)(hz:xs.length<=sizeLine){rest:St}(hst:cst ix σ=none::rest)(F:V->V)
  (he:∀(H':Hp) (x:V),Same H1 H'->x∈xs->∀k:VK,(∀H2,Same H' H2->k (F x) H2)->te (some x::rest) H' k)
  (hQ:∀D H',H1 D=none->Same H1 H'->H' D=some (.lst (xs.map F))->Q (.ref D) H'):
  pY ix (nq 0) CP te σ Q J H1:=by
 constructor;intro D hD;refine⟨fun i m σ' H'=>m=xs.length-i/\i<=xs.length/\(∃o,σ'=o::rest)/\Same H1 H'/\H' D=some (.lst ((xs.take i).map F)),⟨xs.length,by simp,Nat.zero_le _,⟨none,hst⟩,Same.new hD _,by rw[aB];rfl⟩,?_⟩;rintro i m σ' H' ⟨rfl,hi,⟨o,rfl⟩,g,hl⟩;by_cases hlt:i<xs.length
 ·refine .inr ⟨I.go i _ g hlt,fun x H2 y=>?_⟩;obtain⟨rfl,hx⟩:=I.yld i _ x H2 g y;have hx:=hx hlt;have hm:x∈xs:=List.mem_of_getElem? hx;have et:xs.take (i+1)=xs.take i++[x]:=by rw[List.take_add_one,hx];rfl
  change te (some x::rest) H2 _;refine he H2 x g hm _ fun H3 g3=>⟨_,g3 _ _ hl,by rw[List.length_map,List.length_take];omega,xs.length-(i+1),by omega,rfl,hlt,⟨_,rfl⟩,Same.upd (g.trans g3) hD _,?_⟩;rw[aB,et,List.map_append];rfl
 ·have e:i=xs.length:=by omega
  subst e;rw[List.take_length]at hl;exact .inl ⟨I.stop _ _ g (Nat.le_refl _),hQ D H' hD g hl⟩
inductive Hi(K:W.Frag)(vs:List V)(H:Hp)(Q:VK)(E:XK):Prop|mk (a:Addr) (ns:List Int) (k:Int) (z_0:vs=[.ref a,.int k]) (z_1:SqL K H a (ns.map V.int)) (z_2:0<=k) (z_3:k<=1000) (z_4:(∀x∈ns,PySem.Builtin.Int.intBits x<=1048576)) (z_5:∀c,Rm.Bd 1048576 c->Q (.int c) H)
def Io(K:W.Frag):Sp:=fun vs H Q E=>Hi K vs H Q E
abbrev oJ(P w K mg base):=Cal P w K mg base "_law_cell_at" 1 ["_law_script","_law_k"] (Io K)
def Pn(c k:Int):Int:=((c%2147483629+1)*(48271+69621*k+2*k*k)+k)%2147483647
def Rk(c k:Int):Int:=Pn c k*Pn c k%2147483629
def VD(c k:Int):Int:=Rk c k*(Rk c k+k+1)%2147483587/3
inductive Jv(vs:List V)(H:Hp)(Q:VK)(E:XK):Prop|mk (c k:Int) (z_0:vs=[.int c,.int k]) (z_1:0<=k) (z_2:k<=1000) (z_3:∀x,0<=x->(x<2147483587/\x=VD c k)->Q (.int x) H)
def MP:Sp:=fun vs H Q E=>Jv  vs H Q E
abbrev vP(P w K mg base):=Cal P w K mg base "_law_mix" 1 ["_law_cell","_law_k"] MP
inductive K8(vs:List V)(H:Hp)(Q:VK)(E:XK):Prop|mk (c:Int) (z_0:vs=[.int c]) (z_1:∀b H',Same H H'->ByF b->Q (.int b) H')
def QN:Sp:=fun vs H Q E=>K8  vs H Q E
abbrev rB(P w K mg base):=Cal P w K mg base "_law_drawn_by" 2 ["_law_cell"] QN
abbrev mZ(P w K mg base):=Cal P w K mg base "_law_taken" 1 ["_law_by","_law_number"] Ce
def yW:List Int:=[0,1,-1,2,1,-2,3,0,1,5]
theorem C7:∀k<10,-8<yW.getD k 0/\yW.getD k 0<8:=by decide
inductive IY(vs:List V)(H:Hp)(Q:VK)(E:XK):Prop|mk (b c k:Int) (z_0:vs=[.int b,.int c,.int k]) (z_1:ByF b) (z_2:Rm.Bd 1048576 c) (z_3:0<=k) (z_4:k<=30) (z_5:∀x H',Same H H'->jz b x->Rm.Bd 31 x->(k<15->Rm.Bd 13 x/\(b=0->Rm.Bd 3 x))->Q (.int x) H')
def Lf:Sp:=fun vs H Q E=>IY  vs H Q E
abbrev nG(P w K mg base):=Cal P w K mg base "_law_one_number" 2 ["_law_by","_law_cell","_law_k"] Lf
structure RwW(r:Rw)(c:Nat):Prop where
 len:r.rule.length=r.starts.length
 short:r.rule.length<=24
 by0:0<=r.b
 dX:∀x∈r.rule,Rm.Bd 60000 x
 CQ:∀n,n<=c->∀x∈r.row n,Rm.Bd 61000000 x
theorem lB.w{r:Rw}(h:lB r){c:Nat}(hc:c<=1000):RwW r c:=⟨h.len,h.short,h.by0,h.dX,fun n hn=>h.CQ n (by omega)⟩
inductive Ay(vs:List V)(H:Hp)(Q:VK)(E:XK):Prop|mk (v:V) (r:Rw) (c:Int) (z_0:vs=[v,.int c]) (z_1:gj H v r) (z_2:RwW r c.toNat) (z_3:0<=c) (z_4:c<=900) (z_5:Told H Q ((r.row c.toNat).map V.int))
def D6:Sp:=fun vs H Q E=>Ay  vs H Q E
abbrev vd(P w K mg base):=Cal P w K mg base "_law_places" 2 ["_law_row","_law_count"] D6
inductive BR(vs:List V)(H:Hp)(Q:VK)(E:XK):Prop|mk (b:Int) (m:Nat) (r0:Rw) (s:Nat) (v:V) (r:Rw) (n:Int) (z_0:vs=[v,.int n]) (z_1:gj H v r) (z_2:ByF b) (z_3:Bs b m r0) (z_4:RwS b r0 s r) (z_5:s<3) (z_6:r.rule.length<12) (z_7:Rm.Bd 10 n) (z_8:∀v' r' H',Same H H'->gj H' v' r'->RwS b r0 (s+1) r'->r'.rule.length=r.rule.length+1->Q v' H')
def FY:Sp:=fun vs H Q E=>BR  vs H Q E
abbrev lH(P w K mg base):=Cal P w K mg base "_law_made_longer" 3 ["_law_row","_law_number"] FY
def qQ:List Int:=[0,0,1,0,2,0,0,3]
theorem Ei:∀k<8,0<=qQ.getD k 0/\qQ.getD k 0<=3:=by decide
inductive Fd(K:W.Frag)(vs:List V)(H:Hp)(Q:VK)(E:XK):Prop|mk (a:Addr) (ns:List Int) (st b m:Int) (z_0:vs=[.ref a,.int st,.int b,.int m]) (z_1:SqL K H a (ns.map V.int)) (z_2:0<=st) (z_3:st<=500) (z_4:(∀x∈ns,PySem.Builtin.Int.intBits x<=1048576)) (z_5:ByF b) (z_6:0<=m) (z_7:m<=12) (z_8:∀v r0 s r H',Same H H'->gj H' v r->Bs b m.toNat r0->RwS b r0 s r->s<=3->r.rule.length<=m.toNat+s->Q v H')
def KH(K:W.Frag):Sp:=fun vs H Q E=>Fd K vs H Q E
abbrev pN(P w K mg base):=Cal P w K mg base "_law_drawn_row" 4 ["_law_script","_law_start","_law_by","_law_most"] (KH K)
theorem qN{n:Nat}{ix:List (Option Nat)}{te:TE}{σ:St}{H1:Hp}{Q:VK}(hz:n<=1000){rest:St}(hst:cst ix σ=none::rest)(f:Nat->Int)
  (he:∀H' k,Same H1 H'->k<n->∀kk:VK,(∀H2,Same H' H2->kk (.int (f k)) H2)->te (some (.int (0+(k:Int)))::rest) H' kk)
  (hQ:∀D H',H1 D=none->Same H1 H'->H' D=some (.lst ((Pm.ofF n f).map V.int))->Q (.ref D) H'):pY ix (nq 0) CP te σ Q (Itr 0 n) H1:=by
 refine GQ mU (by rw[List.length_map,List.length_range];exact Nat.le_of_lt (bN hz)) hst (fun x=>match x with | .int k=> .int (f k.toNat)|_=> .non) ?_ ?_
 ·intro H2 x g2 hx k hk;obtain⟨j,hj,rfl⟩:=List.mem_map.mp hx;have e1:(0+(j:Int)).toNat=j:=by omega
  refine he H2 j g2 (List.mem_range.mp hj) k fun H3 g3=>?_;have hk':k (V.int (f (0+(j:Int)).toNat)) H3:=hk H3 g3
  rwa [e1]at hk'
 ·intro D H' hD g hl;refine hQ D H' hD g ?_;rw[hl,Pm.ofF,List.map_map,List.map_map];refine congrArg (fun z=>some (HO.lst z)) (List.map_congr_left fun k _=>?_);show V.int (f (0+(k:Int)).toNat)=V.int (f k);rw[show(0+(k:Int)).toNat=k by omega]
theorem gW.uniq{b:Int}(h1:Rm.tk b 1=1){f:Nat->Int}{L L':List Int}(h:gW b f L)(h':gW b f L'):L=L':=by
 have d:=h.all L' h'.kp;have d':=h'.all L h.kp;have l1:=d.len h1 h.mon h'.mon;have l2:=d'.len h1 h'.mon h.mon;refine Pm.nM (by omega) fun k=>?_;rw[<-h.nu k,<-h'.nu k];exact(d.same h1 h.mon h'.mon (by omega) k).symm
theorem gW.le{b:Int}(h1:Rm.tk b 1=1){f:Nat->Int}{L P:List Int}(h:gW b f L)(hm:Pm.Mon P)(hK:Pm.Kp b P f):L.length<=P.length:=(h.all P hK).len h1 h.mon hm
theorem wM{r:Rw}(hn:∀n,Rm.tk r.b (r.at n)=r.at n){L:List Int}(h:gW r.b r.at L)(hl:L.length<=r.starts.length+1)(n:Nat):(gq r L).at n=r.at n:=by
 have hp:=h.mon.pos;refine Pm.E3 h.nu h.mon h.kp hn (starts:=r.starts.take (L.length-1)) ?_ ?_ n
 ·rw[List.length_take];omega
 ·intro i hi;rw[List.length_take]at hi;have e:r.at i=r.starts.getD i 0:=Rm.oV (by omega);rw[e,List.getD_eq_getElem?_getD,List.getElem?_take,if_pos (by omega),<-List.getD_eq_getElem?_getD]
theorem lB.wJ{r:Rw}(ok:lB r)(n:Nat):jz r.b (r.at n):=by
 by_cases h:r.b=0
 ·exact .inl h
 ·have h0:=ok.by0;refine .inr (Rm.Ad ok.len (by omega) (fun x hx=>?_) n);rcases ok.iU x hx with z|z
  ·exact absurd z h
  ·exact z
theorem lB.BF{r:Rw}(ok:lB r)(n:Nat):Rm.tk r.b (r.at n)=r.at n:=HM (ok.wJ n)
structure Mr(b:Int)(r:Rw)(ua u:Nat):Prop where
 hB:ByF b
 by_:r.b=b
 ok:lB r
 vh:r.rule.length<=12
 dX:∀x∈r.rule,Rm.Bd u x
 at_:∀n,n<=24->Rm.Bd ua (r.at n)
 u10:10<=u
 VW:10<=ua
 sz:12*(ua+12)+1+(u+400)+57<=112100
theorem Mr.tame{b:Int}{r:Rw}{ua u:Nat}(h:Mr b r ua u):Tame r:=fun hz=>by
 have hl:=h.vh;have hk:=h.ok.kp;rw[hz]at hk;exact⟨12,ua,u,h.u10,h.dX,⟨_,Pm.dz _ _,hk,by rw[Pm.aY];omega⟩,fun n hn=>h.at_ n (by omega),h.sz⟩
theorem oM{r:Rw}{L:List Int}(hl:L.length<=r.rule.length+1)(ok:lB r):(gq r L).rule.length=L.length-1/\(gq r L).starts.length=L.length-1:=by
 have:=ok.len;refine⟨Pm.dY ..,?_⟩;show(r.starts.take (L.length-1)).length=_;rw[List.length_take];omega
theorem RwS.mr{b:Int}(hb:ByF b){m:Nat}{r0 r:Rw}{s:Nat}(h0:Bs b m r0)(h:RwS b r0 s r)(hs:s<=3):Mr b r 439 49:=
 ⟨hb,h.by_,h.ok hb h0 hs,h.short,fun x hx=>(h.dX x hx).mono (by unfold uS;omega),fun n hn=>by
  rw[h.same n];exact(h0.Bq hb n).mono (by omega),by decide,by decide,by decide⟩
theorem Ir(r:Rw)(n:Nat):r.row n=Pm.ofF n r.at:=Rm.Ef ..
theorem KD(b b':Int)(p s p' s':List Int):PyData.eqv (.tuple [.int b,.tuple (p.map .int),.tuple (s.map .int)]) (.tuple [.int b',.tuple (p'.map .int),.tuple (s'.map .int)])=decide (b=b'/\p=p'/\s=s'):=by
 have e1:=yG p p';have e2:=yG s s';rw[PyData.eqv]at e1 e2;simp only[PyData.eqvAll,PyData.eqv,e1,e2,Bool.and_true,Bool.decide_and];rfl
theorem sX(b:Int)(p r:List Int):SeqAt.shaped (.tuple [.int b,.tuple (p.map .int),.tuple (r.map .int)])=true:=by
 have h1:=gR p;have h2:=gR r;have h3:=je p;have h4:=je r;simp only[SeqAt.shaped,PyData.canLay0,PyData.canLayAll0,PyData.depth,PyData.depthAll,h1,h2,Bool.true_and,Bool.and_true];exact decide_eq_true (by omega)
theorem VL{K:W.Frag}{g:Bool->Bool}{H:Hp}{v v':V}{r r':Rw}{Q:VK}(h:gj H v r)(h':gj H v' r')(q:Q (.bl (g (decide (r.b=r'.b/\r.rule=r'.rule/\r.starts=r'.starts)))) H):E8 K g v v' H Q:=by
 obtain⟨a,x,y,rfl,ha,hx,hy⟩:=h;obtain⟨c,x',y',rfl,hc,hx',hy'⟩:=h';exact .inl ⟨_,_,.tup (SqT.of ha) (.cons (.int _) (.cons (.tup (SqT.of hx) (vR.ints _)) (.cons (.tup (SqT.of hy) (vR.ints _)) .nil))),.tup (SqT.of hc) (.cons (.int _) (.cons (.tup (SqT.of hx') (vR.ints _)) (.cons (.tup (SqT.of hy') (vR.ints _)) .nil))),
  sX ..,sX ..,by rw[KD];exact q⟩
theorem qF{b:Int}(hb:ByF b){P L:List Int}{f:Nat->Int}(hm:Pm.Mon P)(hK:Pm.Kp b P f)(lst:gW b f L){u n:Nat}(hl:P.length<=n+1)(n12:n<=12)(u10:10<=u)(hu:b=0->∀k,Rm.Bd u (Pm.co P k))(k:Nat):Rm.Bd (u+13*(n+1)) (Pm.co L k):=by
 by_cases z:b=0
 ·subst z;obtain⟨g,L',hL,hy,hk,hall,hl',hE,G⟩:=Pm.Ig hm hK;have e:L=L':=lst.uniq hb.one ⟨hL,fun k=>Rm.bf _,hk,hall⟩;subst e;have:=Pm.Ae (P:=P) (L:=g) (g:=L) G.mon (fun k=>by rw[hE,Pm.dF]) (by omega) (u:=u) (e:=4) (hu rfl) (by show P.length<=16;omega) k;refine this.mono ?_;have g1:=G.mon.pos;have:L.length<=n+1:=by omega
  omega
 ·rw[<-lst.nu k];exact Ik hb (by omega) z (pL hb.lo _)
theorem zQ{r:Rw}{L:List Int}(hb:ByF r.b)(ok:lB r)(ll:L.length<=r.rule.length+1){U:Nat}(U10:10<=U)(hU:U<=60000)(h:∀k,Rm.Bd U (Pm.co L k)):lB (gq r L)/\∀x∈(gq r L).rule,Rm.Bd U x:=by
 obtain⟨l1,l2⟩:=oM ll ok;have bd:∀x∈(gq r L).rule,Rm.Bd U x:=fun x hx=>by
  obtain⟨k,_,rfl⟩:=Pm.fJ (show x∈Pm.ofF _ _ from hx);refine lu hb U10 ?_;rw[Int.zero_sub];exact Pm.Dy (h _)
 have hl:=ok.len;have hs:=ok.short;refine⟨⟨by omega,by omega,ok.by0,ok.by1,fun x hx=>?_,fun x hx=>ok.iU x (List.mem_of_mem_take hx),fun x hx=>(bd x hx).mono hU,fun x hx=>ok.jC x (List.mem_of_mem_take hx)⟩,bd⟩;obtain⟨k,_,rfl⟩:=Pm.fJ (show x∈Pm.ofF _ _ from hx);exact pL ok.by0 _
structure ByJ(b:Int):Prop where
 lo:0<=b
 hi:b<1000
 one:Rm.tk b 1=1
theorem ByJ.hi2{b:Int}(h:ByJ b):b<2097152:=by have:=h.hi;omega
structure RwF(r:Rw)(u:Nat):Prop where
 ok:lB r
 one:Rm.tk r.b 1=1
 vh:r.rule.length<=12
 u10:10<=u
 u60:u<=60000
 bd:∀x∈r.rule,Rm.Bd u x
def n6(r:Rw)(u n:Nat):Prop:=r.b=0->n<=400/\10+n*(u+12)<=400000
theorem RwF.byJ{r:Rw}{u:Nat}(h:RwF r u):ByJ r.b:=⟨h.ok.by0,h.ok.by1,h.one⟩
theorem Ie{b:Int}(hb:ByJ b){rule:List Int}{a:Nat}(h12:rule.length<=12)(ha:10<=a)(hr:∀x∈rule,Rm.Bd a x)(j n:Nat)(hn:b=0->10+n*(a+12)<=400000):Rm.Bd 400000 (Pm.ej b rule j n):=by
 by_cases h0:b=0
 ·have q:=Rm.Bq (b:=b) (rule:=rule) (starts:=Pm.unit rule.length j) (a:=a) (c:=10) (by rw[Pm.dJ]) hb.lo (Rm.Bd.of (by omega) (by omega)) hr (fun x hx=>by
   obtain⟨k,_,rfl⟩:=Pm.fJ hx;split
   ·exact Rm.Bd.of (by decide) (by decide)
   ·exact Rm.Bd.zero _) n
  have:n*(a+rule.length)<=n*(a+12):=Nat.mul_le_mul_left _ (by omega);exact q.mono (by have:=hn h0;omega)
 ·rw[<-Pm.MZ hb.one];have:=Pm.GY (b:=b) (x:=Pm.ej b rule j n) (by have:=hb.lo;omega);exact(Rm.Bd.of (n:=10) (by omega) (by have:=hb.hi;omega)).mono (by decide)
theorem RwF.um{r:Rw}{u:Nat}(h:RwF r u){m:Nat}(hm:n6 r u m):∀x∈Pm.rest r.b r.rule m,Rm.Bd 400000 x:=fun x hx=>by
 obtain⟨j,_,rfl⟩:=Pm.fJ hx;exact Ie h.byJ h.vh h.u10 h.bd j m fun z=>(hm z).2
theorem RwF.gr{r:Rw}{u:Nat}(h:RwF r u):Pm.Gr r.b r.rule r.at:=Pm.zW h.ok.len
theorem RwF.BF{r:Rw}{u:Nat}(h:RwF r u)(n:Nat):Rm.tk r.b (r.at n)=r.at n:=h.ok.BF n
theorem D7{b:Int}(h1:Rm.tk b 1=1)(rule:List Int)(m:Nat):Pm.Pw b rule m (Pm.trim (Pm.rest b rule m)):=fun a ha n=>by
 rw[<-Pm.wU h1 ha m n];have hl:=Pm.cB (Pm.rest b rule m);rw[Pm.dM]at hl;rw[<-Pm.iQ _ _ n hl];exact congrArg (Rm.tk b) (Pm.aA fun k _=>by rw[Pm.f9])
theorem Im{b:Int}(h1:Rm.tk b 1=1){rule:List Int}{m:Nat}{r:List Int}(h:Pm.Pw b rule m r)(hy:Pm.Py b r)(hs:r.length<=rule.length):r=Pm.trim (Pm.rest b rule m):=by
 rw[<-hy.tr];refine Pm.j8 fun k=>?_;by_cases hk:k<rule.length
 ·rw[h.co h1 hy hs hk,Pm.Dj hk]
 ·rw[Pm.bh (by omega),Pm.bh (by rw[Pm.dM];omega)]
inductive Ju(vs:List V)(H:Hp)(Q:VK)(E:XK):Prop|mk (b n:Int) (z_0:vs=[.int b,.int n]) (z_1:0<=n) (z_2:(b=0->n<=400)) (z_3:Q .non H)
def MB:Sp:=fun vs H Q E=>Ju  vs H Q E
abbrev iZ(P w K mg base):=Cal P w K mg base "refuse_far_jump" 1 ["by","n"] MB
theorem Jw{n:Nat}{k:Nat}(h:PySem.Builtin.Int.intBits (n:Int)<=k):n/2^k=0:=by
 have:(n:Int).natAbs<2^k:=intBits_le_iff.mp h;exact Nat.div_eq_of_lt (by omega)
theorem DG(n k:Nat):n/2^k=2*(n/2^(k+1))+n/2^k%2:=by
 rw[Nat.pow_succ,<-Nat.div_div_eq_div_mul];omega
theorem Jo{n k:Nat}:n/2^k<=n:=Nat.div_le_self ..
inductive Gs(vs:List V)(H:Hp)(Q:VK)(E:XK):Prop|mk (b:Int) (a:Addr) (rule:List Int) (n u:Nat) (z_0:vs=[.int b,.ref a,.int n]) (z_1:ByJ b) (z_2:H a=some (.tup ((Pm.aK b rule).map V.int))) (z_3:rule.length<=12) (z_4:10<=u) (z_5:u<=60000) (z_6:(∀x∈rule,Rm.Bd u x)) (z_7:(b=0->10+n*(u+12)<=400000)) (z_8:Rm.Bd 400 (n:Int)) (z_9:∀p H' l,Same H H'->H' p=some (.tup (List.map V.int l))->Pm.Pw b rule n l->Pm.Py b l->l.length<=rule.length->Q (.ref p) H')
def JY:Sp:=fun vs H Q E=>Gs  vs H Q E
theorem Ov{b:Int}(hb:ByJ b){rule l:List Int}(hr:rule.length<=12){u:Nat}(hu:10<=u)(hR:∀x∈rule,Rm.Bd u x){m:Nat}(hm:b=0->10+m*(u+12)<=400000)(h:Pm.Pw b rule m l)(hy:Pm.Py b l)(hl:l.length<=rule.length):∀x∈l,Rm.Bd 400000 x:=fun x hx=>by
 obtain⟨k,hk,e⟩:=List.mem_iff_getElem.mp hx;rw[<-e,<-Pm.qZ hk,h.co hb.one hy hl (by omega)];exact Ie hb hr hu hR k m hm
theorem uF(b:Int)(p q:List Int):(Pm.mul b p q).length<=p.length+q.length:=by
 refine Nat.le_trans (Pm.cB _) ?_;rw[Pm.aM];exact Nat.le_refl _
theorem wj{b:Int}(hb:ByJ b)(k:Nat):Rm.tk b (Pm.co [1] k)=Pm.co [1] k:=by
 cases k with
 |zero=>rw[Pm.cF];exact hb.one
 |succ k=>rw[Pm.fU,Pm.dB];exact Pm.tk0 b
abbrev pJ(P w K mg base):=Cal P w K mg base "power_left" 3 ["by","poly","n"] JY
inductive Iz(vs:List V)(H:Hp)(Q:VK)(E:XK):Prop|mk (v:V) (r:Rw) (n u:Nat) (z_0:vs=[v,.int n]) (z_1:gj H v r) (z_2:RwF r u) (z_3:n6 r u n) (z_4:Rm.Bd 400 (n:Int)) (z_5:sJ H Q (Pm.rest r.b r.rule n))
def Nq:Sp:=fun vs H Q E=>Iz  vs H Q E
abbrev zj(P w K mg base):=Cal P w K mg base "jump" 4 ["row","n"] Nq
inductive FT(vs:List V)(H:Hp)(Q:VK)(E:XK):Prop|mk (b:Int) (a l:Addr) (p f:List Int) (n:Nat) (z_0:vs=[.int b,.ref a,.ref l,.int (0+(n:Int))]) (z_1:0<=b) (z_2:H a=some (.tup (p.map V.int))) (z_3:(H l=some (.lst (f.map V.int))∨H l=some (.tup (f.map V.int)))) (z_4:n+p.length<=f.length) (z_5:p.length<=1000) (z_6:(∀x∈p,Rm.Bd 1000000 x)) (z_7:(∀x∈f,Rm.Bd 61000000 x)) (z_8:∀H',Same H H'->Q (.int (Rm.tk b (Pm.ks p (Pm.co f) n))) H')
def Jp:Sp:=fun vs H Q E=>FT  vs H Q E
abbrev uq(P w K mg base):=Cal P w K mg base "sum_at" 2 ["by","poly","found","n"] Jp
theorem RwF.sum_at{r:Rw}{u:Nat}(h:RwF r u)(n m N:Nat)(hN:m+r.rule.length<=N):Rm.tk r.b (Pm.ks (Pm.rest r.b r.rule n) (Pm.co (r.row N)) m)=r.at (m+n):=by
 rw[<-h.BF,<-Pm.wU h.one h.gr n m];unfold Pm.ks;rw[Pm.dM];refine congrArg (Rm.tk r.b) (Pm.aA fun k hk=>?_);have e2:Pm.co (r.row N) (m+k)=r.at (m+k):=Rm.tX _ _ _ (by omega);rw[e2]
theorem RwF.dR{r:Rw}{u:Nat}(h:RwF r u):r.row r.rule.length=r.starts:=by
 have q:r.row r.rule.length=r.starts.take r.rule.length:=Rm.dR (by have:=h.ok.len;omega);rw[q,h.ok.len,List.take_length]
inductive Bp(vs:List V)(H:Hp)(Q:VK)(E:XK):Prop|mk (v:V) (r:Rw) (n u:Nat) (z_0:vs=[v,.int n]) (z_1:gj H v r) (z_2:RwF r u) (z_3:n6 r u n) (z_4:Rm.Bd 400 (n:Int)) (z_5:∀H',Same H H'->Q (.int (r.at n)) H')
def C6:Sp:=fun vs H Q E=>Bp  vs H Q E
abbrev tH(P w K mg base):=Cal P w K mg base "place_at" 5 ["row","n"] C6
def Rw.on(r:Rw)(n:Nat):Rw:=⟨r.b,r.rule,Pm.ofF r.rule.length fun m=>r.at (m+n)⟩
inductive B4(vs:List V)(H:Hp)(Q:VK)(E:XK):Prop|mk (v:V) (r:Rw) (n u:Nat) (z_0:vs=[v,.int (n:Int)]) (z_1:gj H v r) (z_2:RwF r u) (z_3:n6 r u n) (z_4:Rm.Bd 400 (n:Int)) (z_5:∀v' H',Same H H'->gj H' v' (r.on n)->Q v' H')
def Gz:Sp:=fun vs H Q E=>B4  vs H Q E
abbrev zq(P w K mg base):=Cal P w K mg base "onward" 5 ["row","n"] Gz
def bhd(rule sums:List Int)(k:Nat):Int:=Pm.sm (min (k-1) rule.length) fun i=>Pm.co rule i*Pm.co sums (k-2-i)
abbrev Le(x:Int)(n:Nat):Prop:=x.natAbs<=n
theorem Le.sm{f:Nat->Int}{c:Nat}:∀n:Nat,(∀k,k<n->Le (f k) c)->Le (Pm.sm n f) (n*c)
 |0,_=>Nat.zero_le _
 |n+1,h=>by
  have h1:=Le.sm n fun k hk=>h k (by omega);have h2:=h n (by omega);have h3:=Int.natAbs_add_le (Pm.sm n f) (f n);show(Pm.sm n f+f n).natAbs<=(n+1)*c;rw[Nat.succ_mul];unfold Le at h1 h2;omega
theorem Le.mul{x y:Int}{m n:Nat}(h1:Le x m)(h2:Le y n):Le (x*y) (m*n):=by
 show(x*y).natAbs<=m*n;rw[Int.natAbs_mul];exact Nat.mul_le_mul h1 h2
theorem Le.bd{x:Int}{n:Nat}(h:Le x (2^n)):Rm.Bd (n+1) x:=by
 show x.natAbs<2^(n+1);have:0<2^n:=Nat.pow_pos (by decide);rw[Nat.pow_succ];unfold Le at h;omega
theorem Gb{Z:Nat}{rule sums:List Int}{k:Nat}(hk:1<=k)(hl:rule.length=k-1)(hr:∀i,i<k-1->Le (Pm.co rule i) (Z^(i+1)))(hs:∀i,i<k->Le (Pm.co sums i) (Z^(i+1))):Le ((Pm.co sums (k-1)-bhd rule sums k)/(k:Int)) (Z^k):=by
 have e1:Le (bhd rule sums k) ((k-1)*Z^k):=by
  unfold bhd;rw[hl,Nat.min_self];refine Le.sm (k-1) fun i hi=>?_;have:=(hr i hi).mul (hs (k-2-i) (by omega));rw[<-Nat.pow_add,show i+1+(k-2-i+1)=k by omega]at this;exact this
 have e2:=hs (k-1) (by omega);rw[show k-1+1=k by omega]at e2;obtain⟨m,rfl⟩:∃m,k=m+1:=⟨k-1,by omega⟩;rw[Nat.add_sub_cancel]at e1 e2⊢;generalize Pm.co sums m=s at e2;generalize bhd rule sums (m+1)=t at e1;generalize Z^(m+1)=z at e1 e2;have h3:Le (s-t) ((m+1)*z):=by
  unfold Le at *;rw[Nat.succ_mul];omega
 generalize s-t=d at h3;unfold Le at *;have h4:-(((m+1)*z:Nat):Int)<=d/\d<=(((m+1)*z:Nat):Int):=by omega
 rw[Int.natCast_mul]at h4;have p:(0:Int)<((m+1:Nat):Int):=by omega
 have h5:d/((m+1:Nat):Int)<=(z:Int):=by
  have:=Int.ediv_le_ediv p h4.2;rw[Int.mul_ediv_cancel_left _ (by omega)]at this;exact this
 have h6:-(z:Int)<=d/((m+1:Nat):Int):=by
  have:=Int.ediv_le_ediv p h4.1;rw[<-Int.mul_neg,Int.mul_ediv_cancel_left _ (by omega)]at this;exact this
 omega
theorem Ii{X:Nat}(hX:2<=X)(c:Nat):∀(n:Nat) (f:Nat->Int),(∀i,i<n->Le (f i) (c*X^(n-i)))->Le (Pm.sm n f) (c*(2*X^n))
 |0,_,_=>Nat.zero_le _
 |n+1,f,h=>by
  have h0:=h 0 (by omega);have h1:=Ii hX c n (fun i=>f (i+1)) fun i hi=>by have:=h (i+1) (by omega);rw[show n+1-(i+1)=n-i by omega]at this;exact this
  rw[Pm.cN];have h3:=Int.natAbs_add_le (f 0) (Pm.sm n fun i=>f (i+1));have e:X^(n+1-0)=X^n*X:=Nat.pow_succ ..;rw[e]at h0;have e2:c*(2*X^(n+1))=c*(X^n*X)+c*(X^n*X):=by rw[Nat.pow_succ,<-Nat.mul_add,<-Nat.two_mul]
  have e3:c*(2*X^n)<=c*(X^n*X):=Nat.mul_le_mul_left _ (by rw[Nat.mul_comm];exact Nat.mul_le_mul_left _ hX);unfold Le at *;omega
theorem JV{w:Nat}{rule sums:List Int}{k:Nat}(hk:1<=k)(k24:k<=130)(hr:∀i,Le (Pm.co rule i) (2^w))(hs:∀i,i<k-1->Le (Pm.co sums i) ((2^(w+3))^(i+1))):Le ((if k<=rule.length then(k:Int)*Pm.co rule (k-1)else 0)+bhd rule sums k) ((2^(w+3))^k):=by
 obtain⟨m,rfl⟩:∃m,k=m+1:=⟨k-1,by omega⟩;rw[Nat.add_sub_cancel]at hs⊢;have X2:2<=2^(w+3):=by
  have:0<2^w:=Nat.pow_pos (by decide);rw[Nat.pow_add];omega
 have e1:Le (bhd rule sums (m+1)) (2^w*(2*(2^(w+3))^m)):=by
  have e:bhd rule sums (m+1)=Pm.sm m fun i=>if i<rule.length then Pm.co rule i*Pm.co sums (m+1-2-i)else 0:=by
   unfold bhd;rw[Nat.add_sub_cancel,Pm.fH (m:=min m rule.length) (n:=m) (by omega) fun i h1 h2=>if_neg (by omega)];exact Pm.aA fun i hi=>(if_pos (by omega)).symm
  rw[e];refine Ii X2 _ m _ fun i hi=>?_;split
  ·have:=(hr i).mul (hs (m+1-2-i) (by omega));rw[show m+1-2-i+1=m-i by omega]at this;exact this
  ·exact Nat.zero_le _
 have e2:Le (if m+1<=rule.length then((m+1:Nat):Int)*Pm.co rule m else 0) ((m+1)*2^w):=by
  split
  ·have h1:Le ((m+1:Nat):Int) (m+1):=by unfold Le;omega
   exact h1.mul (hr m)
  ·exact Nat.zero_le _
 have h3:=Int.natAbs_add_le (if m+1<=rule.length then((m+1:Nat):Int)*Pm.co rule m else 0) (bhd rule sums (m+1));have kX:∀m,m+1<=6*8^m:=fun m=>by
  induction m with
  |zero=>decide
  |succ m ih=>rw[Nat.pow_succ];omega
 have p8:8^m<=(2^(w+3))^m:=Nat.pow_le_pow_left (by
  have:0<2^w:=Nat.pow_pos (by decide);rw[Nat.pow_add];omega) m
 have e5:(2^(w+3))^(m+1)=2^w*(2*(2^(w+3))^m)+2^w*(6*(2^(w+3))^m):=by
  rw[Nat.pow_succ,Nat.mul_comm,Nat.pow_add,<-Nat.mul_add,<-Nat.add_mul,Nat.mul_assoc]
 have e6:(m+1)*2^w<=2^w*(6*(2^(w+3))^m):=by
  rw[Nat.mul_comm];refine Nat.mul_le_mul_left _ (Nat.le_trans (kX m) (Nat.mul_le_mul_left _ p8))
 unfold Le at *;omega
theorem Ft(f:Nat->Int):∀n,Nw.sm n f=Pm.sm n f
 |0=>rfl
 |n+1=>by show Nw.sm n f+f n=Pm.sm n f+f n;rw[Ft f n]
theorem Hr(rule sums:List Int)(k:Nat):bhd rule sums (k+1)=Nw.sm k fun i=>Pm.co rule i*Pm.co sums (k-1-i):=by
 unfold bhd;rw[Ft,Nat.add_sub_cancel,show(fun i=>Pm.co rule i*Pm.co sums (k+1-2-i))=fun i=>Pm.co rule i*Pm.co sums (k-1-i)from funext fun i=>by rw[show k+1-2-i=k-1-i by omega]];by_cases h:k<=rule.length
 ·rw[Nat.min_eq_left h]
 ·rw[Nat.min_eq_right (by omega),Pm.fH (m:=rule.length) (n:=k) (by omega) fun i h1 _=>by rw[Pm.bh h1,Int.zero_mul]]
theorem wg{b:Int}{xs:List Int}(h:∀x∈xs,jz b x):xs.map (Rm.tk b)=xs:=by
 exact(List.map_congr_left (f:=Rm.tk b) (g:=id) fun x hx=>HM (h x hx)).trans (List.map_id xs)
theorem EG{rule starts:List Int}(hl:rule.length=starts.length)(i:Nat):Rm.at_ 0 rule starts (i+rule.length)=Nw.sm rule.length fun k=>Pm.co rule k*Rm.at_ 0 rule starts (i+rule.length-1-k):=by
 rw[Rm.ni hl (by omega),Rm.bf,Pm.zY,Ft]
theorem Fw{b:Int}{rule starts:List Int}(hl:rule.length=starts.length)(hr:∀x∈rule,jz b x)(hs:∀x∈starts,jz b x)(n:Nat):Rm.at_ b rule starts n=Rm.tk b (Rm.at_ 0 rule starts n):=by
 by_cases z:b=0
 ·rw[z,Rm.bf]
 ·have:=Rm.Nu (p:=b) z hl n;rw[wg hr,wg hs]at this;exact this
theorem Ax{xs:List Int}{n:Nat}(h:n<xs.length):atI (xs.map V.int) (n:Int)=some (.int (Pm.co xs n)):=by
 rw[aW (by omega) (by omega),Int.toNat_natCast];rfl
theorem J9(n:Nat)(f:Nat->Int):(Pm.ofF n f).sum=Pm.sm n f:=by rw[Pm.ofF,Pm.qp]
theorem Gu{b:Int}{c s1 u R:List Int}{e st N:Nat}(he:1<=e)(hc:c.length=s1.length)(hcn:∀x∈c,jz b x)(hs1:∀x∈s1,jz b x)(hN:N=c.length)(hR:R.length=N)
  (e1:∀k,k<e*N->Pm.co u k=(if k+1<=c.length then((k+1:Nat):Int)*Pm.co c k else 0)+bhd c u (k+1))
  (e3:∀k,k<N->Pm.co R k=(Pm.co (Pm.ofF N fun k=>Pm.co u (e*(k+1)-1)) k-bhd R (Pm.ofF N fun k=>Pm.co u (e*(k+1)-1)) (k+1))/((k+1:Nat):Int)) (n:Nat):
  (⟨b,R.map (Rm.tk b),Pm.ofF N fun n=>Rm.tk b (Rm.at_ b c s1 (st+e*n))⟩:Rw).at n=Rm.tk b (Rm.at_ b c s1 (st+e*n)):=by
 have own:∀{c:List Int} {k:Nat},(if k+1<=c.length then((k+1:Nat):Int)*Pm.co c k else 0)=((k+1:Nat):Int)*Pm.co c k:=fun {c k}=>by
  by_cases z:k+1<=c.length
  ·rw[if_pos z]
  ·rw[if_neg z,Pm.bh (by omega),Int.mul_zero]
 have main:=Nw.Ba (m:=c.length) (e:=e) he (c:=Pm.co c) (a:=Rm.at_ 0 c s1) (s:=Pm.co u) (r:=Pm.co R) (fun k hk=>Pm.bh hk) (EG hc)
  (fun k hk=>by rw[e1 k (by rw[hN];exact hk),own,Hr]) (fun k hk=>by
   rw[e3 k (by omega),Hr,Pm.bI,if_pos (by omega)];refine congrArg (fun x=>(Pm.co u (e*(k+1)-1)-x)/_) (Nw.aA fun i hi=>?_);rw[Pm.bI,if_pos (by omega)]) st
 have ta:∀n,Rm.tk b (Rm.at_ b c s1 n)=Rm.tk b (Rm.at_ 0 c s1 n):=fun n=>by rw[Fw hc hcn hs1,Rm.jG]
 refine Rm.lX (b:=b) (rule:=R.map (Rm.tk b)) (starts:=Pm.ofF N fun n=>Rm.tk b (Rm.at_ b c s1 (st+e*n))) (by rw[List.length_map,Pm.aM,hR]) (g:=fun n=>Rm.tk b (Rm.at_ b c s1 (st+e*n))) (fun i hi=>?_) (fun i hi=>?_) n
 ·rw[Pm.aM]at hi;show _=Pm.co (Pm.ofF N fun n=>Rm.tk b (Rm.at_ b c s1 (st+e*n))) i;rw[Pm.bI,if_pos hi]
 ·rw[Pm.aM]at hi;obtain⟨j,rfl⟩:∃j,i=j+N:=⟨i-N,by omega⟩;rw[ta,List.length_map,hR,Pm.zY,hN,main j,Ft,<-hN];refine Pm.jd fun k hk=>?_;rw[Pm.tW (Pm.tk0 b),Rm.dw];show _=Rm.tk b (Pm.co R k*Rm.tk b (Rm.at_ b c s1 (st+e*(j+N-1-k))));rw[ta,Rm.bG]
theorem zy{J:It}{xs:List Int}{ix:List (Option Nat)}{te:TE}{σ:St}{H1:Hp}{Q:VK}(I:ItS J (xs.map V.int) H1)(hz:xs.length<=1000){rest:St}(hst:cst ix σ=none::rest)(f:Int->Int)
  (he:∀H' x,Same H1 H'->x∈xs->∀kk:VK,kk (.int (f x)) H'->te (some (.int x)::rest) H' kk)
  (hQ:∀D,H1 D=none->Q (.ref D) (upd H1 D (.lst ((xs.map f).map V.int)))):pY ix (nq 0) CP te σ Q J H1:=by
 refine jP I (by rw[List.length_map];exact Nat.le_of_lt (bN hz)) hst (fun _=>true) (fun x=>match x with | .int k=> .int (f k)|_=> .non) ?_ ?_ ?_
 ·intro H2 x g2 hx k hk;exact hk
 ·intro H2 x g2 hx _ k hk;obtain⟨y,hy,rfl⟩:=List.mem_map.mp hx;exact he H2 y g2 hy k hk
 ·intro D hD;have el:(((xs.map V.int).filter fun _=>true).map fun x=>match x with | .int k=>V.int (f k)|_=>V.non)=(xs.map f).map V.int:=by
   rw[List.filter_eq_self.mpr (by simp),List.map_map,List.map_map];rfl
  rw[el];exact hQ D hD
def Ints(H:Hp)(a:Addr)(xs:List Int):Prop:=H a=some (.lst (xs.map V.int))∨H a=some (.tup (xs.map V.int))
theorem Ints.same{H H':Hp}{a:Addr}{xs:List Int}(h:Ints H a xs)(g:Same H H'):Ints H' a xs:=h.imp (g _ _) (g _ _)
theorem u9{K:W.Frag}{a:Addr}{xs:List Int}{ix:List (Option Nat)}{te:TE}{σ:St}{H1:Hp}{Q:VK}(hA:Ints H1 a xs)(hz:xs.length<=1000){rest:St}(hst:cst ix σ=none::rest)(f:Int->Int)
  (he:∀H' x,Same H1 H'->x∈xs->∀kk:VK,kk (.int (f x)) H'->te (some (.int x)::rest) H' kk)
  (hQ:∀D,H1 D=none->Q (.ref D) (upd H1 D (.lst ((xs.map f).map V.int)))):∃a',V.ref a = .ref a'/\(((∃ys,SqL K H1 a' ys)/\pY ix (nq 0) CP te σ Q (Itl K a') H1)∨((∃ys,SqT K H1 a' ys)/\pY ix (nq 0) CP te σ Q (Itt K a') H1)):=by
 rcases hA with h|h
 ·exact⟨a,rfl,.inl ⟨⟨_,SqL.of h⟩,zy (zH (SqL.of h)) hz hst f he hQ⟩⟩
 ·exact⟨a,rfl,.inr ⟨⟨_,SqT.of h⟩,zy (Di (SqT.of h)) hz hst f he hQ⟩⟩
inductive J8(vs:List V)(H:Hp)(Q:VK)(E:XK):Prop|mk (b:Int) (a c:Addr) (ns ms:List Int) (z_0:vs=[.int b,.ref a,.ref c]) (z_1:Ints H a ns) (z_2:Ints H c ms) (z_3:ns.length<=1000) (z_4:ms.length<=1000) (z_5:0<=b) (z_6:lB ⟨b,ns.map (Rm.tk b),ms.map (Rm.tk b)⟩) (z_7:ByP b) (z_8:Tame ⟨b,ns.map (Rm.tk b),ms.map (Rm.tk b)⟩) (z_9:∀v' L H',Same H H'->gj H' v' (gq ⟨b,ns.map (Rm.tk b),ms.map (Rm.tk b)⟩ L)->gW b (⟨b,ns.map (Rm.tk b),ms.map (Rm.tk b)⟩:Rw).at L->L.length<=ns.length+1->Q v' H')
def LN:Sp:=fun vs H Q E=>J8  vs H Q E
abbrev tU(P w K mg base):=Cal P w K mg base "told_row" 10 ["by","rule","starts"] LN
theorem JL{rule sums:List Int}{x:Int}{k:Nat}(h:k-1<=sums.length):bhd rule (sums++[x]) k=bhd rule sums k:=by
 unfold bhd;exact Pm.aA fun i hi=>by rw[Pm.bW,if_pos (by omega)]
theorem Hf{rule sums:List Int}{x:Int}{k:Nat}(h:k-1<=rule.length):bhd (rule++[x]) sums k=bhd rule sums k:=by
 unfold bhd;rw[List.length_append,Nat.min_eq_left (by omega),Nat.min_eq_left h];exact Pm.aA fun i hi=>by rw[Pm.bW,if_pos (by omega)]
inductive K9(vs:List V)(H:Hp)(Q:VK)(E:XK):Prop|mk (a c:Addr) (rule sums:List Int) (k:Nat) (z_0:vs=[.ref a,.ref c,.int (k:Int)]) (z_1:Ints H a rule) (z_2:Ints H c sums) (z_3:1<=k) (z_4:k<=130) (z_5:k-1<=sums.length) (z_6:(∀x∈rule,Rm.Bd 20000 x)) (z_7:(∀x∈sums,Rm.Bd 20000 x)) (z_8:∀H',Same H H'->Q (.int (bhd rule sums k)) H')
def Uc:Sp:=fun vs H Q E=>K9  vs H Q E
abbrev iR(P w K mg base):=Cal P w K mg base "behind_first" 1 ["rule","sums","k"] Uc
theorem Le.list{xs:List Int}{w z:Nat}(hz:(xs.length)*w+1<=z)(h:∀i,i<xs.length->Le (Pm.co xs i) ((2^w)^(i+1))):∀x∈xs,Rm.Bd z x:=fun x hx=>by
 obtain⟨k,hk,e⟩:=List.mem_iff_getElem.mp hx;have:=h k hk;rw[Pm.qZ hk,e,<-Nat.pow_mul]at this;refine this.bd.mono ?_;have:w*(k+1)<=xs.length*w:=by rw[Nat.mul_comm];exact Nat.mul_le_mul_right _ hk
 omega
theorem Le.grow{xs:List Int}{x:Int}{n Z:Nat}(hl:xs.length=n)(h:∀i,i<n->Le (Pm.co xs i) (Z^(i+1)))(hx:Le x (Z^(n+1))):∀i,i<n+1->Le (Pm.co (xs++[x]) i) (Z^(i+1)):=fun i hi=>by
 rw[Pm.bW];by_cases d:i<n
 ·rw[if_pos (by omega)];exact h i d
 ·have e:i=n:=by omega
  subst e;rw[if_neg (by omega),hl,Nat.sub_self];exact hx
inductive Nm(vs:List V)(H:Hp)(Q:VK)(E:XK):Prop|mk (a:Addr) (rule:List Int) (n w:Nat) (z_0:vs=[.ref a,.int (n:Int)]) (z_1:H a=some (.tup (rule.map V.int))) (z_2:n<=120) (z_3:n*(w+3)+1<=20000) (z_4:w<=19000) (z_5:(∀i,Le (Pm.co rule i) (2^w))) (z_6:∀l sums H',Same H H'->H' l=some (.lst (sums.map V.int))->sums.length=n->(∀i,i<n->Le (Pm.co sums i) ((2^(w+3))^(i+1)))->(∀k,k<n->Pm.co sums k=(if k+1<=rule.length then((k+1:Nat):Int)*Pm.co rule k else 0)+bhd rule sums (k+1))->Q (.ref l) H')
def Rf:Sp:=fun vs H Q E=>Nm  vs H Q E
abbrev pW(P w K mg base):=Cal P w K mg base "power_sums" 2 ["rule","count"] Rf
inductive Nt(vs:List V)(H:Hp)(Q:VK)(E:XK):Prop|mk (c:Addr) (sums:List Int) (n z:Nat) (z_0:vs=[.ref c]) (z_1:H c=some (.lst (sums.map V.int))) (z_2:sums.length=n) (z_3:n<=12) (z_4:n*z+1<=20000) (z_5:(∀i,i<n->Le (Pm.co sums i) ((2^z)^(i+1)))) (z_6:∀l rule H',Same H H'->H' l=some (.lst (rule.map V.int))->rule.length=n->(∀i,i<n->Le (Pm.co rule i) ((2^z)^(i+1)))->(∀k,k<n->Pm.co rule k=(Pm.co sums k-bhd rule sums (k+1))/((k+1:Nat):Int))->Q (.ref l) H')
def PX:Sp:=fun vs H Q E=>Nt  vs H Q E
abbrev lK(P w K mg base):=Cal P w K mg base "rule_of_sums" 2 ["sums"] PX
inductive Ka(vs:List V)(H:Hp)(Q:VK)(E:XK):Prop|mk (st e:Nat) (z_0:vs=[.int (st:Int),.int (e:Int)]) (z_1:st<=100) (z_2:1<=e) (z_3:e<=10) (z_4:Q .non H)
def Lx:Sp:=fun vs H Q E=>Ka  vs H Q E
abbrev iy(P w K mg base):=Cal P w K mg base "refuse_far_steps" 1 ["start","step"] Lx
def evR(b:Int)(R:List Int)(r:Rw)(st e:Nat):Rw:=⟨b,R.map (Rm.tk b),(Pm.ofF R.length fun k=>r.at (st+e*k)).map (Rm.tk b)⟩
theorem Nb{b:Int}(hb:ByF b){R:List Int}{r:Rw}{st e n ua z:Nat}(hl:R.length<=n)(n12:n<=12)(hR:∀x∈R,Rm.Bd z x)(z10:10<=z)(hz:z<=60000)(hua:ua<=10000)(u10:10<=ua)(ha:∀k,k<=2*n->Rm.Bd ua (r.at (st+e*k))):lB (evR b R r st e):=by
 refine⟨by show(R.map _).length=((Pm.ofF _ _).map _).length;rw[List.length_map,List.length_map,Pm.aM],by show(R.map _).length<=24;rw[List.length_map];omega,hb.lo,hb.hi,fun x hx=>?_,fun x hx=>?_,fun x hx=>?_,fun x hx=>?_⟩
 ·obtain⟨y,_,rfl⟩:=List.mem_map.mp hx;exact pL hb.lo _
 ·obtain⟨y,_,rfl⟩:=List.mem_map.mp hx;exact pL hb.lo _
 ·obtain⟨y,hy,rfl⟩:=List.mem_map.mp hx;exact lu hb (by decide) ((hR y hy).mono hz)
 ·obtain⟨y,hy,rfl⟩:=List.mem_map.mp hx;obtain⟨k,hk,rfl⟩:=Pm.fJ hy;exact lu hb (by decide) ((ha k (by omega)).mono hua)
theorem GJ{b:Int}(hb:ByF b){R:List Int}{r:Rw}{st e n ua z:Nat}(ok:lB (evR b R r st e))(hl:R.length<=n)(hR:∀x∈R,Rm.Bd z x)(z10:10<=z)(he:∀k,(evR b R r st e).at k=r.at (st+e*k))(ha:∀k,k<=2*n->Rm.Bd ua (r.at (st+e*k)))(hs:n*(ua+n)+1+(z+400)+57<=112100):Tame (evR b R r st e):=fun hz=>by
 have hk:=ok.kp;rw[hz]at hk;refine⟨n,ua,z,z10,fun x hx=>?_,⟨_,Pm.dz _ _,hk,?_⟩,fun k hk=>by rw[he];exact ha k hk,hs⟩
 ·obtain⟨y,hy,rfl⟩:=List.mem_map.mp hx;exact lu hb z10 (hR y hy)
 ·rw[Pm.aY];show(R.map _).length+1<=n+1;rw[List.length_map];omega
def EvM(v:V)(st e:Nat)(H:Hp)(Q:VK):Prop:=∃(r:Rw) (b:Int) (n u ua:Nat) (P:List Int),gj H v r/\lB r/\r.b=b/\ByF b/\Tame r/\Pm.Mon P/\Pm.Kp b P r.at/\P.length<=n+1/\n<=12/\10<=u/\u<=18000/\(b=0->∀k,Rm.Bd u (Pm.co P k))/\st<=100/\1<=e/\e<=10/\(u+13*(n+1)+3)*(e*n)+1<=20000/\(∀k,k<=2*n->Rm.Bd ua (r.at (st+e*k)))/\10<=ua/\ua<=10000/\n*(ua+n)+20500<=112100/\
 ∀v' r' H',Same H H'->gj H' v' r'->lB r'->r'.b=b->r'.rule.length<=n->(∀k,r'.at k=r.at (st+e*k))->(∀x∈r'.rule,Rm.Bd ((u+13*(n+1)+3)*(e*n)+10+13*(n+1)) x)->Q v' H'
inductive FJ(vs:List V)(H:Hp)(Q:VK)(E:XK):Prop|mk (v:V) (st e:Nat) (z_0:vs=[v,.int (st:Int),.int (e:Int)]) (z_1:EvM v st e H Q)
def Ip:Sp:=fun vs H Q E=>FJ  vs H Q E
abbrev CT(P w K mg base):=Cal P w K mg base "every" 11 ["row","start","step"] Ip
theorem Rw.K5{r:Rw}(hl:r.rule.length=r.starts.length)(n m:Nat):(r.on n).at m=r.at (m+n):=by
 have h:=Rm.wD (b:=r.b) (rule:=r.rule) (starts:=r.starts) (w:=(r.on n).starts) (d:=n) hl (by show(Pm.ofF _ _).length=_;rw[Pm.aM,hl]) (fun i hi=>by
  have e:(r.on n).starts.getD i 0=Pm.co (Pm.ofF r.rule.length fun m=>r.at (m+n)) i:=rfl;have hi':i<r.rule.length:=by rw[<-Pm.aM r.rule.length fun m=>r.at (m+n)];exact hi
  rw[e,Pm.bI,if_pos hi',Nat.add_comm i n];rfl) m
 rw[Nat.add_comm m n];exact h
theorem Rw.La{r:Rw}(hl:r.rule.length=r.starts.length)(n m:Nat):(r.on n).on m=r.on (n+m):=by
 show(⟨r.b,r.rule,Pm.ofF r.rule.length fun k=>(r.on n).at (k+m)⟩:Rw)=⟨r.b,r.rule,Pm.ofF r.rule.length fun k=>r.at (k+(n+m))⟩;congr 1;unfold Pm.ofF;refine List.map_congr_left fun k _=>?_;rw[Rw.K5 hl,Nat.add_assoc,Nat.add_comm m n]
theorem RwF.on{r:Rw}{u n:Nat}(h:RwF r u)(hb:∀k,r.b=0->k<=n+12->Rm.Bd 10000 (r.at k)):RwF (r.on n) u:=by
 have h12:=h.vh;have hby:=h.ok.by1;refine⟨⟨by show _=(Pm.ofF _ _).length;rw[Pm.aM];rfl,h.ok.short,h.ok.by0,h.ok.by1,h.ok.mC,fun x hx=>?_,h.ok.dX,fun x hx=>?_⟩,h.one,h.vh,h.u10,h.u60,h.bd⟩
 ·obtain⟨k,_,rfl⟩:=Pm.fJ hx;exact h.ok.wJ _
 ·obtain⟨k,hk,rfl⟩:=Pm.fJ hx;by_cases z:r.b=0
  ·exact hb _ z (by omega)
  ·rcases h.ok.wJ (k+n)with y|y
   ·exact absurd y z
   ·exact(Rm.Bd.of (n:=10) (by omega) (by omega)).mono (by decide)
inductive Lp(vs:List V)(H:Hp)(Q:VK)(E:XK):Prop|mk (t:Addr) (xs:List Int) (z_0:vs=[.ref t]) (z_1:H t=some (.tup (xs.map V.int))) (z_2:xs.length<=1000) (z_3:sJ H Q (Pm.trim xs))
def U6:Sp:=fun vs H Q E=>Lp  vs H Q E
abbrev HC(P w K mg base):=Cal P w K mg base "_law_cut" 1 ["_law_numbers"] U6
inductive Gv(vs:List V)(H:Hp)(Q:VK)(E:XK):Prop|mk (v:V) (r:Rw) (n m u:Nat) (z_0:vs=[.int r.b,v,.int (n:Int),.int (m:Int)]) (z_1:gj H v r) (z_2:RwF r u) (z_3:n6 r u (n+m)) (z_4:Rm.Bd 300 (n:Int)) (z_5:Rm.Bd 300 (m:Int)) (z_6:∀H',Same H H'->Q (.bl true) H')
def KC:Sp:=fun vs H Q E=>Gv  vs H Q E
abbrev zU(P w K mg base):=Cal P w K mg base "_law_jumps" 5 ["_law_by","_law_row","_law_one","_law_other"] KC
theorem yw{c x:Int}{N:Nat}(hN:(10:Int)^N<2^290)(h0:(0:Int)<10^N):∃n:Nat,(n:Int)=c*x%10^N/\Rm.Bd 290 (n:Int):=by
 refine⟨(c*x%10^N).toNat,Int.toNat_of_nonneg (cJ _ h0),?_⟩;rw[Int.toNat_of_nonneg (cJ _ h0)];have h1:=cQ (c*x) h0;have h2:=cJ (c*x) h0;exact Rm.Bd.of (by omega) (Int.lt_trans h1 hN)
section
variable {P:Program} {w:World} {K:W.Frag} {mg:Str->Option Value} {base:Heap}
variable (B:Bt mg)
include B
theorem FW(F:Fn K mg "taken" xY ["by","number"]):fG P w K mg base:=by
 refine F.cal Gx (fun vs H Q E h=>?_) (fun f cdv A outer s H vs Q E hr h=>?_)
 ·obtain⟨b,n,rfl,_⟩:=h;rfl
 ·obtain⟨b,n,rfl,h0,q⟩:=h;refine⟨_,(ao (jy (aR (xeq K hr) (pv 0) aq (aZ _))
   (aF (aV (pv 1)))
   cY)
   (aF (aV (aH cO (pv 1) (pv 0))))),?_⟩
  refine⟨_,rfl,_,rfl,?_⟩;refine jW (fun c=>?_) (fun c=>?_)
  ·refine⟨_,rfl,?_⟩;have c':b=0:=dec_true c;have e:Rm.tk b n=n:=by rw[c',Rm.bf]
   rw[e]at q;exact q
  ·have c':¬b=0:=dec_false c;refine⟨_,rfl,_,rfl,_,_,rfl,rfl,(by omega:(0:Int)<b),?_⟩;rw[Rm.fP c']at q;exact q
theorem uh(F:Fn K mg "next_place" jX ["by","rule","before"])(aU:fG P w K mg base):pU P w K mg base:=by
 refine F.cal gJ (fun vs H Q E h=>?_) (fun f cdv A outer s H vs Q E hr h=>?_)
 ·obtain⟨b,r,s,rule,before,rfl,_⟩:=h;rfl
 ·obtain⟨b,r,s',rule,before,rfl,hb,hR,hS,hl,hl2,hl3,bR,bS,q⟩:=h;refine⟨_,(ao (aJ (i:=3) gJ.nd rfl (Or.inl rfl) aq)
   (ao (j6 PassesOwn.never rfl (bK rfl B.cu (aG (aL (iW K) rfl B.cL boot_len (aN (pv 1) ak)) ak)) (aX (i:=4) gJ.nd rfl (Or.inl rfl))
   (aF (aJ (i:=3) gJ.nd rfl (Or.inl rfl) (aH (fV K) (pv 3) (aH v_mul (bH (xix K) (pv 1) (pv 4) (fun _ _=>rfl)) (bH (xix K) (pv 2) (aH bV (aH bV (aL (iW K) rfl B.cL boot_len (aN (pv 2) ak)) aq) (pv 4)) (fun _ _=>rfl)))))))
   (aF (aV (au aU hr rfl (aN (pv 0) (aN (pv 3) ak))))))),?_⟩
  have lR:(rule.map V.int).length=rule.length:=List.length_map _;have lS:(before.map V.int).length=before.length:=List.length_map _;refine⟨_,rfl,.ref r,rule.length,rfl,.inr ⟨_,hR,lR.symm⟩,?_⟩;refine⟨(rule.length:Int),rfl,(by omega:-(2^62)<=(rule.length:Int)),(by omega:(rule.length:Int)<2^62),?_⟩;refine eY (lo:=0) (n:=(rule.length:Int).toNat) (fun i σ' H'=>∃o,σ'=[some (.int b),some (.ref r),some (.ref s'),some (.int (Rm.S rule (fun i=>before.getD i 0) before.length i)),o]/\H'=H) ⟨none,rfl,rfl⟩ ?_ ?_
  ·rintro i σ' H' hi ⟨o,rfl,rfl⟩;have hi':i<rule.length:=by omega
   have e0:(0:Int)+(i:Int)=(i:Int):=by omega
   have e1:(before.length:Int)-1-(0+(i:Int))=((before.length-1-i:Nat):Int):=by omega
   refine⟨_,rfl,?_⟩;refine⟨_,rfl,_,rfl,_,_,.inr hR,aW (ns:=rule) (by omega:(0:Int)<=0+(i:Int)) (by omega),?_⟩;refine⟨_,rfl,_,rfl,.ref s',before.length,rfl,.inl ⟨_,hS,lS.symm⟩,_,_,rfl,rfl,_,rfl,_,_,rfl,rfl,?_⟩;refine⟨_,_,.inl hS,aW (ns:=before) (by omega:(0:Int)<=(before.length:Int)-1-(0+(i:Int))) (by omega),?_⟩;refine⟨nR (Rm.Bd.getD bR _) (Rm.Bd.getD bS _) (by decide),?_⟩;refine⟨some (.int (0+(i:Int))),?_,rfl⟩;rw[e1,e0,Int.toNat_natCast,Int.toNat_natCast];rfl
  ·rintro σ' H' ⟨o,rfl,rfl⟩;refine⟨_,rfl,_,rfl,b,_,rfl,hb,?_⟩;rw[show(rule.length:Int).toNat=rule.length from Int.toNat_natCast _];exact q
theorem rF(F:Fn K mg "first_places" iK ["row","count"])(j5:pU P w K mg base):iG P w K mg base:=by
 refine F.cal cZ (fun vs H Q E h=>?_) (fun f cdv A outer s H vs Q E hr h=>?_)
 ·obtain⟨v,r,c,rfl,_⟩:=h;rfl
 ·obtain⟨v,r,c,rfl,⟨a,p,p2,rfl,hA,hR,hS⟩,ok,hc0,hc1,q⟩:=h;refine⟨_,(ao (aJ (i:=2) cZ.nd rfl (Or.inl rfl) (bH (xix K) (pv 0) aq (fun _ _=>rfl)))
   (ao (aJ (i:=3) cZ.nd rfl (Or.inl rfl) (bH (xix K) (pv 0) aq (fun _ _=>rfl)))
   (ao (aJ (i:=4) cZ.nd rfl (Or.inl rfl) (bH (xix K) (pv 0) aq (fun _ _=>rfl)))
   (ao (aJ (i:=5) cZ.nd rfl (Or.inl rfl) (C8 (bB (xlist K) rfl B.zR boot_list (aG (qw (xsl K) (pv 4) uf (uw (pv 1))) ak))))
   (ao (gH PassesOwn.never (aR sE (aL (iW K) rfl B.cL boot_len (aN (pv 5) ak)) (pv 1) (aZ _))
   (aF (jL (rM K (pv 5) (au j5 hr rfl (aN (pv 2) (aN (pv 3) (aN (pv 5) ak))))))))
   (aF (aV (pv 5)))))))),?_⟩
  have hl:=ok.len;have hl2:=ok.short;have lS:(r.starts.map V.int).length=r.starts.length:=List.length_map _;refine⟨_,rfl,_,_,.inr (SqT.of hA),rfl,?_⟩;refine⟨_,rfl,_,_,.inr (SqT.of hA),rfl,?_⟩;refine⟨_,rfl,_,_,.inr (SqT.of hA),rfl,?_⟩;have RH:vO (r.starts.map V.int) none (some c)=(r.row (min c.toNat r.starts.length)).map V.int:=by
   have e:r.row (min c.toNat r.starts.length)=r.starts.take (min c.toNat r.starts.length):=Rm.dR (Nat.min_le_right _ _);rw[e];have e2:c=((c.toNat:Nat):Int):=by omega
   unfold vO;rw[e2,HT.jk,HT.gG,List.drop_zero,Nat.sub_zero,lS,List.map_take,Int.toNat_natCast]
  refine Bar.by (fun v H1=>∃l,v = .ref l/\Same H H1/\H l=none/\H1 l=some (.lst ((r.row (min c.toNat r.starts.length)).map V.int))) (fun kk hkk=>?_) ?_
  ·refine⟨_,rfl,_,rfl,_,rfl,?_⟩;by_cases hw:r.starts.length<=c.toNat
   ·-- the whole of it
    refine .inr (.inr ⟨_,SqT.of hS,?_,?_⟩)
    ·have e2:c=((c.toNat:Nat):Int):=by omega
     rw[e2,HT.jk,HT.gG,lS];omega
    ·refine⟨p2,_,rfl,.inr (SqT.of hS),fun l hl1=>hkk _ _ ⟨l,rfl,Same.new hl1 _,hl1,?_⟩⟩;rw[aB,Nat.min_eq_right hw];have e:r.row r.starts.length=r.starts:=(Rm.dR (Nat.le_refl _)).trans (List.take_length ..);rw[e]
   ·refine .inr (.inl ⟨_,SqT.of hS,?_,fun p3 hp3=>?_⟩)
    ·have e2:c=((c.toNat:Nat):Int):=by omega
     rw[e2,HT.jk,HT.gG,lS];omega
    ·refine⟨p3,_,rfl,.inr (SqT.of aB),fun l hl1=>?_⟩;have g3:=Same.new hp3 (.tup (vO (r.starts.map V.int) none (some c)));refine hkk _ _ ⟨l,rfl,g3.trans (Same.new hl1 _),g3.free hl1,?_⟩;rw[aB,RH]
  rintro v H1 ⟨l,rfl,g1,hl1,hr1⟩;refine⟨fun m σ' H'=>∃n:Nat,m=c.toNat-n/\min c.toNat r.starts.length<=n/\n<=c.toNat/\σ'=[some (.ref a),some (.int c),some (.int r.b),some (.ref p),some (.ref p2),some (.ref l)]/\Same H H'/\H' l=some (.lst ((r.row n).map V.int)),
   ⟨_,min c.toNat r.starts.length,rfl,Nat.le_refl _,Nat.min_le_left _ _,rfl,g1,hr1⟩,?_⟩
  rintro m σ' H' ⟨n,rfl,h1,h2,rfl,g,hL⟩;have lL:((r.row n).map V.int).length=n:=by rw[List.length_map,Rw.dH]
  refine⟨_,rfl,.ref l,n,rfl,.inl ⟨_,SqL.of hL,lL.symm⟩,_,rfl,_,_,rfl,rfl,_,rfl,?_⟩;refine jW (fun cc=>?_) (fun cc=>?_)
  ·have hn:n<c.toNat:=by have:=dec_true cc;omega
   refine⟨_,fun _ _ z=>z,?_⟩;refine⟨_,rfl,.inl ⟨rfl,_,SqL.of hL⟩,_,rfl,_,rfl,_,rfl,r.b,p,l,r.rule,r.row n,rfl,ok.by0,SqT.of (g _ _ hR),SqL.of hL,?_,hl2,?_,ok.dX,ok.CQ n (by omega),?_⟩
   ·rw[Rw.dH];omega
   ·rw[Rw.dH];omega
   ·refine⟨l,_,_,rfl,rfl,hL,?_,?_⟩
    ·rw[lL];exact bN (by omega)
    ·refine⟨c.toNat-(n+1),by omega,n+1,rfl,by omega,by omega,rfl,g.upd hl1 _,?_⟩;rw[aB,Rw.dH];have e:r.row (n+1)=r.row n++[Rm.tk r.b (Rm.S r.rule (fun i=>(r.row n).getD i 0) n r.rule.length)]:=by
      show _++[if n<r.starts.length then r.starts.getD n 0 else _]=_;rw[if_neg (by omega)];rfl
     rw[e,List.map_append];rfl
  ·have hn:n=c.toNat:=by have:=dec_false cc;omega
   subst hn;refine⟨_,rfl,?_⟩;exact q l H' g hl1 hL
theorem yj(F:Fn K mg "is_prime" nZ ["number"]):tV P w K mg base:=by
 refine F.cal lQ (fun vs H Q E h=>?_) (fun f cdv A outer s H vs Q E hr h=>?_)
 ·obtain⟨n,rfl,_⟩:=h;rfl
 ·obtain⟨n,rfl,hn,q⟩:=h;refine⟨_,(ao (jy (aR sE (pv 0) aq (aZ _))
   (aF (aV yq))
   cY)
   (ao (aJ (i:=1) lQ.nd rfl (Or.inl rfl) aq)
   (ao (gH PassesOwn.never (aR Mu (aH v_mul (pv 1) (pv 1)) (pv 0) (aZ _))
   (ao (jy (aR (xeq K hr) (aH cO (pv 0) (pv 1)) aq (aZ _))
   (aF (aV yq))
   cY)
   (aF (aJ (i:=1) lQ.nd rfl (Or.inl rfl) (aH (fV K) (pv 1) aq)))))
   (aF (aV yq))))),?_⟩
  refine⟨_,rfl,_,_,rfl,rfl,_,rfl,?_⟩;refine jW (fun c=>?_) (fun c=>?_)
  ·have c':(n:Int)<2:=dec_true c;exact q false ⟨fun z=>absurd z (by decide),fun z=>by have:=z.1;omega⟩
  ·have c':¬(n:Int)<2:=dec_false c;refine⟨fun m σ' H'=>∃d:Nat,σ'=[some (.int n),some (.int (d:Int))]/\H'=H/\2<=d/\d<=n+1/\m=n+2-d/\∀e:Nat,2<=e->e<d->¬e∣n,⟨_,2,rfl,rfl,by omega,by omega,rfl,fun e h1 h2=>by omega⟩,?_⟩;rintro m σ' H' ⟨d,rfl,rfl,h2,hdn,rfl,hd⟩;refine⟨_,rfl,_,rfl,mulL (by omega) (by omega),_,rfl,_,_,rfl,rfl,_,rfl,?_⟩;refine jW (fun c2=>?_) (fun c2=>?_)
   ·have c2':(d:Int)*d<=n:=dec_true c2;have c2n:d*d<=n:=by exact_mod_cast c2'
    have hdl:d*1<=d*d:=Nat.mul_le_mul_left d (by omega);refine⟨_,fun _ _ z=>z,?_⟩;refine⟨_,rfl,_,rfl,_,_,rfl,rfl,(by omega:(0:Int)<(d:Int)),?_⟩;refine⟨_,rfl,?_⟩;refine jW (fun c3=>?_) (fun c3=>?_)
    ·have c3':(n:Int)%(d:Int)=0:=dec_true c3;have hdv:d∣n:=Int.ofNat_dvd.mp (Int.dvd_of_emod_eq_zero c3');exact q false ⟨fun z=>absurd z (by decide),fun z=>absurd z (Om.Cv h2 c2n hdv)⟩
    ·have c3':¬(n:Int)%(d:Int)=0:=dec_false c3;refine⟨_,rfl,?_⟩;exact⟨n+2-(d+1),by omega,d+1,by simp,rfl,by omega,by omega,rfl,fun e h1 h3=>by
      rcases Nat.lt_or_ge e d with z|z
      ·exact hd e h1 z
      ·have:e=d:=by omega
       subst this;exact fun z=>c3' (Int.emod_eq_zero_of_dvd (Int.ofNat_dvd.mpr z))⟩
   ·have c2':¬(d:Int)*d<=n:=dec_false c2;have c2n:¬d*d<=n:=fun z=>c2' (by exact_mod_cast z);exact q true ⟨fun _=>Om.rO (by omega) fun e h1 h3 hdv=>by
     by_cases c4:e<d
     ·exact hd e h1 c4 hdv
     ·have:d*d<=e*e:=Nat.mul_le_mul (by omega) (by omega);omega,fun _=>rfl⟩
theorem sU(F:Fn K mg "prime_above" jq ["number"])(pI:tV P w K mg base):nK P w K mg base:=by
 refine F.cal iH (fun vs H Q E h=>?_) (fun f cdv A outer s H vs Q E hr h=>?_)
 ·obtain⟨n,q,rfl,_⟩:=h;rfl
 ·obtain⟨n,q',rfl,hq,hnq,hqb,q⟩:=h;refine⟨_,(ao (aJ (i:=1) iH.nd rfl (Or.inl rfl) (aH (fV K) (pv 0) aq))
   (ao (gH PassesOwn.never (vQ (vg (au pI hr rfl (aN (pv 1) ak))))
   (aF (aJ (i:=1) iH.nd rfl (Or.inl rfl) (aH (fV K) (pv 1) aq))))
   (aF (aV (pv 1))))),?_⟩
  refine⟨_,rfl,?_⟩;refine⟨fun m σ' H'=>∃f:Nat,σ'=[some (.int n),some (.int (f:Int))]/\H'=H/\n<f/\f<=q'/\m=q'-f,⟨_,n+1,rfl,rfl,by omega,by omega,rfl⟩,?_⟩;rintro m σ' H' ⟨f,rfl,rfl,h1,h2,rfl⟩;refine⟨_,rfl,f,rfl,by omega,fun b hb=>?_⟩;refine⟨b,rfl,?_⟩;cases b with
  |false=>
   refine⟨_,fun _ _ z=>z,?_⟩;refine⟨_,rfl,?_⟩;have hne:f≠q':=fun e=>absurd (hb.mpr (e▸hq)) (by decide);exact⟨q'-(f+1),by omega,f+1,rfl,rfl,by omega,by omega,rfl⟩
  |true=>
   refine⟨_,rfl,?_⟩;exact q f (hb.mp rfl) h1 h2
theorem BD(F:Fn K mg "inverse" rT ["prime","number"])(aU:fG P w K mg base):vq P w K mg base:=by
 refine F.cal fL (fun vs H Q E h=>?_) (fun f cdv A outer s H vs Q E hr h=>?_)
 ·obtain⟨P,a,rfl,_⟩:=h;rfl
 ·obtain⟨P',a,rfl,hP,hPb,h0,h1,q⟩:=h;have hr2:2<=P'/\P'<2097152:=⟨hP.1,hPb⟩;refine⟨_,(ao (aJ (i:=2) fL.nd rfl (Or.inl rfl) aq)
   (ao (aJ (i:=3) fL.nd rfl (Or.inl rfl) (pv 1))
   (ao (aJ (i:=4) fL.nd rfl (Or.inl rfl) (aH bV (pv 0) aq))
   (ao (gH PassesOwn.never (aR qX (pv 4) aq (aZ _))
   (ao (tE (jy (aR (xeq K hr) (aH cO (pv 4) aq) aq (aZ _))
   (aF (aJ (i:=2) fL.nd rfl (Or.inl rfl) (au aU hr rfl (aN (pv 0) (kY (aH v_mul (pv 2) (pv 3)) ak)))))
   cY))
   (ao (aJ (i:=3) fL.nd rfl (Or.inl rfl) (au aU hr rfl (aN (pv 0) (kY (aH v_mul (pv 3) (pv 3)) ak))))
   (aF (aJ (i:=4) fL.nd rfl (Or.inl rfl) (aH yS (pv 4) aq))))))
   (aF (aV (pv 2))))))),?_⟩
  refine⟨_,rfl,?_⟩;refine⟨_,rfl,_,_,rfl,rfl,?_⟩;have e0:((P':Int)-2).toNat=P'-2:=by omega
  refine⟨fun m σ' H'=>∃power square left:Int,σ'=[some (.int P'),some (.int a),some (.int power),some (.int square),some (.int left)]/\H'=H/\m=left.toNat/\0<=power/\power<2097152/\0<=square/\square<2097152/\0<=left/\Om.Keeps P' a (P'-2) power square left.toNat,
   ⟨_,1,a,(P':Int)-2,rfl,rfl,rfl,by decide,by decide,by omega,by omega,by omega,by rw[e0];exact Om.yL _ _ _⟩,?_⟩
  rintro m σ' H' ⟨power,square,left,rfl,rfl,rfl,p0,p1,s0,s1,l0,hk⟩;refine⟨_,rfl,_,_,rfl,rfl,_,rfl,?_⟩;refine jW (fun c=>?_) (fun c=>?_)
  ·have c':0<left:=dec_true c;refine⟨_,fun _ _ z=>z,?_⟩;have hpos:(0:Int)<(P':Int):=by omega
   have tkP:∀n,Rm.tk (P':Int) n=n%(P':Int):=fun n=>Rm.fP (by omega) n;refine Hl.by (fun σ' H2=>∃power':Int,σ'=[some (.int P'),some (.int a),some (.int power'),some (.int square),some (.int left)]/\H2=H'/\((left%2=1/\power'=power*square%(P':Int))∨(¬left%2=1/\power'=power))) (fun N hN=>?_) ?_
   ·refine⟨_,rfl,_,_,rfl,rfl,(by decide:(0:Int)<2),_,rfl,?_⟩;refine jW (fun c2=>?_) (fun c2=>?_)
    ·refine⟨_,rfl,_,rfl,_,rfl,mulL (by omega) (by omega),P',_,rfl,by omega,?_⟩;exact hN _ _ ⟨_,rfl,rfl,.inl ⟨dec_true c2,tkP _⟩⟩
    ·exact hN _ _ ⟨_,rfl,rfl,.inr ⟨dec_false c2,rfl⟩⟩
   rintro σ' H2 ⟨power',rfl,rfl,hp⟩;refine⟨_,rfl,_,rfl,_,rfl,mulL (by omega) (by omega),P',_,rfl,by omega,?_⟩;refine⟨_,rfl,_,_,rfl,rfl,⟨by decide,by decide⟩,?_⟩;have b1:=cJ (square*square) hpos;have b2:=cQ (square*square) hpos;have b3:=cJ (power*square) hpos;have b4:=cQ (power*square) hpos;have el:(left/2).toNat=left.toNat/2:=by omega
   refine⟨_,?_,power',square*square%(P':Int),left/2,by rw[tkP];rfl,rfl,rfl,?_,?_,b1,by omega,by omega,?_⟩
   ·omega
   ·rcases hp with⟨_,rfl⟩|⟨_,rfl⟩
    ·exact b3
    ·exact p0
   ·rcases hp with⟨_,rfl⟩|⟨_,rfl⟩
    ·omega
    ·exact p1
   ·rw[el];rcases hp with⟨hodd,rfl⟩|⟨hodd,rfl⟩
    ·exact Om.Eh hk (by omega)
    ·exact Om.Bh hk (by omega)
  ·have c':left=0:=by have:=dec_false c;omega
   subst c';refine⟨_,rfl,?_⟩;exact q power p0 p1 (Om.D4 hk)
theorem Kr(F:Fn K mg "over" DR ["by","one","other"])(aU:fG P w K mg base)(rC:vq P w K mg base):Eo P w K mg base:=by
 refine F.cal Ja (fun vs H Q E h=>?_) (fun f cdv A outer s H vs Q E hr h=>?_)
 ·obtain⟨P,one,other,rfl,_⟩:=h;rfl
 ·obtain⟨P',one,other,rfl,hP,hPb,o0,o1,q⟩:=h;refine⟨_,(ao (jy (aR (xeq K hr) (pv 0) aq (aZ _))
   (aF ql)
   cY)
   (ao (jy (aR (xeq K hr) (au aU hr rfl (aN (pv 0) (aN (pv 2) ak))) aq (aZ _))
   (aF ql)
   cY)
   (aF (aV (au aU hr rfl (aN (pv 0) (kY (aH v_mul (pv 1) (au rC hr rfl (aN (pv 0) (aN (pv 2) ak)))) ak))))))),?_⟩
  have hr2:2<=P'/\P'<2097152:=⟨hP.1,hPb⟩;refine⟨_,rfl,_,rfl,?_⟩;refine jW (fun c=>absurd (dec_true c) (by omega)) (fun _=>?_);have tkP:∀n,Rm.tk (P':Int) n=n%(P':Int):=fun n=>Rm.fP (by omega) n;refine⟨_,rfl,_,rfl,P',other,rfl,by omega,_,rfl,?_⟩;have et:Rm.tk (P':Int) other=other:=by rw[tkP];exact Int.emod_eq_of_lt (by omega) o1
  rw[et];refine jW (fun c2=>absurd (dec_true c2) (by omega)) (fun _=>?_);refine⟨_,rfl,_,rfl,_,rfl,_,rfl,P',other,rfl,hP,hPb,o0,o1,fun x x0 x1 hx=>?_⟩;refine⟨mulR (by omega) (by omega),P',_,rfl,by omega,?_⟩;rw[tkP,Om.mod_mul (rfl:one%(P':Int)=one%(P':Int)) hx];exact q
theorem Al(F:Fn K mg "trimmed" qM ["numbers"]):jO P w K mg base:=by
 refine F.cal pB (fun vs H Q E h=>?_) (fun f cdv A outer s H vs Q E hr h=>?_)
 ·obtain⟨l,xs,rfl,_⟩:=h;rfl
 ·obtain⟨l,xs,rfl,hL,q⟩:=h;refine⟨_,(ao (aJ (i:=1) pB.nd rfl (Or.inl rfl) (aL (iW K) rfl B.cL boot_len (aN (pv 0) ak)))
   (ao (gH PassesOwn.never (PW.pt (wR (aR qX (pv 1) aq (aZ _)) (rH (aR (xeq K hr) (bH (xix K) (pv 0) (aH bV (pv 1) aq) (fun _ _=>rfl)) aq (aZ _)))))
   (aF (aJ (i:=1) pB.nd rfl (Or.inl rfl) (aH bV (pv 1) aq))))
   (aF (aV (bB (gw K) rfl B.dD boot_tuple (aG (qw (xsl K) (pv 0) uf (uw (pv 1))) ak)))))),?_⟩
  have lL:(xs.map V.int).length=xs.length:=List.length_map _;refine⟨_,rfl,.ref l,xs.length,rfl,.inl ⟨_,hL,lL.symm⟩,?_⟩;refine⟨fun m σ' H'=>∃n:Nat,m=n/\n<=xs.length/\σ'=[some (.ref l),some (.int (n:Int))]/\H'=H/\Pm.trim (xs.take n)=Pm.trim xs,⟨_,xs.length,rfl,Nat.le_refl _,rfl,rfl,by rw[List.take_length]⟩,?_⟩;rintro m σ' H' ⟨n,e0,hn,rfl,rfl,ht⟩;refine⟨_,rfl,_,_,rfl,rfl,_,rfl,?_⟩;refine jW (fun c=>?_) (fun c=>yV ?_)
  ·have h0:0<n:=by have:=dec_true c;omega
   have e1:((n:Int)-1).toNat=n-1:=by omega
   refine⟨_,rfl,_,rfl,_,_,rfl,rfl,_,_,.inl hL,aW (ns:=xs) (by omega:(0:Int)<=(n:Int)-1) (by omega),_,rfl,?_⟩;refine jW (fun c2=>?_) (fun c2=>?_)
   ·have hz:=dec_true c2;rw[e1]at hz;refine⟨_,fun _ _ z=>z,?_⟩;refine⟨_,rfl,_,_,rfl,rfl,?_⟩;refine⟨n-1,by omega,n-1,rfl,by omega,?_,rfl,vB h0 hn ht hz⟩;rw[show((n-1:Nat):Int)=(n:Int)-1 by omega];rfl
   ·have hz:=dec_false c2;rw[e1]at hz;refine⟨_,rfl,_,rfl,_,rfl,.inl ⟨_,hL,fun p hp=>?_⟩⟩;refine⟨p,_,rfl,.inl ⟨SqL.of aB,fun p2 hp2=>?_⟩⟩;refine q p2 _ ((Same.new hp _).trans (Same.new hp2 _)) ?_;rw[aB,Eb,<-List.map_take,mV hn ht (.inr hz)]
  ·have h0:n=0:=by have:=dec_false c;omega
   refine⟨_,rfl,_,rfl,_,rfl,.inl ⟨_,hL,fun p hp=>?_⟩⟩;refine⟨p,_,rfl,.inl ⟨SqL.of aB,fun p2 hp2=>?_⟩⟩;refine q p2 _ ((Same.new hp _).trans (Same.new hp2 _)) ?_;rw[aB,Eb,<-List.map_take,mV hn ht (.inl h0)]
theorem vD(F:Fn K mg "number_at" mK ["poly","k"]):qO P w K mg base:=by
 refine F.cal vG (fun vs H Q E h=>?_) (fun f cdv A outer s H vs Q E hr h=>?_)
 ·obtain⟨a,p,k,rfl,_⟩:=h;rfl
 ·obtain⟨a,p,k,rfl,hA,h0,q⟩:=h;refine⟨_,(aF (aV (qu (aR sE (pv 1) (aL (iW K) rfl B.cL boot_len (aN (pv 0) ak)) (aZ _)) (bH (xix K) (pv 0) (pv 1) (fun _ _=>rfl)) aq))),?_⟩;have lP:(p.map V.int).length=p.length:=List.length_map _;refine⟨_,rfl,_,rfl,.ref a,p.length,rfl,.inr ⟨_,SqT.of hA,lP.symm⟩,_,_,rfl,rfl,_,rfl,?_⟩;refine jW (fun c=>?_) (fun c=>?_)
  ·exact⟨_,rfl,_,rfl,_,_,.inr (SqT.of hA),aW (ns:=p) h0 (dec_true c),q⟩
  ·have c':=dec_false c;have e:Pm.co p k.toNat=0:=Pm.bh (by omega);rw[e]at q;exact q
theorem Gj(F:Fn K mg "times" yR ["by","one","other"])(aU:fG P w K mg base)(cM:jO P w K mg base):xK P w K mg base:=by
 refine F.cal qg (fun vs H Q E h=>?_) (fun f cdv A outer s H vs Q E hr h=>?_)
 ·obtain⟨b,a,c,p,r,rfl,_⟩:=h;rfl
 ·obtain⟨b,a,c,p,r,rfl,hb,hA,hC,zA,zC,bA,bC,q⟩:=h;refine⟨_,(ao (aJ (i:=3) qg.nd rfl (Or.inl rfl) (aH v_mul (jg (fO aq ak)) (aH (fV K) (aL (iW K) rfl B.cL boot_len (aN (pv 1) ak)) (aL (iW K) rfl B.cL boot_len (aN (pv 2) ak)))))
   (ao (j6 PassesOwn.never rfl (bK rfl B.cu (aG (aL (iW K) rfl B.cL boot_len (aN (pv 1) ak)) ak)) (aX (i:=4) qg.nd rfl (Or.inl rfl))
   (aF (j6 PassesOwn.never rfl (bK rfl B.cu (aG (aL (iW K) rfl B.cL boot_len (aN (pv 2) ak)) ak)) (aX (i:=5) qg.nd rfl (Or.inl rfl))
   (aF (rJ (au aU hr rfl (aN (pv 0) (kY (aH (fV K) (bH (xix K) (pv 3) (aH (fV K) (pv 4) (pv 5)) (fun _ _=>rfl)) (aH v_mul (bH (xix K) (pv 1) (pv 4) (fun _ _=>rfl)) (bH (xix K) (pv 2) (pv 5) (fun _ _=>rfl)))) ak))) (vf (pv 3) (aH (fV K) (pv 4) (pv 5)) set_list))))))
   (aF (aV (au cM hr rfl (aN (pv 3) ak)))))),?_⟩
  have lP:(p.map V.int).length=p.length:=List.length_map _;have lR:(r.map V.int).length=r.length:=List.length_map _;refine⟨(by show 1<=sizeLine;decide),fun l0 h0=>?_⟩;have g0:=Same.new h0 (.lst [.int 0]);refine⟨_,rfl,.ref a,p.length,rfl,.inr ⟨_,SqT.of (g0 _ _ hA),lP.symm⟩,_,rfl,.ref c,r.length,rfl,.inr ⟨_,SqT.of (g0 _ _ hC),lR.symm⟩,?_⟩;have en:((p.length:Int)+(r.length:Int)).toNat=p.length+r.length:=by omega
  refine⟨_,aB,(by omega:-(2^63)<=(p.length:Int)+(r.length:Int)),(by omega:(p.length:Int)+(r.length:Int)<2^63),?_,fun l hl=>?_⟩
  ·rw[en];show 1*(p.length+r.length)<=sizeLine;rw[Nat.one_mul];exact Nat.le_of_lt (bN (by omega))
  have g1:=g0.trans (Same.new hl (.lst (List.replicate ((p.length:Int)+(r.length:Int)).toNat [V.int 0]).flatten));have hl0:H l=none:=g0.free hl;refine⟨_,rfl,.ref a,p.length,rfl,.inr ⟨_,SqT.of (g1 _ _ hA),lP.symm⟩,?_⟩;refine⟨(p.length:Int),rfl,(by omega:-(2^62)<=(p.length:Int)),(by omega:(p.length:Int)<2^62),?_⟩;refine eY (lo:=0) (n:=(p.length:Int).toNat) (fun i σ' H'=>∃o4 o5 L,σ'=[some (.int b),some (.ref a),some (.ref c),some (.ref l),o4,o5]/\Same H H'/\H' l=some (.lst (L.map V.int))/\L.length=p.length+r.length/\∀k,Pm.co L k=Rm.tk b (Pm.W (Pm.co p) (Pm.co r) i 0 k))
   ⟨_,_,Pm.ofF (p.length+r.length) (fun _=>0),rfl,g1,(by rw[aB,en,ju]),Pm.aM _ _,fun k=>by rw[Pm.bI,Pm.Ms,Pm.tk0];split<;>rfl⟩ ?_ ?_
  ·rintro i σ' H' hi ⟨o4,o5,L,rfl,g,hL,zL,hW⟩;have hi':i<p.length:=by omega
   refine⟨_,rfl,.ref c,r.length,rfl,.inr ⟨_,SqT.of (g _ _ hC),lR.symm⟩,?_⟩;refine⟨(r.length:Int),rfl,(by omega:-(2^62)<=(r.length:Int)),(by omega:(r.length:Int)<2^62),?_⟩;refine eY (lo:=0) (n:=(r.length:Int).toNat) (fun k σ' H'=>∃o5 L,σ'=[some (.int b),some (.ref a),some (.ref c),some (.ref l),some (.int (0+(i:Int))),o5]/\Same H H'/\H' l=some (.lst (L.map V.int))/\L.length=p.length+r.length/\∀j,Pm.co L j=Rm.tk b (Pm.W (Pm.co p) (Pm.co r) i k j))
    ⟨_,L,rfl,g,hL,zL,hW⟩ ?_ ?_
   ·rintro k σ' H2 hk ⟨o5,L,rfl,g,hL,zL,hW⟩;have hk':k<r.length:=by omega
    have lL:(L.map V.int).length=L.length:=List.length_map _;have e1:(0+(i:Int)+(0+(k:Int))).toNat=i+k:=by omega
    have e2:(0+(i:Int)).toNat=i:=by omega
    have e3:(0+(k:Int)).toNat=k:=by omega
    refine⟨_,rfl,_,rfl,_,rfl,_,rfl,_,_,.inl (SqL.of hL),aW (ns:=L) (by omega:(0:Int)<=0+(i:Int)+(0+(k:Int))) (by omega),?_⟩;refine⟨_,rfl,_,rfl,_,_,.inr (SqT.of (g _ _ hA)),aW (ns:=p) (by omega:(0:Int)<=0+(i:Int)) (by omega),?_⟩;refine⟨_,rfl,_,rfl,_,_,.inr (SqT.of (g _ _ hC)),aW (ns:=r) (by omega:(0:Int)<=0+(k:Int)) (by omega),?_⟩;refine⟨nR (Rm.Bd.getD bA _) (Rm.Bd.getD bC _) (by decide),?_⟩;refine⟨b,_,rfl,hb,?_⟩;refine⟨_,rfl,_,rfl,_,rfl,l,_,_,i+k,rfl,rfl,hL,wu (by omega) (by rw[lL];omega),?_⟩;refine⟨_,L.set (i+k) _,rfl,g.upd hl0 _,(by rw[aB,gY]),(by rw[List.length_set];exact zL),fun j=>?_⟩;rw[Pm.pK _ _ _ _ (by omega),Pm.MH,e1,e2,e3];by_cases ej:j=i+k
    ·have hw:=hW j;rw[if_pos ej,if_pos ej];rw[ej]at hw⊢;rw[<-Rm.bU b (Pm.W (Pm.co p) (Pm.co r) i k (i+k)),<-hw];rfl
    ·rw[if_neg ej,if_neg ej,Int.add_zero];exact hW j
   ·rintro σ' H2 ⟨o5,L,rfl,g,hL,zL,hW⟩;refine⟨_,_,L,rfl,g,hL,zL,fun k=>?_⟩;rw[hW k,Int.toNat_natCast,Pm.Te fun k hk=>Pm.bh hk]
  ·rintro σ' H' ⟨o4,o5,L,rfl,g,hL,zL,hW⟩;refine⟨_,rfl,l,L,rfl,SqL.of hL,fun t H2 g2 ht=>q t H2 (g.trans g2) ?_⟩;have e:Pm.trim L=Pm.mul b p r:=by
    refine Pm.j8 fun k=>?_;rw[hW k,Int.toNat_natCast,Pm.J3 fun k hk=>Pm.bh hk,Pm.bI];split
    ·rfl
    ·rw[<-Pm.u5,Pm.mul,Pm.f9,Pm.bI,if_neg (by assumption)]
   rw[<-e];exact ht
theorem A9(F:Fn K mg "divided" qG ["by","one","other"])(aU:fG P w K mg base)(cM:jO P w K mg base):jf P w K mg base:=by
 refine F.cal fB (fun vs H Q E h=>?_) (fun f cdv A outer s H vs Q E hr h=>?_)
 ·obtain⟨b,a,c,P,M,rfl,_⟩:=h;rfl
 ·obtain⟨b,a,c,P,M,rfl,hb,hb1,hA,hC,zA,zC,hM,nP,bA,bC,q⟩:=h;refine⟨_,(ao (aJ (i:=3) fB.nd rfl (Or.inl rfl) (aH bV (aL (iW K) rfl B.cL boot_len (aN (pv 2) ak)) aq))
   (ao (aJ (i:=4) fB.nd rfl (Or.inl rfl) (aH v_mul (jg (fO aq ak)) (aL (Dl rfl) rfl B.Tw boot_max (fO aq (kY (aH bV (aL (iW K) rfl B.cL boot_len (aN (pv 1) ak)) (pv 3)) ak)))))
   (ao (aJ (i:=5) fB.nd rfl (Or.inl rfl) (bB (xlist K) rfl B.zR boot_list (aN (pv 1) ak)))
   (ao (j6 PassesOwn.never rfl (wk rfl B.cu (kY (aH bV (aL (iW K) rfl B.cL boot_len (aN (pv 4) ak)) aq) (KR (vZ pX aq) (KR (vZ pX aq) ak)))) (aX (i:=6) fB.nd rfl (Or.inl rfl))
   (ao (aJ (i:=7) fB.nd rfl (Or.inl rfl) (bH (xix K) (pv 5) (aH (fV K) (pv 6) (pv 3)) (fun _ _=>rfl)))
   (ao (rJ (pv 7) (vf (pv 4) (pv 6) set_list))
   (aF (j6 PassesOwn.never rfl (bK rfl B.cu (aG (aL (iW K) rfl B.cL boot_len (aN (pv 2) ak)) ak)) (aX (i:=8) fB.nd rfl (Or.inl rfl))
   (aF (rJ (au aU hr rfl (aN (pv 0) (kY (aH bV (bH (xix K) (pv 5) (aH (fV K) (pv 6) (pv 8)) (fun _ _=>rfl)) (aH v_mul (pv 7) (bH (xix K) (pv 2) (pv 8) (fun _ _=>rfl)))) ak))) (vf (pv 5) (aH (fV K) (pv 6) (pv 8)) set_list))))))))
   (aF (aV (lF (aG (au cM hr rfl (aN (pv 4) ak)) (aG (au cM hr rfl (aN (pv 5) ak)) ak))))))))),?_⟩
  have lP:(P.map V.int).length=P.length:=List.length_map _;have lM:(M.map V.int).length=M.length:=List.length_map _;have hMp:=hM.pos;refine⟨_,rfl,.ref c,M.length,rfl,.inr ⟨_,SqT.of hC,lM.symm⟩,_,_,rfl,rfl,?_⟩;refine⟨(by show 1<=sizeLine;decide),fun l0 h0=>?_⟩;have g0:=Same.new h0 (.lst [.int 0]);refine⟨_,rfl,.ref a,P.length,rfl,.inr ⟨_,SqT.of (g0 _ _ hA),lP.symm⟩,_,rfl,_,_,rfl,rfl,_,_,rfl,?_⟩;have en:(if(P.length:Int)-((M.length:Int)-1)>0 then(P.length:Int)-((M.length:Int)-1)else 0).toNat=P.length-(M.length-1):=(max_zero P.length M.length).resolve_right (by omega);refine⟨_,aB,?_,?_,?_,fun lo hlo=>?_⟩
  ·split<;>omega
  ·split<;>omega
  ·rw[en];show 1*(P.length-(M.length-1))<=sizeLine;rw[Nat.one_mul];exact Nat.le_of_lt (bN (by omega))
  rw[en,ju];have Wv:H lo=none:=g0.free hlo;have g1:=g0.trans (Same.new hlo (.lst ((Pm.ofF (P.length-(M.length-1)) fun _=>0).map V.int)));have hO0:(upd (upd H l0 (.lst [.int 0])) lo (.lst ((Pm.ofF (P.length-(M.length-1)) fun _=>0).map V.int))) lo=some (.lst ((Pm.ofF (P.length-(M.length-1)) fun _=>0).map V.int)):=aB;generalize upd (upd H l0 (.lst [.int 0])) lo (.lst ((Pm.ofF (P.length-(M.length-1)) fun _=>0).map V.int))=H1 at g1 hO0;refine⟨_,rfl,a,_,rfl,.inr (SqT.of (g1 _ _ hA)),fun ll hll=>?_⟩;have Xf:H ll=none:=g1.free hll;have hne:lo≠ll:=dU hO0 hll;have gll:=Same.new hll (.lst (P.map V.int));have g2:=g1.trans gll;have hO2:=gll _ _ hO0;have hL2:(upd H1 ll (.lst (P.map V.int))) ll=some (.lst (P.map V.int)):=aB;generalize upd H1 ll (.lst (P.map V.int))=H2 at gll g2 hO2 hL2;generalize hn:P.length-(M.length-1)=n at hO2;refine⟨_,rfl,.ref lo,n,rfl,.inl ⟨_,SqL.of hO2,by rw[List.length_map,Pm.aM]⟩,_,_,rfl,rfl,_,rfl,_,rfl,(n:Int)-1,-1,rfl,⟨by omega,by omega,by omega,by omega⟩,?_⟩;refine zN (lo:=(n:Int)-1) (n:=((n:Int)-1-(-1)).toNat) (fun i σ' H'=>∃o6 o7 o8 O L,σ'=[some (.int b),some (.ref a),some (.ref c),some (.int ((M.length:Int)-1)),some (.ref lo),some (.ref ll),o6,o7,o8]/\Same H H'/\H' lo=some (.lst (List.map V.int O))/\H' ll=some (.lst (List.map V.int L))/\Pm.DP b P M (n-i) O L/\(∀k,Rm.Bd (900000+i*124001) (Pm.co O k))/\∀k,Rm.Bd (900000+i*124001) (Pm.co L k))
   ⟨_,_,_,_,P,rfl,g2,hO2,hL2,(by rw[Nat.sub_zero,<-hn];exact Pm.DP.start nP),fun k=>by rw[Pm.bI];split<;>exact Rm.Bd.zero _,fun k=>(Pm.mD bA k).mono (by omega)⟩ ?_ ?_
  ·rintro i σ' H' hi ⟨o6,o7,o8,O,L,rfl,g,hO,hL,I,bO,bL⟩;have hi':i<n:=by omega
   have hs:n-i=n-(i+1)+1:=by omega
   rw[hs]at I;generalize es:n-(i+1)=s at I;have esI:(n:Int)-1-(i:Int)=(s:Int):=by omega
   rw[esI];have hlL:=I.ll;have hlO:=I.ol;have lO:(O.map V.int).length=O.length:=List.length_map _;have e1:((s:Int)+((M.length:Int)-1)).toNat=s+(M.length-1):=by omega
   refine⟨_,rfl,_,rfl,_,rfl,_,_,.inl (SqL.of hL),aW (ns:=L) (by omega:(0:Int)<=(s:Int)+((M.length:Int)-1)) (by omega),?_⟩;rw[e1];have hF:Rm.Bd (900000+i*124001) (L.getD (s+(M.length-1)) 0):=bL _;have eF:L.getD (s+(M.length-1)) 0=Pm.co L (s+(M.length-1)):=rfl;rw[eF]at hF⊢;generalize hf:Pm.co L (s+(M.length-1))=f at hF;refine⟨_,rfl,_,rfl,_,rfl,lo,_,_,s,rfl,rfl,hO,wu rfl (by rw[lO];omega),?_⟩;have hO3:(upd H' lo (.lst ((O.map V.int).set s (.int f)))) lo=some (.lst ((O.set s f).map V.int)):=by rw[aB,gY]
   have hL3:(upd H' lo (.lst ((O.map V.int).set s (.int f)))) ll=some (.lst (L.map V.int)):=by rw[eG hne.symm];exact hL
   have g3:=g.upd Wv (.lst ((O.map V.int).set s (.int f)));generalize upd H' lo (.lst ((O.map V.int).set s (.int f)))=H3 at hO3 hL3 g3;refine⟨_,rfl,.ref c,M.length,rfl,.inr ⟨_,SqT.of (g3 _ _ hC),lM.symm⟩,?_⟩;refine⟨(M.length:Int),rfl,(by omega:-(2^62)<=(M.length:Int)),(by omega:(M.length:Int)<2^62),?_⟩;refine eY (lo:=0) (n:=(M.length:Int).toNat) (fun t σ' H'=>∃o8 L',σ'=[some (.int b),some (.ref a),some (.ref c),some (.int ((M.length:Int)-1)),some (.ref lo),some (.ref ll),some (.int (s:Int)),some (.int f),o8]/\Same H H'/\H' lo=some (.lst ((O.set s f).map V.int))/\H' ll=some (.lst (List.map V.int L'))/\L'.length=L.length/\∀k,Pm.co L' k=Pm.lf b f s t L M k)
    ⟨_,L,rfl,g3,hO3,hL3,rfl,fun k=>(Pm.J2 ..).symm⟩ ?_ ?_
   ·rintro t σ' H4 ht ⟨o8,L',rfl,g4,hO4,hL4,zL',eL'⟩;have ht':t<M.length:=by omega
    have lL':(L'.map V.int).length=L'.length:=List.length_map _;have e2:((s:Int)+(0+(t:Int))).toNat=s+t:=by omega
    have e3:(0+(t:Int)).toNat=t:=by omega
    refine⟨_,rfl,_,rfl,_,rfl,_,rfl,_,_,.inl (SqL.of hL4),aW (ns:=L') (by omega:(0:Int)<=(s:Int)+(0+(t:Int))) (by omega),?_⟩;refine⟨_,rfl,_,rfl,_,rfl,_,_,.inr (SqT.of (g4 _ _ hC)),aW (ns:=M) (by omega:(0:Int)<=0+(t:Int)) (by omega),?_⟩;refine⟨nR hF (Rm.Bd.getD bC _) (by have:i*124001<=40*124001:=Nat.mul_le_mul_right _ (by omega);omega),_,_,rfl,rfl,?_⟩;refine⟨b,_,rfl,hb,?_⟩;refine⟨_,rfl,_,rfl,_,rfl,ll,_,_,s+t,rfl,rfl,hL4,wu (by omega) (by rw[lL'];omega),?_⟩;refine⟨_,L'.set (s+t) _,rfl,g4.upd Xf _,(by rw[eG hne];exact hO4),(by rw[aB,gY]),(by rw[List.length_set];exact zL'),fun k=>?_⟩;rw[Pm.pK _ _ _ _ (by omega),Pm.Ks,e2,e3,<-eL' k];by_cases ek:k=s+t
    ·rw[if_pos ek,if_pos ek,ek];rfl
    ·rw[if_neg ek,if_neg ek]
   ·rintro σ' H4 ⟨o8,L',rfl,g4,hO4,hL4,zL',eL'⟩;rw[Int.toNat_natCast]at eL';refine⟨_,_,_,O.set s f,L',rfl,g4,hO4,hL4,?_,fun k=>?_,fun k=>?_⟩
    ·rw[<-hf];rw[<-hf]at eL';exact I.step hM (by omega) zL' eL'
    ·rw[Pm.pK _ _ _ _ (by omega)];split
     ·exact hF.mono (by omega)
     ·exact(bO k).mono (by omega)
    ·rw[eL' k];exact(Pm.Ny hb hb1 (by omega) hF bL bC k).mono (by omega)
  ·rintro σ' H' ⟨o6,o7,o8,O,L,rfl,g,hO,hL,I,bO,bL⟩;have e9:((n:Int)-1-(-1)).toNat=n:=by omega
   rw[e9]at I bO bL;rw[Nat.sub_self]at I;refine⟨_,rfl,lo,O,rfl,SqL.of hO,fun t1 H3 g3 h3=>?_⟩;refine⟨_,rfl,ll,L,rfl,SqL.of (g3 _ _ hL),fun t2 H4 g4 h4=>?_⟩;refine⟨(by show 2<=sizeLine;decide),fun t ht=>?_⟩;have gt:=Same.new ht (.tup [.ref t1,.ref t2]);have hz:900000+n*124001<=5900000:=by have:n*124001<=40*124001:=Nat.mul_le_mul_right _ (by omega);omega
   refine q t t1 t2 (Pm.trim O) (Pm.trim L) _ (g.trans (g3.trans (g4.trans gt))) aB (gt _ _ (g4 _ _ h3)) (gt _ _ h4) (I.stop hM) (fun z hz'=>(EB bO z hz').mono hz) (fun z hz'=>(EB bL z hz').mono hz) ?_;have:=Pm.cB O;have:=I.ol;omega
theorem FZ(F:Fn K mg "monic" xH ["prime","poly"])(tG:Eo P w K mg base):Dw P w K mg base:=by
 refine F.cal zG (fun vs H Q E h=>?_) (fun f cdv A outer s H vs Q E hr h=>?_)
 ·obtain⟨P,a,p,rfl,_⟩:=h;rfl
 ·obtain⟨P',a,p,rfl,hP,hPb,hA,zA,pP,q⟩:=h;refine⟨_,(ao (jy (aR (xeq K hr) (aL (iW K) rfl B.cL boot_len (aN (pv 1) ak)) aq (aZ _))
   (aF (aV (lF ak)))
   cY)
   (ao (aJ (i:=2) zG.nd rfl (Or.inr rfl) (bH (xix K) (pv 1) (aH bV (aL (iW K) rfl B.cL boot_len (aN (pv 1) ak)) aq) (fun _ _=>rfl)))
   (aF (aV (bB (gw K) rfl B.dD boot_tuple (aG (dG (sc:=Dn) (N:=["number","last","prime"]) (ix:=[none,some 2,some 0]) cT rfl (KQ K (pv 1)) (fun cl C s₀ H₀ ex=>⟨(aX (i:=0) jA rfl (Or.inl rfl)),cR,(au tG hr rfl (aN (pv 2) (aN (pv 0) (aN (pv 1) ak))))⟩)) ak)))))),?_⟩
  have hr2:2<=P'/\P'<2097152:=⟨hP.1,hPb⟩;have lP:(p.map V.int).length=p.length:=List.length_map _;refine⟨_,rfl,.ref a,p.length,rfl,.inr ⟨_,SqT.of hA,lP.symm⟩,_,rfl,?_⟩;refine jW (fun c=>?_) (fun c=>?_)
  ·have c':(p.length:Int)=0:=dec_true c;have e:p=[]:=List.eq_nil_of_length_eq_zero (by omega);subst e;exact⟨Nat.zero_le _,fun t ht=>q t [] _ (Same.new ht _) aB (Pm.u6.nil _)⟩
  ·have c':¬(p.length:Int)=0:=dec_false c;have hn:p≠[]:=fun e=>c' (by rw[e];rfl);have hpos:0<p.length:=by omega
   have e1:((p.length:Int)-1).toNat=p.length-1:=by omega
   refine⟨_,rfl,_,rfl,.ref a,p.length,rfl,.inr ⟨_,SqT.of hA,lP.symm⟩,_,_,rfl,rfl,_,_,.inr (SqT.of hA),aW (ns:=p) (by omega:(0:Int)<=(p.length:Int)-1) (by omega),?_⟩;rw[e1];have l0:=Pm.uQ hn pP.tr;have l1:=pP.co (p.length-1);rw[Rm.fP (by omega)]at l1;have r0:0<=Pm.co p (p.length-1):=by rw[<-l1];exact Int.emod_nonneg _ (by omega)
   have r1:Pm.co p (p.length-1)<(P':Int):=by rw[<-l1];exact Int.emod_lt_of_pos _ (by omega)
   refine⟨_,rfl,a,rfl,.inr ⟨⟨_,SqT.of hA⟩,uP hA (by omega) rfl (fun x=>x*(Pm.co p (p.length-1))^(P'-2)%(P':Int)) ?_ ?_⟩⟩
   ·intro H2 x g2 hx k hk;exact⟨_,rfl,_,rfl,_,rfl,P',x,_,rfl,hP,hPb,by show 0<Pm.co p (p.length-1);omega,r1,hk⟩
   ·intro D hD;refine⟨D,_,rfl,.inl ⟨SqL.of aB,fun t ht=>?_⟩⟩;exact q t (Pm.m5 P' p) _ ((Same.new hD _).trans (Same.new ht _)) aB (Pm.D8 hP pP hn)
theorem yO(F:Fn K mg "greatest" oN ["by","one","other"])(rA:Dw P w K mg base)(bZ:jf P w K mg base):n8 P w K mg base:=by
 refine F.cal fj (fun vs H Q E h=>?_) (fun f cdv A outer s H vs Q E hr h=>?_)
 ·obtain⟨P,a,c,p,r,rfl,_⟩:=h;rfl
 ·obtain⟨P',a,c,p,r,rfl,hP,hPb,hA,hC,zA,zC,pP,pR,hne,q⟩:=h;refine⟨_,(ao (aJ (i:=3) fj.nd rfl (Or.inl rfl) (au rA hr rfl (aN (pv 0) (aN (pv 1) ak))))
   (ao (aJ (i:=4) fj.nd rfl (Or.inl rfl) (au rA hr rfl (aN (pv 0) (aN (pv 2) ak))))
   (ao (gH PassesOwn.never (aR qX (aL (iW K) rfl B.cL boot_len (aN (pv 4) ak)) aq (aZ _))
   (ao (aJ (i:=5) fj.nd rfl (Or.inl rfl) (bH (xix K) (au bZ hr rfl (aN (pv 0) (aN (pv 3) (aN (pv 4) ak)))) aq (fun _ _=>rfl)))
   (ao (aJ (i:=3) fj.nd rfl (Or.inl rfl) (pv 4))
   (aF (aJ (i:=4) fj.nd rfl (Or.inl rfl) (au rA hr rfl (aN (pv 0) (aN (pv 5) ak))))))))
   (aF (aV (pv 3)))))),?_⟩
  have hr2:2<=P'/\P'<2097152:=⟨hP.1,hPb⟩;refine⟨_,rfl,_,rfl,P',a,p,rfl,hP,hPb,hA,by omega,pP,fun tg g0 H1 g1 hG mG=>?_⟩;refine⟨_,rfl,_,rfl,P',c,r,rfl,hP,hPb,g1 _ _ hC,by omega,pR,fun ts s0 H2 g2 hS' mS=>?_⟩;have lg0:=mG.len;have ls0:=mS.len;refine⟨fun m σ' H'=>∃(o5:Option V) (tg ts:Addr) (g s:List Int),m=s.length/\σ'=[some (.int P'),some (.ref a),some (.ref c),some (.ref tg),some (.ref ts),o5]/\Same H H'/\H' tg=some (.tup (g.map V.int))/\H' ts=some (.tup (s.map V.int))/\Pm.Hg P' p r g s/\g.length<=max p.length r.length/\s.length<=max p.length r.length,
   ⟨_,_,tg,ts,g0,s0,rfl,rfl,g1.trans g2,g2 _ _ hG,hS',Pm.Hg.start mG mS hne,by omega,by omega⟩,?_⟩
  rintro m σ' H' ⟨o5,tg,ts,gg,ss,rfl,rfl,g,hG,hS',I,zg,zs⟩;have lS:(ss.map V.int).length=ss.length:=List.length_map _;refine⟨_,rfl,.ref ts,ss.length,rfl,.inr ⟨_,SqT.of hS',lS.symm⟩,_,_,rfl,rfl,_,rfl,?_⟩;refine jW (fun cc=>?_) (fun cc=>?_)
  ·have hs:ss≠[]:=fun e=>by have:=dec_true cc;rw[e]at this;simp at this
   have hMs:=I.sm_ hs;refine⟨_,fun _ _ z=>z,?_⟩;refine⟨_,rfl,_,rfl,_,rfl,P',tg,ts,gg,ss,rfl,by omega,by omega,hG,hS',by omega,by omega,hMs,I.gy.co,(fun x hx=>(Jm hr2.1 hr2.2 I.gy x hx).mono (by decide)),Jm hr2.1 hr2.2 I.sy,fun t x y o l H3 g3 hT hX hY D _ _ _=>?_⟩;refine⟨_,_,.inr (SqT.of hT),rfl,?_⟩;refine⟨_,rfl,?_⟩;have hsh:=D.short;refine⟨_,rfl,_,rfl,P',y,l,rfl,hP,hPb,hY,by omega,D.ry,fun tm m H4 g4 hM mM=>?_⟩;have lm:=mM.len;exact⟨m.length,by omega,_,ts,tm,ss,m,rfl,rfl,g.trans (g3.trans g4),(g3.trans g4) _ _ hS',hM,I.step hs D mM,zs,by omega⟩
  ·have hs:ss=[]:=List.eq_nil_of_length_eq_zero (by have:=dec_false cc;omega);refine⟨_,rfl,?_⟩;exact q tg gg H' g hG (I.stop hs) zg
theorem Ar(F:Fn K mg "nearest" rY ["modulus","number"]):rK P w K mg base:=by
 refine F.cal tQ (fun vs H Q E h=>?_) (fun f cdv A outer s H vs Q E hr h=>?_)
 ·obtain⟨M,x,rfl,_⟩:=h;rfl
 ·obtain⟨M,x,rfl,hM,q⟩:=h;refine⟨_,(ao (aJ (i:=2) tQ.nd rfl (Or.inl rfl) (aH cO (pv 1) (pv 0)))
   (aF (aV (qu (aR qX (aH v_mul aq (pv 2)) (pv 0) (aZ _)) (aH bV (pv 2) (pv 0)) (pv 2))))),?_⟩
  refine⟨_,rfl,_,rfl,_,_,rfl,rfl,hM,?_⟩;refine⟨_,rfl,mulL (by decide) (by decide),_,rfl,_,_,rfl,rfl,_,rfl,?_⟩;refine jW (fun c=>?_) (fun c=>?_)
  ·have c':2*(x%M)>M:=dec_true c;refine⟨_,rfl,_,rfl,_,_,rfl,rfl,?_⟩;have e:Pm.nr M x=x%M-M:=if_pos c';rw[e]at q;exact q
  ·have c':¬2*(x%M)>M:=dec_false c;refine⟨_,rfl,?_⟩;have e:Pm.nr M x=x%M:=if_neg c';rw[e]at q;exact q
theorem Cy(F:Fn K mg "joined" uI ["modulus","number","prime","rest"])(tG:Eo P w K mg base)(aU:fG P w K mg base)(iV:rK P w K mg base):zZ P w K mg base:=by
 refine F.cal u0 (fun vs H Q E h=>?_) (fun f cdv A outer s H vs Q E hr h=>?_)
 ·obtain⟨M,t,p,s,rfl,_⟩:=h;rfl
 ·obtain⟨M,t,p,s',rfl,hp,hpb,hM,hpM,q⟩:=h;refine⟨_,(ao (aJ (i:=4) u0.nd rfl (Or.inl rfl) (au tG hr rfl (aN (pv 2) (aG (au aU hr rfl (aN (pv 2) (kY (aH bV (pv 3) (pv 1)) ak))) (aG (au aU hr rfl (aN (pv 2) (aN (pv 0) ak))) ak)))))
   (aF (aV (au iV hr rfl (kY (aH v_mul (pv 0) (pv 2)) (kY (aH (fV K) (pv 1) (aH v_mul (pv 0) (pv 4))) ak)))))),?_⟩
  have h2:=hp.1;have hp0:(p:Int)≠0:=by omega
  have r0:=Int.emod_nonneg M hp0;have r1:=Int.emod_lt_of_pos M (show(0:Int)<p by omega);have rn:M%(p:Int)≠0:=fun z=>hpM (Int.dvd_of_emod_eq_zero z);have et:Rm.tk (p:Int) M=M%(p:Int):=Rm.fP hp0 M;refine⟨_,rfl,_,rfl,_,rfl,_,rfl,_,_,rfl,rfl,p,_,rfl,by omega,?_⟩;refine⟨_,rfl,_,rfl,p,M,rfl,by omega,?_⟩;refine⟨p,_,_,rfl,hp,hpb,by rw[et];omega,by rw[et];exact r1,?_⟩;have hw:=Pm.GP (M:=M) (t:=t) (s:=s') hp;refine⟨_,rfl,_,rfl,mulR (by omega) (by omega),?_⟩;refine⟨_,rfl,_,rfl,_,rfl,mulR (by show -(2^64)<Pm.jw M t p s';omega) (by show Pm.jw M t p s'<2^64;omega),?_⟩;exact⟨_,_,rfl,Int.mul_pos hM (by omega),q⟩
theorem uH(F:Fn K mg "taken_poly" jY ["prime","poly"])(cM:jO P w K mg base)(aU:fG P w K mg base):pO P w K mg base:=by
 refine F.cal uc (fun vs H Q E h=>?_) (fun f cdv A outer s H vs Q E hr h=>?_)
 ·obtain⟨p,a,P,rfl,_⟩:=h;rfl
 ·obtain⟨p,a,P',rfl,hp,hA,zA,q⟩:=h;refine⟨_,(aF (aV (au cM hr rfl (aG (dG (sc:=sO) (N:=["number","prime"]) (ix:=[none,some 0]) cT rfl (KQ K (pv 1)) (fun cl C s₀ H₀ ex=>⟨(aX (i:=0) jA rfl (Or.inl rfl)),cR,(au aU hr rfl (aN (pv 1) (aN (pv 0) ak)))⟩)) ak)))),?_⟩;refine⟨_,rfl,a,rfl,.inr ⟨⟨_,SqT.of hA⟩,uP hA (by omega) rfl (fun x=>Rm.tk p x) ?_ ?_⟩⟩
  ·intro H2 x g2 hx k hk;exact⟨_,rfl,_,rfl,p,x,rfl,by omega,hk⟩
  ·intro D hD;refine⟨D,_,rfl,SqL.of aB,fun t1 H3 g3 h3=>?_⟩;exact q t1 H3 ((Same.new hD _).trans g3) h3
theorem Aq(F:Fn K mg "divides" rN ["monic_one","poly"])(bZ:jf P w K mg base):vY P w K mg base:=by
 refine F.cal AH (fun vs H Q E h=>?_) (fun f cdv A outer s H vs Q E hr h=>?_)
 ·obtain⟨m,a,M,P,rfl,_⟩:=h;rfl
 ·obtain⟨m,a,M,P',rfl,hMm,hA,zM,zP,hM,bM,bP,q⟩:=h;refine⟨_,(aF (aV (lW (xeq K hr) (bH (xix K) (au bZ hr rfl (fO aq (aN (pv 1) (aN (pv 0) ak)))) aq (fun _ _=>rfl)) (lF ak) (aZ _)))),?_⟩;refine⟨_,rfl,_,rfl,0,a,m,P',M,rfl,by decide,by decide,hA,hMm,zP,zM,hM,fun k=>Rm.bf _,bP,bM,fun t x y o l H3 g3 hT hX hY D _ _ _=>?_⟩;refine⟨_,_,.inr (SqT.of hT),rfl,?_⟩;refine⟨Nat.zero_le _,fun t0 ht0=>?_⟩;have g4:=Same.new ht0 (.tup []);refine Um (ns:=l) (ms:=[]) (SqT.of (g4 _ _ hY)) (SqT.of aB) ?_;exact q _ _ (g3.trans g4) (by show decide (l=[])=true↔_;rw[decide_eq_true_iff];exact D.dv hM)
theorem oW(F:Fn K mg "whole_greatest" gh ["one","other"])(mX:vY P w K mg base)(jo:nK P w K mg base)(gO:n8 P w K mg base)(iw:pO P w K mg base)(iV:rK P w K mg base)(uG:zZ P w K mg base):jF P w K mg base:=by
 refine F.cal aP (fun vs H Q E h=>?_) (fun f cdv A outer s H vs Q E hr h=>?_)
 ·obtain⟨a,c,P,t,g,N,U,V',rfl,_⟩:=h;rfl
 ·obtain⟨a,c,P',t,g,N,U,V',rfl,hA,hC,zP,zt,hP,bP,bt,G,hV,hU,hUV,q⟩:=h;refine⟨_,(ao (aJ (i:=2) aP.nd rfl (Or.inl rfl) (pv 0))
   (ao (aJ (i:=3) aP.nd rfl (Or.inr rfl) aq)
   (ao (aJ (i:=4) aP.nd rfl (Or.inr rfl) (qm rfl B.cI))
   (ao (aJ (i:=5) aP.nd rfl (Or.inl rfl) yq)
   (ao (gH PassesOwn.never (PW.pt (wF (vQ (vg (pv 5))) (wF (vQ (vg (au mX hr rfl (aN (pv 2) (aN (pv 0) ak))))) (wQ (vQ (vg (au mX hr rfl (aN (pv 2) (aN (pv 1) ak)))))))))
   (ao (aJ (i:=4) aP.nd rfl (Or.inr rfl) (au jo hr rfl (aN (pv 4) ak)))
   (ao (aJ (i:=6) aP.nd rfl (Or.inr rfl) (au gO hr rfl (aN (pv 4) (aG (au iw hr rfl (aN (pv 4) (aN (pv 0) ak))) (aG (au iw hr rfl (aN (pv 4) (aN (pv 1) ak))) ak)))))
   (aF (jy (aR sE (aL (iW K) rfl B.cL boot_len (aN (pv 6) ak)) (aL (iW K) rfl B.cL boot_len (aN (pv 2) ak)) (aZ _))
   (ao (aJ (i:=2) aP.nd rfl (Or.inl rfl) (bB (gw K) rfl B.dD boot_tuple (aG (dG (sc:=nA) (N:=["rest","prime"]) (ix:=[none,some 4]) cT rfl (KQ K (pv 6)) (fun cl C s₀ H₀ ex=>⟨(aX (i:=0) jA rfl (Or.inl rfl)),cR,(au iV hr rfl (aN (pv 1) (aN (pv 0) ak)))⟩)) ak)))
   (ao (aJ (i:=3) aP.nd rfl (Or.inr rfl) (pv 4))
   (aF (aJ (i:=5) aP.nd rfl (Or.inl rfl) yq))))
   (aF (tE (jy (aR (xeq K hr) (aL (iW K) rfl B.cL boot_len (aN (pv 6) ak)) (aL (iW K) rfl B.cL boot_len (aN (pv 2) ak)) (aZ _))
   (ao (aJ (i:=7) aP.nd rfl (Or.inr rfl) (pv 2))
   (ao (aJ (i:=2) aP.nd rfl (Or.inl rfl) (bB (gw K) rfl B.dD boot_tuple (aG (dG (sc:=nY) (N:=["k","before","modulus","prime","seen"]) (ix:=[none,some 7,some 3,some 4,some 6]) cT rfl (bK rfl B.cu (aG (aL (iW K) rfl B.cL boot_len (aN (pv 6) ak)) ak)) (fun cl C s₀ H₀ ex=>⟨(aX (i:=0) jA rfl (Or.inl rfl)),cR,(au uG hr rfl (aN (pv 2) (aG (bH (xix K) (pv 1) (pv 0) (fun _ _=>rfl)) (aN (pv 3) (aG (bH (xix K) (pv 4) (pv 0) (fun _ _=>rfl)) ak)))))⟩)) ak)))
   (ao (aJ (i:=3) aP.nd rfl (Or.inr rfl) (aH v_mul (pv 3) (pv 4)))
   (aF (aJ (i:=5) aP.nd rfl (Or.inl rfl) (lW (xeq K hr) (pv 2) (pv 7) (aZ _)))))))
   cY))))))))
   (aF (aV (pv 2)))))))),?_⟩
  have hgP:g.length<=P'.length:=G.one.len rfl G.mon hP;refine⟨_,rfl,?_⟩;refine⟨Lj H a c P' g N,⟨_,_,_,a,P',1,1000000,true,0,0,rfl,rfl,Same.refl _,hA,Pm.WgI.start hP hgP _,Om.many,by omega,by omega⟩,?_⟩;rintro m σ' H' ⟨o6,o7,tt,told,M,prime,ripe,bad,good,rfl,rfl,gg,hT,I,Np,hbig,W0⟩;have bT:=Ug I bP W0;have zT:=I.le;refine⟨_,rfl,ripe,rfl,?_⟩;refine jW (fun cr=>?b1) (fun cr=>?n1)
  case' b1=>
   have hne:¬(ripe=true/\told=g):=fun z=>by rw[z.1]at cr;exact absurd cr (by decide)
   have gx:=gg;have hTx:=hT;generalize H'=Hx at gx hTx⊢
  case' n1=>
   refine⟨_,rfl,_,rfl,tt,a,told,P',rfl,hT,gg _ _ hA,by omega,zP,I.mon,bT,(fun x hx=>(bP x hx).mono (by decide)),fun b1 H1 g1 e1=>?_⟩;refine⟨b1,rfl,?_⟩;refine jW (fun c1=>?b2) (fun c1=>?n2)
  case' b2=>
   have hne:¬(ripe=true/\told=g):=fun z=>by
    have:b1=true:=e1.mpr (by rw[z.2];exact G.one);rw[this]at c1;exact absurd c1 (by decide)
   have gx:=gg.trans g1;have hTx:=g1 _ _ hT;generalize H1=Hx at gx hTx⊢
  case' n2=>
   refine⟨_,rfl,_,rfl,tt,c,told,t,rfl,g1 _ _ hT,(gg.trans g1) _ _ hC,by omega,zt,I.mon,bT,bt,fun b2 H2 g2 e2=>?_⟩;refine⟨b2,rfl,?_⟩;refine jW (fun c2=>?b3) (fun c2=>?n3)
  case n3=>
   have hb1:b1=true:=by cases b1<;>first|rfl|exact absurd rfl c1
   have hb2:b2=true:=by cases b2<;>first|rfl|exact absurd rfl c2
   have e:=G.told I.mon (e1.mp hb1) (e2.mp hb2) I.ge;subst e;refine⟨_,rfl,?_⟩;exact q tt H2 (gg.trans (g1.trans g2)) ((g1.trans g2) _ _ hT)
  case' b3=>
   have hne:¬(ripe=true/\told=g):=fun z=>by
    have:b2=true:=e2.mpr (by rw[z.2];exact G.two);rw[this]at c2;exact absurd c2 (by decide)
   have gx:=gg.trans (g1.trans g2);have hTx:=(g1.trans g2) _ _ hT;generalize H2=Hx at gx hTx⊢
  all_goals
   have hfew:=I.few G.ne hV hU hne;obtain⟨k,hk'⟩:∃k,6000-(bad+good)=k+1:=⟨6000-(bad+good)-1,by omega⟩;rw[hk']at Np;obtain⟨q0,hq0,WT,XG,hnext⟩:=Np.next;refine⟨_,fun _ _ z=>z,?_⟩;refine⟨_,rfl,prime,q0,rfl,hq0,WT,by omega,fun p hp hlt hle=>?_⟩;have hN:=hnext p hle;refine⟨_,rfl,_,rfl,_,rfl,p,a,P',rfl,by omega,gx _ _ hA,by omega,fun t1 H3 g3 h3=>?_⟩;refine⟨_,rfl,_,rfl,p,c,t,rfl,by omega,(gx.trans g3) _ _ hC,by omega,fun t2 H4 g4 h4=>?_⟩;have l1:=EW p P';have l2:=EW p t;refine⟨p,t1,t2,_,_,rfl,hp,by omega,g4 _ _ h3,h4,by omega,by omega,HJ p P',HJ p t,fun _=>Ni hp hP,fun ts s' H5 g5 hS hG hsl=>?_⟩;have sn:=G.seen hp (DM p P') (DM p t) hG;have lS:(s'.map V.int).length=s'.length:=List.length_map _;have lT:(told.map V.int).length=told.length:=List.length_map _;have gy:=gx.trans (g3.trans (g4.trans g5));have hTy:=(g3.trans (g4.trans g5)) _ _ hTx;refine⟨_,rfl,.ref ts,s'.length,rfl,.inr ⟨_,SqT.of hS,lS.symm⟩,_,rfl,.ref tt,told.length,rfl,.inr ⟨_,SqT.of hTy,lT.symm⟩,_,_,rfl,rfl,_,rfl,?_⟩;refine jW (fun d1=>?_) (fun d1=>?_)
   ·have d1':(s'.length:Int)<told.length:=dec_true d1;refine⟨_,rfl,ts,rfl,.inr ⟨⟨_,SqT.of hS⟩,uP hS (by omega) rfl (fun x=>Pm.nr p x) ?_ ?_⟩⟩
    ·intro H6 x g6 hx kk hk;exact⟨_,rfl,_,rfl,p,x,rfl,by omega,hk⟩
    ·intro D hD;refine⟨D,_,rfl,.inl ⟨SqL.of aB,fun tn ht=>?_⟩⟩;obtain⟨DW,rE,hbg,I'⟩:=I.anew hp hlt (by omega) (by omega) sn (by omega);refine⟨_,rfl,?_⟩;exact⟨6000-(DW+rE),by omega,_,_,tn,s'.map (Pm.nr p),p,p,true,DW,rE,rfl,rfl,gy.trans ((Same.new hD _).trans (Same.new ht _)),aB,I',(by rw[hbg,show 6000-(bad+good+1)=k by omega];exact hN),by omega,by omega⟩
   ·have d1':¬(s'.length:Int)<told.length:=dec_false d1;refine Hl.by (fun σ' H2=>∃m',m'<6000-(bad+good)/\Lj H a c P' g N m' σ' H2) (fun N0 hN0=>?_) (fun σ' H2 z=>z);refine⟨_,rfl,.ref ts,s'.length,rfl,.inr ⟨_,SqT.of hS,lS.symm⟩,_,rfl,.ref tt,told.length,rfl,.inr ⟨_,SqT.of hTy,lT.symm⟩,_,rfl,?_⟩;refine jW (fun d2=>?_) (fun d2=>?_)
    ·have d2':(s'.length:Int)=told.length:=dec_true d2;have hl:s'.length=told.length:=by omega
     have hpM:¬(p:Int)∣M:=fun z=>by have:=I.div p hp z;omega
     refine⟨_,rfl,?_⟩;refine⟨_,rfl,.ref ts,s'.length,rfl,.inr ⟨_,SqT.of hS,lS.symm⟩,?_⟩;refine⟨(s'.length:Int),rfl,(by omega:-(2^62)<=(s'.length:Int)),(by omega:(s'.length:Int)<2^62),?_⟩;rw[Int.toNat_natCast];refine kj (n:=s'.length) (by omega) rfl (fun k=>Pm.jn M (told.getD k 0) p (s'.getD k 0)) ?_ ?_
     ·intro H6 k6 g6 hk6 kk hk;have e1:(0+(k6:Int)).toNat=k6:=by omega
      refine⟨_,rfl,_,rfl,_,rfl,_,_,.inr (SqT.of (g6 _ _ hTy)),aW (ns:=told) (by omega:(0:Int)<=0+(k6:Int)) (by omega),?_⟩;refine⟨_,rfl,_,rfl,_,rfl,_,_,.inr (SqT.of (g6 _ _ hS)),aW (ns:=s') (by omega:(0:Int)<=0+(k6:Int)) (by omega),?_⟩;rw[e1];exact⟨M,_,p,_,rfl,hp,by omega,I.pos,hpM,hk⟩
     ·intro D hD;refine⟨D,_,rfl,.inl ⟨SqL.of aB,fun tn ht=>?_⟩⟩;have gn:=(Same.new hD (.lst ((Pm.ofF s'.length fun k=>Pm.jn M (told.getD k 0) p (s'.getD k 0)).map V.int))).trans (Same.new ht (.tup ((Pm.ofF s'.length fun k=>Pm.jn M (told.getD k 0) p (s'.getD k 0)).map V.int)));refine⟨_,rfl,_,rfl,mulR (by omega) (by omega),?_⟩;refine⟨_,rfl,_,rfl,?_⟩;refine Um (ns:=Pm.ofF s'.length fun k=>Pm.jn M (told.getD k 0) p (s'.getD k 0)) (ms:=told) (SqT.of aB) (SqT.of (gn _ _ hTy)) ?_;obtain⟨DW,rE,hbg,I'⟩:=I.join (jH:=Pm.ofF s'.length fun k=>Pm.jn M (told.getD k 0) p (s'.getD k 0)) (Jg:=decide ((Pm.ofF s'.length fun k=>Pm.jn M (told.getD k 0) p (s'.getD k 0))=told)) hp hlt (by omega) (by omega) sn hl (by rw[Pm.aM];exact hl) (fun k6 hk6=>⟨Pm.jw M (told.getD k6 0) p (s'.getD k6 0),Pm.Tf hp hpM,by rw[Pm.bI,if_pos (by omega)];rfl⟩) (decide_eq_true_iff);exact hN0 _ _ ⟨6000-(DW+rE),by omega,_,_,tn,_,M*p,p,_,DW,rE,rfl,rfl,gy.trans gn,aB,I',(by rw[hbg,show 6000-(bad+good+1)=k by omega];exact hN),by omega,by omega⟩
    ·have d2':¬(s'.length:Int)=told.length:=dec_false d2;have I':=I.stay hp hlt (by omega) sn (by omega);exact hN0 _ _ ⟨6000-(bad+1+good),by omega,_,_,tt,told,M,p,ripe,bad+1,good,rfl,rfl,gy,hTy,I',(by rw[show 6000-(bad+1+good)=k by omega];exact hN),by omega,by omega⟩
theorem Bf(F:Fn K mg "of_rule" qz ["by","rule"])(aU:fG P w K mg base):m9 P w K mg base:=by
 refine F.cal pD (fun vs H Q E h=>?_) (fun f cdv A outer s H vs Q E hr h=>?_)
 ·obtain⟨b,a,c,rfl,_⟩:=h;rfl
 ·obtain⟨b,a,c,rfl,hb,hA,zA,q⟩:=h;refine⟨_,(ao (aJ (i:=2) pD.nd rfl (Or.inr rfl) (aL (iW K) rfl B.cL boot_len (aN (pv 1) ak)))
   (ao (xG (i:=3) (hN:=pD.nd) (hi':=rfl) (hx:=(Or.inl rfl)) (sc:=yQ) (N:=["k","by","length","rule"]) (ix:=[none,some 0,some 2,some 1]) cT rfl (bK rfl B.cu (aN (pv 2) ak)) (fun cl C s₀ H₀ ex=>⟨(aX (i:=0) jA rfl (Or.inl rfl)),cR,(au aU hr rfl (aN (pv 1) (kY (aH bV aq (bH (xix K) (pv 3) (aH bV (aH bV (pv 2) aq) (pv 0)) (fun _ _=>rfl))) ak)))⟩))
   (aF (aV (bB (gw K) rfl B.dD boot_tuple (kY (aH (fV K) (pv 3) (jg (fO aq ak))) ak)))))),?_⟩
  have lC:(c.map V.int).length=c.length:=List.length_map _;refine⟨_,rfl,.ref a,c.length,rfl,.inr ⟨_,SqT.of hA,lC.symm⟩,?_⟩;refine⟨_,rfl,(c.length:Int),rfl,(by omega:-(2^62)<=(c.length:Int)),(by omega:(c.length:Int)<2^62),?_⟩;rw[Int.toNat_natCast];refine kj (n:=c.length) (by omega) rfl (fun k=>Rm.tk b (0-Pm.co c (c.length-1-k))) ?_ ?_
  ·intro H2 k g2 hk kk hkk;have e1:((c.length:Int)-1-(0+(k:Int))).toNat=c.length-1-k:=by omega
   refine⟨_,rfl,_,rfl,_,rfl,_,_,rfl,rfl,_,rfl,_,_,rfl,rfl,_,_,.inr (SqT.of (g2 _ _ hA)),aW (ns:=c) (by omega:(0:Int)<=(c.length:Int)-1-(0+(k:Int))) (by omega),_,_,rfl,rfl,?_⟩;refine⟨b,_,rfl,hb,?_⟩;rw[e1];exact hkk
  ·intro D hD;have g1:=Same.new hD (.lst ((Pm.ofF c.length fun k=>Rm.tk b (0-Pm.co c (c.length-1-k))).map V.int));refine⟨_,rfl,(by show 1<=sizeLine;decide),fun l2 hl2=>?_⟩;have g2:=Same.new hl2 (.lst [.int 1]);refine .inl ⟨_,_,g2 _ _ aB,aB,?_,fun l3 hl3=>?_⟩
   ·rw[List.length_map,Pm.aM];exact Nat.le_of_lt (bN (by show _+1<=1000;omega))
   refine⟨l3,_,rfl,.inl ⟨SqL.of aB,fun t ht=>?_⟩⟩;refine q t _ (g1.trans (g2.trans ((Same.new hl3 _).trans (Same.new ht _)))) ?_;rw[aB,Pm.aK,uN]
theorem Bx(F:Fn K mg "rule_of" qH ["by","poly"])(aU:fG P w K mg base):vC P w K mg base:=by
 refine F.cal tK (fun vs H Q E h=>?_) (fun f cdv A outer s H vs Q E hr h=>?_)
 ·obtain⟨b,a,p,rfl,_⟩:=h;rfl
 ·obtain⟨b,a,p,rfl,hb,hA,z0,zA,q⟩:=h;refine⟨_,(ao (aJ (i:=2) tK.nd rfl (Or.inr rfl) (aH bV (aL (iW K) rfl B.cL boot_len (aN (pv 1) ak)) aq))
   (aF (aV (bB (gw K) rfl B.dD boot_tuple (aG (dG (sc:=yD) (N:=["k","by","length","poly"]) (ix:=[none,some 0,some 2,some 1]) cT rfl (bK rfl B.cu (aN (pv 2) ak)) (fun cl C s₀ H₀ ex=>⟨(aX (i:=0) jA rfl (Or.inl rfl)),cR,(au aU hr rfl (aN (pv 1) (kY (aH bV aq (bH (xix K) (pv 3) (aH bV (aH bV (pv 2) aq) (pv 0)) (fun _ _=>rfl))) ak)))⟩)) ak))))),?_⟩
  have lC:(p.map V.int).length=p.length:=List.length_map _;refine⟨_,rfl,.ref a,p.length,rfl,.inr ⟨_,SqT.of hA,lC.symm⟩,_,_,rfl,rfl,?_⟩;refine⟨_,rfl,(p.length:Int)-1,rfl,(by omega:-(2^62)<=(p.length:Int)-1),(by omega:(p.length:Int)-1<2^62),?_⟩;rw[show((p.length:Int)-1).toNat=p.length-1 by omega];refine kj (n:=p.length-1) (by omega) rfl (fun k=>Rm.tk b (0-Pm.co p (p.length-1-1-k))) ?_ ?_
  ·intro H2 k g2 hk kk hkk;have e1:((p.length:Int)-1-1-(0+(k:Int))).toNat=p.length-1-1-k:=by omega
   refine⟨_,rfl,_,rfl,_,rfl,_,_,rfl,rfl,_,rfl,_,_,rfl,rfl,_,_,.inr (SqT.of (g2 _ _ hA)),aW (ns:=p) (by omega:(0:Int)<=(p.length:Int)-1-1-(0+(k:Int))) (by omega),_,_,rfl,rfl,?_⟩;refine⟨b,_,rfl,hb,?_⟩;rw[e1];exact hkk
  ·intro D hD;refine⟨D,_,rfl,.inl ⟨SqL.of aB,fun t ht=>?_⟩⟩;exact q t _ ((Same.new hD _).trans (Same.new ht _)) aB
theorem Cq(F:Fn K mg "top_of" tY ["row","poly"])(aU:fG P w K mg base)(cM:jO P w K mg base):za P w K mg base:=by
 refine F.cal jc (fun vs H Q E h=>?_) (fun f cdv A outer s H vs Q E hr h=>?_)
 ·obtain⟨v,r,a,rfl,_⟩:=h;rfl
 ·obtain⟨v,r,a,rfl,⟨a0,p,p2,rfl,hA,hR,hS⟩,ok,hP,q⟩:=h;refine⟨_,(ao (aJ (i:=2) jc.nd rfl (Or.inl rfl) (bH (xix K) (pv 0) aq (fun _ _=>rfl)))
   (ao (aJ (i:=3) jc.nd rfl (Or.inr rfl) (bH (xix K) (pv 0) aq (fun _ _=>rfl)))
   (ao (aJ (i:=4) jc.nd rfl (Or.inl rfl) (jg ak))
   (ao (j6 PassesOwn.never rfl (bK rfl B.cu (aG (aL (iW K) rfl B.cL boot_len (aN (pv 3) ak)) ak)) (aX (i:=5) jc.nd rfl (Or.inr rfl))
   (ao (xG (i:=6) (hN:=jc.nd) (hi':=rfl) (hx:=(Or.inl rfl)) (sc:=Bv) (N:=["j","k","poly","starts"]) (ix:=[none,some 5,some 1,some 3]) cT rfl (nF rfl B.cu (kY (aH (fV K) (pv 5) aq) (aG (aL (iW K) rfl B.cL boot_len (aN (pv 1) ak)) ak))) (fun cl C s₀ H₀ ex=>⟨(aX (i:=0) jA rfl (Or.inl rfl)),cR,(aH v_mul (bH (xix K) (pv 2) (pv 0) (fun _ _=>rfl)) (bH (xix K) (pv 3) (aH bV (aH bV (pv 0) aq) (pv 1)) (fun _ _=>rfl)))⟩))
   (aF (jL (rM K (pv 4) (au aU hr rfl (aN (pv 2) (aG (aL (Oq K rfl) rfl B.GX boot_sum (aN (pv 6) ak)) ak))))))))
   (aF (aV (au cM hr rfl (aN (pv 4) ak)))))))),?_⟩
  have hl:=ok.len;have hs:=ok.short;have lS:(r.starts.map V.int).length=r.starts.length:=List.length_map _;have lP:((Pm.aK r.b r.rule).map V.int).length=r.rule.length+1:=by rw[List.length_map,Pm.aY]
  refine⟨_,rfl,_,_,.inr (SqT.of hA),rfl,?_⟩;refine⟨_,rfl,_,_,.inr (SqT.of hA),rfl,?_⟩;refine⟨Nat.zero_le _,fun l0 h0=>?_⟩;have g0:=Same.new h0 (.lst []);refine⟨_,rfl,.ref p2,r.starts.length,rfl,.inr ⟨_,SqT.of (g0 _ _ hS),lS.symm⟩,?_⟩;refine⟨(r.starts.length:Int),rfl,(by omega:-(2^62)<=(r.starts.length:Int)),(by omega:(r.starts.length:Int)<2^62),?_⟩;refine eY (lo:=0) (n:=(r.starts.length:Int).toNat) (fun i σ' H'=>∃o5 o6,σ'=[some (.ref a0),some (.ref a),some (.int r.b),some (.ref p2),some (.ref l0),o5,o6]/\Same H H'/\H' l0=some (.lst ((Pm.ofF i fun k=>Rm.tk r.b (Pm.tp (Pm.aK r.b r.rule) r.at k)).map V.int)))
   ⟨_,_,rfl,g0,aB⟩ ?_ ?_
  ·rintro i σ' H' hi ⟨o5,o6,rfl,g,hL⟩;have hi':i<r.starts.length:=by omega
   refine⟨_,rfl,_,rfl,.ref a,r.rule.length+1,rfl,.inr ⟨_,SqT.of (g _ _ hP),lP.symm⟩,?_⟩;refine⟨_,_,rfl,⟨by omega,by omega,by omega,by omega⟩,?_⟩;rw[show(((r.rule.length+1:Nat):Int)-(0+(i:Int)+1)).toNat=r.rule.length-i by omega];refine vU (lo:=0+(i:Int)+1) (n:=r.rule.length-i) (by omega) rfl (fun k=>Pm.co (Pm.aK r.b r.rule) (i+1+k)*r.at k) ?_ ?_
   ·intro H2 k g2 hk kk hkk;have e1:(0+(i:Int)+1+(k:Int)).toNat=i+1+k:=by omega
    have e2:(0+(i:Int)+1+(k:Int)-1-(0+(i:Int))).toNat=k:=by omega
    have lq:(Pm.aK r.b r.rule).length=r.rule.length+1:=Pm.aY ..;refine⟨_,rfl,_,rfl,_,_,.inr (SqT.of (g2 _ _ (g _ _ hP))),aW (ns:=Pm.aK r.b r.rule) (by omega:(0:Int)<=0+(i:Int)+1+(k:Int)) (by omega),?_⟩;refine⟨_,rfl,_,rfl,_,_,rfl,rfl,_,rfl,_,_,rfl,rfl,_,_,.inr (SqT.of (g2 _ _ (g _ _ hS))),aW (ns:=r.starts) (by omega:(0:Int)<=0+(i:Int)+1+(k:Int)-1-(0+(i:Int))) (by omega),?_⟩;refine⟨nR (Rm.Bd.getD ok.qI _) (Rm.Bd.getD ok.jC _) (by decide),?_⟩;rw[e1,e2];have e3:r.at k=r.starts.getD k 0:=Rm.oV (by omega);rw[e3]at hkk;exact hkk
   ·intro D hD;have g3:=Same.new hD (.lst ((Pm.ofF (r.rule.length-i) fun k=>Pm.co (Pm.aK r.b r.rule) (i+1+k)*r.at k).map V.int));have hL3:=g3 _ _ hL;have lL:((Pm.ofF i fun k=>Rm.tk r.b (Pm.tp (Pm.aK r.b r.rule) r.at k)).map V.int).length=i:=by rw[List.length_map,Pm.aM]
    refine⟨_,rfl,.inl ⟨rfl,_,SqL.of hL3⟩,_,rfl,_,rfl,D,_,rfl,SqL.of aB,r.b,_,rfl,ok.by0,?_⟩;refine⟨l0,_,_,rfl,rfl,hL3,?_,?_⟩
    ·rw[lL];exact bN (by omega)
    ·refine⟨_,_,rfl,(g.trans g3).upd h0 _,?_⟩;rw[aB,Pm.Ak,uN];have e4:Pm.tp (Pm.aK r.b r.rule) r.at i=(Pm.ofF (r.rule.length-i) fun k=>Pm.co (Pm.aK r.b r.rule) (i+1+k)*r.at k).sum:=by
      unfold Pm.tp;rw[Pm.ofF,Pm.qp,Pm.aY,Nat.add_sub_cancel]
     rw[e4]
  ·rintro σ' H' ⟨o5,o6,rfl,g,hL⟩;refine⟨_,rfl,l0,_,rfl,SqL.of hL,fun t1 H3 g3 h3=>?_⟩;refine q t1 H3 (g.trans g3) ?_;rw[h3,D5,hl,Int.toNat_natCast]
theorem pC(F:Fn K mg "shared_divisor" fW ["by","one","other"])(fZ:jF P w K mg base)(gO:n8 P w K mg base):jE P w K mg base:=by
 refine F.cal oZ (fun vs H Q E h=>?_) (fun f cdv A outer s H vs Q E hr h=>?_)
 ·obtain⟨b,a,c,P,t,rfl,_⟩:=h;rfl
 ·obtain⟨b,a,c,P',t,rfl,hA,hC,zP,zt,hP,bP,bt,h⟩:=h;refine⟨_,(aF (aV (qu (aR (xeq K hr) (pv 0) aq (aZ _)) (au fZ hr rfl (aN (pv 1) (aN (pv 2) ak))) (au gO hr rfl (aN (pv 0) (aN (pv 1) (aN (pv 2) ak))))))),?_⟩;refine⟨_,rfl,_,rfl,?_⟩;refine jW (fun c0=>?_) (fun c0=>?_)
  ·have c0':b=0:=dec_true c0;rcases h with⟨_,g,N,U,V',G,hV,hU,hUV,q⟩|⟨p,rfl,hp,_⟩
   ·exact⟨_,rfl,_,rfl,a,c,P',t,g,N,U,V',rfl,hA,hC,zP,zt,hP,bP,bt,G,hV,hU,hUV,q⟩
   ·have:=hp.1;omega
  ·have c0':¬b=0:=dec_false c0;rcases h with⟨z,_⟩|⟨p,rfl,hp,hpb,yP,yt,q⟩
   ·exact absurd z c0'
   ·exact⟨_,rfl,_,rfl,_,rfl,p,a,c,P',t,rfl,hp,hpb,hA,hC,zP,zt,yP,yt,fun _ z=>by have:=hP.pos;rw[z]at this;exact absurd this (by decide),q⟩
theorem yU(F:Fn K mg "least_of" oX ["row"])(eE:m9 P w K mg base)(uo:za P w K mg base)(bZ:jf P w K mg base)(fR:jE P w K mg base):tO P w K mg base:=by
 refine F.cal jl (fun vs H Q E h=>?_) (fun f cdv A outer s H vs Q E hr h=>?_)
 ·obtain⟨v,r,rfl,_⟩:=h;rfl
 ·obtain⟨v,r,rfl,⟨a0,p,p2,rfl,hA,hR,hS⟩,ok,hB,hT,q⟩:=h;refine⟨_,(ao (aJ (i:=1) jl.nd rfl (Or.inl rfl) (bH (xix K) (pv 0) aq (fun _ _=>rfl)))
   (ao (aJ (i:=2) jl.nd rfl (Or.inl rfl) (au eE hr rfl (aN (pv 1) (aG (bH (xix K) (pv 0) aq (fun _ _=>rfl)) ak))))
   (ao (aJ (i:=3) jl.nd rfl (Or.inl rfl) (au uo hr rfl (aN (pv 0) (aN (pv 2) ak))))
   (aF (aV (bH (xix K) (au bZ hr rfl (aN (pv 1) (aN (pv 2) (aG (au fR hr rfl (aN (pv 1) (aN (pv 2) (aN (pv 3) ak)))) ak)))) aq (fun _ _=>rfl))))))),?_⟩
  have hs:=ok.short;have hb1:=ok.by1;have hm:=Pm.dz r.b r.rule;have lq:(Pm.aK r.b r.rule).length=r.rule.length+1:=Pm.aY ..;refine⟨_,rfl,_,_,.inr (SqT.of hA),rfl,?_⟩;refine⟨_,rfl,_,rfl,_,_,.inr (SqT.of hA),rfl,r.b,p,r.rule,rfl,ok.by0,hR,by omega,fun tP H1 g1 hP=>?_⟩;refine⟨_,rfl,_,rfl,.ref a0,r,tP,rfl,⟨a0,p,p2,rfl,g1 _ _ hA,g1 _ _ hR,g1 _ _ hS⟩,ok,hP,fun tT H2 g2 hTp=>?_⟩;have hP2:=g2 _ _ hP;have lt:=Fv r;refine⟨_,rfl,_,rfl,_,rfl,_,rfl,_,rfl,r.b,tP,tT,Pm.aK r.b r.rule,D5 r,rfl,hP2,hTp,by omega,by omega,hm,(fun x hx=>(ok.qI x hx).mono (by decide)),Iu ok,?_⟩;have nP:=Dq r.b r.rule hB.one;by_cases h0:r.b=0
  ·obtain⟨d,ua,u,W7,hur,hQ0,hua,hsz⟩:=hT h0;have hK:=ok.kp;rw[h0]at hK;rw[h0]at hm lq;obtain⟨g,L,N,hL,hLy,hKL,hall,hlen,hE,G,hV,hU⟩:=Pm.Kv hm hK hQ0 hua (u:=u) (e:=5) (U:=u+400) (fun k=>by have:=Pm.ji ok.by0 ok.by1 W7 hur;rw[h0]at this;exact Pm.mD this k) (by rw[lq];omega) (by rw[lq];omega);have eT:Pm.co (D5 r)=Pm.tp (Pm.aK 0 r.rule) r.at:=funext fun k=>by rw[yd,h0,Rm.bf]
   refine .inl ⟨h0,g,N,_,_,by rw[h0,eT];exact G,hV,hU,by omega,fun tg H3 g3 hg=>?_⟩;have hgl:g.length<=r.rule.length+1:=by have:=hL.pos;omega
   have bg:∀x∈g,Rm.Bd 124000 x:=fun x hx=>by
    obtain⟨k,hk,e⟩:=List.mem_iff_getElem.mp hx;have:=hU k;rw[Pm.qZ hk,e]at this;exact this.mono (by omega)
   refine⟨r.b,tP,tg,Pm.aK r.b r.rule,g,rfl,ok.by0,by omega,g3 _ _ hP2,hg,by rw[h0];omega,by omega,G.mon,nP,(fun x hx=>(ok.qI x hx).mono (by decide)),bg,fun t x y o l H4 g4 ht hx hy D _ _ _=>?_⟩;refine⟨_,_,.inr (SqT.of ht),rfl,?_⟩;have D':Pm.Div r.b (Pm.aK r.b r.rule) g L []:=⟨by rw[h0];exact hLy,Pm.Py.nil _,G.mon.pos,fun k=>by rw[Pm.dB,Int.add_zero,h0,hE k]⟩;obtain⟨eo,_⟩:=D.uniq G.mon D';subst eo;exact q x o H4 (g1.trans (g2.trans (g3.trans g4))) hx ⟨hL,fun k=>by rw[h0];exact Rm.bf _,by rw[h0];exact hKL,by rw[h0];exact hall⟩ (by have:=G.mon.pos;omega)
  ·obtain⟨P0,hP0,hb⟩:=hB.resolve_left h0;have hp:=Av hP0;have hr:=jt P0 hP0;have yP:Pm.Py (P0:Int) (Pm.aK r.b r.rule):=by rw[<-hb];exact HX hm nP
   have yt:Pm.Py (P0:Int) (D5 r):=by rw[<-hb];exact Pm.Py.ofF ..
   refine .inr ⟨P0,hb,hp,by omega,yP,yt,fun tg g H3 g3 hg hG hgl=>?_⟩;have bg:∀x∈g,Rm.Bd 124000 x:=Jm hr.1 (by omega) hG.py;refine⟨r.b,tP,tg,Pm.aK r.b r.rule,g,rfl,ok.by0,by omega,g3 _ _ hP2,hg,by omega,by omega,hG.mon,nP,(fun x hx=>(ok.qI x hx).mono (by decide)),bg,fun t x y o l H4 g4 ht hx hy D _ _ _=>?_⟩;refine⟨_,_,.inr (SqT.of ht),rfl,?_⟩;rw[hb]at D;rw[<-hb]at D;obtain⟨hl1,hl2⟩:=G9 hp ok hb hG (by rw[hb]at D ⊢;exact D);exact q x o H4 (g1.trans (g2.trans (g3.trans g4))) hx hl1 hl2
theorem wX(F:Fn K mg "shortest" oE ["row"])(oR:tO P w K mg base)(qD:vC P w K mg base):oK P w K mg base:=by
 refine F.cal mL (fun vs H Q E h=>?_) (fun f cdv A outer s H vs Q E hr h=>?_)
 ·obtain⟨v,r,rfl,_⟩:=h;rfl
 ·obtain⟨v,r,rfl,⟨a0,p,p2,rfl,hA,hR,hS⟩,ok,hB,hT,q⟩:=h;refine⟨_,(ao (aJ (i:=1) mL.nd rfl (Or.inl rfl) (au oR hr rfl (aN (pv 0) ak)))
   (ao (aJ (i:=2) mL.nd rfl (Or.inl rfl) (au qD hr rfl (aG (bH (xix K) (pv 0) aq (fun _ _=>rfl)) (aN (pv 1) ak))))
   (aF (aV (lF (aG (bH (xix K) (pv 0) aq (fun _ _=>rfl)) (aN (pv 2) (aG (bB (gw K) rfl B.dD boot_tuple (aG (qw (xsl K) (bH (xix K) (pv 0) aq (fun _ _=>rfl)) uf (uw (aL (iW K) rfl B.cL boot_len (aN (pv 2) ak)))) ak)) ak)))))))),?_⟩
  have hs:=ok.short;have hl:=ok.len;have lS:(r.starts.map V.int).length=r.starts.length:=List.length_map _;refine⟨_,rfl,.ref a0,r,rfl,⟨a0,p,p2,rfl,hA,hR,hS⟩,ok,hB,hT,fun tL L H1 g1 hL lst ll=>?_⟩;have hLp:=lst.mon.pos;refine⟨_,rfl,_,_,.inr (SqT.of (g1 _ _ hA)),rfl,_,rfl,r.b,tL,L,rfl,ok.by0,hL,hLp,by omega,fun tR H2 g2 hR2=>?_⟩;have lR:((Pm.gk r.b L).map V.int).length=L.length-1:=by rw[List.length_map,Pm.dY]
  have hA2:=(g1.trans g2) _ _ hA;have hS2:=(g1.trans g2) _ _ hS;refine⟨_,rfl,_,_,.inr (SqT.of hA2),rfl,_,rfl,_,rfl,_,_,.inr (SqT.of hA2),rfl,?_⟩;refine⟨_,rfl,.ref tR,L.length-1,rfl,.inr ⟨_,SqT.of hR2,lR.symm⟩,?_⟩;refine⟨_,rfl,?_⟩;by_cases hw:r.starts.length<=L.length-1
  ·refine .inr (.inr ⟨_,SqT.of hS2,?_,?_⟩)
   ·rw[HT.jk,HT.gG,lS];omega
   ·refine⟨p2,_,rfl,.inr ⟨SqT.of hS2,?_⟩⟩;refine⟨(by show 3<=sizeLine;decide),fun t ht=>?_⟩;have g3:=Same.new ht (.tup [.int r.b,.ref tR,.ref p2]);refine q (.ref t) L _ (g1.trans (g2.trans g3)) ⟨t,tR,p2,rfl,aB,g3 _ _ hR2,?_⟩ lst ll;show _=some (HO.tup ((r.starts.take (L.length-1)).map V.int));rw[List.take_of_length_le hw];exact g3 _ _ hS2
  ·refine .inr (.inl ⟨_,SqT.of hS2,?_,fun p3 hp3=>?_⟩)
   ·rw[HT.jk,HT.gG,lS];omega
   ·refine⟨p3,_,rfl,.inr ⟨SqT.of aB,?_⟩⟩;have g3:=Same.new hp3 (.tup (vO (r.starts.map V.int) none (some ((L.length-1:Nat):Int))));refine⟨(by show 3<=sizeLine;decide),fun t ht=>?_⟩;have g4:=Same.new ht (.tup [.int r.b,.ref tR,.ref p3]);refine q (.ref t) L _ (g1.trans (g2.trans (g3.trans g4))) ⟨t,tR,p3,rfl,aB,(g3.trans g4) _ _ hR2,?_⟩ lst ll;show _=some (HO.tup ((r.starts.take (L.length-1)).map V.int));rw[List.map_take,<-Eb];exact g4 _ _ aB
theorem xW(F:Fn K mg "_law_cell_at" oO ["_law_script","_law_k"]):oJ P w K mg base:=by
 refine F.cal yx (fun vs H Q E h=>?_) (fun f cdv A outer s H vs Q E hr h=>?_)
 ·obtain⟨a,ns,k,rfl,_⟩:=h;rfl
 ·obtain⟨a,ns,k,rfl,hS,h0,h1,hB,q⟩:=h;refine⟨_,(ao (jy (aR sE (pv 1) (aL (iW K) rfl B.cL boot_len (aN (pv 0) ak)) (aZ _))
   (aF (aV (bH (xix K) (pv 0) (pv 1) (fun _ _=>rfl))))
   cY)
   (aF (aV (aH v_mul (aH (fV K) (aH v_mul (pv 1) aq) aq) (aH (fV K) (pv 1) aq))))),?_⟩
  have hl:(ns.map V.int).length=ns.length:=List.length_map _;refine⟨_,rfl,_,rfl,.ref a,ns.length,rfl,.inl ⟨_,hS,hl.symm⟩,_,_,rfl,rfl,_,rfl,?_⟩;refine jW (fun c=>?_) (fun c=>?_)
  ·have c':k<(ns.length:Int):=dec_true c;refine⟨_,rfl,_,rfl,ns.map V.int,.int (ns.getD k.toNat 0),.inl hS,aW h0 c',q _ ?_⟩;exact intBits_le_iff.mp (hB _ (Pm.DK (by omega)))
  ·refine⟨_,rfl,mulR (by decide) (by decide),_,rfl,mulR (by show -(2^64)<k+31;omega) (by show k+31<2^64;omega),q _ ?_⟩;refine(Rm.Bd.mul (m:=40) (n:=40) (Rm.Bd.of (by omega) (by omega)) (Rm.Bd.of (by omega) (by omega))).mono (by decide)
theorem Kw(F:Fn K mg "_law_mix" CV ["_law_cell","_law_k"]):vP P w K mg base:=by
 refine F.cal xq (fun vs H Q E h=>?_) (fun f cdv A outer s H vs Q E hr h=>?_)
 ·obtain⟨c,k,rfl,_⟩:=h;rfl
 ·obtain⟨c,k,rfl,h0,h1,q⟩:=h;refine⟨_,(ao (aJ (i:=2) xq.nd rfl (Or.inl rfl) (aH cO (aH (fV K) (aH v_mul (aH (fV K) (aH cO (pv 0) aq) aq) (aH (fV K) (aH (fV K) aq (aH v_mul aq (pv 1))) (aH v_mul (aH v_mul aq (pv 1)) (pv 1)))) (pv 1)) aq))
   (ao (aJ (i:=2) xq.nd rfl (Or.inl rfl) (aH cO (aH v_mul (pv 2) (pv 2)) aq))
   (aF (aV (aH yS (aH cO (aH v_mul (pv 2) (aH (fV K) (aH (fV K) (pv 2) (pv 1)) aq)) aq) aq))))),?_⟩
  have b1:0<=c%2147483629:=cJ _ (by decide);have b2:c%2147483629<2147483629:=cQ _ (by decide);refine⟨_,rfl,_,_,rfl,rfl,(by decide:(0:Int)<2147483629),?_⟩;refine⟨_,rfl,mulL (by decide) (by decide),_,rfl,mulL (by decide) (by decide),_,rfl,mulR (by omega) (by omega),?_⟩;refine⟨mulL (by show -(2^64)<c%2147483629+1;omega) (by show c%2147483629+1<2^64;omega),_,rfl,_,_,rfl,rfl,(by decide:(0:Int)<2147483647),?_⟩;dsimp only;have m0:=cJ ((c%2147483629+1)*(48271+69621*k+2*k*k)+k) (show(0:Int)<2147483647 by decide);have m1:=cQ ((c%2147483629+1)*(48271+69621*k+2*k*k)+k) (show(0:Int)<2147483647 by decide);generalize hy:((c%2147483629+1)*(48271+69621*k+2*k*k)+k)%2147483647=y at m0 m1;refine⟨_,rfl,_,rfl,mulL (by omega) (by omega),_,_,rfl,rfl,(by decide:(0:Int)<2147483629),?_⟩;dsimp only;have n0:=cJ (y*y) (show(0:Int)<2147483629 by decide);have n1:=cQ (y*y) (show(0:Int)<2147483629 by decide);generalize hz:y*y%2147483629=z at n0 n1;refine⟨_,rfl,_,rfl,_,rfl,mulL (by omega) (by omega),_,_,rfl,rfl,(by decide:(0:Int)<2147483587),_,_,rfl,rfl,⟨by decide,by decide⟩,?_⟩;have l0:=cJ (z*(z+k+1)) (show(0:Int)<2147483587 by decide);have l1:=cQ (z*(z+k+1)) (show(0:Int)<2147483587 by decide);generalize hw:z*(z+k+1)%2147483587=w at l0 l1;exact q _ (by omega) ⟨by omega,by unfold VD Rk Pn;rw[hy,hz,hw]⟩
theorem vX(F:Fn K mg "_law_drawn_by" lV ["_law_cell"])(dI:vP P w K mg base):rB P w K mg base:=by
 refine F.cal wA (fun vs H Q E h=>?_) (fun f cdv A outer s H vs Q E hr h=>?_)
 ·obtain⟨c,rfl,_⟩:=h;rfl
 ·obtain⟨c,rfl,q⟩:=h;refine⟨_,(aF (aV (bH (xix K) (jg (fO aq (fO aq (fO aq (fO aq (fO aq (fO aq (fO aq (fO aq (fO aq (fO aq ak))))))))))) (aH cO (au dI hr rfl (aN (pv 0) (fO aq ak))) aq) (fun _ _=>rfl)))),?_⟩;refine⟨(by show 10<=sizeLine;decide),fun p hp=>?_⟩;refine⟨_,rfl,c,1,rfl,by decide,by decide,fun x h0 h1=>?_⟩;have e0:=cJ x (show(0:Int)<10 by decide);have e1:=cQ x (show(0:Int)<10 by decide);refine⟨_,_,rfl,rfl,(by decide:(0:Int)<10),_,_,.inl (SqL.of aB),aW (ns:=byF) e0 e1,?_⟩;exact q _ _ (Same.new hp _) (LQ (by omega))
theorem BQ(F:Fn K mg "_law_taken" ur ["_law_by","_law_number"]):mZ P w K mg base:=by
 refine F.cal BX (fun vs H Q E h=>?_) (fun f cdv A outer s H vs Q E hr h=>?_)
 ·obtain⟨b,n,rfl,_⟩:=h;rfl
 ·obtain⟨b,n,rfl,h0,q⟩:=h;refine⟨_,(ao (jy (aR (xeq K hr) (pv 0) aq (aZ _))
   (aF (aV (pv 1)))
   cY)
   (aF (aV (aH cO (pv 1) (pv 0))))),?_⟩
  refine⟨_,rfl,_,rfl,?_⟩;refine jW (fun c=>?_) (fun c=>?_)
  ·refine⟨_,rfl,?_⟩;have c':b=0:=dec_true c;have e:Rm.tk b n=n:=by rw[c',Rm.bf]
   rw[e]at q;exact q
  ·have c':¬b=0:=dec_false c;refine⟨_,rfl,_,rfl,_,_,rfl,rfl,(by omega:(0:Int)<b),?_⟩;rw[Rm.fP c']at q;exact q
theorem sI(F:Fn K mg "_law_one_number" jr ["_law_by","_law_cell","_law_k"])(dI:vP P w K mg base)(dN:mZ P w K mg base):nG P w K mg base:=by
 refine F.cal iI (fun vs H Q E h=>?_) (fun f cdv A outer s H vs Q E hr h=>?_)
 ·obtain⟨b,c,k,rfl,_⟩:=h;rfl
 ·obtain⟨b,c,k,rfl,hb,hc,h0,h1,q⟩:=h;refine⟨_,(ao (aJ (i:=3) iI.nd rfl (Or.inl rfl) (aH bV (aH (fV K) (aH cO (aH v_mul (aH (fV K) (pv 1) aq) (aH m6 (aH (fV K) (pv 2) aq) aq)) (aH bV (aH v_mul aq (aH m6 aq aq)) aq)) aq) (aH m6 aq aq)))
   (ao (aJ (i:=4) iI.nd rfl (Or.inl rfl) (bH (xix K) (jg (fO aq (fO aq (KR (vZ pX aq) (fO aq (fO aq (KR (vZ pX aq) (fO aq (fO aq (fO aq (fO aq ak))))))))))) (aH cO (au dI hr rfl (aN (pv 1) (kY (aH (fV K) aq (pv 2)) ak))) aq) (fun _ _=>rfl)))
   (aF (aV (au dN hr rfl (aN (pv 0) (aG (bH (xix K) (jg (aN (pv 4) (aN (pv 3) ak))) (bB CZ rfl B.Ub boot_int (aG (Ri (lW qX (pv 0) aq (aZ _)) (Hs (MJ (lW qX (pv 2) aq (aZ _)) (Hs (lW (xeq K hr) (aH cO (au dI hr rfl (aN (pv 1) (kY (aH (fV K) aq (pv 2)) ak))) aq) aq (aZ _)))))) ak)) (fun _ _=>rfl)) ak))))))),?_⟩
  have hp7:Rm.Bd (6*7+1) ((k+3)^7):=HN (Rm.Bd.of (by omega) (by omega)) 7;refine⟨_,rfl,_,rfl,_,_,rfl,rfl,⟨by decide,by decide,by show(k+3).natAbs<2^64;omega⟩,nR (m:=1048577) (n:=43) (Rm.Bd.add hc ((Rm.Bd.of (n:=1) (by decide) (by decide)).mono (by decide))) hp7 (by decide),?_⟩;refine⟨_,_,rfl,rfl,⟨by decide,by decide,by decide⟩,mulL (by decide) (by decide),_,_,rfl,rfl,_,_,rfl,rfl,(by decide:(0:Int)<2*10^(9:Int).toNat-1),?_⟩;refine⟨_,_,rfl,rfl,⟨by decide,by decide,by decide⟩,_,_,rfl,rfl,?_⟩;dsimp only;have f0:=cJ ((c+1)*(k+3)^(7:Int).toNat) (show(0:Int)<2*10^(9:Int).toNat-1 by decide);have f1:=cQ ((c+1)*(k+3)^(7:Int).toNat) (show(0:Int)<2*10^(9:Int).toNat-1 by decide);have ef:(2*10^(9:Int).toNat-1:Int)=1999999999:=by decide
  have eg:(10^(9:Int).toNat:Int)=1000000000:=by decide
  generalize Ol:(c+1)*(k+3)^(7:Int).toNat%(2*10^(9:Int).toNat-1)+1-10^(9:Int).toNat=far;have W2:Rm.Bd 31 far:=by
   rw[ef]at f0 f1 Ol;rw[eg]at Ol;generalize (c+1)*(k+3)^(7:Int).toNat%1999999999=w at f0 f1 Ol;exact Rm.Bd.of (by omega) (by omega)
  clear f0 f1 Ol;refine⟨_,rfl,_,rfl,(by show 10<=sizeLine;decide),fun p hp=>?_⟩;refine⟨_,rfl,_,rfl,c,20+k,rfl,by omega,by omega,fun x x0 x1=>?_⟩;have e0:=cJ x (show(0:Int)<10 by decide);have e1:=cQ x (show(0:Int)<10 by decide);refine⟨_,_,rfl,rfl,(by decide:(0:Int)<10),_,_,.inl (SqL.of aB),aW (ns:=yW) e0 e1,?_⟩;have bs:=C7 (x%10).toNat (by omega);generalize yW.getD (x%10).toNat 0=sm at bs;have bsm:Rm.Bd 3 sm:=Rm.Bd.of (by omega) (by omega);have g1:=Same.new hp (.lst ([.int 0,.int 1,.int (-1),.int 2,.int 1,.int (-2),.int 3,.int 0,.int 1,.int 5]));generalize upd H p (.lst ([.int 0,.int 1,.int (-1),.int 2,.int 1,.int (-2),.int 3,.int 0,.int 1,.int 5]))=H1 at g1;refine⟨_,rfl,_,rfl,_,rfl,(by show 2<=sizeLine;decide),fun p2 hp2=>?_⟩;have g2:=Same.new hp2 (.lst [.int sm,.int far]);have g12:=g1.trans g2;have hL:(upd H1 p2 (.lst [.int sm,.int far])) p2=some (.lst ([sm,far].map V.int)):=aB;generalize upd H1 p2 (.lst [.int sm,.int far])=H2 at g2 g12 hL;have fin:∀t:Bool,(t=true->b≠0∨15<=k)->∃v,atI ([sm,far].map V.int) (if t=true then 1 else 0)=some (.int v)/\Q (.int (Rm.tk b v)) H2:=fun t ht=>by
   cases t
   ·exact⟨_,aW (ns:=[sm,far]) (by decide) (by show(0:Int)<2;decide),q _ _ g12 (pL hb.lo _) (lu hb (by decide) (bsm.mono (by decide))) fun _=>⟨lu hb (by decide) (bsm.mono (by decide)),fun z=>by rw[z,Rm.bf];exact bsm⟩⟩
   ·refine⟨_,aW (ns:=[sm,far]) (by decide) (by show(1:Int)<2;decide),q _ _ g12 (pL hb.lo _) (lu hb (by decide) W2) fun h15=>?_⟩;rcases ht rfl with z|z
    ·exact⟨Ik hb (by decide) z (pL hb.lo _),fun y=>absurd y z⟩
    ·omega
  have fT:∀h,∃v,atI ([sm,far].map V.int) 1=some (.int v)/\Q (.int (Rm.tk b v)) H2:=fun h=>fin true fun _=>h;refine⟨_,rfl,_,_,rfl,rfl,_,rfl,?_⟩;refine jW (fun cb=> .inr ⟨_,rfl,?_⟩) (fun _=>?_)
  ·have hb7:b≠0∨15<=k:= .inl (by have:=dec_true cb;omega);exact⟨_,_,.inl (SqL.of hL),(fT hb7).choose_spec.1,b,_,rfl,hb.lo,(fT hb7).choose_spec.2⟩
  refine⟨_,rfl,_,_,rfl,rfl,_,rfl,?_⟩;refine jW (fun ck=>?_) (fun _=> .inr ⟨_,rfl,_,_,.inl (SqL.of hL),(fin false (fun z=>nomatch z)).choose_spec.1,b,_,rfl,hb.lo,(fin false (fun z=>nomatch z)).choose_spec.2⟩);have Vr:b≠0∨15<=k:= .inr (by have:=dec_true ck;omega);refine⟨_,rfl,_,rfl,c,50+k,rfl,by omega,by omega,fun x2 _ _=>?_⟩;refine⟨_,_,rfl,rfl,(by decide:(0:Int)<7),?_⟩;exact .inr ⟨_,rfl,_,_,.inl (SqL.of hL),(fin _ fun _=>Vr).choose_spec.1,b,_,rfl,hb.lo,(fin _ fun _=>Vr).choose_spec.2⟩
theorem Az(F:Fn K mg "_law_places" rR ["_law_row","_law_count"])(dN:mZ P w K mg base):vd P w K mg base:=by
 refine F.cal gP (fun vs H Q E h=>?_) (fun f cdv A outer s H vs Q E hr h=>?_)
 ·obtain⟨v,r,c,rfl,_⟩:=h;rfl
 ·obtain⟨v,r,c,rfl,⟨a,p,p2,rfl,hA,hR,hS⟩,ok,hc0,hc1,q⟩:=h;refine⟨_,(ao (rJ (pv 0) (Ng K (n:=3) rfl (j7 (aX (i:=2) gP.nd rfl (Or.inl rfl)) (j7 (aX (i:=3) gP.nd rfl (Or.inr rfl)) (j7 (aX (i:=4) gP.nd rfl (Or.inl rfl)) Dr)))))
   (ao (aJ (i:=5) gP.nd rfl (Or.inr rfl) (C8 (bB (xlist K) rfl B.zR boot_list (aG (qw (xsl K) (pv 4) uf (uw (pv 1))) ak))))
   (ao (gH PassesOwn.never (aR sE (aL (iW K) rfl B.cL boot_len (aN (pv 5) ak)) (pv 1) (aZ _))
   (ao (aJ (i:=6) gP.nd rfl (Or.inl rfl) (aL (Oq K rfl) rfl B.GX boot_sum (aG (dG (sc:=xR) (N:=["_law_k","_law_found","_law_rule"]) (ix:=[none,some 5,some 3]) cT rfl (bK rfl B.cu (aG (aL (iW K) rfl B.cL boot_len (aN (pv 3) ak)) ak)) (fun cl C s₀ H₀ ex=>⟨(aX (i:=0) jA rfl (Or.inl rfl)),cR,(aH v_mul (bH (xix K) (pv 2) (pv 0) (fun _ _=>rfl)) (bH (xix K) (pv 1) (aH bV (vZ pX aq) (pv 0)) (fun _ _=>rfl)))⟩)) ak)))
   (aF (jL (rM K (pv 5) (au dN hr rfl (aN (pv 2) (aN (pv 6) ak))))))))
   (aF (aV (pv 5)))))),?_⟩
  have hl:=ok.len;have hl2:=ok.short;have lS:(r.starts.map V.int).length=r.starts.length:=List.length_map _;have lR:(r.rule.map V.int).length=r.rule.length:=List.length_map _;refine⟨_,rfl,a,_,rfl,SqT.of hA,rfl,_,_,rfl,_,_,rfl,_,_,rfl,rfl,?_⟩;have RH:vO (r.starts.map V.int) none (some c)=(r.row (min c.toNat r.starts.length)).map V.int:=by
   have e:r.row (min c.toNat r.starts.length)=r.starts.take (min c.toNat r.starts.length):=Rm.dR (Nat.min_le_right _ _);rw[e];have e2:c=((c.toNat:Nat):Int):=by omega
   unfold vO;rw[e2,HT.jk,HT.gG,List.drop_zero,Nat.sub_zero,lS,List.map_take,Int.toNat_natCast]
  refine Bar.by (fun v H1=>∃l,v = .ref l/\Same H H1/\H l=none/\H1 l=some (.lst ((r.row (min c.toNat r.starts.length)).map V.int))) (fun kk hkk=>?_) ?_
  ·refine⟨_,rfl,_,rfl,_,rfl,?_⟩;by_cases hw:r.starts.length<=c.toNat
   ·refine .inr (.inr ⟨_,SqT.of hS,?_,?_⟩)
    ·have e2:c=((c.toNat:Nat):Int):=by omega
     rw[e2,HT.jk,HT.gG,lS];omega
    ·refine⟨p2,_,rfl,.inr (SqT.of hS),fun l hl1=>hkk _ _ ⟨l,rfl,Same.new hl1 _,hl1,?_⟩⟩;rw[aB,Nat.min_eq_right hw];have e:r.row r.starts.length=r.starts:=(Rm.dR (Nat.le_refl _)).trans (List.take_length ..);rw[e]
   ·refine .inr (.inl ⟨_,SqT.of hS,?_,fun p3 hp3=>?_⟩)
    ·have e2:c=((c.toNat:Nat):Int):=by omega
     rw[e2,HT.jk,HT.gG,lS];omega
    ·refine⟨p3,_,rfl,.inr (SqT.of aB),fun l hl1=>?_⟩;have g3:=Same.new hp3 (.tup (vO (r.starts.map V.int) none (some c)));refine hkk _ _ ⟨l,rfl,g3.trans (Same.new hl1 _),g3.free hl1,?_⟩;rw[aB,RH]
  rintro v H1 ⟨l,rfl,g1,hl1,hr1⟩;refine⟨fun m σ' H'=>∃(n:Nat) (o6:Option V),m=c.toNat-n/\min c.toNat r.starts.length<=n/\n<=c.toNat/\σ'=[some (.ref a),some (.int c),some (.int r.b),some (.ref p),some (.ref p2),some (.ref l),o6]/\Same H H'/\H' l=some (.lst ((r.row n).map V.int)),
   ⟨_,min c.toNat r.starts.length,_,rfl,Nat.le_refl _,Nat.min_le_left _ _,rfl,g1,hr1⟩,?_⟩
  rintro m σ' H' ⟨n,o6,rfl,h1,h2,rfl,g,hL⟩;have lL:((r.row n).map V.int).length=n:=by rw[List.length_map,Rw.dH]
  have lN:(r.row n).length=n:=Rw.dH ..;refine⟨_,rfl,.ref l,n,rfl,.inl ⟨_,SqL.of hL,lL.symm⟩,_,rfl,_,_,rfl,rfl,_,rfl,?_⟩;refine jW (fun cc=>?_) (fun cc=>?_)
  ·have hn:n<c.toNat:=by have:=dec_true cc;omega
   refine⟨_,fun _ _ z=>z,?_⟩;refine⟨_,rfl,.ref p,r.rule.length,rfl,.inr ⟨_,SqT.of (g _ _ hR),lR.symm⟩,?_⟩;refine⟨(r.rule.length:Int),rfl,(by omega:-(2^62)<=(r.rule.length:Int)),(by omega:(r.rule.length:Int)<2^62),?_⟩;rw[Int.toNat_natCast];refine kj (n:=r.rule.length) (by omega) rfl (fun k=>r.rule.getD k 0*(r.row n).getD (n-1-k) 0) ?_ ?_
   ·intro H2 k g2 hk kk hkk;refine⟨_,rfl,_,rfl,_,_,.inr (SqT.of (g2 _ _ (g _ _ hR))),aW (ns:=r.rule) (by omega:(0:Int)<=0+(k:Int)) (by omega),?_⟩;refine⟨_,rfl,_,rfl,_,rfl,_,_,rfl,rfl,_,_,.inl (SqL.of (g2 _ _ hL)),Aj (ns:=r.row n) (n-1-k) (by omega) (by rw[lN];omega),?_⟩;refine⟨nR (Rm.Bd.getD ok.dX _) (Rm.Bd.getD (ok.CQ n (by omega)) _) (by decide),?_⟩;rw[show(0+(k:Int)).toNat=k by omega];exact hkk
   ·intro D hD;have gD:=Same.new hD (.lst ((Pm.ofF r.rule.length fun k=>r.rule.getD k 0*(r.row n).getD (n-1-k) 0).map V.int));refine⟨D,_,rfl,SqL.of aB,?_⟩;have es:(Pm.ofF r.rule.length fun k=>r.rule.getD k 0*(r.row n).getD (n-1-k) 0).sum=Rm.S r.rule (fun i=>(r.row n).getD i 0) n r.rule.length:=NK r.rule (fun i=>(r.row n).getD i 0) n r.rule.length;rw[es];have hL3:=gD _ _ hL;generalize upd H' D (.lst ((Pm.ofF r.rule.length fun k=>r.rule.getD k 0*(r.row n).getD (n-1-k) 0).map V.int))=H3 at gD hL3;refine⟨_,rfl,.inl ⟨rfl,_,SqL.of hL3⟩,_,rfl,_,rfl,r.b,_,rfl,ok.by0,?_⟩;refine⟨l,_,_,rfl,rfl,hL3,?_,?_⟩
    ·rw[lL];exact bN (by omega)
    ·refine⟨c.toNat-(n+1),by omega,n+1,_,rfl,by omega,by omega,rfl,(g.trans gD).upd hl1 _,?_⟩;rw[aB];have e:r.row (n+1)=r.row n++[Rm.tk r.b (Rm.S r.rule (fun i=>(r.row n).getD i 0) n r.rule.length)]:=by
      show _++[if n<r.starts.length then r.starts.getD n 0 else _]=_;rw[if_neg (by omega)];rfl
     rw[e,List.map_append];rfl
  ·have hn:n=c.toNat:=by have:=dec_false cc;omega
   subst hn;exact⟨_,rfl,q l H' g hl1 hL⟩
theorem rD(F:Fn K mg "_law_made_longer" iz ["_law_row","_law_number"])(qW:vd P w K mg base)(dN:mZ P w K mg base):lH P w K mg base:=by
 refine F.cal cC (fun vs H Q E h=>?_) (fun f cdv A outer s H vs Q E hr h=>?_)
 ·obtain⟨b,m,r0,s,v,r,n,rfl,_⟩:=h;rfl
 ·obtain⟨b,m,r0,s',v,r,n,rfl,hRI,hb,h0,ok,hs,hsh,hn,q⟩:=h;refine⟨_,(ao (rJ (pv 0) (Ng K (n:=3) rfl (j7 (aX (i:=2) cC.nd rfl (Or.inr rfl)) (j7 (aX (i:=3) cC.nd rfl (Or.inl rfl)) (j7 (aX (i:=4) cC.nd rfl (Or.inl rfl)) Dr)))))
   (ao (aJ (i:=5) cC.nd rfl (Or.inl rfl) (au qW hr rfl (aN (pv 0) (kY (aH (fV K) (aL (iW K) rfl B.cL boot_len (aN (pv 3) ak)) aq) ak))))
   (ao (aJ (i:=6) cC.nd rfl (Or.inl rfl) (aH (fV K) (jg (aN (pv 1) ak)) (aH v_mul (jg (fO aq ak)) (aL (iW K) rfl B.cL boot_len (aN (pv 3) ak)))))
   (ao (j6 PassesOwn.never rfl (bK rfl B.cu (aG (aL (iW K) rfl B.cL boot_len (aN (pv 3) ak)) ak)) (aX (i:=7) cC.nd rfl (Or.inl rfl))
   (ao (rJ (aH (fV K) (bH (xix K) (pv 6) (pv 7) (fun _ _=>rfl)) (bH (xix K) (pv 3) (pv 7) (fun _ _=>rfl))) (vf (pv 6) (pv 7) set_list))
   (aF (rJ (aH bV (bH (xix K) (pv 6) (aH (fV K) (pv 7) aq) (fun _ _=>rfl)) (aH v_mul (pv 1) (bH (xix K) (pv 3) (pv 7) (fun _ _=>rfl)))) (vf (pv 6) (aH (fV K) (pv 7) aq) set_list)))))
   (aF (aV (lF (aN (pv 2) (aG (bB (gw K) rfl B.dD boot_tuple (aG (dG (sc:=qb) (N:=["_law_one","_law_by"]) (ix:=[none,some 2]) cT rfl (KQ K (pv 6)) (fun cl C s₀ H₀ ex=>⟨(aX (i:=0) jA rfl (Or.inl rfl)),cR,(au dN hr rfl (aN (pv 1) (aN (pv 0) ak)))⟩)) ak)) (aG (bB (gw K) rfl B.dD boot_tuple (aN (pv 5) ak)) ak)))))))))),?_⟩
  obtain⟨a,p,p2,rfl,hA,hR,hS⟩:=id hRI;have hO:=ok.ok hb h0 (by omega);have eb:=ok.by_;have lR:(r.rule.map V.int).length=r.rule.length:=List.length_map _;refine⟨_,rfl,a,_,rfl,SqT.of hA,rfl,_,_,rfl,_,_,rfl,_,_,rfl,rfl,?_⟩;refine⟨_,rfl,_,rfl,.ref p,r.rule.length,rfl,.inr ⟨_,SqT.of hR,lR.symm⟩,.ref a,r,(r.rule.length:Int)+1,rfl,hRI,hO.w (by omega),by omega,by omega,fun l1 H1 g1 hl1 h1=>?_⟩;rw[show((r.rule.length:Int)+1).toNat=r.rule.length+1 by omega]at h1;refine⟨_,rfl,(by show 1<=sizeLine;decide),fun l2 hl2=>?_⟩;have g2:=Same.new hl2 (.lst [.int n]);refine⟨(by show 1<=sizeLine;decide),fun l3 hl3=>?_⟩;have g3:=Same.new hl3 (.lst [.int 0]);have h2:(upd (upd H1 l2 (.lst [.int n])) l3 (.lst [.int 0])) l2=some (.lst [.int n]):=g3 _ _ aB;have h3:(upd (upd H1 l2 (.lst [.int n])) l3 (.lst [.int 0])) l3=some (.lst [.int 0]):=aB;have g13:=g2.trans g3;generalize upd (upd H1 l2 (.lst [.int n])) l3 (.lst [.int 0])=H3 at g13 h2 h3;refine⟨_,rfl,.ref p,r.rule.length,rfl,.inr ⟨_,SqT.of (g13 _ _ (g1 _ _ hR)),lR.symm⟩,?_⟩;refine⟨_,h3,by omega,by omega,?_,fun l4 hl4=>?_⟩
  ·show 1*(r.rule.length:Int).toNat<=sizeLine;rw[Nat.one_mul];exact Nat.le_of_lt (bN (by omega))
  rw[show(r.rule.length:Int).toNat=r.rule.length from Int.toNat_natCast _,ju];have g4:=Same.new hl4 (.lst ((Pm.ofF r.rule.length fun _=>0).map V.int));have h2':=g4 _ _ h2;have h4:(upd H3 l4 (.lst ((Pm.ofF r.rule.length fun _=>0).map V.int))) l4=some (.lst ((Pm.ofF r.rule.length fun _=>0).map V.int)):=aB;have g14:=g13.trans g4;generalize upd H3 l4 (.lst ((Pm.ofF r.rule.length fun _=>0).map V.int))=H4 at g4 g14 h2' h4;refine .inl ⟨_,_,h2',h4,?_,fun l5 hl5=>?_⟩
  ·rw[List.length_map,Pm.aM];exact Nat.le_of_lt (bN (by show 1+_<=1000;omega))
  have g5:=Same.new hl5 (.lst ([.int n]++(Pm.ofF r.rule.length fun _=>0).map V.int));have e5:([.int n]++(Pm.ofF r.rule.length fun _=>0).map V.int:List V)=(cX n r.rule 0).map V.int:=by rw[Br,List.map_append];rfl
  have h5:(upd H4 l5 (.lst ([.int n]++(Pm.ofF r.rule.length fun _=>0).map V.int))) l5=some (.lst ((cX n r.rule 0).map V.int)):=by rw[aB,e5]
  have g15:=g1.trans (g14.trans g5);have f5:H l5=none:=(g1.trans g14).free hl5;have f51:H1 l5=none:=g14.free hl5;have Vx:=g14.trans g5;generalize upd H4 l5 (.lst ([.int n]++(Pm.ofF r.rule.length fun _=>0).map V.int))=H5 at g5 h5 g15 Vx;refine⟨_,rfl,.ref p,r.rule.length,rfl,.inr ⟨_,SqT.of (g15 _ _ hR),lR.symm⟩,?_⟩;refine⟨(r.rule.length:Int),rfl,(by omega:-(2^62)<=(r.rule.length:Int)),(by omega:(r.rule.length:Int)<2^62),?_⟩;refine eY (lo:=0) (n:=(r.rule.length:Int).toNat) (fun i σ' H'=>∃o7,σ'=[some (.ref a),some (.int n),some (.int r.b),some (.ref p),some (.ref p2),some (.ref l1),some (.ref l5),o7]/\Same H H'/\Same H1 H'/\H' l5=some (.lst ((cX n r.rule i).map V.int))) ⟨_,rfl,g15,Vx,h5⟩ ?_ ?_
  ·rintro i σ' H' hi ⟨o7,rfl,g,gg,hL⟩;have hi':i<r.rule.length:=by omega
   have e1:(0+(i:Int)).toNat=i:=by omega
   have e2:(0+(i:Int)+1).toNat=i+1:=by omega
   have lL:(cX n r.rule i).length=r.rule.length+1:=cj ..;refine⟨_,rfl,_,rfl,_,_,.inl (SqL.of hL),aW (ns:=cX n r.rule i) (by omega:(0:Int)<=0+(i:Int)) (by omega),?_⟩;refine⟨_,rfl,_,rfl,_,_,.inr (SqT.of (g _ _ hR)),aW (ns:=r.rule) (by omega:(0:Int)<=0+(i:Int)) (by omega),?_⟩;refine⟨_,rfl,_,rfl,l5,_,_,i,rfl,rfl,hL,wu (by omega) (by rw[List.length_map];omega),?_⟩;rw[gY,e1];have gu:=g.upd f5 (.lst (((cX n r.rule i).set i ((cX n r.rule i).getD i 0+r.rule.getD i 0)).map V.int));have ggu:=gg.upd f51 (.lst (((cX n r.rule i).set i ((cX n r.rule i).getD i 0+r.rule.getD i 0)).map V.int));have hL2:(upd H' l5 (.lst (((cX n r.rule i).set i ((cX n r.rule i).getD i 0+r.rule.getD i 0)).map V.int))) l5=some (.lst (((cX n r.rule i).set i ((cX n r.rule i).getD i 0+r.rule.getD i 0)).map V.int)):=aB;generalize upd H' l5 (.lst (((cX n r.rule i).set i ((cX n r.rule i).getD i 0+r.rule.getD i 0)).map V.int))=H6 at gu ggu hL2;refine⟨_,rfl,_,rfl,_,_,.inl (SqL.of hL2),aW (ns:=(cX n r.rule i).set i ((cX n r.rule i).getD i 0+r.rule.getD i 0)) (by omega:(0:Int)<=0+(i:Int)+1) (by rw[List.length_set];omega),?_⟩;refine⟨_,rfl,_,rfl,_,rfl,_,_,.inr (SqT.of (gu _ _ hR)),aW (ns:=r.rule) (by omega:(0:Int)<=0+(i:Int)) (by omega),?_⟩;refine⟨nR hn (Rm.Bd.getD hO.dX _) (by decide),_,_,rfl,rfl,?_⟩;refine⟨_,rfl,_,rfl,l5,_,_,i+1,rfl,rfl,hL2,wu (by omega) (by rw[List.length_map,List.length_set];omega),?_⟩;rw[gY,e1,e2];refine⟨_,rfl,gu.upd f5 _,ggu.upd f51 _,?_⟩;rw[aB,<-Bl hi'];rfl
  ·rintro σ' H' ⟨o7,rfl,g,gg,hL⟩;rw[Int.toNat_natCast]at hL;have lL:(cX n r.rule r.rule.length).length=r.rule.length+1:=cj ..;refine⟨_,rfl,_,rfl,l5,rfl,.inl ⟨⟨_,SqL.of hL⟩,?_⟩⟩;refine E9 hL (by omega) rfl (fun x=>Rm.tk r.b x) ?_ ?_
   ·intro H2 x g2 hx k hk;exact⟨_,rfl,_,rfl,r.b,x,rfl,hO.by0,hk⟩
   ·intro D hD;have gD:=Same.new hD (.lst (((cX n r.rule r.rule.length).map fun x=>Rm.tk r.b x).map V.int));refine⟨D,_,rfl,.inl ⟨SqL.of aB,fun t1 ht1=>?_⟩⟩;have gt1:=Same.new ht1 (.tup (((cX n r.rule r.rule.length).map fun x=>Rm.tk r.b x).map V.int));refine⟨_,rfl,l1,_,rfl,.inl ⟨SqL.of (gt1 _ _ (gD _ _ (gg _ _ h1))),fun t2 ht2=>?_⟩⟩;have gt2:=Same.new ht2 (.tup ((r.row (r.rule.length+1)).map V.int));refine⟨(by show 3<=sizeLine;decide),fun t3 ht3=>?_⟩;have gt3:=Same.new ht3 (.tup [.int r.b,.ref t1,.ref t2]);have fin:=ok.longer hb h0 (by omega) hsh hn;rw[<-eb]at fin;refine q _ ⟨r.b,(cX n r.rule r.rule.length).map (Rm.tk r.b),r.row (r.rule.length+1)⟩ _ (g.trans (gD.trans (gt1.trans (gt2.trans gt3)))) ⟨t3,t1,t2,rfl,aB,gt3 _ _ (gt2 _ _ aB),gt3 _ _ aB⟩ (by rw[<-eb];exact fin) (by show((cX n r.rule r.rule.length).map (Rm.tk r.b)).length=_;rw[List.length_map,cj])
theorem ug(F:Fn K mg "_law_drawn_row" jU ["_law_script","_law_start","_law_by","_law_most"])(dW:oJ P w K mg base)(dI:vP P w K mg base)(gF:nG P w K mg base)(iJ:lH P w K mg base)(dN:mZ P w K mg base):pN P w K mg base:=by
 refine F.cal cH (fun vs H Q E h=>?_) (fun f cdv A outer s H vs Q E hr h=>?_)
 ·obtain⟨a,ns,st,b,m,rfl,_⟩:=h;rfl
 ·obtain⟨a,ns,st,b,m,rfl,hS,s0,s1,hB,hb,m0,m1,q⟩:=h;refine⟨_,(ao (aJ (i:=4) cH.nd rfl (Or.inl rfl) (au dW hr rfl (aN (pv 0) (aN (pv 1) ak))))
   (ao (aJ (i:=5) cH.nd rfl (Or.inl rfl) (aH cO (au dI hr rfl (aN (pv 4) (fO aq ak))) (aH (fV K) (pv 3) aq)))
   (ao (aJ (i:=6) cH.nd rfl (Or.inr rfl) (au dW hr rfl (aN (pv 0) (kY (aH (fV K) (pv 1) aq) ak))))
   (ao (aJ (i:=7) cH.nd rfl (Or.inl rfl) (bB (gw K) rfl B.dD boot_tuple (aG (dG (sc:=sH) (N:=["_law_k","_law_by","_law_mine"]) (ix:=[none,some 2,some 6]) cT rfl (bK rfl B.cu (aN (pv 5) ak)) (fun cl C s₀ H₀ ex=>⟨(aX (i:=0) jA rfl (Or.inl rfl)),cR,(au gF hr rfl (aN (pv 1) (aN (pv 2) (aN (pv 0) ak))))⟩)) ak)))
   (ao (aJ (i:=9) cH.nd rfl (Or.inl rfl) (lF (aN (pv 2) (aN (pv 7) (aG (bB (gw K) rfl B.dD boot_tuple (aG (dG (sc:=sS) (N:=["_law_k","_law_by","_law_mine"]) (ix:=[none,some 2,some 6]) cT rfl (bK rfl B.cu (aN (pv 5) ak)) (fun cl C s₀ H₀ ex=>⟨(aX (i:=0) jA rfl (Or.inl rfl)),cR,(au gF hr rfl (aN (pv 1) (aN (pv 2) (kY (aH (fV K) aq (pv 0)) ak))))⟩)) ak)) ak)))))
   (ao (j6 PassesOwn.never rfl (bK rfl B.cu (aG (bH (xix K) (jg (fO aq (fO aq (fO aq (fO aq (fO aq (fO aq (fO aq (fO aq ak))))))))) (aH cO (au dI hr rfl (aN (pv 4) (fO aq ak))) aq) (fun _ _=>rfl)) ak)) (aX (i:=8) cH.nd rfl (Or.inl rfl))
   (aF (tE (jy (aR sE (aL (iW K) rfl B.cL boot_len (aG (bH (xix K) (pv 9) aq (fun _ _=>rfl)) ak)) aq (aZ _))
   (aF (aJ (i:=9) cH.nd rfl (Or.inl rfl) (au iJ hr rfl (aN (pv 9) (aG (au dN hr rfl (aN (pv 2) (kY (aH bV (aH cO (au dI hr rfl (aN (pv 4) (kY (aH (fV K) aq (pv 8)) ak))) aq) aq) ak))) ak)))))
   cY))))
   (aF (aV (pv 9))))))))),?_⟩
  refine⟨_,rfl,_,rfl,a,ns,st,rfl,hS,s0,by omega,hB,fun c hc=>?_⟩;refine⟨_,rfl,c,2,rfl,by decide,by decide,fun x x0 x1=>?_⟩;refine⟨_,rfl,_,_,rfl,rfl,(by show 0<m+1;omega),?_⟩;have k0:=cJ x (show 0<m+1 by omega);have k1:=cQ x (show 0<m+1 by omega);dsimp only;generalize x%(m+1)=sz at k0 k1;refine⟨_,rfl,_,rfl,a,ns,st+1,rfl,hS,by omega,by omega,hB,fun c2 hc2=>?_⟩;obtain⟨N,rfl⟩:∃N:Nat,sz=(N:Int):=⟨sz.toNat,by omega⟩;refine⟨_,rfl,N,rfl,(by omega:-(2^62)<=(N:Int)),(by omega:(N:Int)<2^62),?_⟩;rw[Int.toNat_natCast];refine vK (n:=N) (by omega) rfl (fun x=>jz b x/\Rm.Bd 13 x) ?_ ?_
  ·intro H2 k g2 hk kk hkk;exact⟨_,rfl,_,rfl,_,rfl,b,c2,0+(k:Int),rfl,hb,hc2,by omega,by omega,fun x H3 g3 h1 _ h2=>hkk x H3 g3 ⟨h1,(h2 (by omega)).1⟩⟩
  intro D H1 rule hD g1 hD1 lr hr;refine⟨D,_,rfl,.inl ⟨SqL.of hD1,fun t1 ht1=>?_⟩⟩;have gt1:=Same.new ht1 (.tup (rule.map V.int));have h1:(upd H1 t1 (.tup (rule.map V.int))) t1=some (.tup (rule.map V.int)):=aB;have g2:=g1.trans gt1;generalize upd H1 t1 (.tup (rule.map V.int))=H2 at gt1 h1 g2;refine⟨_,rfl,_,rfl,_,rfl,N,rfl,(by omega:-(2^62)<=(N:Int)),(by omega:(N:Int)<2^62),?_⟩;rw[Int.toNat_natCast];refine vK (n:=N) (by omega) rfl (fun x=>jz b x/\Rm.Bd 31 x) ?_ ?_
  ·intro H3 k g3 hk kk hkk;exact⟨_,rfl,_,rfl,_,rfl,b,c2,15+(0+(k:Int)),rfl,hb,hc2,by omega,by omega,fun x H3 g3 h1 h2 _=>hkk x H3 g3 ⟨h1,h2⟩⟩
  intro D2 H3 starts hD2 g3 hD3 ls hs;refine⟨D2,_,rfl,.inl ⟨SqL.of hD3,fun t2 ht2=>?_⟩⟩;have gt2:=Same.new ht2 (.tup (starts.map V.int));refine⟨(by show 3<=sizeLine;decide),fun t3 ht3=>?_⟩;have gt3:=Same.new ht3 (.tup [.int b,.ref t1,.ref t2]);have gA:=g2.trans (g3.trans (gt2.trans gt3));have R0:gj (upd (upd H3 t2 (.tup (starts.map V.int))) t3 (.tup [.int b,.ref t1,.ref t2])) (.ref t3) ⟨b,rule,starts⟩:=⟨t3,t1,t2,rfl,aB,gt3 _ _ (gt2 _ _ (g3 _ _ h1)),gt3 _ _ aB⟩;generalize upd (upd H3 t2 (.tup (starts.map V.int))) t3 (.tup [.int b,.ref t1,.ref t2])=H4 at gA R0;have B0:Bs b m.toNat ⟨b,rule,starts⟩:=⟨rfl,lr.trans ls.symm,(by show rule.length<=m.toNat;omega),by omega,fun x hx=>(hr x hx).1,fun x hx=>(hs x hx).1,fun x hx=>(hr x hx).2,fun x hx=>(hs x hx).2⟩;have S0:RwS b ⟨b,rule,starts⟩ 0 ⟨b,rule,starts⟩:=⟨rfl,lr.trans ls.symm,(by show rule.length<=12;omega),fun x hx=>(hr x hx).1,fun x hx=>(hr x hx).2,fun _=>rfl⟩;have lr0:rule.length<=m.toNat:=by omega
  refine⟨(by show 8<=sizeLine;decide),fun p8 hp8=>?_⟩;have g8:=Same.new hp8 (.lst (qQ.map V.int));refine⟨_,rfl,c,3,rfl,by decide,by decide,fun y y0 y1=>?_⟩;have e0:=cJ y (show(0:Int)<8 by decide);have e1:=cQ y (show(0:Int)<8 by decide);refine⟨_,_,rfl,rfl,(by decide:(0:Int)<8),_,_,.inl (SqL.of aB),aW (ns:=qQ) e0 e1,?_⟩;have ty:=Ei (y%8).toNat (by omega);generalize qQ.getD (y%8).toNat 0=T at ty;have g9:=gA.trans g8;have R1:=R0.same g8;have eH:(upd H4 p8 (.lst [.int 0,.int 0,.int 1,.int 0,.int 2,.int 0,.int 0,.int 3]))=upd H4 p8 (.lst (qQ.map V.int)):=rfl;rw[eH];generalize upd H4 p8 (.lst (qQ.map V.int))=H5 at g9 R1;refine⟨T,rfl,(by omega:-(2^62)<=T),(by omega:T<2^62),?_⟩;refine eY (lo:=0) (n:=T.toNat) (fun i σ' H'=>∃(v:V) (r:Rw) (o8:Option V),σ'=[some (.ref a),some (.int st),some (.int b),some (.int m),some (.int c),some (.int N),some (.int c2),some (.ref t1),o8,some v]/\Same H H'/\gj H' v r/\RwS b ⟨b,rule,starts⟩ i r/\r.rule.length<=m.toNat+i) ⟨.ref t3,_,_,rfl,g9,R1,S0,lr0⟩ ?_ ?_
  ·rintro i σ' H' hi ⟨v,r,o8,rfl,g,hR,ok,lm⟩;obtain⟨ra,rp,rq,rfl,hA,hP,hQ2⟩:=id hR;refine Hl.by (fun σ' H'=>∃(v:V) (r:Rw) (o8:Option V),σ'=[some (.ref a),some (.int st),some (.int b),some (.int m),some (.int c),some (.int N),some (.int c2),some (.ref t1),o8,some v]/\Same H H'/\gj H' v r/\RwS b ⟨b,rule,starts⟩ (i+1) r/\r.rule.length<=m.toNat+(i+1)) (fun NN hNN=>?_) (fun σ' H' z=>z);refine⟨_,rfl,_,_,.inr (SqT.of hA),rfl,.ref rp,r.rule.length,rfl,.inr ⟨_,SqT.of hP,(List.length_map _).symm⟩,_,_,rfl,rfl,_,rfl,?_⟩;refine jW (fun cc=>?_) (fun cc=>hNN _ _ ⟨_,r,_,rfl,g,hR,ok.up,by omega⟩);have hsh:r.rule.length<12:=by have:=dec_true cc;omega
   refine⟨_,rfl,_,rfl,_,rfl,_,rfl,c,4+(0+(i:Int)),rfl,by omega,by omega,fun y2 _ _=>?_⟩;have z0:=cJ y2 (show(0:Int)<5 by decide);have z1:=cQ y2 (show(0:Int)<5 by decide);refine⟨_,_,rfl,rfl,(by decide:(0:Int)<5),_,_,rfl,rfl,b,_,rfl,hb.lo,?_⟩;refine⟨b,m.toNat,_,i,_,r,_,rfl,hR,hb,B0,ok,by omega,hsh,lu hb (by decide) (Rm.Bd.of (by show -(2^10)<y2%5-2;omega) (by show y2%5-2<2^10;omega)),fun v' r' H2 g2 R2 ok2 l2=>?_⟩;exact hNN _ _ ⟨v',r',_,rfl,g.trans g2,R2,ok2,by omega⟩
  ·rintro σ' H' ⟨v,r,o8,rfl,g,hR,ok,lm⟩;exact⟨_,rfl,q v _ _ r H' g hR B0 ok (by omega) lm⟩
theorem nJ(F:Fn K mg "refuse_far_jump" fK ["by","n"]):iZ P w K mg base:=by
 refine F.cal nW (fun vs H Q E h=>?_) (fun f cdv A outer s H vs Q E hr h=>?_)
 ·obtain⟨b,n,rfl,_⟩:=h;rfl
 ·obtain⟨b,n,rfl,h0,h1,q⟩:=h;refine⟨_,(aF (jy (PW.pt (wF (aR sE (pv 1) aq (aZ _)) (wQ (PW.pt (wR (aR (xeq K hr) (pv 0) aq (aZ _)) (rH (aR qX (pv 1) (qm rfl B.dg) (aZ _))))))))
   (aF ql)
   cY)),?_⟩
  refine⟨_,rfl,_,_,rfl,rfl,_,rfl,?_⟩;rw[decide_eq_false (by omega:¬n<0)];refine yV ?_;refine⟨_,rfl,_,rfl,?_⟩;refine jW (fun c=>?_) (fun c=>?_)
  ·have:=h1 (dec_true c);refine⟨_,rfl,_,_,rfl,rfl,_,rfl,?_⟩;rw[decide_eq_false (by omega:¬n>400)];exact yV q
  ·exact yV q
theorem ud(F:Fn K mg "power_left" jR ["by","poly","n"])(bZ:jf P w K mg base)(mz:xK P w K mg base):pJ P w K mg base:=by
 refine F.cal dj (fun vs H Q E h=>?_) (fun f cdv A outer s H vs Q E hr h=>?_)
 ·obtain⟨b,a,rule,n,u,rfl,_⟩:=h;rfl
 ·obtain⟨b,a,rule,n,u,rfl,hb,hA,hrl,hu,hu6,hR,hn,hN,q⟩:=h;refine⟨_,(ao (aJ (i:=3) dj.nd rfl (Or.inl rfl) (bH (xix K) (au bZ hr rfl (aN (pv 0) (OL (lF (fO aq ak)) (aN (pv 1) ak)))) aq (fun _ _=>rfl)))
   (ao (j6 PassesOwn.never rfl (wk rfl B.cu (kY (aH bV (UL K (pv 2)) aq) (KR (vZ pX aq) (KR (vZ pX aq) ak)))) (aX (i:=4) dj.nd rfl (Or.inl rfl))
   (ao (aJ (i:=5) dj.nd rfl (Or.inl rfl) (au mz hr rfl (aN (pv 0) (aN (pv 3) (aN (pv 3) ak)))))
   (ao (tE (jy (aR (xeq K hr) (aH cO (aH M5 (pv 2) (pv 4)) aq) aq (aZ _))
   (aF (aJ (i:=5) dj.nd rfl (Or.inl rfl) (au mz hr rfl (aN (pv 0) (aN (pv 5) (OL (lF (fO aq (fO aq ak))) ak))))))
   cY))
   (aF (aJ (i:=3) dj.nd rfl (Or.inl rfl) (bH (xix K) (au bZ hr rfl (aN (pv 0) (aN (pv 5) (aN (pv 1) ak)))) aq (fun _ _=>rfl)))))))
   (aF (aV (pv 3))))),?_⟩
  have hM:=Pm.dz b rule;have lM:=Pm.aY b rule;have bM:∀x∈Pm.aK b rule,Rm.Bd 124000 x:=fun x hx=>(Pm.ji hb.lo hb.hi (u:=u) hu hR x hx).mono (by omega);refine⟨_,rfl,(by show 1<=sizeLine;decide),fun t0 ht0=>?_⟩;have g0:=Same.new ht0 (.tup [.int 1]);refine⟨_,rfl,b,t0,a,[1],Pm.aK b rule,rfl,hb.lo,hb.hi2,aB,g0 _ _ hA,by decide,by omega,hM,wj hb,fun x hx=>by
   rw[List.mem_singleton.mp hx];exact(Rm.Bd.of (n:=1) (by decide) (by decide)).mono (by decide),bM,fun t x y q1 r1 H1 g1 ht hx hy d1 bq1 br1 lq1=>?_⟩
  refine⟨_,_,.inr (SqT.of ht),rfl,?_⟩;refine⟨_,rfl,rfl,_,rfl,rfl,?_⟩;have hB4:PySem.Builtin.Int.intBits (n:Int)<=400:=intBits_le_iff.mpr hN;generalize hB:PySem.Builtin.Int.intBits (n:Int)=B at hB4;have hB0:n/2^B=0:=Jw (Nat.le_of_eq hB);refine⟨_,_,rfl,rfl,_,rfl,_,rfl,(B:Int)-1,-1,rfl,⟨by omega,by omega,by omega,by omega⟩,?_⟩;refine zN (lo:=(B:Int)-1) (n:=((B:Int)-1-(-1)).toNat) (fun i σ' H'=>∃(p:Addr) (l:List Int) (o4 o5:Option V),σ'=[some (.int b),some (.ref a),some (.int n),some (.ref p),o4,o5]/\Same H H'/\H' p=some (.tup (List.map V.int l))/\Pm.Pw b rule (n/2^(B-i)) l/\Pm.Py b l/\l.length<=rule.length)
   ⟨y,r1,_,_,rfl,g0.trans g1,hy,?_,d1.ry,?_⟩ ?_ ?_
  ·rw[Nat.sub_zero,hB0];exact(Pm.Pw.one b rule).left d1
  ·have:=d1.short;omega
  ·rintro i σ' H' hi ⟨p,l,o4,o5,rfl,g,hp,hw,hy2,hl⟩;have hi':i<B:=by omega
   obtain⟨k,hk⟩:∃k,B-i=k+1:=⟨B-i-1,by omega⟩;rw[hk]at hw;have ek:B-(i+1)=k:=by omega
   have ekI:(B:Int)-1-(i:Int)=(k:Int):=by omega
   rw[ekI];have hm1:b=0->10+n/2^(k+1)*(u+12)<=400000:=fun z=>Nat.le_trans (Nat.add_le_add_left (Nat.mul_le_mul_right _ Jo) _) (hn z);have bl:=Ov hb hrl hu hR hm1 hw hy2 hl;have bl2:∀x∈l,Rm.Bd 1000000 x:=fun x hx=>(bl x hx).mono (by decide);refine⟨_,rfl,_,rfl,_,rfl,b,p,p,l,l,rfl,hb.lo,hp,hp,by omega,by omega,bl2,bl2,fun p2 H2 g2 hp2=>?_⟩;have hw2:Pm.Pw b rule (n/2^(k+1)+n/2^(k+1)) (Pm.mul b l l):=hw.mul hw;have bD:∀x∈Pm.mul b l l,Rm.Bd 800012 x:=fun x hx=>(Pm.C0 hb.lo hb.hi (by decide) bl bl x hx).mono (by omega);have lD:=uF b l l;refine Hl.by (fun σ' H'=>∃(p3:Addr) (l3:List Int),σ'=[some (.int b),some (.ref a),some (.int n),some (.ref p),some (.int (k:Int)),some (.ref p3)]/\Same H H'/\H' p3=some (.tup (List.map V.int l3))/\Pm.Pw b rule (n/2^k) l3/\(∀j,Rm.tk b (Pm.co l3 j)=Pm.co l3 j)/\l3.length<=40/\∀x∈l3,Rm.Bd 900000 x) (fun NN hNN=>?_) ?_
   ·refine⟨_,rfl,_,rfl,_,_,rfl,rfl,(by omega:(0:Int)<=(k:Int)),_,_,rfl,rfl,(by decide:(0:Int)<2),_,rfl,?_⟩;have MK:((n:Int)/2^(k:Int).toNat)%2=((n/2^k%2:Nat):Int):=by
     rw[Int.toNat_natCast]
     norm_cast
    rw[MK];have fs:=DG n k;refine jW (fun c=>?_) (fun c=>?_)
    ·have c':n/2^k%2=1:=by have:=dec_true c;omega
     refine⟨_,rfl,_,rfl,(by show 2<=sizeLine;decide),fun t2 ht2=>?_⟩;have g3:=Same.new ht2 (.tup [.int 0,.int 1]);refine⟨b,p2,t2,Pm.mul b l l,[0,1],rfl,hb.lo,g3 _ _ hp2,aB,by omega,by decide,fun x hx=>(bD x hx).mono (by decide),fun x hx=>?_,fun p4 H4 g4 hp4=>?_⟩
     ·rcases List.mem_cons.mp hx with rfl|hx
      ·exact Rm.Bd.zero _
      ·rw[List.mem_singleton.mp hx];exact(Rm.Bd.of (n:=1) (by decide) (by decide)).mono (by decide)
     ·refine hNN _ _ ⟨p4,_,rfl,g.trans (g2.trans (g3.trans g4)),hp4,?_,fun j=>(Pm.B7 b _ _).co j,?_,?_⟩
      ·have:=hw2.mul (Pm.Pw.x b rule);rw[fs,c',show 2*(n/2^(k+1))+1=n/2^(k+1)+n/2^(k+1)+1 by omega];exact this
      ·have:=uF b (Pm.mul b l l) [0,1];have e2:([0,1]:List Int).length=2:=rfl;omega
      ·intro x hx;refine(Pm.C0 hb.lo hb.hi (u:=800012) (v:=2) (by decide) bD (fun x hx=>?_) x hx).mono (by omega);rcases List.mem_cons.mp hx with rfl|hx
       ·exact Rm.Bd.zero _
       ·rw[List.mem_singleton.mp hx];exact Rm.Bd.of (by decide) (by decide)
    ·have c':n/2^k%2=0:=by have:=dec_false c;omega
     refine hNN _ _ ⟨p2,_,rfl,g.trans g2,hp2,?_,fun j=>(Pm.B7 b _ _).co j,by omega,fun x hx=>(bD x hx).mono (by decide)⟩;rw[fs,c',show 2*(n/2^(k+1))+0=n/2^(k+1)+n/2^(k+1)by omega];exact hw2
   ·rintro σ' H3 ⟨p3,l3,rfl,g3,hp3,hw3,ht3,z3,b3⟩;refine⟨_,rfl,_,rfl,_,rfl,b,p3,a,l3,Pm.aK b rule,rfl,hb.lo,hb.hi2,hp3,g3 _ _ hA,by omega,by omega,hM,ht3,b3,bM,fun t x y q4 r4 H4 g4 ht hx hy d4 _ _ _=>?_⟩;refine⟨_,_,.inr (SqT.of ht),rfl,?_⟩;refine⟨y,r4,_,_,rfl,g3.trans g4,hy,?_,d4.ry,?_⟩
    ·rw[ek];exact hw3.left d4
    ·have:=d4.short;omega
  ·rintro σ' H' ⟨p,l,o4,o5,rfl,g,hp,hw,hy2,hl⟩;have e9:B-((B:Int)-1-(-1)).toNat=0:=by omega
   rw[e9,Nat.pow_zero,Nat.div_one]at hw;exact⟨_,rfl,q p H' l g hp hw hy2 hl⟩
theorem J0(F:Fn K mg "jump" DY ["row","n"])(fD:iZ P w K mg base)(jK:pJ P w K mg base)(eE:m9 P w K mg base)(lZ:qO P w K mg base):zj P w K mg base:=by
 refine F.cal uV (fun vs H Q E h=>?_) (fun f cdv A outer s H vs Q E hr h=>?_)
 ·obtain⟨v,r,n,u,rfl,_⟩:=h;rfl
 ·obtain⟨v,r,n,u,rfl,⟨a,p,p2,rfl,hA,hR,hS⟩,ok,hn,hN,q⟩:=h;refine⟨_,(ao (aJ (i:=2) uV.nd rfl (Or.inl rfl) (bH (xix K) (pv 0) aq (fun _ _=>rfl)))
   (ao (aJ (i:=3) uV.nd rfl (Or.inl rfl) (bH (xix K) (pv 0) aq (fun _ _=>rfl)))
   (ao (jL (au fD hr rfl (aN (pv 2) (aN (pv 1) ak))))
   (ao (aJ (i:=4) uV.nd rfl (Or.inr rfl) (au jK hr rfl (aN (pv 2) (aG (au eE hr rfl (aN (pv 2) (aN (pv 3) ak))) (aN (pv 1) ak)))))
   (aF (aV (bB (gw K) rfl B.dD boot_tuple (aG (dG (sc:=Fe) (N:=["i","left"]) (ix:=[none,some 4]) cT rfl (bK rfl B.cu (aG (aL (iW K) rfl B.cL boot_len (aN (pv 3) ak)) ak)) (fun cl C s₀ H₀ ex=>⟨(aX (i:=0) jA rfl (Or.inl rfl)),cR,(au lZ hr rfl (aN (pv 1) (aN (pv 0) ak)))⟩)) ak)))))))),?_⟩
  have hb:=ok.byJ;have hl:=ok.vh;refine⟨_,rfl,_,_,.inr (SqT.of hA),rfl,?_⟩;refine⟨_,rfl,_,_,.inr (SqT.of hA),rfl,?_⟩;refine⟨_,rfl,_,rfl,r.b,n,rfl,by omega,fun z=>by have:=(hn z).1;omega,?_⟩;refine⟨_,rfl,_,rfl,_,rfl,r.b,p,r.rule,rfl,hb.lo,hR,by omega,fun t1 H1 g1 h1=>?_⟩;refine⟨_,rfl,r.b,t1,r.rule,n,u,rfl,hb,h1,hl,ok.u10,ok.u60,ok.bd,(fun z=>(hn z).2),hN,fun t2 H2 l g2 h2 hw hy hz=>?_⟩;have g12:=g1.trans g2;refine⟨_,rfl,.ref p,r.rule.length,rfl,.inr ⟨_,SqT.of (g12 _ _ hR),(List.length_map _).symm⟩,?_⟩;refine⟨(r.rule.length:Int),rfl,(by omega:-(2^62)<=(r.rule.length:Int)),(by omega:(r.rule.length:Int)<2^62),?_⟩;rw[Int.toNat_natCast];refine kj (n:=r.rule.length) (by omega) rfl (fun j=>Pm.ej r.b r.rule j n) ?_ ?_
  ·intro H3 k g3 hk kk hkk;refine⟨_,rfl,_,rfl,t2,l,0+(k:Int),rfl,g3 _ _ h2,by omega,?_⟩;rw[show(0+(k:Int)).toNat=k by omega,hw.co hb.one hy hz hk];exact hkk
  ·intro D hD;refine⟨D,_,rfl,.inl ⟨SqL.of aB,fun t ht=>?_⟩⟩;exact q t _ (g12.trans ((Same.new hD _).trans (Same.new ht _))) aB
theorem Ez(F:Fn K mg "sum_at" uL ["by","poly","found","n"])(aU:fG P w K mg base):uq P w K mg base:=by
 refine F.cal Ea (fun vs H Q E h=>?_) (fun f cdv A outer s H vs Q E hr h=>?_)
 ·obtain⟨b,a,l,p,f,n,rfl,_⟩:=h;rfl
 ·obtain⟨b,a,l,p,fo,n,rfl,hb,hA,hL,hn,zA,bA,bF,q⟩:=h;refine⟨_,(aF (aV (au aU hr rfl (aN (pv 0) (aG (aL (Oq K rfl) rfl B.GX boot_sum (aG (dG (sc:=AZ) (N:=["k","found","n","poly"]) (ix:=[none,some 2,some 3,some 1]) cT rfl (bK rfl B.cu (aG (aL (iW K) rfl B.cL boot_len (aN (pv 1) ak)) ak)) (fun cl C s₀ H₀ ex=>⟨(aX (i:=0) jA rfl (Or.inl rfl)),cR,(aH v_mul (bH (xix K) (pv 3) (pv 0) (fun _ _=>rfl)) (bH (xix K) (pv 1) (aH (fV K) (pv 2) (pv 0)) (fun _ _=>rfl)))⟩)) ak)) ak))))),?_⟩;have lC:(p.map V.int).length=p.length:=List.length_map _;refine⟨_,rfl,_,rfl,.ref a,p.length,rfl,.inr ⟨_,SqT.of hA,lC.symm⟩,?_⟩;refine⟨(p.length:Int),rfl,(by omega:-(2^62)<=(p.length:Int)),(by omega:(p.length:Int)<2^62),?_⟩;rw[Int.toNat_natCast];refine kj (n:=p.length) zA rfl (fun k=>Pm.co p k*Pm.co fo (n+k)) ?_ ?_
  ·intro H2 k g2 hk kk hkk;have e1:(0+(k:Int)).toNat=k:=by omega
   have e2:(0+(n:Int)+(0+(k:Int))).toNat=n+k:=by omega
   refine⟨_,rfl,_,rfl,_,_,.inr (SqT.of (g2 _ _ hA)),aW (ns:=p) (by omega:(0:Int)<=0+(k:Int)) (by omega),?_⟩;refine⟨_,rfl,_,rfl,_,rfl,_,_,hL.imp (fun z=>SqL.of (g2 _ _ z)) (fun z=>SqT.of (g2 _ _ z)),aW (ns:=fo) (by omega:(0:Int)<=0+(n:Int)+(0+(k:Int))) (by omega),?_⟩;refine⟨nR (Rm.Bd.getD bA _) (Rm.Bd.getD bF _) (by decide),?_⟩;rw[e1,e2];exact hkk
  ·intro D hD;refine⟨D,_,rfl,SqL.of aB,b,_,rfl,hb,?_⟩;have:=q _ (Same.new hD (.lst ((Pm.ofF p.length fun k=>Pm.co p k*Pm.co fo (n+k)).map V.int)));unfold Pm.ks at this;rw[Pm.ofF,Pm.qp];exact this
theorem yh(F:Fn K mg "place_at" oA ["row","n"])(kE:uq P w K mg base)(j4:zj P w K mg base):tH P w K mg base:=by
 refine F.cal yN (fun vs H Q E h=>?_) (fun f cdv A outer s H vs Q E hr h=>?_)
 ·obtain⟨v,r,n,u,rfl,_⟩:=h;rfl
 ·obtain⟨v,r,n,u,rfl,hR,ok,hn,hN,q⟩:=h;refine⟨_,(aF (aV (au kE hr rfl (aG (bH (xix K) (pv 0) aq (fun _ _=>rfl)) (aG (au j4 hr rfl (aN (pv 0) (aN (pv 1) ak))) (aG (bH (xix K) (pv 0) aq (fun _ _=>rfl)) (fO aq ak))))))),?_⟩;obtain⟨a,p,p2,rfl,hA,hP,hS⟩:=id hR;have hsh:=ok.ok.short;have hl:=ok.ok.len;refine⟨_,rfl,_,_,.inr (SqT.of hA),rfl,?_⟩;refine⟨_,rfl,_,rfl,.ref a,r,n,u,rfl,hR,ok,hn,hN,fun tj H1 g1 hj=>?_⟩;refine⟨_,rfl,_,_,.inr (SqT.of (g1 _ _ hA)),rfl,?_⟩;refine⟨r.b,tj,p2,Pm.rest r.b r.rule n,r.starts,0,rfl,ok.ok.by0,hj,.inr (g1 _ _ hS),by rw[Pm.dM];omega,by rw[Pm.dM];omega,fun x hx=>(ok.um hn x hx).mono (by decide),fun x hx=>(ok.ok.jC x hx).mono (by decide),fun H2 g2=>?_⟩;rw[<-ok.dR,ok.sum_at n 0 r.rule.length (by omega),Nat.zero_add];exact q _ (g1.trans g2)
theorem CM(F:Fn K mg "onward" uE ["row","n"])(j4:zj P w K mg base)(cW:iG P w K mg base)(kE:uq P w K mg base):zq P w K mg base:=by
 refine F.cal jZ (fun vs H Q E h=>?_) (fun f cdv A outer s H vs Q E hr h=>?_)
 ·obtain⟨v,r,n,u,rfl,_⟩:=h;rfl
 ·obtain⟨v,r,n,u,rfl,hR,ok,hn,hN,q⟩:=h;refine⟨_,(ao (aJ (i:=2) jZ.nd rfl (Or.inr rfl) (bH (xix K) (pv 0) aq (fun _ _=>rfl)))
   (ao (aJ (i:=3) jZ.nd rfl (Or.inr rfl) (au j4 hr rfl (aN (pv 0) (aN (pv 1) ak))))
   (ao (aJ (i:=4) jZ.nd rfl (Or.inr rfl) (au cW hr rfl (aN (pv 0) (kY (aH v_mul aq (aL (iW K) rfl B.cL boot_len (aN (pv 3) ak))) ak))))
   (ao (xG (i:=5) (hN:=jZ.nd) (hi':=rfl) (hx:=(Or.inl rfl)) (sc:=A8) (N:=["m","by","near","numbers"]) (ix:=[none,some 2,some 4,some 3]) cT rfl (bK rfl B.cu (aG (aL (iW K) rfl B.cL boot_len (aN (pv 3) ak)) ak)) (fun cl C s₀ H₀ ex=>⟨(aX (i:=0) jA rfl (Or.inl rfl)),cR,(au kE hr rfl (aN (pv 1) (aN (pv 3) (aN (pv 2) (aN (pv 0) ak)))))⟩))
   (aF (aV (lF (aN (pv 2) (aG (bH (xix K) (pv 0) aq (fun _ _=>rfl)) (aG (bB (gw K) rfl B.dD boot_tuple (aN (pv 5) ak)) ak)))))))))),?_⟩
  obtain⟨a,p,p2,rfl,hA,hP,hS⟩:=id hR;have hsh:=ok.ok.short;have hl:=ok.ok.len;refine⟨_,rfl,_,_,.inr (SqT.of hA),rfl,?_⟩;refine⟨_,rfl,_,rfl,.ref a,r,n,u,rfl,hR,ok,hn,hN,fun tj H1 g1 hj=>?_⟩;have lJ:((Pm.rest r.b r.rule n).map V.int).length=r.rule.length:=by rw[List.length_map,Pm.dM]
  refine⟨_,rfl,_,rfl,.ref tj,r.rule.length,rfl,.inr ⟨_,SqT.of hj,lJ.symm⟩,?_⟩;refine⟨mulL (by decide) (by decide),.ref a,r,2*(r.rule.length:Int),rfl,hR.same g1,ok.ok,by omega,by omega,fun ln H2 g2 fn hn2=>?_⟩;rw[show(2*(r.rule.length:Int)).toNat=2*r.rule.length by omega]at hn2;have hj2:=g2 _ _ hj;refine⟨_,rfl,.ref tj,r.rule.length,rfl,.inr ⟨_,SqT.of hj2,lJ.symm⟩,?_⟩;refine⟨(r.rule.length:Int),rfl,(by omega:-(2^62)<=(r.rule.length:Int)),(by omega:(r.rule.length:Int)<2^62),?_⟩;rw[Int.toNat_natCast];refine qN (n:=r.rule.length) (by omega) rfl (fun m=>r.at (m+n)) ?_ ?_
  ·intro H3 k g3 hk kk hkk;refine⟨_,rfl,_,rfl,_,rfl,_,rfl,r.b,tj,ln,Pm.rest r.b r.rule n,r.row (2*r.rule.length),k,rfl,ok.ok.by0,g3 _ _ hj2,.inl (g3 _ _ hn2),by rw[Pm.dM,Rw.dH];omega,by rw[Pm.dM];omega,
    fun x hx=>(ok.um hn x hx).mono (by decide),ok.ok.CQ _ (by omega),fun H4 g4=>?_⟩
   rw[ok.sum_at n k (2*r.rule.length) (by omega)];exact hkk _ g4
  ·intro D H3 hD g3 h3;have g13:=g1.trans (g2.trans g3);refine⟨_,rfl,_,rfl,_,_,.inr (SqT.of (g13 _ _ hA)),rfl,_,rfl,D,_,rfl,.inl ⟨SqL.of h3,fun t ht=>⟨(by show 3<=sizeLine;decide),fun pp hp=>?_⟩⟩⟩;have g4:=Same.new ht (.tup ((Pm.ofF r.rule.length fun m=>r.at (m+n)).map V.int));have g5:=Same.new hp (.tup [.int r.b,.ref p,.ref t]);exact q _ _ (g13.trans (g4.trans g5)) ⟨pp,p,t,rfl,aB,g5 _ _ (g4 _ _ (g13 _ _ hP)),g5 _ _ aB⟩
theorem xJ(F:Fn K mg "told_row" oF ["by","rule","starts"])(aU:fG P w K mg base)(gK:oK P w K mg base):tU P w K mg base:=by
 refine F.cal mO (fun vs H Q E h=>?_) (fun f cdv A outer s H vs Q E hr h=>?_)
 ·obtain⟨b,a,c,ns,ms,rfl,_⟩:=h;rfl
 ·obtain⟨b,a,c,ns,ms,rfl,hA,hC,zn,zm,hb0,hok,hbp,htm,q⟩:=h;refine⟨_,(ao (aJ (i:=3) mO.nd rfl (Or.inl rfl) (bB (gw K) rfl B.dD boot_tuple (aG (dG (sc:=vI) (N:=["number","by"]) (ix:=[none,some 0]) cT rfl (KQ K (pv 1)) (fun cl C s₀ H₀ ex=>⟨(aX (i:=0) jA rfl (Or.inl rfl)),cR,(au aU hr rfl (aN (pv 1) (aN (pv 0) ak)))⟩)) ak)))
   (ao (aJ (i:=4) mO.nd rfl (Or.inl rfl) (bB (gw K) rfl B.dD boot_tuple (aG (dG (sc:=vW) (N:=["number","by"]) (ix:=[none,some 0]) cT rfl (KQ K (pv 2)) (fun cl C s₀ H₀ ex=>⟨(aX (i:=0) jA rfl (Or.inl rfl)),cR,(au aU hr rfl (aN (pv 1) (aN (pv 0) ak)))⟩)) ak)))
   (aF (aV (au gK hr rfl (OL (lF (aN (pv 0) (aN (pv 3) (aN (pv 4) ak)))) ak)))))),?_⟩
  refine⟨_,rfl,u9 hA zn rfl (Rm.tk b) ?_ ?_⟩
  ·intro H2 x g2 hx kk hkk;exact⟨_,rfl,_,rfl,b,x,rfl,hb0,hkk⟩
  intro D hD;have gD:=Same.new hD (.lst ((ns.map (Rm.tk b)).map V.int));refine⟨D,_,rfl,.inl ⟨SqL.of aB,fun t1 ht1=>?_⟩⟩;have g1:=Same.new ht1 (.tup ((ns.map (Rm.tk b)).map V.int));have h1:(upd (upd H D (.lst ((ns.map (Rm.tk b)).map V.int))) t1 (.tup ((ns.map (Rm.tk b)).map V.int))) t1=some (.tup ((ns.map (Rm.tk b)).map V.int)):=aB;have gD1:=gD.trans g1;generalize upd (upd H D (.lst ((ns.map (Rm.tk b)).map V.int))) t1 (.tup ((ns.map (Rm.tk b)).map V.int))=H1 at gD1 h1;refine⟨_,rfl,u9 (hC.same gD1) zm rfl (Rm.tk b) ?_ ?_⟩
  ·intro H2 x g2 hx kk hkk;exact⟨_,rfl,_,rfl,b,x,rfl,hb0,hkk⟩
  intro D2 hD2;have gD2:=Same.new hD2 (.lst ((ms.map (Rm.tk b)).map V.int));refine⟨D2,_,rfl,.inl ⟨SqL.of aB,fun t2 ht2=>?_⟩⟩;have g2:=Same.new ht2 (.tup ((ms.map (Rm.tk b)).map V.int));have h2:(upd (upd H1 D2 (.lst ((ms.map (Rm.tk b)).map V.int))) t2 (.tup ((ms.map (Rm.tk b)).map V.int))) t2=some (.tup ((ms.map (Rm.tk b)).map V.int)):=aB;have UC:=gD2.trans g2;have h12:=UC _ _ h1;generalize upd (upd H1 D2 (.lst ((ms.map (Rm.tk b)).map V.int))) t2 (.tup ((ms.map (Rm.tk b)).map V.int))=H2 at UC h2 h12;refine⟨_,rfl,_,rfl,_,rfl,(by show 3<=sizeLine;decide),fun t3 ht3=>?_⟩;have g3:=Same.new ht3 (.tup [.int b,.ref t1,.ref t2]);refine⟨.ref t3,⟨b,ns.map (Rm.tk b),ms.map (Rm.tk b)⟩,rfl,⟨t3,t1,t2,rfl,aB,g3 _ _ h12,g3 _ _ h2⟩,hok,hbp,htm,fun v' L H4 g4 hR lst ll=>?_⟩;exact q v' L H4 (gD1.trans (UC.trans (g3.trans g4))) hR lst (by have:(ns.map (Rm.tk b)).length=ns.length:=List.length_map _;rw[<-this];exact ll)
theorem qx(F:Fn K mg "behind_first" iD ["rule","sums","k"]):iR P w K mg base:=by
 refine F.cal jM (fun vs H Q E h=>?_) (fun f cdv A outer s H vs Q E hr h=>?_)
 ·obtain⟨a,c,rule,sums,k,rfl,_⟩:=h;rfl
 ·obtain⟨a,c,rule,sums,k,rfl,hA,hC,k1,k24,hl,b1,b2,q⟩:=h;refine⟨_,(ao (aJ (i:=3) jM.nd rfl (Or.inl rfl) (aL (DL rfl) rfl B.Pa boot_min (kY (aH bV (pv 2) aq) (aG (aL (iW K) rfl B.cL boot_len (aN (pv 0) ak)) ak))))
   (aF (aV (aL (Oq K rfl) rfl B.GX boot_sum (aG (dG (sc:=qd) (N:=["i","k","rule","sums"]) (ix:=[none,some 2,some 0,some 1]) cT rfl (bK rfl B.cu (aN (pv 3) ak)) (fun cl C s₀ H₀ ex=>⟨(aX (i:=0) jA rfl (Or.inl rfl)),cR,(aH v_mul (bH (xix K) (pv 2) (pv 0) (fun _ _=>rfl)) (bH (xix K) (pv 3) (aH bV (aH bV (pv 1) aq) (pv 0)) (fun _ _=>rfl)))⟩)) ak))))),?_⟩
  have lR:(rule.map V.int).length=rule.length:=List.length_map _;refine⟨_,rfl,_,_,rfl,rfl,_,rfl,.ref a,rule.length,rfl,hA.elim (fun h=> .inl ⟨_,SqL.of h,lR.symm⟩) (fun h=> .inr ⟨_,SqT.of h,lR.symm⟩),(k:Int)-1,(rule.length:Int),rfl,?_⟩;have em:(if(rule.length:Int)<(k:Int)-1 then(rule.length:Int)else(k:Int)-1)=((min (k-1) rule.length:Nat):Int):=by split<;>omega
  rw[em];refine⟨_,rfl,((min (k-1) rule.length:Nat):Int),rfl,(by omega:-(2^62)<=((min (k-1) rule.length:Nat):Int)),(by omega:((min (k-1) rule.length:Nat):Int)<2^62),?_⟩;rw[Int.toNat_natCast];refine qN (n:=min (k-1) rule.length) (by omega) rfl (fun i=>Pm.co rule i*Pm.co sums (k-2-i)) ?_ ?_
  ·intro H2 i g2 hi kk hkk;exact⟨_,rfl,_,rfl,_,V.int (Pm.co rule i),(hA.same g2).imp SqL.of SqT.of,(by rw[Int.zero_add];exact Ax (by omega)),_,rfl,_,rfl,_,_,rfl,rfl,_,rfl,_,_,rfl,rfl,_,V.int (Pm.co sums (k-2-i)),(hC.same g2).imp SqL.of SqT.of,(by rw[Int.zero_add,show(k:Int)-2-(i:Int)=((k-2-i:Nat):Int)by omega];exact Ax (by omega)),nR (Pm.mD b1 i) (Pm.mD b2 (k-2-i)) (by decide),hkk _ (Same.refl _)⟩
  ·intro D H8 hD g8 h8;refine⟨D,Pm.ofF (min (k-1) rule.length) fun i=>Pm.co rule i*Pm.co sums (k-2-i),rfl,SqL.of h8,?_⟩;rw[J9];exact q _ g8
theorem uy(F:Fn K mg "power_sums" jV ["rule","count"])(cV:iR P w K mg base):pW P w K mg base:=by
 refine F.cal gC (fun vs H Q E h=>?_) (fun f cdv A outer s H vs Q E hr h=>?_)
 ·obtain⟨a,rule,n,w,rfl,_⟩:=h;rfl
 ·obtain⟨a,rule,n,w,rfl,hA,n12,hnw,hw,br,q⟩:=h;refine⟨_,(ao (aJ (i:=2) gC.nd rfl (Or.inl rfl) (jg ak))
   (ao (j6 PassesOwn.never rfl (nF rfl B.cu (fO aq (kY (aH (fV K) (pv 1) aq) ak))) (aX (i:=3) gC.nd rfl (Or.inl rfl))
   (ao (aJ (i:=4) gC.nd rfl (Or.inl rfl) (C8 (qu (aR Mu (pv 3) (aL (iW K) rfl B.cL boot_len (aN (pv 0) ak)) (aZ _)) (aH v_mul (pv 3) (bH (xix K) (pv 0) (aH bV (pv 3) aq) (fun _ _=>rfl))) aq)))
   (aF (jL (rM K (pv 2) (aH (fV K) (pv 4) (au cV hr rfl (aN (pv 0) (aN (pv 2) (aN (pv 3) ak))))))))))
   (aF (aV (pv 2))))),?_⟩
  have lR:(rule.map V.int).length=rule.length:=List.length_map _;have b1:∀x∈rule,Rm.Bd 20000 x:=fun x hx=>by
   obtain⟨k,hk,e⟩:=List.mem_iff_getElem.mp hx;have:=br k;rw[Pm.qZ hk,e]at this;exact this.bd.mono (by omega)
  refine⟨(by show 0<=sizeLine;decide),fun l hl=>?_⟩;refine⟨_,rfl,1,(n:Int)+1,rfl,⟨by omega,by omega,by omega,by omega⟩,?_⟩;rw[show((n:Int)+1-1).toNat=n by omega];refine eY (lo:=1) (n:=n) (fun i σ' H'=>∃(o3 o4:Option V) (sums:List Int),σ'=[some (.ref a),some (.int (n:Int)),some (.ref l),o3,o4]/\Same H H'/\H' l=some (.lst (sums.map V.int))/\sums.length=i/\(∀j,j<i->Le (Pm.co sums j) ((2^(w+3))^(j+1)))/\∀k,k<i->Pm.co sums k=(if k+1<=rule.length then((k+1:Nat):Int)*Pm.co rule k else 0)+bhd rule sums (k+1)) ⟨none,none,[],rfl,Same.new hl _,aB,rfl,fun j hj=>absurd hj (by omega),fun j hj=>absurd hj (by omega)⟩ ?_ ?_
  ·rintro i σ' H' hi ⟨o3,o4,sums,rfl,g,hL,ls,bd,eqs⟩;rw[show(1:Int)+(i:Int)=((i+1:Nat):Int)by omega];have hA':=g _ _ hA;refine Bar.by (fun v H1=>v = .int (if i+1<=rule.length then((i+1:Nat):Int)*Pm.co rule i else 0)/\H1=H') (fun kk hkk=>?_) ?_
   ·refine⟨_,rfl,_,rfl,.ref a,rule.length,rfl,.inr ⟨_,SqT.of hA',lR.symm⟩,_,_,rfl,rfl,_,rfl,?_⟩;refine jW (fun c=>?_) (fun c=>?_)
    ·have c':i+1<=rule.length:=by have:=dec_true c;omega
     have hk:=hkk (.int (if i+1<=rule.length then((i+1:Nat):Int)*Pm.co rule i else 0)) H' ⟨rfl,rfl⟩;rw[if_pos c']at hk;exact⟨_,rfl,_,rfl,_,rfl,_,_,rfl,rfl,_,V.int (Pm.co rule i),.inr (SqT.of hA'),(by rw[show((i+1:Nat):Int)-1=(i:Int)by omega];exact Ax (by omega)),nR (m:=10) (Rm.Bd.of (by omega) (by omega)) (Pm.mD b1 i) (by decide),hk⟩
    ·have c':¬i+1<=rule.length:=by have:=dec_false c;omega
     have hk:=hkk (.int (if i+1<=rule.length then((i+1:Nat):Int)*Pm.co rule i else 0)) H' ⟨rfl,rfl⟩;rw[if_neg c']at hk;exact hk
   rintro _ _ ⟨rfl,rfl⟩;have st:=JV (w:=w) (rule:=rule) (sums:=sums) (k:=i+1) (by omega) (by omega) br (fun j hj=>bd j (by omega));rw[Nat.add_sub_cancel]at st;have XJ:sums.length*(w+3)<=n*(w+3):=Nat.mul_le_mul_right _ (by omega);refine⟨_,rfl,.inl ⟨rfl,_,SqL.of hL⟩,_,rfl,_,rfl,_,rfl,_,rfl,a,l,rule,sums,i+1,rfl,.inr hA',.inl hL,by omega,by omega,by omega,b1,Le.list (w:=w+3) (by omega) (fun j hj=>bd j (by omega)),fun H2 g2=>?_⟩;have hL2:=g2 _ _ hL;refine⟨l,_,_,rfl,rfl,hL2,?_,?_⟩
   ·rw[List.length_map,ls];exact bN (by omega)
   ·refine⟨_,_,sums++[(if i+1<=rule.length then((i+1:Nat):Int)*Pm.co rule i else 0)+bhd rule sums (i+1)],rfl,(g.trans g2).upd hl _,by rw[aB,List.map_append];rfl,by rw[List.length_append,ls];rfl,Le.grow ls bd st,fun k hk=>?_⟩;rw[JL (by omega)];by_cases d:k<i
    ·rw[Pm.bW,if_pos (by omega)];exact eqs k d
    ·have e:k=i:=by omega
     subst e;rw[Pm.bW,if_neg (by omega),ls,Nat.sub_self];rfl
  ·rintro σ' H' ⟨o3,o4,sums,rfl,g,hL,ls,bd,eqs⟩;exact⟨_,rfl,q l sums H' g hL ls bd eqs⟩
theorem qK(F:Fn K mg "rule_of_sums" iM ["sums"])(cV:iR P w K mg base):lK P w K mg base:=by
 refine F.cal gU (fun vs H Q E h=>?_) (fun f cdv A outer s H vs Q E hr h=>?_)
 ·obtain⟨c,sums,n,z,rfl,_⟩:=h;rfl
 ·obtain⟨c,sums,n,z,rfl,hC,hn,n12,hz,bs,q⟩:=h;refine⟨_,(ao (aJ (i:=1) gU.nd rfl (Or.inl rfl) (jg ak))
   (ao (j6 PassesOwn.never rfl (nF rfl B.cu (fO aq (kY (aH (fV K) (aL (iW K) rfl B.cL boot_len (aN (pv 0) ak)) aq) ak))) (aX (i:=2) gU.nd rfl (Or.inl rfl))
   (aF (jL (rM K (pv 1) (aH yS (aH bV (bH (xix K) (pv 0) (aH bV (pv 2) aq) (fun _ _=>rfl)) (au cV hr rfl (aN (pv 1) (aN (pv 0) (aN (pv 2) ak))))) (pv 2))))))
   (aF (aV (pv 1))))),?_⟩
  have lS:(sums.map V.int).length=n:=by rw[List.length_map,hn]
  have XI:sums.length*z<=n*z:=Nat.mul_le_mul_right _ (by omega);have b2:∀x∈sums,Rm.Bd 20000 x:=Le.list (w:=z) (by omega) (fun j hj=>bs j (by omega));refine⟨(by show 0<=sizeLine;decide),fun l hl=>?_⟩;have gl:=Same.new hl (.lst []);refine⟨_,rfl,.ref c,n,rfl,.inl ⟨_,SqL.of (gl _ _ hC),lS.symm⟩,1,(n:Int)+1,rfl,⟨by omega,by omega,by omega,by omega⟩,?_⟩;rw[show((n:Int)+1-1).toNat=n by omega];refine eY (lo:=1) (n:=n) (fun i σ' H'=>∃(o2:Option V) (rule:List Int),σ'=[some (.ref c),some (.ref l),o2]/\Same H H'/\H' l=some (.lst (rule.map V.int))/\rule.length=i/\(∀j,j<i->Le (Pm.co rule j) ((2^z)^(j+1)))/\∀k,k<i->Pm.co rule k=(Pm.co sums k-bhd rule sums (k+1))/((k+1:Nat):Int)) ⟨none,[],rfl,gl,aB,rfl,fun j hj=>absurd hj (by omega),fun j hj=>absurd hj (by omega)⟩ ?_ ?_
  ·rintro i σ' H' hi ⟨o2,rule,rfl,g,hL,lr,bd,eqs⟩;rw[show(1:Int)+(i:Int)=((i+1:Nat):Int)by omega];have hC':=g _ _ hC;have st:=Gb (Z:=2^z) (rule:=rule) (sums:=sums) (k:=i+1) (by omega) (by omega) (fun j hj=>bd j (by omega)) (fun j hj=>bs j (by omega));rw[Nat.add_sub_cancel]at st;have XF:rule.length*z<=n*z:=Nat.mul_le_mul_right _ (by omega);refine⟨_,rfl,.inl ⟨rfl,_,SqL.of hL⟩,_,rfl,_,rfl,_,_,rfl,rfl,_,V.int (Pm.co sums i),.inl (SqL.of hC'),(by rw[show((i+1:Nat):Int)-1=(i:Int)by omega];exact Ax (by omega)),_,rfl,_,rfl,_,rfl,l,c,rule,sums,i+1,rfl,.inl hL,.inl hC',by omega,by omega,by omega,Le.list (w:=z) (by omega) (fun j hj=>bd j (by omega)),b2,fun H2 g2=>?_⟩;have hL2:=g2 _ _ hL;refine⟨_,_,rfl,rfl,_,rfl,_,_,rfl,rfl,⟨by omega,by show((i+1:Nat):Int)<1073741824;omega⟩,l,_,_,rfl,rfl,hL2,?_,?_⟩
   ·rw[List.length_map,lr];exact bN (by omega)
   ·refine⟨_,rule++[(Pm.co sums i-bhd rule sums (i+1))/((i+1:Nat):Int)],rfl,(g.trans g2).upd hl _,by rw[aB,List.map_append];rfl,by rw[List.length_append,lr];rfl,Le.grow lr bd st,fun k hk=>?_⟩;rw[Hf (by omega)];by_cases d:k<i
    ·rw[Pm.bW,if_pos (by omega)];exact eqs k d
    ·have e:k=i:=by omega
     subst e;rw[Pm.bW,if_neg (by omega),lr,Nat.sub_self];rfl
  ·rintro σ' H' ⟨o2,rule,rfl,g,hL,lr,bd,eqs⟩;exact⟨_,rfl,q l rule H' g hL lr bd eqs⟩
theorem mq(F:Fn K mg "refuse_far_steps" d8 ["start","step"]):iy P w K mg base:=by
 refine F.cal mQ (fun vs H Q E h=>?_) (fun f cdv A outer s H vs Q E hr h=>?_)
 ·obtain⟨st,e,rfl,_⟩:=h;rfl
 ·obtain⟨st,e,rfl,h1,h2,h3,q⟩:=h;refine⟨_,(aF (jy (PW.pt (wF (aR sE (pv 0) aq (aZ _)) (wF (aR qX (pv 0) (qm rfl B.cU) (aZ _)) (wF (aR sE (pv 1) aq (aZ _)) (wQ (aR qX (pv 1) (qm rfl B.eU) (aZ _)))))))
   (aF ql)
   cY)),?_⟩
  refine⟨_,rfl,_,_,rfl,rfl,_,rfl,?_⟩;rw[decide_eq_false (by omega:¬(st:Int)<0)];refine yV ⟨_,rfl,_,_,rfl,rfl,_,rfl,?_⟩;rw[decide_eq_false (by omega:¬(st:Int)>100)];refine yV ⟨_,rfl,_,_,rfl,rfl,_,rfl,?_⟩;rw[decide_eq_false (by omega:¬(e:Int)<1)];refine yV ⟨_,rfl,_,_,rfl,rfl,_,rfl,?_⟩;rw[decide_eq_false (by omega:¬(e:Int)>10)];exact yV q
theorem Gq(F:Fn K mg "every" yg ["row","start","step"])(eO:iy P w K mg base)(gK:oK P w K mg base)(jT:pW P w K mg base)(cW:iG P w K mg base)(iB:lK P w K mg base)(pF:tU P w K mg base):CT P w K mg base:=by
 refine F.cal j9 (fun vs H Q E h=>?_) (fun f cdv A outer s H vs Q E hr h=>?_)
 ·obtain⟨v,st,e,rfl,_⟩:=h;rfl
 ·obtain⟨v,st,e,rfl,hU⟩:=h;refine⟨_,(ao (jL (au eO hr rfl (aN (pv 1) (aN (pv 2) ak))))
   (ao (aJ (i:=3) j9.nd rfl (Or.inl rfl) (au gK hr rfl (aN (pv 0) ak)))
   (ao (aJ (i:=4) j9.nd rfl (Or.inl rfl) (aL (iW K) rfl B.cL boot_len (aG (bH (xix K) (pv 3) aq (fun _ _=>rfl)) ak)))
   (ao (aJ (i:=5) j9.nd rfl (Or.inr rfl) (au jT hr rfl (aG (bH (xix K) (pv 3) aq (fun _ _=>rfl)) (kY (aH v_mul (pv 2) (pv 4)) ak))))
   (ao (aJ (i:=6) j9.nd rfl (Or.inr rfl) (au cW hr rfl (aN (pv 3) (kY (aH (fV K) (pv 1) (aH v_mul (pv 2) (pv 4))) ak))))
   (ao (aJ (i:=7) j9.nd rfl (Or.inl rfl) (au iB hr rfl (aG (dG (sc:=Es) (N:=["k","step","sums"]) (ix:=[none,some 2,some 5]) cT rfl (nF rfl B.cu (fO aq (kY (aH (fV K) (pv 4) aq) ak))) (fun cl C s₀ H₀ ex=>⟨(aX (i:=0) jA rfl (Or.inl rfl)),cR,(bH (xix K) (pv 2) (aH bV (aH v_mul (pv 1) (pv 0)) aq) (fun _ _=>rfl))⟩)) ak)))
   (aF (aV (au pF hr rfl (aG (bH (xix K) (pv 0) aq (fun _ _=>rfl)) (aN (pv 7) (aG (dG (sc:=DC) (N:=["k","found","start","step"]) (ix:=[none,some 6,some 1,some 2]) cT rfl (bK rfl B.cu (aN (pv 4) ak)) (fun cl C s₀ H₀ ex=>⟨(aX (i:=0) jA rfl (Or.inl rfl)),cR,(bH (xix K) (pv 1) (aH (fV K) (pv 2) (aH v_mul (pv 3) (pv 0))) (fun _ _=>rfl))⟩)) ak)))))))))))),?_⟩
  obtain⟨r,b,n,u,ua,P,hR,ok,eb,hb,tame,hm,hK,hPl,n12,u10,u18,hu,hst,e1,e10,hsz,ha,VW,hua,hsz2,q⟩:=hU;subst eb;refine⟨_,rfl,_,rfl,st,e,rfl,hst,e1,e10,?_⟩;refine⟨_,rfl,v,r,rfl,hR,ok,hb.p,tame,fun x1 L H1 g1 hS lst ll=>?_⟩;have bl:=qF hb hm hK lst hPl n12 u10 hu;have lL:L.length<=n+1:=Nat.le_trans (lst.le hb.one hm hK) hPl;have lp:=lst.mon.pos;obtain⟨l1,l2⟩:=oM ll ok;obtain⟨okS,bdS⟩:=zQ hb ok ll (U:=u+13*(n+1)) (by omega) (by omega) bl;have eaS:(gq r L).at=r.at:=funext fun n=>wM ok.BF lst (by have:=ok.len;omega) n;obtain⟨c1,p1,t1,rfl,hC1,hP1,hT1⟩:=id hS;have lS:((gq r L).rule.map V.int).length=L.length-1:=by rw[List.length_map,l1]
  generalize hN:L.length-1=N at l1 l2 lS;have Nn:N<=n:=by omega
  have eN:e*N<=e*n:=Nat.mul_le_mul_left _ Nn;have eN2:e*N<=10*12:=Nat.mul_le_mul e10 (by omega);have NeN:N<=e*N:=Nat.le_mul_of_pos_left _ e1;refine⟨_,rfl,_,_,.inr (SqT.of hC1),rfl,.ref p1,N,rfl,.inr ⟨_,SqT.of hP1,lS.symm⟩,?_⟩;have sz1:(e*N)*(u+13*(n+1)+3)+1<=20000:=by
   have:(e*N)*(u+13*(n+1)+3)<=(u+13*(n+1)+3)*(e*n):=by rw[Nat.mul_comm];exact Nat.mul_le_mul_left _ eN
   omega
  refine⟨_,rfl,_,_,.inr (SqT.of hC1),rfl,_,rfl,_,rfl,mulL (by omega) (by omega),p1,(gq r L).rule,e*N,u+13*(n+1),by rw[Int.natCast_mul];rfl,hP1,by omega,sz1,by omega,fun i=>Nat.le_of_lt (Pm.mD bdS i),fun l5 sums H5 g5 h5 ls bs eqs=>?_⟩;have hS5:=hS.same g5;refine⟨_,rfl,_,rfl,_,rfl,_,rfl,mulL (by omega) (by omega),.ref c1,gq r L,(st:Int)+(e:Int)*(N:Int),rfl,hS5,okS,by rw[<-Int.natCast_mul];omega,by rw[<-Int.natCast_mul];omega,fun l6 H6 g6 f6 h6=>?_⟩;rw[show((st:Int)+(e:Int)*(N:Int)).toNat=st+e*N by rw[<-Int.natCast_mul];omega,Ir,eaS]at h6;have h56:=g6 _ _ h5;refine⟨_,rfl,1,(N:Int)+1,rfl,⟨by omega,by omega,by omega,by omega⟩,?_⟩;rw[show((N:Int)+1-1).toNat=N by omega];refine vU (lo:=1) (n:=N) (by omega) rfl (fun k=>Pm.co sums (e*(k+1)-1)) ?_ ?_
  ·intro H7 k g7 hk kk hkk;have t1:1<=e*(k+1):=Nat.mul_pos e1 (by omega);have t2:(e:Int)*(1+(k:Int))=((e*(k+1):Nat):Int):=by rw[Int.natCast_mul,Int.natCast_add,Int.add_comm];rfl
   have t3:e*(k+1)<=e*N:=Nat.mul_le_mul_left _ hk;refine⟨_,rfl,_,rfl,_,rfl,mulL (by omega) (by omega),_,_,rfl,rfl,_,V.int (Pm.co sums (e*(k+1)-1)),.inl (SqL.of (g7 _ _ h56)),?_,hkk⟩;rw[t2,show((e*(k+1):Nat):Int)-1=((e*(k+1)-1:Nat):Int)by omega];exact Ax (by omega)
  intro D hD;have gD:=Same.new hD (.lst ((Pm.ofF N fun k=>Pm.co sums (e*(k+1)-1)).map V.int));refine⟨D,Pm.ofF N fun k=>Pm.co sums (e*(k+1)-1),N,(u+13*(n+1)+3)*e,rfl,aB,Pm.aM ..,by omega,?_,fun i hi=>?_,fun l7 R H7 g7 h7 lr br eq3=>?_⟩
  ·rw[Nat.mul_comm,Nat.mul_assoc,Nat.mul_comm _ (e*N)];exact sz1
  ·rw[Pm.bI,if_pos hi];have t1:1<=e*(i+1):=Nat.mul_pos e1 (by omega);have t3:e*(i+1)<=e*N:=Nat.mul_le_mul_left _ hi;have:=bs (e*(i+1)-1) (by omega);rw[Nat.sub_add_cancel t1,<-Nat.pow_mul]at this;rw[<-Nat.pow_mul,Nat.mul_assoc];exact this
  have g17:=g1.trans (g5.trans (g6.trans (gD.trans g7)));have h67:=g7 _ _ (gD _ _ h6);obtain⟨a0,q1,q2,rfl,hA0,_,_⟩:=id (hR.same g17);refine⟨_,rfl,_,_,.inr (SqT.of hA0),rfl,_,rfl,_,rfl,(N:Int),rfl,(by omega:-(2^62)<=(N:Int)),(by omega:(N:Int)<2^62),?_⟩;rw[Int.toNat_natCast];refine qN (n:=N) (by omega) rfl (fun k=>r.at (st+e*k)) ?_ ?_
  ·intro H8 k g8 hk kk hkk;have t3:e*(k+1)<=e*N:=Nat.mul_le_mul_left _ hk;rw[Nat.mul_succ]at t3;refine⟨_,rfl,_,rfl,_,rfl,_,rfl,mulL (by omega) (by omega),_,V.int (r.at (st+e*k)),.inl (SqL.of (g8 _ _ h67)),?_,hkk _ (Same.refl _)⟩;rw[show(st:Int)+(e:Int)*(0+(k:Int))=((st+e*k:Nat):Int)by rw[Int.zero_add,Int.natCast_add,Int.natCast_mul]];rw[Ax (by rw[Pm.aM];omega),Pm.bI,if_pos (by omega)]
  intro D2 H8 hD2 g8 h8;have hzz:R.length*((u+13*(n+1)+3)*e)+1<=(u+13*(n+1)+3)*(e*n)+10:=by
   rw[lr,Nat.mul_comm,Nat.mul_assoc];have:=Nat.mul_le_mul_left (u+13*(n+1)+3) eN;omega
  have bR:∀x∈R,Rm.Bd ((u+13*(n+1)+3)*(e*n)+10) x:=Le.list hzz fun i hi=>br i (by omega);have e0:evR r.b R r st e=⟨r.b,R.map (Rm.tk r.b),(Pm.ofF N fun k=>r.at (st+e*k)).map (Rm.tk r.b)⟩:=by unfold evR;rw[lr]
  have okE:lB (evR r.b R r st e):=Nb hb (by omega) n12 bR (by omega) (by omega) hua VW ha;have hev:=Gu (b:=r.b) (c:=(gq r L).rule) (s1:=(gq r L).starts) (u:=sums) (R:=R) (e:=e) (st:=st) (N:=N) e1 okS.len okS.mC okS.iU l1.symm lr eqs eq3;have f1:Rm.at_ r.b (gq r L).rule (gq r L).starts=r.at:=by rw[<-eaS];rfl
  rw[f1]at hev;have he:∀k,(evR r.b R r st e).at k=r.at (st+e*k):=fun k=>by
   rw[e0,show(Pm.ofF N fun k=>r.at (st+e*k)).map (Rm.tk r.b)=Pm.ofF N fun k=>Rm.tk r.b (r.at (st+e*k))from List.map_map ..,hev k,ok.BF]
  have tm:=GJ hb okE (by omega) bR (by omega) he ha (by omega);have Mv:=okE;rw[e0]at okE tm;refine⟨r.b,l7,D2,R,_,rfl,.inl (g8 _ _ h7),.inl h8,by omega,by rw[Pm.aM];omega,hb.lo,okE,hb.p,tm,fun v' L' H9 g9 hR9 Sv ll9=>?_⟩;rw[<-e0]at hR9 Sv;have lE:(evR r.b R r st e).rule.length=R.length:=List.length_map _;have bl9:=qF (L:=L') hb (Pm.dz r.b (evR r.b R r st e).rule) Mv.kp Sv (u:=(u+13*(n+1)+3)*(e*n)+10) (n:=n) (by rw[Pm.aY,lE];omega) n12 (by omega) (fun _=>Pm.mD (Pm.ji hb.lo hb.hi (by omega) fun x hx=>by
   obtain⟨y,hy,rfl⟩:=List.mem_map.mp hx;exact lu hb (by omega) (bR y hy)))
  have V9:L'.length<=(evR r.b R r st e).rule.length+1:=by rw[lE];exact ll9
  obtain⟨ok9,bd9⟩:=zQ (r:=evR r.b R r st e) hb Mv V9 (by omega) (by omega) bl9;obtain⟨m1,m2⟩:=oM V9 Mv;exact q v' _ H9 (g17.trans (g8.trans g9)) hR9 ok9 rfl (by omega) (fun k=>by rw[wM Mv.BF Sv (by have:=Mv.len;omega),he]) bd9
theorem Kq(F:Fn K mg "_law_cut" Df ["_law_numbers"]):HC P w K mg base:=by
 refine F.cal BZ (fun vs H Q E h=>?_) (fun f cdv A outer s H vs Q E hr h=>?_)
 ·obtain⟨t,xs,rfl,_⟩:=h;rfl
 ·obtain⟨t,xs,rfl,hT,hz,q⟩:=h;refine⟨_,(ao (aJ (i:=1) BZ.nd rfl (Or.inl rfl) (bB (xlist K) rfl B.zR boot_list (aN (pv 0) ak)))
   (ao (gH PassesOwn.never (PW.pt (wR (aR (xne K hr) (pv 1) (jg ak) (aZ _)) (rH (aR (xeq K hr) (bH (xix K) (pv 1) (vZ pX aq) (fun _ _=>rfl)) aq (aZ _)))))
   (aF (jL (Xq K (pv 1)))))
   (aF (aV (bB (gw K) rfl B.dD boot_tuple (aN (pv 1) ak)))))),?_⟩
  refine⟨_,rfl,t,_,rfl,.inr (SqT.of hT),fun l hl=>?_⟩;refine⟨fun m σ' H'=>∃n:Nat,m=n/\n<=xs.length/\σ'=[some (.ref t),some (.ref l)]/\Same H H'/\H' l=some (.lst ((xs.take n).map V.int))/\Pm.trim (xs.take n)=Pm.trim xs,⟨_,xs.length,rfl,Nat.le_refl _,rfl,Same.new hl _,by rw[aB,List.take_length],by rw[List.take_length]⟩,?_⟩;rintro m σ' H' ⟨n,e0,hn,rfl,g,hL,ht⟩;refine⟨_,rfl,(by show 0<=sizeLine;decide),fun l2 hl2=>?_⟩;have g2:=Same.new hl2 (.lst ([]:List V));have hL2:=g2 _ _ hL;have lT:(xs.take n).length=n:=by rw[List.length_take];omega
  refine W6 (ns:=xs.take n) (ms:=[]) (SqL.of hL2) (SqL.of aB) ⟨_,rfl,?_⟩;have gg:=g.trans g2;generalize upd H' l2 (.lst ([]:List V))=H2 at g2 hL2 gg;by_cases h0:n=0
  ·rw[decide_eq_true (by rw[h0];rfl)];refine yV ⟨_,rfl,l,_,rfl,.inl ⟨SqL.of hL2,fun p hp=>?_⟩⟩;refine q p _ (gg.trans (Same.new hp _)) ?_;rw[aB,mV hn ht (.inl h0)]
  ·rw[decide_eq_false (fun z=>h0 (by rw[<-lT,z];rfl))];refine Wm ⟨_,rfl,_,rfl,_,_,.inl (SqL.of hL2),Aj (ns:=xs.take n) (n-1) (by decide) (by rw[lT];omega),_,rfl,?_⟩;have ev:(xs.take n).getD (n-1) 0=xs.getD (n-1) 0:=by rw[List.getD_eq_getElem?_getD,List.getElem?_take,if_pos (by omega),<-List.getD_eq_getElem?_getD]
   rw[ev];refine jW (fun c2=>?_) (fun c2=>?_)
   ·have hz:=dec_true c2;refine⟨_,fun _ _ z=>z,?_⟩;have ey:((xs.take n).map V.int)[((xs.take n).map V.int).length-1]?=some (.int (xs.getD (n-1) 0)):=by
     rw[List.length_map,lT,List.getElem?_map,List.getElem?_take,if_pos (by omega),List.getElem?_eq_getElem (by omega),List.getD_eq_getElem?_getD,List.getElem?_eq_getElem (by omega)];rfl
    refine⟨_,rfl,.inl ⟨rfl,_,SqL.of hL2⟩,l,_,_,rfl,rfl,hL2,ey,n-1,by omega,n-1,rfl,by omega,rfl,gg.upd hl _,?_,vB (by omega) hn ht hz⟩;rw[aB,<-List.map_dropLast,List.dropLast_eq_take,lT,List.take_take,Nat.min_eq_left (by omega)]
   ·have hz:=dec_false c2;refine⟨_,rfl,l,_,rfl,.inl ⟨SqL.of hL2,fun p hp=>?_⟩⟩;refine q p _ (gg.trans (Same.new hp _)) ?_;rw[aB,mV hn ht (.inr hz)]
theorem Dt(F:Fn K mg "_law_jumps" uY ["_law_by","_law_row","_law_one","_law_other"])(eE:m9 P w K mg base)(mz:xK P w K mg base)(vJ:HC P w K mg base)(j4:zj P w K mg base)(bZ:jf P w K mg base):zU P w K mg base:=by
 refine F.cal rm (fun vs H Q E h=>?_) (fun f cdv A outer s H vs Q E hr h=>?_)
 ·obtain⟨v,r,n,m,u,rfl,_⟩:=h;rfl
 ·obtain⟨v,r,n,m,u,rfl,hR,ok,hf,hn,hm,q⟩:=h;refine⟨_,(ao (aJ (i:=4) rm.nd rfl (Or.inl rfl) (au eE hr rfl (aN (pv 0) (aG (bH (xix K) (pv 1) aq (fun _ _=>rfl)) ak))))
   (ao (aJ (i:=5) rm.nd rfl (Or.inl rfl) (au mz hr rfl (aN (pv 0) (aG (au vJ hr rfl (aG (au j4 hr rfl (aN (pv 1) (aN (pv 2) ak))) ak)) (aG (au vJ hr rfl (aG (au j4 hr rfl (aN (pv 1) (aN (pv 3) ak))) ak)) ak)))))
   (aF (aV (lW (xeq K hr) (bH (xix K) (au bZ hr rfl (aN (pv 0) (aN (pv 5) (aN (pv 4) ak)))) aq (fun _ _=>rfl)) (au vJ hr rfl (aG (au j4 hr rfl (aN (pv 1) (kY (aH (fV K) (pv 2) (pv 3)) ak))) ak)) (aZ _)))))),?_⟩
  obtain⟨a,p,p2,rfl,hA,hP,hS⟩:=id hR;have h12:=ok.vh;have hby:=ok.ok.by1;have hb:=ok.byJ;have mono:∀{x y:Nat},x<=y->n6 r u y->n6 r u x:=fun {x y} h k z=>⟨Nat.le_trans h (k z).1,Nat.le_trans (Nat.add_le_add_left (Nat.mul_le_mul_right _ h) _) (k z).2⟩;refine⟨_,rfl,_,rfl,_,_,.inr (SqT.of hA),rfl,r.b,p,r.rule,rfl,ok.ok.by0,hP,by omega,fun t1 H1 g1 h1=>?_⟩;refine⟨_,rfl,_,rfl,_,rfl,.ref a,r,n,u,rfl,hR.same g1,ok,mono (by omega) hf,hn.mono (by decide),fun t2 H2 g2 h2=>?_⟩;refine⟨t2,_,rfl,h2,by rw[Pm.dM];omega,fun t3 H3 g3 h3=>?_⟩;have g13:=g1.trans (g2.trans g3);refine⟨_,rfl,_,rfl,.ref a,r,m,u,rfl,hR.same g13,ok,mono (by omega) hf,hm.mono (by decide),fun t4 H4 g4 h4=>?_⟩;refine⟨t4,_,rfl,h4,by rw[Pm.dM];omega,fun t5 H5 g5 h5=>?_⟩;have g35:=g4.trans g5;have bn:∀x∈Pm.trim (Pm.rest r.b r.rule n),Rm.Bd 400000 x:=fun x hx=>ok.um (mono (by omega) hf) x (Pm.m8 hx);have bm:∀x∈Pm.trim (Pm.rest r.b r.rule m),Rm.Bd 400000 x:=fun x hx=>ok.um (mono (by omega) hf) x (Pm.m8 hx);have ln:=Pm.cB (Pm.rest r.b r.rule n);have lm:=Pm.cB (Pm.rest r.b r.rule m);rw[Pm.dM]at ln lm;refine⟨r.b,t3,t5,_,_,rfl,ok.ok.by0,g35 _ _ h3,h5,by omega,by omega,fun x hx=>(bn x hx).mono (by decide),fun x hx=>(bm x hx).mono (by decide),fun t6 H6 g6 h6=>?_⟩;have g16:=g2.trans (g3.trans (g35.trans g6));have lD:=uF r.b (Pm.trim (Pm.rest r.b r.rule n)) (Pm.trim (Pm.rest r.b r.rule m));have bD:=Pm.C0 hb.lo hb.hi (by decide) bn bm;refine⟨_,rfl,_,rfl,_,rfl,r.b,t6,t1,_,Pm.aK r.b r.rule,rfl,hb.lo,hb.hi2,h6,g16 _ _ h1,by omega,by rw[Pm.aY];omega,Pm.dz _ _,fun k=>(Pm.B7 ..).co k,fun x hx=>(bD x hx).mono (by omega),fun x hx=>(Pm.ji hb.lo hb.hi ok.u10 ok.bd x hx).mono (by have:=ok.u60;omega),fun t7 x y q7 r7 H7 g7 h7 hx hy d7 _ _ _=>?_⟩;refine⟨_,_,.inr (SqT.of h7),rfl,?_⟩;have g17:=g1.trans (g16.trans g7);refine⟨_,rfl,_,rfl,_,rfl,.ref a,r,n+m,u,by rw[Int.natCast_add];rfl,hR.same g17,ok,hf,(Rm.Bd.add (n:=300) hn hm).mono (by decide),fun t8 H8 g8 h8=>?_⟩;refine⟨t8,_,rfl,h8,by rw[Pm.dM];omega,fun t9 H9 g9 h9=>?_⟩;have e7:r7=Pm.trim (Pm.rest r.b r.rule (n+m)):=Im hb.one (((D7 hb.one r.rule n).mul (D7 hb.one r.rule m)).left d7) d7.ry (by have:=d7.short;rw[Pm.aY]at this;omega);subst e7;refine Um (SqT.of (g9 _ _ (g8 _ _ hy))) (SqT.of h9) ?_;rw[decide_eq_true rfl];exact q _ (g17.trans (g8.trans g9))
theorem MR{f:Addr}{fd:FuncData}(F:Fun K "law" "law" xr f fd)(mH:rB P w K mg base)(dW:oJ P w K mg base)(jN:pN P w K mg base)(dI:vP P w K mg base)(iu:zq P w K mg base)(uX:zU P w K mg base)(gM:tH P w K mg base)(yI:CT P w K mg base):E7 P w K mg base (uT P w) Qc f fd ["_law_script"] (KJ K):=by
 refine F.okN (k:=15) iY (fun vs H Q E h=>?_) (fun cdv A outer s H vs Q E hr h=>?_)
 ·obtain⟨a,ns,rfl,_⟩:=h;rfl
 ·obtain⟨a,ns,rfl,hS,hlen,hBt,q⟩:=h;refine⟨_,(ao (aJ (i:=1) iY.nd rfl (Or.inl rfl) (au mH hr rfl (aG (au dW hr rfl (aN (pv 0) (fO aq ak))) ak)))
   (ao (aJ (i:=2) iY.nd rfl (Or.inl rfl) (au jN hr rfl (aN (pv 0) (fO aq (aN (pv 1) (fO aq ak))))))
   (ao (aJ (i:=3) iY.nd rfl (Or.inl rfl) (au dW hr rfl (aN (pv 0) (fO aq ak))))
   (ao (aJ (i:=4) iY.nd rfl (Or.inl rfl) (aH cO (au dI hr rfl (aN (pv 3) (fO aq ak))) aq))
   (ao (aJ (i:=5) iY.nd rfl (Or.inl rfl) (aH cO (au dI hr rfl (aN (pv 3) (fO aq ak))) aq))
   (ao (tE (jy (PW.pt (wR (aR qX (pv 1) aq (aZ _)) (rH (aR (xeq K hr) (aH cO (au dI hr rfl (aN (pv 3) (fO aq ak))) aq) aq (aZ _)))))
   (ao (aJ (i:=4) iY.nd rfl (Or.inl rfl) (aH cO (aH v_mul (aH (fV K) (pv 3) aq) (aH m6 aq aq)) (aH m6 aq aq)))
   (aF (aJ (i:=5) iY.nd rfl (Or.inl rfl) (aH cO (aH v_mul (aH (fV K) (pv 3) aq) (aH m6 aq aq)) (aH m6 aq aq)))))
   cY))
   (ao (aJ (i:=6) iY.nd rfl (Or.inl rfl) (au iu hr rfl (aN (pv 2) (kY (aH (fV K) (pv 4) (pv 5)) ak))))
   (ao (jy (PW.pt (wF (aR (xne K hr) (au iu hr rfl (aG (au iu hr rfl (aN (pv 2) (aN (pv 4) ak))) (aN (pv 5) ak))) (pv 6) (aZ _)) (wQ (aR (xne K hr) (au iu hr rfl (aG (au iu hr rfl (aN (pv 2) (aN (pv 5) ak))) (aN (pv 4) ak))) (pv 6) (aZ _)))))
   (aF (aV yq))
   cY)
   (ao (jy (PW.pt (wF (aR (xne K hr) (au gM hr rfl (aG (au iu hr rfl (aN (pv 2) (aN (pv 4) ak))) (aN (pv 5) ak))) (au gM hr rfl (aN (pv 2) (kY (aH (fV K) (pv 4) (pv 5)) ak))) (aZ _)) (wQ (vQ (vg (au uX hr rfl (aN (pv 1) (aN (pv 2) (aN (pv 4) (aN (pv 5) ak))))))))))
   (aF (aV yq))
   cY)
   (ao (aJ (i:=7) iY.nd rfl (Or.inl rfl) (aH cO (au dI hr rfl (aN (pv 3) (fO aq ak))) aq))
   (ao (aJ (i:=8) iY.nd rfl (Or.inl rfl) (aH (fV K) aq (aH cO (au dI hr rfl (aN (pv 3) (fO aq ak))) aq)))
   (ao (aJ (i:=9) iY.nd rfl (Or.inl rfl) (aH cO (au dI hr rfl (aN (pv 3) (fO aq ak))) aq))
   (ao (tE (jy (PW.pt (wR (aR qX (pv 1) aq (aZ _)) (rH (aR (xeq K hr) (aH cO (au dI hr rfl (aN (pv 3) (fO aq ak))) aq) aq (aZ _)))))
   (aF (aJ (i:=9) iY.nd rfl (Or.inl rfl) (aH cO (aH v_mul (aH (fV K) (pv 3) aq) (aH m6 aq aq)) (aH m6 aq aq))))
   cY))
   (aF (aV (lW (xeq K hr) (au gM hr rfl (aG (au yI hr rfl (aN (pv 2) (aN (pv 7) (aN (pv 8) ak)))) (aN (pv 9) ak))) (au gM hr rfl (aN (pv 2) (kY (aH (fV K) (pv 7) (aH v_mul (pv 9) (pv 8))) ak))) (aZ _))))))))))))))))),?_⟩
  refine⟨_,rfl,a,ns,0,rfl,hS,by decide,by decide,hBt,fun c hc=>?_⟩;refine⟨c,rfl,fun b H1 g1 hb=>?_⟩;refine⟨_,rfl,_,rfl,a,ns,1,b,6,rfl,g1.seq hS,by decide,by decide,hBt,hb,by decide,by decide,fun v r0 s r H2 g2 hR h0 hRs hs _=>?_⟩;refine⟨_,rfl,a,ns,3,rfl,g2.seq (g1.seq hS),by decide,by decide,hBt,fun c3 hc3=>?_⟩;have M:=hRs.mr hb h0 hs;have es:r.at=r0.at:=funext hRs.same;have eb:=hRs.by_;have hat:∀n,Rm.Bd (31+n*17) (r.at n):=fun n=>by rw[es];exact h0.Bq hb n
  have F:RwF r 49:=⟨M.ok,by rw[eb];exact hb.one,M.vh,by decide,by decide,M.dX⟩;have far:∀{n:Nat},(b=0->n<=400)->n6 r 49 n:=fun {n} h z=>by
   rw[eb]at z;have:=h z;have:n*61<=400*61:=Nat.mul_le_mul_right _ this;exact⟨h z,by show 10+n*61<=400000;omega⟩
  have onF:∀n,(b=0->n<=400)->RwF (r.on n) 49:=fun n h=>F.on fun k z hk=>by
   rw[eb]at z;have:=h z;have:k*17<=412*17:=Nat.mul_le_mul_right _ (by omega);exact(hat k).mono (by omega)
  have Kd:∀{n m:Nat},n6 r 49 n->n6 (r.on m) 49 n:=fun h=>h;clear g1 hS;refine⟨_,rfl,c3,1,rfl,by decide,by decide,fun x1 _ _=>?_⟩;refine⟨_,_,rfl,rfl,(by decide:(0:Int)<201),?_⟩;have a0:=cJ x1 (show(0:Int)<201 by decide);have a1:=cQ x1 (show(0:Int)<201 by decide);obtain⟨n1,en1⟩:∃n:Nat,(n:Int)=x1%201:=⟨_,Int.toNat_of_nonneg a0⟩;dsimp only;rw[<-en1]at a0 a1⊢;refine⟨_,rfl,c3,2,rfl,by decide,by decide,fun x2 _ _=>?_⟩;refine⟨_,_,rfl,rfl,(by decide:(0:Int)<200),?_⟩;have b0:=cJ x2 (show(0:Int)<200 by decide);have b1:=cQ x2 (show(0:Int)<200 by decide);obtain⟨m1,em1⟩:∃n:Nat,(n:Int)=x2%200:=⟨_,Int.toNat_of_nonneg b0⟩;dsimp only;rw[<-em1]at b0 b1⊢;refine Hl.by (fun σ' H'=>∃n m:Nat,σ'=[some (.ref a),some (.int b),some v,some (.int c3),some (.int (n:Int)),some (.int (m:Int)),none,none,none,none]/\H'=H2/\Rm.Bd 290 (n:Int)/\Rm.Bd 290 (m:Int)/\(b=0->n+m<=400)) (fun NN hNN=>?_) ?_
  ·have same:NN [some (.ref a),some (.int b),some v,some (.int c3),some (.int (n1:Int)),some (.int (m1:Int)),none,none,none,none] H2:=hNN _ _ ⟨n1,m1,rfl,rfl,(Rm.Bd.of (n:=10) (by omega) (by omega)).mono (by decide),(Rm.Bd.of (n:=10) (by omega) (by omega)).mono (by decide),fun _=>by omega⟩;refine⟨_,rfl,_,_,rfl,rfl,_,rfl,?_⟩;refine jW (fun cb=>?_) (fun _=>yV same);have hb0:0<b:=dec_true cb;refine⟨_,rfl,c3,3,rfl,by decide,by decide,fun x3 _ _=>?_⟩;refine⟨_,_,rfl,rfl,(by decide:(0:Int)<2),_,rfl,?_⟩;refine jW (fun _=>?_) (fun _=>same);have big:∀k:Int,0<=k->k<16->Rm.Bd 1048577 (c3+k):=fun k k0 k1=>Rm.Bd.add hc3 ((Rm.Bd.of (n:=4) (by omega) (by omega)).mono (by decide));refine⟨_,rfl,_,_,rfl,rfl,⟨by decide,by decide,by decide⟩,nR (m:=1048577) (n:=300) (big 3 (by decide) (by decide)) (Rm.Bd.of (by decide) (by decide)) (by decide),?_⟩;refine⟨_,_,rfl,rfl,⟨by decide,by decide,by decide⟩,_,_,rfl,rfl,(by decide:(0:Int)<10^(59:Int).toNat),?_⟩;obtain⟨n,en,bn⟩:=yw (c:=c3+3) (x:=982451653^(7:Int).toNat) (N:=(59:Int).toNat) (by decide) (by decide);dsimp only;rw[<-en];refine⟨_,rfl,_,_,rfl,rfl,⟨by decide,by decide,by decide⟩,nR (m:=1048577) (n:=300) (big 7 (by decide) (by decide)) (Rm.Bd.of (by decide) (by decide)) (by decide),?_⟩;refine⟨_,_,rfl,rfl,⟨by decide,by decide,by decide⟩,_,_,rfl,rfl,(by decide:(0:Int)<10^(59:Int).toNat),?_⟩;obtain⟨m,em,bm⟩:=yw (c:=c3+7) (x:=982451653^(7:Int).toNat) (N:=(59:Int).toNat) (by decide) (by decide);dsimp only;rw[<-em];exact hNN _ _ ⟨n,m,rfl,rfl,bn,bm,fun z=>by omega⟩
  rintro _ _ ⟨n,m,rfl,rfl,bn,bm,hnm⟩;clear en1 em1 a0 a1 b0 b1;have bnm:Rm.Bd 400 ((n+m:Nat):Int):=(Rm.Bd.add (n:=290) bn bm).mono (by decide);have bn4:Rm.Bd 400 (n:Int):=bn.mono (by decide);have bm4:Rm.Bd 400 (m:Int):=bm.mono (by decide);have fnm:n6 r 49 (n+m):=far hnm;have fn:n6 r 49 n:=far fun z=>by have:=hnm z;omega
  have fm:n6 r 49 m:=far fun z=>by have:=hnm z;omega
  have hlr:=M.ok.len;have enm:(n:Int)+(m:Int)=((n+m:Nat):Int):=(Int.natCast_add ..).symm;refine⟨_,rfl,_,rfl,_,rfl,v,r,n+m,49,by rw[enm];rfl,hR,F,fnm,bnm,fun v3 H3 g3 hR3=>?_⟩;refine⟨_,rfl,_,rfl,v,r,n,49,rfl,hR.same g3,F,fn,bn4,fun v4 H4 g4 hR4=>?_⟩;refine⟨_,rfl,v4,r.on n,m,49,rfl,hR4,onF n (fun z=>by have:=hnm z;omega),Kd fm,bm4,fun v5 H5 g5 hR5=>?_⟩;rw[Rw.La hlr]at hR5;have O6:=hR3.same (g4.trans g5);refine⟨_,rfl,VL hR5 O6 ⟨_,rfl,?_⟩⟩;rw[decide_eq_true ⟨rfl,rfl,rfl⟩];refine yV ?_;have g25:=g3.trans (g4.trans g5);refine⟨_,rfl,_,rfl,v,r,m,49,rfl,hR.same g25,F,fm,bm4,fun v6 H6 g6 hR6=>?_⟩;refine⟨_,rfl,v6,r.on m,n,49,rfl,hR6,onF m (fun z=>by have:=hnm z;omega),Kd fn,bn4,fun v7 H7 g7 hR7=>?_⟩;rw[Rw.La hlr,Nat.add_comm m n]at hR7;refine⟨_,rfl,VL hR7 (O6.same (g6.trans g7)) ⟨_,rfl,?_⟩⟩;rw[decide_eq_true ⟨rfl,rfl,rfl⟩];refine yV ?_;have g27:=g25.trans (g6.trans g7);refine⟨_,rfl,_,rfl,v,r,n,49,rfl,hR.same g27,F,fn,bn4,fun v8 H8 g8 hR8=>?_⟩;refine⟨_,rfl,v8,r.on n,m,49,rfl,hR8,onF n (fun z=>by have:=hnm z;omega),Kd fm,bm4,fun H9 g9=>?_⟩;rw[Rw.K5 hlr];have g29:=g27.trans (g8.trans g9);refine⟨_,rfl,_,rfl,_,rfl,v,r,n+m,49,by rw[enm];rfl,hR.same g29,F,fnm,bnm,fun H10 g10=>?_⟩;rw[Nat.add_comm m n];refine⟨_,rfl,?_⟩;rw[decide_eq_true rfl];refine yV ?_;have Tn:=g29.trans g10;refine⟨_,rfl,_,rfl,_,rfl,_,rfl,v,r,n,m,49,by rw[eb];rfl,hR.same Tn,F,fnm,bn.mono (by decide),bm.mono (by decide),fun H11 g11=>⟨_,rfl,yV ?_⟩⟩;have V1:=hR.same (Tn.trans g11);clear g25 g27 g29 Tn O6 hR3 hR4 hR5 hR6 hR7 hR8 hR;refine⟨_,rfl,c3,4,rfl,by decide,by decide,fun x4 _ _=>?_⟩;refine⟨_,_,rfl,rfl,(by decide:(0:Int)<40),?_⟩;have a0:=cJ x4 (show(0:Int)<40 by decide);have a1:=cQ x4 (show(0:Int)<40 by decide);obtain⟨st,est⟩:∃n:Nat,(n:Int)=x4%40:=⟨_,Int.toNat_of_nonneg a0⟩;dsimp only;rw[<-est]at a0 a1⊢;refine⟨_,rfl,c3,5,rfl,by decide,by decide,fun x5 _ _=>?_⟩;refine⟨_,_,rfl,rfl,(by decide:(0:Int)<10),?_⟩;have b0:=cJ x5 (show(0:Int)<10 by decide);have b1:=cQ x5 (show(0:Int)<10 by decide);obtain⟨e,ee⟩:∃n:Nat,(n:Int)=1+x5%10:=⟨_,Int.toNat_of_nonneg (by omega)⟩;dsimp only[GB];rw[<-ee];refine⟨_,rfl,c3,6,rfl,by decide,by decide,fun x6 _ _=>?_⟩;refine⟨_,_,rfl,rfl,(by decide:(0:Int)<36),?_⟩;have d0:=cJ x6 (show(0:Int)<36 by decide);have d1:=cQ x6 (show(0:Int)<36 by decide);obtain⟨k1,ek1⟩:∃n:Nat,(n:Int)=x6%36:=⟨_,Int.toNat_of_nonneg d0⟩;dsimp only;rw[<-ek1]at d0 d1⊢;refine Hl.by (fun σ' H'=>∃k:Nat,σ'=[some (.ref a),some (.int b),some v,some (.int c3),some (.int (n:Int)),some (.int (m:Int)),some v3,some (.int (st:Int)),some (.int (e:Int)),some (.int (k:Int))]/\H'=H11/\Rm.Bd 290 (k:Int)/\(b=0->k<=35)) (fun NN hNN=>?_) ?_
  ·have same:NN [some (.ref a),some (.int b),some v,some (.int c3),some (.int (n:Int)),some (.int (m:Int)),some v3,some (.int (st:Int)),some (.int (e:Int)),some (.int (k1:Int))] H11:=hNN _ _ ⟨k1,rfl,rfl,(Rm.Bd.of (n:=10) (by omega) (by omega)).mono (by decide),fun _=>by omega⟩;refine⟨_,rfl,_,_,rfl,rfl,_,rfl,?_⟩;refine jW (fun cb=>?_) (fun _=>yV same);have hb0:0<b:=dec_true cb;refine⟨_,rfl,c3,7,rfl,by decide,by decide,fun x7 _ _=>?_⟩;refine⟨_,_,rfl,rfl,(by decide:(0:Int)<2),_,rfl,?_⟩;refine jW (fun _=>?_) (fun _=>same);refine⟨_,rfl,_,_,rfl,rfl,⟨by decide,by decide,by decide⟩,nR (m:=1048577) (n:=300) (Rm.Bd.add hc3 ((Rm.Bd.of (n:=4) (by decide) (by decide)).mono (by decide))) (Rm.Bd.of (by decide) (by decide)) (by decide),?_⟩;refine⟨_,_,rfl,rfl,⟨by decide,by decide,by decide⟩,_,_,rfl,rfl,(by decide:(0:Int)<10^(58:Int).toNat),?_⟩;obtain⟨k,ek,bk⟩:=yw (c:=c3+9) (x:=982451653^(7:Int).toNat) (N:=(58:Int).toNat) (by decide) (by decide);dsimp only;rw[<-ek];exact hNN _ _ ⟨k,rfl,rfl,bk,fun z=>by omega⟩
  rintro _ _ ⟨k,rfl,rfl,bk,Vw⟩;have M0:=RwS.mr hb h0 (s:=0) (r:=r0) ⟨h0.by_,h0.len,by have:=h0.short;have:=h0.m12;omega,h0.mC,fun x hx=>(h0.dX x hx).mono (by decide),fun _=>rfl⟩ (by decide);have hK0:=M0.ok.kp;rw[h0.by_,<-es]at hK0;have XE:st<=39:=by omega
  have e10:e<=10:=by omega
  have e1:1<=e:=by omega
  have sz6:(13+13*(6+1)+3)*(e*6)<=107*60:=Nat.mul_le_mul_left _ (by omega);refine⟨_,rfl,_,rfl,_,rfl,v,st,e,rfl,r,b,6,13,2740,Pm.aK b r0.rule,V1,M.ok,eb,hb,M.tame,Pm.dz _ _,hK0,by rw[Pm.aY];have:=h0.short;have:(6:Int).toNat=6:=rfl;omega,by decide,by decide,by decide,fun _=>Pm.mD (Pm.ji hb.lo hb.hi (by decide) h0.dX),by omega,e1,e10,by omega,fun k hk=>(hat _).mono (by have:e*k<=10*12:=Nat.mul_le_mul e10 (by omega);omega),by decide,by decide,by decide,fun v' r' H12 g12 Xk ok' eb' l6 hat' bd'=>?_⟩;have F':RwF r' 7000:=⟨ok',by rw[eb'];exact hb.one,by omega,by decide,by decide,fun x hx=>(bd' x hx).mono (by omega)⟩;refine⟨_,rfl,v',r',k,7000,rfl,Xk,F',fun z=>?_,bk.mono (by decide),fun H13 g13=>?_⟩
  ·rw[eb']at z;have:=Vw z;have:k*7012<=35*7012:=Nat.mul_le_mul_right _ this;exact⟨by omega,by show 10+k*7012<=400000;omega⟩
  rw[hat'];have bke:Rm.Bd 350 ((k*e:Nat):Int):=by
   rw[Int.natCast_mul];exact(bk.mul (n:=10) (Rm.Bd.of (by omega) (by omega))).mono (by decide)
  have tk:(st:Int)+(k:Int)*(e:Int)=((st+e*k:Nat):Int):=by rw[Int.natCast_add,Int.natCast_mul,Int.mul_comm]
  refine⟨_,rfl,_,rfl,_,rfl,_,rfl,nR (m:=290) (n:=10) bk (Rm.Bd.of (by omega) (by omega)) (by decide),v,r,st+e*k,49,by rw[tk];rfl,V1.same (g12.trans g13),F,far fun z=>?_,?_,fun H14 g14=>?_⟩
  ·have:=Vw z;have:e*k<=10*35:=Nat.mul_le_mul e10 this;omega
  ·rw[Nat.mul_comm e k,Int.natCast_add];exact(Rm.Bd.add (n:=350) ((Rm.Bd.of (n:=10) (by omega) (by omega)).mono (by decide)) bke).mono (by decide)
  ·dsimp only[E8,id];rw[decide_eq_true rfl];exact q _
end
theorem all_mk{l:W.OpenLaw}{w:World}{K:W.Frag}{h:Heap}{mg:Str->Option Value}{fa:Addr}(X:K.In h)(G:h.Ns mainGlobals mg)(hfa:mg "law" = some (.ref fa))
  (F0:fQ K "is_prime" nZ) (F1:fQ K "taken" xY) (F2:fQ K "inverse" rT) (F3:fQ K "over" DR) (F4:fQ K "next_place" jX) (F5:fQ K "first_places" iK) (F6:fQ K "trimmed" qM) (F7:fQ K "number_at" mK) (F8:fQ K "times" yR) (F9:fQ K "divided" qG) (F10:fQ K "monic" xH) (F11:fQ K "greatest" oN) (F12:fQ K "of_rule" qz) (F13:fQ K "rule_of" qH) (F14:fQ K "sum_at" uL) (F15:fQ K "refuse_far_jump" fK) (F16:fQ K "power_left" jR) (F17:fQ K "jump" DY) (F18:fQ K "place_at" oA) (F19:fQ K "onward" uE) (F20:fQ K "behind_first" iD) (F21:fQ K "power_sums" jV) (F22:fQ K "rule_of_sums" iM) (F23:fQ K "prime_above" jq) (F24:fQ K "divides" rN) (F25:fQ K "taken_poly" jY) (F26:fQ K "nearest" rY) (F27:fQ K "joined" uI) (F28:fQ K "whole_greatest" gh) (F29:fQ K "shared_divisor" fW) (F30:fQ K "top_of" tY) (F31:fQ K "least_of" oX) (F32:fQ K "shortest" oE) (F33:fQ K "refuse_far_steps" d8) (F34:fQ K "told_row" oF) (F35:fQ K "every" yg) (F36:fQ K "_law_cell_at" oO) (F37:fQ K "_law_mix" CV) (F38:fQ K "_law_drawn_by" lV) (F39:fQ K "_law_taken" ur) (F40:fQ K "_law_one_number" jr) (F41:fQ K "_law_places" rR) (F42:fQ K "_law_made_longer" iz) (F43:fQ K "_law_drawn_row" jU) (F44:fQ K "_law_cut" Df) (F45:fQ K "_law_jumps" uY) (FL:fQ K "law" xr) (IW:W.nsIn K mainGlobals "int" = some none) (JW:W.nsIn K mainGlobals "len" = some none) (Ek:W.nsIn K mainGlobals "list" = some none) (Jb:W.nsIn K mainGlobals "max" = some none) (IB:W.nsIn K mainGlobals "min" = some none) (w6:W.nsIn K mainGlobals "range" = some none) (J5:W.nsIn K mainGlobals "sum" = some none) (wZ:W.nsIn K mainGlobals "tuple" = some none) (cI:∃t,W.nsIn K mainGlobals "BELOW_THE_PRIMES" = some (some (.int 1000000 t))) (dg:∃t,W.nsIn K mainGlobals "FARTHEST_BY_0" = some (some (.int 400 t))) (cU:∃t,W.nsIn K mainGlobals "FARTHEST_START" = some (some (.int 100 t))) (eU:∃t,W.nsIn K mainGlobals "WIDEST_STEP" = some (some (.int 10 t))):
  ∃fd:FuncData,(∀(s:Shared) (v:Value),BindsTo s fd ⟨[v],[]⟩ [("_law_script",v)])/\∀base:Heap,K.In base->base.Ns mainGlobals mg->E7 l.prog w K mg base (uT l.prog w) Qc fa fd ["_law_script"] (KJ K):=by
 obtain⟨f,oc,od,kV,doc,pm,an,cdv,ct,sl,e1,e2,e3,e4⟩:=FL.ex;have e:=hfa.symm.trans (W.mg_of X G e1);cases e;have FF:=Ih (st:=xr) e2 e3 e4;have B:Bt mg:=⟨W.mg_none_of X G IW,W.mg_none_of X G JW,W.mg_none_of X G Ek,W.mg_none_of X G Jb,W.mg_none_of X G IB,W.mg_none_of X G w6,W.mg_none_of X G J5,W.mg_none_of X G wZ,(let⟨t,q⟩:=cI;⟨t,W.mg_of X G q⟩),(let⟨t,q⟩:=dg;⟨t,W.mg_of X G q⟩),(let⟨t,q⟩:=cU;⟨t,W.mg_of X G q⟩),(let⟨t,q⟩:=eU;⟨t,W.mg_of X G q⟩)⟩;refine⟨W.fnOf "law" "law" (aD xr) (aC xr) (aj xr) .none kV doc pm an cdv ct,fun s v=> .of_eq rfl,fun base kB gB=>?_⟩;have pI:=yj (P:=l.prog) (w:=w) (base:=base) B (F0.fnA X G);have aU:=FW (P:=l.prog) (w:=w) (base:=base) B (F1.fnA X G);have rC:=BD (P:=l.prog) (w:=w) (base:=base) B (F2.fnA X G) aU;have tG:=Kr (P:=l.prog) (w:=w) (base:=base) B (F3.fnA X G) aU rC;have j5:=uh (P:=l.prog) (w:=w) (base:=base) B (F4.fnA X G) aU;have cW:=rF (P:=l.prog) (w:=w) (base:=base) B (F5.fnA X G) j5;have cM:=Al (P:=l.prog) (w:=w) (base:=base) B (F6.fnA X G);have lZ:=vD (P:=l.prog) (w:=w) (base:=base) B (F7.fnA X G);have mz:=Gj (P:=l.prog) (w:=w) (base:=base) B (F8.fnA X G) aU cM;have bZ:=A9 (P:=l.prog) (w:=w) (base:=base) B (F9.fnA X G) aU cM;have rA:=FZ (P:=l.prog) (w:=w) (base:=base) B (F10.fnA X G) tG;have gO:=yO (P:=l.prog) (w:=w) (base:=base) B (F11.fnA X G) rA bZ;have eE:=Bf (P:=l.prog) (w:=w) (base:=base) B (F12.fnA X G) aU;have qD:=Bx (P:=l.prog) (w:=w) (base:=base) B (F13.fnA X G) aU;have kE:=Ez (P:=l.prog) (w:=w) (base:=base) B (F14.fnA X G) aU;have fD:=nJ (P:=l.prog) (w:=w) (base:=base) B (F15.fnA X G);have jK:=ud (P:=l.prog) (w:=w) (base:=base) B (F16.fnA X G) bZ mz;have j4:=J0 (P:=l.prog) (w:=w) (base:=base) B (F17.fnA X G) fD jK eE lZ;have gM:=yh (P:=l.prog) (w:=w) (base:=base) B (F18.fnA X G) kE j4;have iu:=CM (P:=l.prog) (w:=w) (base:=base) B (F19.fnA X G) j4 cW kE;have cV:=qx (P:=l.prog) (w:=w) (base:=base) B (F20.fnA X G);have jT:=uy (P:=l.prog) (w:=w) (base:=base) B (F21.fnA X G) cV;have iB:=qK (P:=l.prog) (w:=w) (base:=base) B (F22.fnA X G) cV;have jo:=sU (P:=l.prog) (w:=w) (base:=base) B (F23.fnA X G) pI;have mX:=Aq (P:=l.prog) (w:=w) (base:=base) B (F24.fnA X G) bZ;have iw:=uH (P:=l.prog) (w:=w) (base:=base) B (F25.fnA X G) cM aU;have iV:=Ar (P:=l.prog) (w:=w) (base:=base) B (F26.fnA X G);have uG:=Cy (P:=l.prog) (w:=w) (base:=base) B (F27.fnA X G) tG aU iV;have fZ:=oW (P:=l.prog) (w:=w) (base:=base) B (F28.fnA X G) mX jo gO iw iV uG;have fR:=pC (P:=l.prog) (w:=w) (base:=base) B (F29.fnA X G) fZ gO;have uo:=Cq (P:=l.prog) (w:=w) (base:=base) B (F30.fnA X G) aU cM;have oR:=yU (P:=l.prog) (w:=w) (base:=base) B (F31.fnA X G) eE uo bZ fR;have gK:=wX (P:=l.prog) (w:=w) (base:=base) B (F32.fnA X G) oR qD;have eO:=mq (P:=l.prog) (w:=w) (base:=base) B (F33.fnA X G);have pF:=xJ (P:=l.prog) (w:=w) (base:=base) B (F34.fnA X G) aU gK;have yI:=Gq (P:=l.prog) (w:=w) (base:=base) B (F35.fnA X G) eO gK jT cW iB pF;have dW:=xW (P:=l.prog) (w:=w) (base:=base) B (F36.fnA X G);have dI:=Kw (P:=l.prog) (w:=w) (base:=base) B (F37.fnA X G);have mH:=vX (P:=l.prog) (w:=w) (base:=base) B (F38.fnA X G) dI;have dN:=BQ (P:=l.prog) (w:=w) (base:=base) B (F39.fnA X G);have gF:=sI (P:=l.prog) (w:=w) (base:=base) B (F40.fnA X G) dI dN;have qW:=Az (P:=l.prog) (w:=w) (base:=base) B (F41.fnA X G) dN;have iJ:=rD (P:=l.prog) (w:=w) (base:=base) B (F42.fnA X G) qW dN;have jN:=ug (P:=l.prog) (w:=w) (base:=base) B (F43.fnA X G) dW dI gF iJ dN;have vJ:=Kq (P:=l.prog) (w:=w) (base:=base) B (F44.fnA X G);have uX:=Dt (P:=l.prog) (w:=w) (base:=base) B (F45.fnA X G) eE mz vJ j4 bZ
 exact MR B FF mH dW jN dI iu uX gM yI
end K40
namespace L2
open PySem PySem.W W.X
theorem Fl{q:Program}{loose:List Str}{XP:(Str->Option Value)->Heap->Prop}{K:Params->Frag}{as:List Addr}{n t:Nat}{r:RowW}{d:DefRec}{kwd:List (Str×PySem.Expr)}{run:Value->List Value->Sem Value}(keys:∀P,as=(K P).map (·.1))
  (W:WalkO q loose XP (fun w h=>(K w.params).In h) r d kwd run):WalkX q loose XP (obsZ as) (valZ K n t) r d kwd run:=
 fun w s0 s1 mg mb G y a o pm cd doc dV kV h1 h2 h3 h4 h5 h6 args vals as' L p1 p2 p3 p4 p5=>W w s0 s1 mg mb G (InK.keeps w _ _ (z_facts keys y).2.1 L.keeps) a o pm cd doc dV kV h1 h2 h3 h4 h5 h6 args vals as' p1 p2 p3 p4 p5
end L2
namespace K40
def topF(i:Nat):PySem.Stmt:=PySem.Challenge.pw_nextbyrule_k40_whole_far_by_far.main.body.getD i (.Pass ⟨0,0,0,0⟩)
def pwL:PySem.Program:={ PySem.Challenge.pw_nextbyrule_k40_whole_far_by_far with main:={ PySem.Challenge.pw_nextbyrule_k40_whole_far_by_far.main with body:=[topF 0,topF 1,topF 2,topF 3,topF 4,topF 5,topF 6,topF 7,topF 8,topF 9,topF 10,topF 11,topF 12,topF 13,topF 14,topF 15,topF 16,topF 17,topF 18,topF 19,topF 20,topF 21,topF 22,topF 23,topF 24,topF 25,topF 26,topF 27,topF 28,topF 29,topF 30,topF 31,topF 32,topF 33,topF 34,topF 35,topF 36,topF 37,topF 38,topF 39,topF 40,topF 41,topF 42,topF 43,topF 44,topF 45,topF 46,topF 47,topF 48,topF 49,topF 50,topF 51,topF 52,topF 53,topF 54,topF 55,topF 56,topF 57,topF 58,topF 59,topF 60,topF 61,topF 62,topF 63] } }
def rwL:PySem.W.OpenLaw:={ PySem.Challenge.rw_nextbyrule_k40_whole_far_by_far with prog:=pwL }
end K40
namespace K40
namespace H
noncomputable section
open PySem PySem.W PySem.Calls PyProof.Rows
theorem warm:(K40.pwL.main.body.isEmpty||true)=true:=by k_qdec
abbrev nd(v:Obj)(l r:BT):BT:= .node v l r
abbrev e:BT:= .nil
abbrev kh:=PyData.keyHash
abbrev tt(i:Nat):Stmt:=PySem.W.Fast.tw18095949283535741863 i
def z0:Str:=⟨⟨[95,95,110,97,109,101,95,95]⟩⟩
def z1:Str:=⟨⟨[108,97,119,95,110,101,120,116,98,121,114,117,108,101,95,107,52,48,95,119,104,111,108,101,95,102,97,114,95,98,121,95,102,97,114]⟩⟩
def z2:Str:=⟨⟨[95,95,100,111,99,95,95]⟩⟩
def z3:Str:=⟨⟨[95,95,112,97,99,107,97,103,101,95,95]⟩⟩
def z4:Str:=⟨⟨[95,95,108,111,97,100,101,114,95,95]⟩⟩
def z5:Str:=⟨⟨[95,95,115,112,101,99,95,95]⟩⟩
def z6:Str:=⟨⟨[95,95,97,110,110,111,116,97,116,105,111,110,115,95,95]⟩⟩
def z7:Str:=⟨⟨[95,95,98,117,105,108,116,105,110,115,95,95]⟩⟩
def z8:Str:=⟨⟨[95,95,102,105,108,101,95,95]⟩⟩
def z9:Str:=⟨⟨[47,99,108,97,105,109,47,99,117,116,46,112,121]⟩⟩
def z10:Str:=⟨⟨[95,95,99,97,99,104,101,100,95,95]⟩⟩
def z11:Str:=⟨⟨[82,117,108,101,69,114,114,111,114]⟩⟩
def z12:Str:=⟨⟨[78,111,78,117,109,98,101,114]⟩⟩
def z13:Str:=⟨⟨[84,111,111,70,97,114]⟩⟩
def z14:Str:=⟨⟨[105,115,95,112,114,105,109,101]⟩⟩
def z15:Str:=⟨⟨[116,97,107,101,110]⟩⟩
def z16:Str:=⟨⟨[105,110,118,101,114,115,101]⟩⟩
def z17:Str:=⟨⟨[111,118,101,114]⟩⟩
def z18:Str:=⟨⟨[110,101,120,116,95,112,108,97,99,101]⟩⟩
def z19:Str:=⟨⟨[102,105,114,115,116,95,112,108,97,99,101,115]⟩⟩
def z20:Str:=⟨⟨[116,114,105,109,109,101,100]⟩⟩
def z21:Str:=⟨⟨[110,117,109,98,101,114,95,97,116]⟩⟩
def z22:Str:=⟨⟨[116,105,109,101,115]⟩⟩
def z23:Str:=⟨⟨[100,105,118,105,100,101,100]⟩⟩
def z24:Str:=⟨⟨[109,111,110,105,99]⟩⟩
def z25:Str:=⟨⟨[103,114,101,97,116,101,115,116]⟩⟩
def z26:Str:=⟨⟨[111,102,95,114,117,108,101]⟩⟩
def z27:Str:=⟨⟨[114,117,108,101,95,111,102]⟩⟩
def z28:Str:=⟨⟨[115,117,109,95,97,116]⟩⟩
def z29:Str:=⟨⟨[70,65,82,84,72,69,83,84,95,66,89,95,48]⟩⟩
def z30:Str:=⟨⟨[114,101,102,117,115,101,95,102,97,114,95,106,117,109,112]⟩⟩
def z31:Str:=⟨⟨[112,111,119,101,114,95,108,101,102,116]⟩⟩
def z32:Str:=⟨⟨[106,117,109,112]⟩⟩
def z33:Str:=⟨⟨[112,108,97,99,101,95,97,116]⟩⟩
def z34:Str:=⟨⟨[111,110,119,97,114,100]⟩⟩
def z35:Str:=⟨⟨[98,101,104,105,110,100,95,102,105,114,115,116]⟩⟩
def z36:Str:=⟨⟨[112,111,119,101,114,95,115,117,109,115]⟩⟩
def z37:Str:=⟨⟨[114,117,108,101,95,111,102,95,115,117,109,115]⟩⟩
def z38:Str:=⟨⟨[66,69,76,79,87,95,84,72,69,95,80,82,73,77,69,83]⟩⟩
def z39:Str:=⟨⟨[112,114,105,109,101,95,97,98,111,118,101]⟩⟩
def z40:Str:=⟨⟨[100,105,118,105,100,101,115]⟩⟩
def z41:Str:=⟨⟨[116,97,107,101,110,95,112,111,108,121]⟩⟩
def z42:Str:=⟨⟨[110,101,97,114,101,115,116]⟩⟩
def z43:Str:=⟨⟨[106,111,105,110,101,100]⟩⟩
def z44:Str:=⟨⟨[119,104,111,108,101,95,103,114,101,97,116,101,115,116]⟩⟩
def z45:Str:=⟨⟨[115,104,97,114,101,100,95,100,105,118,105,115,111,114]⟩⟩
def z46:Str:=⟨⟨[116,111,112,95,111,102]⟩⟩
def z47:Str:=⟨⟨[108,101,97,115,116,95,111,102]⟩⟩
def z48:Str:=⟨⟨[115,104,111,114,116,101,115,116]⟩⟩
def z49:Str:=⟨⟨[70,65,82,84,72,69,83,84,95,83,84,65,82,84]⟩⟩
def z50:Str:=⟨⟨[87,73,68,69,83,84,95,83,84,69,80]⟩⟩
def z51:Str:=⟨⟨[114,101,102,117,115,101,95,102,97,114,95,115,116,101,112,115]⟩⟩
def z52:Str:=⟨⟨[116,111,108,100,95,114,111,119]⟩⟩
def z53:Str:=⟨⟨[101,118,101,114,121]⟩⟩
def z54:Str:=⟨⟨[95,108,97,119,95,99,101,108,108,95,97,116]⟩⟩
def z55:Str:=⟨⟨[95,108,97,119,95,109,105,120]⟩⟩
def z56:Str:=⟨⟨[95,108,97,119,95,100,114,97,119,110,95,98,121]⟩⟩
def z57:Str:=⟨⟨[95,108,97,119,95,116,97,107,101,110]⟩⟩
def z58:Str:=⟨⟨[95,108,97,119,95,111,110,101,95,110,117,109,98,101,114]⟩⟩
def z59:Str:=⟨⟨[95,108,97,119,95,109,97,100,101,95,108,111,110,103,101,114]⟩⟩
def z60:Str:=⟨⟨[95,108,97,119,95,100,114,97,119,110,95,114,111,119]⟩⟩
def z61:Str:=⟨⟨[95,108,97,119,95,112,108,97,99,101,115]⟩⟩
def z62:Str:=⟨⟨[95,108,97,119,95,99,117,116]⟩⟩
def z63:Str:=⟨⟨[95,108,97,119,95,106,117,109,112,115]⟩⟩
def z64:Str:=⟨⟨[108,97,119]⟩⟩
def z65:Str:=⟨⟨[60,109,111,100,117,108,101,62]⟩⟩
def z66:Str:=⟨⟨[95,95,109,97,105,110,95,95]⟩⟩
def z67:Str:=⟨⟨[95,95,109,111,100,117,108,101,95,95]⟩⟩
def z68:Str:=⟨⟨[110,101,120,116,98,121,114,117,108,101,46,101,114,114,111,114,115]⟩⟩
def z69:Str:=⟨⟨[95,95,113,117,97,108,110,97,109,101,95,95]⟩⟩
def z70:Str:=⟨⟨[95,95,102,105,114,115,116,108,105,110,101,110,111,95,95]⟩⟩
def z71:Str:=⟨⟨[95,95,115,116,97,116,105,99,95,97,116,116,114,105,98,117,116,101,115,95,95]⟩⟩
def z72:Str:=⟨⟨[95,95,119,101,97,107,114,101,102,95,95]⟩⟩
def z73:Str:=⟨⟨[110,117,109,98,101,114]⟩⟩
def z74:Str:=⟨⟨[100,105,118,105,115,111,114]⟩⟩
def z75:Str:=⟨⟨[110,101,120,116,98,121,114,117,108,101,46,110,117,109,98,101,114,115]⟩⟩
def z76:Str:=⟨⟨[98,121]⟩⟩
def z77:Str:=⟨⟨[112,114,105,109,101]⟩⟩
def z78:Str:=⟨⟨[112,111,119,101,114]⟩⟩
def z79:Str:=⟨⟨[115,113,117,97,114,101]⟩⟩
def z80:Str:=⟨⟨[108,101,102,116]⟩⟩
def z81:Str:=⟨⟨[111,110,101]⟩⟩
def z82:Str:=⟨⟨[111,116,104,101,114]⟩⟩
def z83:Str:=⟨⟨[114,117,108,101]⟩⟩
def z84:Str:=⟨⟨[98,101,102,111,114,101]⟩⟩
def z85:Str:=⟨⟨[116,111,116,97,108]⟩⟩
def z86:Str:=⟨⟨[107]⟩⟩
def z87:Str:=⟨⟨[110,101,120,116,98,121,114,117,108,101,46,114,111,119,115]⟩⟩
def z88:Str:=⟨⟨[114,111,119]⟩⟩
def z89:Str:=⟨⟨[99,111,117,110,116]⟩⟩
def z90:Str:=⟨⟨[115,116,97,114,116,115]⟩⟩
def z91:Str:=⟨⟨[102,111,117,110,100]⟩⟩
def z92:Str:=⟨⟨[110,117,109,98,101,114,115]⟩⟩
def z93:Str:=⟨⟨[101,110,100]⟩⟩
def z94:Str:=⟨⟨[110,101,120,116,98,121,114,117,108,101,46,112,111,108,121,115]⟩⟩
def z95:Str:=⟨⟨[112,111,108,121]⟩⟩
def z96:Str:=⟨⟨[105]⟩⟩
def z97:Str:=⟨⟨[116,111,112]⟩⟩
def z98:Str:=⟨⟨[111,102,116,101,110]⟩⟩
def z99:Str:=⟨⟨[115,104,105,102,116]⟩⟩
def Wh:Str:=⟨⟨[102,97,99,116,111,114]⟩⟩
def Xm:Str:=⟨⟨[103,114,101,97,116]⟩⟩
def Xj:Str:=⟨⟨[115,109,97,108,108]⟩⟩
def TR:Str:=⟨⟨[110]⟩⟩
def KZ:Str:=⟨⟨[110,101,120,116,98,121,114,117,108,101,46,102,97,114]⟩⟩
def Xv:Str:=⟨⟨[102,105,103,117,114,101]⟩⟩
def Wj:Str:=⟨⟨[100,111,117,98,108,101,100]⟩⟩
def QL:Str:=⟨⟨[110,101,120,116,98,121,114,117,108,101,46,112,111,119,101,114,115]⟩⟩
def VP:Str:=⟨⟨[115,117,109,115]⟩⟩
def WD:Str:=⟨⟨[111,119,110]⟩⟩
def Ij:Str:=⟨⟨[110,101,120,116,98,121,114,117,108,101,46,119,104,111,108,101,115]⟩⟩
def Xr:Str:=⟨⟨[109,111,110,105,99,95,111,110,101]⟩⟩
def VN:Str:=⟨⟨[109,111,100,117,108,117,115]⟩⟩
def V4:Str:=⟨⟨[114,101,115,116]⟩⟩
def WC:Str:=⟨⟨[109,111,114,101]⟩⟩
def Qn:Str:=⟨⟨[110,101,120,116,98,121,114,117,108,101,46,115,104,111,114,116,101,115,116]⟩⟩
def Xe:Str:=⟨⟨[108,101,97,115,116]⟩⟩
def Xw:Str:=⟨⟨[115,116,97,114,116]⟩⟩
def Wn:Str:=⟨⟨[115,116,101,112]⟩⟩
def PF:Str:=⟨⟨[110,101,120,116,98,121,114,117,108,101,46,109,105,120,101,115]⟩⟩
def Vu:Str:=⟨⟨[95,108,97,119,95,115,99,114,105,112,116]⟩⟩
def Q6:Str:=⟨⟨[95,108,97,119,95,107]⟩⟩
def Oh:Str:=⟨⟨[95,108,97,119,95,99,101,108,108]⟩⟩
def Vz:Str:=⟨⟨[95,108,97,119,95,110,117,109,98,101,114]⟩⟩
def Oi:Str:=⟨⟨[95,108,97,119,95,98,121]⟩⟩
def Wt:Str:=⟨⟨[95,108,97,119,95,102,97,114]⟩⟩
def Xa:Str:=⟨⟨[95,108,97,119,95,115,109,97,108,108]⟩⟩
def WZ:Str:=⟨⟨[95,108,97,119,95,110,117,109,98,101,114,115]⟩⟩
def W9:Str:=⟨⟨[95,108,97,119,95,102,111,117,110,100]⟩⟩
def VF:Str:=⟨⟨[95,108,97,119,95,114,111,119]⟩⟩
def Vv:Str:=⟨⟨[95,108,97,119,95,111,110,101]⟩⟩
def V5:Str:=⟨⟨[95,108,97,119,95,111,116,104,101,114]⟩⟩
def WQ:Str:=⟨⟨[95,108,97,119,95,114,117,108,101]⟩⟩
def VQ:Str:=⟨⟨[95,108,97,119,95,98,111,116,104]⟩⟩
def WY:Str:=⟨⟨[95,108,97,119,95,115,116,97,114,116]⟩⟩
def W5:Str:=⟨⟨[95,108,97,119,95,115,116,101,112]⟩⟩
def Wk:Str:=⟨⟨[95,108,97,119,95,110]⟩⟩
noncomputable abbrev t0:String:=PySem.W.SL.s14018661285674007319x4
noncomputable abbrev t1:String:=PySem.W.SL.s7097527257260152453x26
noncomputable abbrev t2:String:=PySem.W.SL.s2766695959194262286x5
noncomputable abbrev t3:String:=PySem.W.SL.s5856160107412720595x4
noncomputable abbrev t4:String:=PySem.W.SL.s658472552662922059x5
noncomputable abbrev t5:String:=PySem.W.SL.s6070975301684473832x10
noncomputable abbrev t6:String:=PySem.W.SL.s11030030927630378310x26
noncomputable abbrev t7:String:=PySem.W.SL.s10062305145149207511x16
noncomputable abbrev t8:String:=PySem.W.SL.s17162191345867700912x4
noncomputable abbrev t9:String:=PySem.W.SL.s4209523147560561109x18
noncomputable abbrev t10:String:=PySem.W.SL.s5946037652744460706x9
noncomputable abbrev t11:String:=PySem.W.SL.s4278001404047624695x13
noncomputable abbrev t12:String:=PySem.W.SL.s2742458400755230247x6
noncomputable abbrev t13:String:=PySem.W.SL.s14755015743595814543x17
noncomputable abbrev t14:String:=PySem.W.SL.s10220274742760427390x26
noncomputable abbrev t15:String:=PySem.W.SL.s4290257624100764138x5
noncomputable abbrev t16:String:=PySem.W.SL.s4860613602091757760x24
noncomputable abbrev t17:String:=PySem.W.SL.s7174869446012820540x8
def l3(P:Params):List DictEntry:=[⟨kh P z0,.str z0 165,.str z1 569⟩,⟨kh P z2,.str z2 166,.none⟩,⟨kh P z3,.str z3 167,.none⟩,⟨kh P z4,.str z4 168,.builtin t1⟩,⟨kh P z5,.str z5 169,.none⟩,⟨kh P z6,.str z6 170,.ref 6⟩,⟨kh P z7,.str z7 171,.ref 4⟩,⟨kh P z8,.str z8 173,.str z9 172⟩,⟨kh P z10,.str z10 174,.none⟩,⟨kh P z11,.str z11 206,.ref 24⟩,⟨kh P z12,.str z12 222,.ref 37⟩,⟨kh P z13,.str z13 238,.ref 49⟩,⟨kh P z14,.str z14 248,.ref 58⟩,⟨kh P z15,.str z15 256,.ref 65⟩,⟨kh P z16,.str z16 267,.ref 72⟩,⟨kh P z17,.str z17 276,.ref 79⟩,⟨kh P z18,.str z18 289,.ref 86⟩,⟨kh P z19,.str z19 301,.ref 93⟩,⟨kh P z20,.str z20 311,.ref 100⟩,⟨kh P z21,.str z21 319,.ref 107⟩,⟨kh P z22,.str z22 331,.ref 114⟩,⟨kh P z23,.str z23 346,.ref 121⟩,⟨kh P z24,.str z24 352,.ref 126⟩,⟨kh P z25,.str z25 364,.ref 133⟩,⟨kh P z26,.str z26 370,.ref 138⟩,⟨kh P z27,.str z27 376,.ref 143⟩,⟨kh P z28,.str z28 382,.ref 148⟩,⟨kh P z29,.str z29 386,.int 400 385⟩,⟨kh P z30,.str z30 394,.ref 155⟩,⟨kh P z31,.str z31 406,.ref 162⟩,⟨kh P z32,.str z32 412,.ref 167⟩,⟨kh P z33,.str z33 420,.ref 174⟩,⟨kh P z34,.str z34 426,.ref 179⟩,⟨kh P z35,.str z35 434,.ref 184⟩,⟨kh P z36,.str z36 445,.ref 191⟩,⟨kh P z37,.str z37 454,.ref 198⟩,⟨kh P z38,.str z38 458,.int 1000000 457⟩,⟨kh P z39,.str z39 466,.ref 205⟩,⟨kh P z40,.str z40 474,.ref 212⟩,⟨kh P z41,.str z41 480,.ref 217⟩,⟨kh P z42,.str z42 489,.ref 224⟩,⟨kh P z43,.str z43 500,.ref 231⟩,⟨kh P z44,.str z44 506,.ref 236⟩,⟨kh P z45,.str z45 515,.ref 243⟩,⟨kh P z46,.str z46 523,.ref 248⟩,⟨kh P z47,.str z47 533,.ref 255⟩,⟨kh P z48,.str z48 542,.ref 262⟩,⟨kh P z49,.str z49 546,.int 100 545⟩,⟨kh P z50,.str z50 548,.int 10 547⟩,⟨kh P z51,.str z51 556,.ref 269⟩,⟨kh P z52,.str z52 562,.ref 274⟩,⟨kh P z53,.str z53 568,.ref 279⟩,⟨kh P z54,.str z54 578,.ref 286⟩,⟨kh P z55,.str z55 587,.ref 293⟩,⟨kh P z56,.str z56 594,.ref 300⟩,⟨kh P z57,.str z57 602,.ref 307⟩,⟨kh P z58,.str z58 613,.ref 314⟩,⟨kh P z59,.str z59 619,.ref 319⟩,⟨kh P z60,.str z60 625,.ref 324⟩,⟨kh P z61,.str z61 631,.ref 329⟩,⟨kh P z62,.str z62 639,.ref 336⟩,⟨kh P z63,.str z63 651,.ref 343⟩,⟨kh P z64,.str z64 667,.ref 350⟩]
def o3(P:Params):Obj:=⟨.type t0,.none,.dict ⟨l3 P⟩ 63,⟨[]⟩⟩
def Wb(P:Params):Obj:=⟨.type t0,.none,.dict ⟨[⟨kh P z0,.str z0 165,.str z68 187⟩,⟨kh P z2,.str z2 166,.none⟩,⟨kh P z3,.str z3 167,.none⟩,⟨kh P z4,.str z4 168,.builtin t1⟩,⟨kh P z5,.str z5 169,.none⟩,⟨kh P z6,.str z6 170,.ref 6⟩,⟨kh P z7,.str z7 171,.ref 4⟩,⟨kh P z8,.str z8 173,.str z9 172⟩,⟨kh P z10,.str z10 174,.none⟩,⟨kh P z11,.str z11 206,.ref 24⟩]⟩ 10,⟨[]⟩⟩
def W4(P:Params):Obj:=⟨.type t0,.none,.dict ⟨[⟨kh P z0,.str z0 165,.str z68 187⟩,⟨kh P z2,.str z2 166,.none⟩,⟨kh P z3,.str z3 167,.none⟩,⟨kh P z4,.str z4 168,.builtin t1⟩,⟨kh P z5,.str z5 169,.none⟩,⟨kh P z6,.str z6 170,.ref 6⟩,⟨kh P z7,.str z7 171,.ref 4⟩,⟨kh P z8,.str z8 173,.str z9 172⟩,⟨kh P z10,.str z10 174,.none⟩,⟨kh P z11,.str z11 206,.ref 24⟩,⟨kh P z12,.str z12 222,.ref 37⟩]⟩ 11,⟨[]⟩⟩
def Wd(P:Params):Obj:=⟨.type t0,.none,.dict ⟨[⟨kh P z0,.str z0 165,.str z87 277⟩,⟨kh P z2,.str z2 166,.none⟩,⟨kh P z3,.str z3 167,.none⟩,⟨kh P z4,.str z4 168,.builtin t1⟩,⟨kh P z5,.str z5 169,.none⟩,⟨kh P z6,.str z6 170,.ref 6⟩,⟨kh P z7,.str z7 171,.ref 4⟩,⟨kh P z8,.str z8 173,.str z9 172⟩,⟨kh P z10,.str z10 174,.none⟩,⟨kh P z11,.str z11 206,.ref 24⟩,⟨kh P z12,.str z12 222,.ref 37⟩,⟨kh P z13,.str z13 238,.ref 49⟩,⟨kh P z14,.str z14 248,.ref 58⟩,⟨kh P z15,.str z15 256,.ref 65⟩,⟨kh P z16,.str z16 267,.ref 72⟩,⟨kh P z17,.str z17 276,.ref 79⟩,⟨kh P z18,.str z18 289,.ref 86⟩]⟩ 17,⟨[]⟩⟩
def Xh(P:Params):Obj:=⟨.type t0,.none,.dict ⟨[⟨kh P z0,.str z0 165,.str KZ 383⟩,⟨kh P z2,.str z2 166,.none⟩,⟨kh P z3,.str z3 167,.none⟩,⟨kh P z4,.str z4 168,.builtin t1⟩,⟨kh P z5,.str z5 169,.none⟩,⟨kh P z6,.str z6 170,.ref 6⟩,⟨kh P z7,.str z7 171,.ref 4⟩,⟨kh P z8,.str z8 173,.str z9 172⟩,⟨kh P z10,.str z10 174,.none⟩,⟨kh P z11,.str z11 206,.ref 24⟩,⟨kh P z12,.str z12 222,.ref 37⟩,⟨kh P z13,.str z13 238,.ref 49⟩,⟨kh P z14,.str z14 248,.ref 58⟩,⟨kh P z15,.str z15 256,.ref 65⟩,⟨kh P z16,.str z16 267,.ref 72⟩,⟨kh P z17,.str z17 276,.ref 79⟩,⟨kh P z18,.str z18 289,.ref 86⟩,⟨kh P z19,.str z19 301,.ref 93⟩,⟨kh P z20,.str z20 311,.ref 100⟩,⟨kh P z21,.str z21 319,.ref 107⟩,⟨kh P z22,.str z22 331,.ref 114⟩,⟨kh P z23,.str z23 346,.ref 121⟩,⟨kh P z24,.str z24 352,.ref 126⟩,⟨kh P z25,.str z25 364,.ref 133⟩,⟨kh P z26,.str z26 370,.ref 138⟩,⟨kh P z27,.str z27 376,.ref 143⟩,⟨kh P z28,.str z28 382,.ref 148⟩,⟨kh P z29,.str z29 386,.int 400 385⟩,⟨kh P z30,.str z30 394,.ref 155⟩,⟨kh P z31,.str z31 406,.ref 162⟩]⟩ 30,⟨[]⟩⟩
def Ua(P:Params):Obj:=⟨.type t0,.none,.dict ⟨[⟨kh P z0,.str z0 165,.str Ij 455⟩,⟨kh P z2,.str z2 166,.none⟩,⟨kh P z3,.str z3 167,.none⟩,⟨kh P z4,.str z4 168,.builtin t1⟩,⟨kh P z5,.str z5 169,.none⟩,⟨kh P z6,.str z6 170,.ref 6⟩,⟨kh P z7,.str z7 171,.ref 4⟩,⟨kh P z8,.str z8 173,.str z9 172⟩,⟨kh P z10,.str z10 174,.none⟩,⟨kh P z11,.str z11 206,.ref 24⟩,⟨kh P z12,.str z12 222,.ref 37⟩,⟨kh P z13,.str z13 238,.ref 49⟩,⟨kh P z14,.str z14 248,.ref 58⟩,⟨kh P z15,.str z15 256,.ref 65⟩,⟨kh P z16,.str z16 267,.ref 72⟩,⟨kh P z17,.str z17 276,.ref 79⟩,⟨kh P z18,.str z18 289,.ref 86⟩,⟨kh P z19,.str z19 301,.ref 93⟩,⟨kh P z20,.str z20 311,.ref 100⟩,⟨kh P z21,.str z21 319,.ref 107⟩,⟨kh P z22,.str z22 331,.ref 114⟩,⟨kh P z23,.str z23 346,.ref 121⟩,⟨kh P z24,.str z24 352,.ref 126⟩,⟨kh P z25,.str z25 364,.ref 133⟩,⟨kh P z26,.str z26 370,.ref 138⟩,⟨kh P z27,.str z27 376,.ref 143⟩,⟨kh P z28,.str z28 382,.ref 148⟩,⟨kh P z29,.str z29 386,.int 400 385⟩,⟨kh P z30,.str z30 394,.ref 155⟩,⟨kh P z31,.str z31 406,.ref 162⟩,⟨kh P z32,.str z32 412,.ref 167⟩,⟨kh P z33,.str z33 420,.ref 174⟩,⟨kh P z34,.str z34 426,.ref 179⟩,⟨kh P z35,.str z35 434,.ref 184⟩,⟨kh P z36,.str z36 445,.ref 191⟩,⟨kh P z37,.str z37 454,.ref 198⟩,⟨kh P z38,.str z38 458,.int 1000000 457⟩,⟨kh P z39,.str z39 466,.ref 205⟩,⟨kh P z40,.str z40 474,.ref 212⟩,⟨kh P z41,.str z41 480,.ref 217⟩,⟨kh P z42,.str z42 489,.ref 224⟩,⟨kh P z43,.str z43 500,.ref 231⟩,⟨kh P z44,.str z44 506,.ref 236⟩]⟩ 43,⟨[]⟩⟩
def Ut(P:Params):Obj:=⟨.type t0,.none,.dict ⟨(l3 P).take 57⟩ 57,⟨[]⟩⟩
def o11:Obj:=⟨.type t2,.none,.seq ⟨[]⟩ 0,⟨[]⟩⟩
def l12:List Value:=[.int 2 0,.int 0 0,.ref 20,.int 4 0,.int 0 0,.ref 33,.int 6 0,.int 0 0,.ref 45,.int 9 0,.int 0 0,.ref 57,.int 18 0,.int 0 0,.ref 64,.int 22 0,.int 0 0,.ref 71,.int 32 0,.int 0 0,.ref 78,.int 39 0,.int 0 0,.ref 85,.int 44 0,.int 0 0,.ref 92,.int 53 0,.int 0 0,.ref 99,.int 58 0,.int 0 0,.ref 106,.int 60 0,.int 0 0,.ref 113,.int 66 0,.int 0 0,.ref 120,.int 76 0,.int 0 0,.ref 125,.int 81 0,.int 0 0,.ref 132,.int 89 0,.int 0 0,.ref 137,.int 93 0,.int 0 0,.ref 142,.int 96 0,.int 0 0,.ref 147,.int 100 0,.int 0 0,.ref 154,.int 103 0,.int 0 0,.ref 161,.int 111 0,.int 0 0,.ref 166,.int 117 0,.int 0 0,.ref 173,.int 119 0,.int 0 0,.ref 178,.int 126 0,.int 0 0,.ref 183,.int 129 0,.int 0 0,.ref 190,.int 135 0,.int 0 0,.ref 197,.int 142 0,.int 0 0,.ref 204,.int 147 0,.int 0 0,.ref 211,.int 149 0,.int 0 0,.ref 216,.int 151 0,.int 0 0,.ref 223,.int 154 0,.int 0 0,.ref 230,.int 157 0,.int 0 0,.ref 235,.int 175 0,.int 0 0,.ref 242,.int 178 0,.int 0 0,.ref 247,.int 186 0,.int 0 0,.ref 254,.int 191 0,.int 0 0,.ref 261,.int 198 0,.int 0 0,.ref 268,.int 201 0,.int 0 0,.ref 273,.int 205 0,.int 0 0,.ref 278,.int 214 0,.int 0 0,.ref 285,.int 218 0,.int 0 0,.ref 292,.int 222 0,.int 0 0,.ref 299,.int 224 0,.int 0 0,.ref 306,.int 228 0,.int 0 0,.ref 313,.int 232 0,.int 0 0,.ref 318,.int 240 0,.int 0 0,.ref 323,.int 250 0,.int 0 0,.ref 328,.int 257 0,.int 0 0,.ref 335,.int 262 0,.int 0 0,.ref 342,.int 266 0,.int 0 0,.ref 349]
def o12:Obj:=⟨.none,.none,.fields ⟨l12⟩,⟨[]⟩⟩
def Lw:Obj:=⟨.none,.none,.fields ⟨l12.take 0⟩,⟨[]⟩⟩
def Sh:Obj:=⟨.none,.none,.fields ⟨l12.take 3⟩,⟨[]⟩⟩
def Sw:Obj:=⟨.none,.none,.fields ⟨l12.take 6⟩,⟨[]⟩⟩
def R5:Obj:=⟨.none,.none,.fields ⟨l12.take 24⟩,⟨[]⟩⟩
def NT:Obj:=⟨.none,.none,.fields ⟨l12.take 60⟩,⟨[]⟩⟩
def MS:Obj:=⟨.none,.none,.fields ⟨l12.take 96⟩,⟨[]⟩⟩
def K6:Obj:=⟨.none,.none,.fields ⟨l12.take 132⟩,⟨[]⟩⟩
def o13:Obj:=⟨.type t3,.none,.fields ⟨[.str z65 182,.str z65 183,.str z9 184,.int 1 0,.int 0 0,.int 0 0,.int 0 0,.int 0 0,.ref 11,.bool false,.int 181 0,.ref 12,.none,.none,.none,.none,.int 185 0,.int 1 0,.str z9 186]⟩,⟨[]⟩⟩
def o14:Obj:=⟨.type t4,.none,.plain,⟨[.some (.ref 13),.some (.ref 3),.some (.ref 3),.none,.some (.str z66 164),.none,.some (.ref 0)]⟩⟩
def o15:Obj:=⟨.type t2,.none,.seq ⟨[.type t5]⟩ 0,⟨[]⟩⟩
def o16:Obj:=⟨.type t6,.none,.fields ⟨[.builtin t7,.type t8]⟩,⟨[]⟩⟩
def o17(P:Params):Obj:=⟨.type t0,.none,.dict ⟨[⟨kh P z67,.str z67 196,.str z68 187⟩,⟨kh P z69,.str z69 198,.str z11 197⟩,⟨kh P z70,.str z70 200,.int 2 199⟩,⟨kh P z71,.str z71 201,.ref 22⟩]⟩ 4,⟨[]⟩⟩
def o19:Obj:=⟨.none,.none,.fields ⟨[]⟩,⟨[]⟩⟩
def o20:Obj:=⟨.type t3,.none,.fields ⟨[.str z11 191,.str z11 192,.str z9 193,.int 2 0,.int 0 0,.int 0 0,.int 0 0,.int 0 0,.ref 18,.bool false,.int 181 0,.ref 19,.none,.none,.none,.none,.int 194 0,.int 2 0,.str z9 195]⟩,⟨[]⟩⟩
def o21:Obj:=⟨.type t4,.none,.plain,⟨[.some (.ref 20),.some (.ref 3),.some (.ref 17),.none,.some (.str z68 187),.none,.some (.ref 0)]⟩⟩
def o23(P:Params):Obj:=⟨.type t0,.none,.dict ⟨[⟨kh P z67,.str z67 196,.str z68 187⟩,⟨kh P z70,.str z70 200,.int 2 199⟩,⟨kh P z71,.str z71 201,.ref 22⟩,⟨kh P z72,.str z72 203,.ref 25⟩,⟨kh P z2,.str z2 204,.none⟩]⟩ 3,⟨[]⟩⟩
def o24:Obj:=⟨.type t8,.none,.cls ⟨z11,[.type t5],[.ref 24,.type t5,.type t10,.type t11,.type t12],23,z11,true,[],[.ref 37,.ref 49],false,.none,false⟩,⟨[.some (.ref 15),.none,.some (.str z11 189),.some (.str z11 197),.some (.builtin t9),.some (.bool true)]⟩⟩
def Va:Obj:=⟨.type t8,.none,.cls ⟨z11,[.type t5],[.ref 24,.type t5,.type t10,.type t11,.type t12],23,z11,true,[],[],false,.none,false⟩,⟨[.some (.ref 15),.none,.some (.str z11 189),.some (.str z11 197),.some (.builtin t9),.some (.bool true)]⟩⟩
def Vk:Obj:=⟨.type t8,.none,.cls ⟨z11,[.type t5],[.ref 24,.type t5,.type t10,.type t11,.type t12],23,z11,true,[],[.ref 37],false,.none,false⟩,⟨[.some (.ref 15),.none,.some (.str z11 189),.some (.str z11 197),.some (.builtin t9),.some (.bool true)]⟩⟩
def o25:Obj:=⟨.type t13,.none,.fields ⟨[.str z72 202,.ref 24,.builtin t14,.none]⟩,⟨[]⟩⟩
def o26:Obj:=⟨.type t15,.none,.fields ⟨[.ref 24,.ref 24,.ref 24]⟩,⟨[]⟩⟩
def o27:Obj:=⟨.type t6,.none,.fields ⟨[.builtin t16,.ref 24]⟩,⟨[]⟩⟩
def o28:Obj:=⟨.type t2,.none,.seq ⟨[.ref 24]⟩ 0,⟨[]⟩⟩
def o30(P:Params):Obj:=⟨.type t0,.none,.dict ⟨[⟨kh P z67,.str z67 214,.str z68 187⟩,⟨kh P z69,.str z69 216,.str z12 215⟩,⟨kh P z70,.str z70 218,.int 4 217⟩,⟨kh P z71,.str z71 219,.ref 35⟩]⟩ 4,⟨[]⟩⟩
def o33:Obj:=⟨.type t3,.none,.fields ⟨[.str z12 209,.str z12 210,.str z9 211,.int 4 0,.int 0 0,.int 0 0,.int 0 0,.int 0 0,.ref 31,.bool false,.int 181 0,.ref 32,.none,.none,.none,.none,.int 212 0,.int 4 0,.str z9 213]⟩,⟨[]⟩⟩
def o34:Obj:=⟨.type t4,.none,.plain,⟨[.some (.ref 33),.some (.ref 3),.some (.ref 30),.none,.some (.str z68 187),.none,.some (.ref 0)]⟩⟩
def o36(P:Params):Obj:=⟨.type t0,.none,.dict ⟨[⟨kh P z67,.str z67 214,.str z68 187⟩,⟨kh P z70,.str z70 218,.int 4 217⟩,⟨kh P z71,.str z71 219,.ref 35⟩,⟨kh P z2,.str z2 220,.none⟩]⟩ 2,⟨[]⟩⟩
def o37:Obj:=⟨.type t8,.none,.cls ⟨z12,[.ref 24],[.ref 37,.ref 24,.type t5,.type t10,.type t11,.type t12],36,z12,true,[],[],false,.none,false⟩,⟨[.some (.ref 28),.none,.some (.str z12 207),.some (.str z12 215),.some (.builtin t9),.some (.bool true)]⟩⟩
def o38:Obj:=⟨.type t15,.none,.fields ⟨[.ref 37,.ref 37,.ref 37]⟩,⟨[]⟩⟩
def o39:Obj:=⟨.type t6,.none,.fields ⟨[.builtin t16,.ref 37]⟩,⟨[]⟩⟩
def o42(P:Params):Obj:=⟨.type t0,.none,.dict ⟨[⟨kh P z67,.str z67 230,.str z68 187⟩,⟨kh P z69,.str z69 232,.str z13 231⟩,⟨kh P z70,.str z70 234,.int 6 233⟩,⟨kh P z71,.str z71 235,.ref 47⟩]⟩ 4,⟨[]⟩⟩
def o45:Obj:=⟨.type t3,.none,.fields ⟨[.str z13 225,.str z13 226,.str z9 227,.int 6 0,.int 0 0,.int 0 0,.int 0 0,.int 0 0,.ref 43,.bool false,.int 181 0,.ref 44,.none,.none,.none,.none,.int 228 0,.int 6 0,.str z9 229]⟩,⟨[]⟩⟩
def o46:Obj:=⟨.type t4,.none,.plain,⟨[.some (.ref 45),.some (.ref 3),.some (.ref 42),.none,.some (.str z68 187),.none,.some (.ref 0)]⟩⟩
def o48(P:Params):Obj:=⟨.type t0,.none,.dict ⟨[⟨kh P z67,.str z67 230,.str z68 187⟩,⟨kh P z70,.str z70 234,.int 6 233⟩,⟨kh P z71,.str z71 235,.ref 47⟩,⟨kh P z2,.str z2 236,.none⟩]⟩ 2,⟨[]⟩⟩
def o49:Obj:=⟨.type t8,.none,.cls ⟨z13,[.ref 24],[.ref 49,.ref 24,.type t5,.type t10,.type t11,.type t12],48,z13,true,[],[],false,.none,false⟩,⟨[.some (.ref 40),.none,.some (.str z13 223),.some (.str z13 231),.some (.builtin t9),.some (.bool true)]⟩⟩
def o50:Obj:=⟨.type t15,.none,.fields ⟨[.ref 49,.ref 49,.ref 49]⟩,⟨[]⟩⟩
def o51:Obj:=⟨.type t6,.none,.fields ⟨[.builtin t16,.ref 49]⟩,⟨[]⟩⟩
def o54:Obj:=⟨.type t2,.none,.seq ⟨[.str z73 244,.str z74 245]⟩ 0,⟨[]⟩⟩
def o56:Obj:=⟨.none,.none,.func ⟨z14,z14,L2.aD (tt 5),.stmts (L2.aC (tt 5)),L2.aj (tt 5),0,[],.none,.none,.none,.none,.none,.none,.none,0⟩,⟨[]⟩⟩
def o57:Obj:=⟨.type t3,.none,.fields ⟨[.str z14 241,.str z14 242,.str z9 243,.int 9 0,.int 1 0,.int 0 0,.int 0 0,.int 3 0,.ref 52,.bool true,.int 181 0,.ref 53,.none,.ref 54,.ref 55,.ref 56,.int 246 0,.int 9 0,.str z9 247]⟩,⟨[]⟩⟩
def o58:Obj:=⟨.type t17,.none,.func ⟨z14,z14,L2.aD (tt 5),.stmts (L2.aC (tt 5)),L2.aj (tt 5),3,[],.none,.none,.none,.str z75 239,.none,.ref 57,.none,0⟩,⟨[]⟩⟩
def o61:Obj:=⟨.type t2,.none,.seq ⟨[.str z76 252,.str z73 253]⟩ 0,⟨[]⟩⟩
def o63:Obj:=⟨.none,.none,.func ⟨z15,z15,L2.aD (tt 6),.stmts (L2.aC (tt 6)),L2.aj (tt 6),0,[],.none,.none,.none,.none,.none,.none,.none,0⟩,⟨[]⟩⟩
def o64:Obj:=⟨.type t3,.none,.fields ⟨[.str z15 249,.str z15 250,.str z9 251,.int 18 0,.int 2 0,.int 0 0,.int 0 0,.int 3 0,.ref 59,.bool true,.int 181 0,.ref 60,.none,.ref 61,.ref 62,.ref 63,.int 254 0,.int 18 0,.str z9 255]⟩,⟨[]⟩⟩
def o65:Obj:=⟨.type t17,.none,.func ⟨z15,z15,L2.aD (tt 6),.stmts (L2.aC (tt 6)),L2.aj (tt 6),3,[],.none,.none,.none,.str z75 239,.none,.ref 64,.none,0⟩,⟨[]⟩⟩
def o68:Obj:=⟨.type t2,.none,.seq ⟨[.str z77 260,.str z73 261,.str z78 262,.str z79 263,.str z80 264]⟩ 0,⟨[]⟩⟩
def o70:Obj:=⟨.none,.none,.func ⟨z16,z16,L2.aD (tt 7),.stmts (L2.aC (tt 7)),L2.aj (tt 7),0,[],.none,.none,.none,.none,.none,.none,.none,0⟩,⟨[]⟩⟩
def o71:Obj:=⟨.type t3,.none,.fields ⟨[.str z16 257,.str z16 258,.str z9 259,.int 22 0,.int 2 0,.int 0 0,.int 0 0,.int 3 0,.ref 66,.bool true,.int 181 0,.ref 67,.none,.ref 68,.ref 69,.ref 70,.int 265 0,.int 22 0,.str z9 266]⟩,⟨[]⟩⟩
def o72:Obj:=⟨.type t17,.none,.func ⟨z16,z16,L2.aD (tt 7),.stmts (L2.aC (tt 7)),L2.aj (tt 7),3,[],.none,.none,.none,.str z75 239,.none,.ref 71,.none,0⟩,⟨[]⟩⟩
def o75:Obj:=⟨.type t2,.none,.seq ⟨[.str z76 271,.str z81 272,.str z82 273]⟩ 0,⟨[]⟩⟩
def o77:Obj:=⟨.none,.none,.func ⟨z17,z17,L2.aD (tt 8),.stmts (L2.aC (tt 8)),L2.aj (tt 8),0,[],.none,.none,.none,.none,.none,.none,.none,0⟩,⟨[]⟩⟩
def o78:Obj:=⟨.type t3,.none,.fields ⟨[.str z17 268,.str z17 269,.str z9 270,.int 32 0,.int 3 0,.int 0 0,.int 0 0,.int 3 0,.ref 73,.bool true,.int 181 0,.ref 74,.none,.ref 75,.ref 76,.ref 77,.int 274 0,.int 32 0,.str z9 275]⟩,⟨[]⟩⟩
def o79:Obj:=⟨.type t17,.none,.func ⟨z17,z17,L2.aD (tt 8),.stmts (L2.aC (tt 8)),L2.aj (tt 8),3,[],.none,.none,.none,.str z75 239,.none,.ref 78,.none,0⟩,⟨[]⟩⟩
def o82:Obj:=⟨.type t2,.none,.seq ⟨[.str z76 282,.str z83 283,.str z84 284,.str z85 285,.str z86 286]⟩ 0,⟨[]⟩⟩
def o84:Obj:=⟨.none,.none,.func ⟨z18,z18,L2.aD (tt 10),.stmts (L2.aC (tt 10)),L2.aj (tt 10),0,[],.none,.none,.none,.none,.none,.none,.none,0⟩,⟨[]⟩⟩
def o85:Obj:=⟨.type t3,.none,.fields ⟨[.str z18 279,.str z18 280,.str z9 281,.int 39 0,.int 3 0,.int 0 0,.int 0 0,.int 3 0,.ref 80,.bool true,.int 181 0,.ref 81,.none,.ref 82,.ref 83,.ref 84,.int 287 0,.int 39 0,.str z9 288]⟩,⟨[]⟩⟩
def o86:Obj:=⟨.type t17,.none,.func ⟨z18,z18,L2.aD (tt 10),.stmts (L2.aC (tt 10)),L2.aj (tt 10),3,[],.none,.none,.none,.str z87 277,.none,.ref 85,.none,0⟩,⟨[]⟩⟩
def o89:Obj:=⟨.type t2,.none,.seq ⟨[.str z88 293,.str z89 294,.str z76 295,.str z83 296,.str z90 297,.str z91 298]⟩ 0,⟨[]⟩⟩
def o91:Obj:=⟨.none,.none,.func ⟨z19,z19,L2.aD (tt 11),.stmts (L2.aC (tt 11)),L2.aj (tt 11),0,[],.none,.none,.none,.none,.none,.none,.none,0⟩,⟨[]⟩⟩
def o92:Obj:=⟨.type t3,.none,.fields ⟨[.str z19 290,.str z19 291,.str z9 292,.int 44 0,.int 2 0,.int 0 0,.int 0 0,.int 3 0,.ref 87,.bool true,.int 181 0,.ref 88,.none,.ref 89,.ref 90,.ref 91,.int 299 0,.int 44 0,.str z9 300]⟩,⟨[]⟩⟩
def o93:Obj:=⟨.type t17,.none,.func ⟨z19,z19,L2.aD (tt 11),.stmts (L2.aC (tt 11)),L2.aj (tt 11),3,[],.none,.none,.none,.str z87 277,.none,.ref 92,.none,0⟩,⟨[]⟩⟩
def o96:Obj:=⟨.type t2,.none,.seq ⟨[.str z92 307,.str z93 308]⟩ 0,⟨[]⟩⟩
def o98:Obj:=⟨.none,.none,.func ⟨z20,z20,L2.aD (tt 13),.stmts (L2.aC (tt 13)),L2.aj (tt 13),0,[],.none,.none,.none,.none,.none,.none,.none,0⟩,⟨[]⟩⟩
def o99:Obj:=⟨.type t3,.none,.fields ⟨[.str z20 304,.str z20 305,.str z9 306,.int 53 0,.int 1 0,.int 0 0,.int 0 0,.int 3 0,.ref 94,.bool true,.int 181 0,.ref 95,.none,.ref 96,.ref 97,.ref 98,.int 309 0,.int 53 0,.str z9 310]⟩,⟨[]⟩⟩
def o100:Obj:=⟨.type t17,.none,.func ⟨z20,z20,L2.aD (tt 13),.stmts (L2.aC (tt 13)),L2.aj (tt 13),3,[],.none,.none,.none,.str z94 302,.none,.ref 99,.none,0⟩,⟨[]⟩⟩
def UG:Obj:=⟨.type t2,.none,.seq ⟨[.str z95 315,.str z86 316]⟩ 0,⟨[]⟩⟩
def O7:Obj:=⟨.none,.none,.func ⟨z21,z21,L2.aD (tt 14),.stmts (L2.aC (tt 14)),L2.aj (tt 14),0,[],.none,.none,.none,.none,.none,.none,.none,0⟩,⟨[]⟩⟩
def Rr:Obj:=⟨.type t3,.none,.fields ⟨[.str z21 312,.str z21 313,.str z9 314,.int 58 0,.int 2 0,.int 0 0,.int 0 0,.int 3 0,.ref 101,.bool true,.int 181 0,.ref 102,.none,.ref 103,.ref 104,.ref 105,.int 317 0,.int 58 0,.str z9 318]⟩,⟨[]⟩⟩
def PN:Obj:=⟨.type t17,.none,.func ⟨z21,z21,L2.aD (tt 14),.stmts (L2.aC (tt 14)),L2.aj (tt 14),3,[],.none,.none,.none,.str z94 302,.none,.ref 106,.none,0⟩,⟨[]⟩⟩
def TJ:Obj:=⟨.type t2,.none,.seq ⟨[.str z76 323,.str z81 324,.str z82 325,.str z85 326,.str z96 327,.str z86 328]⟩ 0,⟨[]⟩⟩
def Qp:Obj:=⟨.none,.none,.func ⟨z22,z22,L2.aD (tt 15),.stmts (L2.aC (tt 15)),L2.aj (tt 15),0,[],.none,.none,.none,.none,.none,.none,.none,0⟩,⟨[]⟩⟩
def QJ:Obj:=⟨.type t3,.none,.fields ⟨[.str z22 320,.str z22 321,.str z9 322,.int 60 0,.int 3 0,.int 0 0,.int 0 0,.int 3 0,.ref 108,.bool true,.int 181 0,.ref 109,.none,.ref 110,.ref 111,.ref 112,.int 329 0,.int 60 0,.str z9 330]⟩,⟨[]⟩⟩
def Pk:Obj:=⟨.type t17,.none,.func ⟨z22,z22,L2.aD (tt 15),.stmts (L2.aC (tt 15)),L2.aj (tt 15),3,[],.none,.none,.none,.str z94 302,.none,.ref 113,.none,0⟩,⟨[]⟩⟩
def Ss:Obj:=⟨.type t2,.none,.seq ⟨[.str z76 335,.str z81 336,.str z82 337,.str z97 338,.str z98 339,.str z80 340,.str z99 341,.str Wh 342,.str z86 343]⟩ 0,⟨[]⟩⟩
def SR:Obj:=⟨.none,.none,.func ⟨z23,z23,L2.aD (tt 16),.stmts (L2.aC (tt 16)),L2.aj (tt 16),0,[],.none,.none,.none,.none,.none,.none,.none,0⟩,⟨[]⟩⟩
def PD:Obj:=⟨.type t3,.none,.fields ⟨[.str z23 332,.str z23 333,.str z9 334,.int 66 0,.int 3 0,.int 0 0,.int 0 0,.int 3 0,.ref 115,.bool true,.int 181 0,.ref 116,.none,.ref 117,.ref 118,.ref 119,.int 344 0,.int 66 0,.str z9 345]⟩,⟨[]⟩⟩
def QX:Obj:=⟨.type t17,.none,.func ⟨z23,z23,L2.aD (tt 16),.stmts (L2.aC (tt 16)),L2.aj (tt 16),3,[],.none,.none,.none,.str z94 302,.none,.ref 120,.none,0⟩,⟨[]⟩⟩
def Ow:Obj:=⟨.none,.none,.func ⟨z24,z24,L2.aD (tt 17),.stmts (L2.aC (tt 17)),L2.aj (tt 17),0,[],.none,.none,.none,.none,.none,.none,.none,0⟩,⟨[]⟩⟩
def Ou:Obj:=⟨.type t3,.none,.fields ⟨[.str z24 347,.str z24 348,.str z9 349,.int 76 0,.int 2 0,.int 0 0,.int 0 0,.int 3 0,.ref 122,.bool true,.int 181 0,.ref 123,.none,.none,.none,.ref 124,.int 350 0,.int 76 0,.str z9 351]⟩,⟨[]⟩⟩
def Pq:Obj:=⟨.type t17,.none,.func ⟨z24,z24,L2.aD (tt 17),.stmts (L2.aC (tt 17)),L2.aj (tt 17),3,[],.none,.none,.none,.str z94 302,.none,.ref 125,.none,0⟩,⟨[]⟩⟩
def RD:Obj:=⟨.type t2,.none,.seq ⟨[.str z76 356,.str z81 357,.str z82 358,.str Xm 359,.str Xj 360,.str z80 361]⟩ 0,⟨[]⟩⟩
def Qt:Obj:=⟨.none,.none,.func ⟨z25,z25,L2.aD (tt 18),.stmts (L2.aC (tt 18)),L2.aj (tt 18),0,[],.none,.none,.none,.none,.none,.none,.none,0⟩,⟨[]⟩⟩
def Ti:Obj:=⟨.type t3,.none,.fields ⟨[.str z25 353,.str z25 354,.str z9 355,.int 81 0,.int 3 0,.int 0 0,.int 0 0,.int 3 0,.ref 127,.bool true,.int 181 0,.ref 128,.none,.ref 129,.ref 130,.ref 131,.int 362 0,.int 81 0,.str z9 363]⟩,⟨[]⟩⟩
def Px:Obj:=⟨.type t17,.none,.func ⟨z25,z25,L2.aD (tt 18),.stmts (L2.aC (tt 18)),L2.aj (tt 18),3,[],.none,.none,.none,.str z94 302,.none,.ref 132,.none,0⟩,⟨[]⟩⟩
def Tp:Obj:=⟨.none,.none,.func ⟨z26,z26,L2.aD (tt 19),.stmts (L2.aC (tt 19)),L2.aj (tt 19),0,[],.none,.none,.none,.none,.none,.none,.none,0⟩,⟨[]⟩⟩
def UO:Obj:=⟨.type t3,.none,.fields ⟨[.str z26 365,.str z26 366,.str z9 367,.int 89 0,.int 2 0,.int 0 0,.int 0 0,.int 3 0,.ref 134,.bool true,.int 181 0,.ref 135,.none,.none,.none,.ref 136,.int 368 0,.int 89 0,.str z9 369]⟩,⟨[]⟩⟩
def OG:Obj:=⟨.type t17,.none,.func ⟨z26,z26,L2.aD (tt 19),.stmts (L2.aC (tt 19)),L2.aj (tt 19),3,[],.none,.none,.none,.str z94 302,.none,.ref 137,.none,0⟩,⟨[]⟩⟩
def QK:Obj:=⟨.none,.none,.func ⟨z27,z27,L2.aD (tt 20),.stmts (L2.aC (tt 20)),L2.aj (tt 20),0,[],.none,.none,.none,.none,.none,.none,.none,0⟩,⟨[]⟩⟩
def Ql:Obj:=⟨.type t3,.none,.fields ⟨[.str z27 371,.str z27 372,.str z9 373,.int 93 0,.int 2 0,.int 0 0,.int 0 0,.int 3 0,.ref 139,.bool true,.int 181 0,.ref 140,.none,.none,.none,.ref 141,.int 374 0,.int 93 0,.str z9 375]⟩,⟨[]⟩⟩
def UU:Obj:=⟨.type t17,.none,.func ⟨z27,z27,L2.aD (tt 20),.stmts (L2.aC (tt 20)),L2.aj (tt 20),3,[],.none,.none,.none,.str z94 302,.none,.ref 142,.none,0⟩,⟨[]⟩⟩
def TN:Obj:=⟨.none,.none,.func ⟨z28,z28,L2.aD (tt 21),.stmts (L2.aC (tt 21)),L2.aj (tt 21),0,[],.none,.none,.none,.none,.none,.none,.none,0⟩,⟨[]⟩⟩
def Pb:Obj:=⟨.type t3,.none,.fields ⟨[.str z28 377,.str z28 378,.str z9 379,.int 96 0,.int 4 0,.int 0 0,.int 0 0,.int 3 0,.ref 144,.bool true,.int 181 0,.ref 145,.none,.none,.none,.ref 146,.int 380 0,.int 96 0,.str z9 381]⟩,⟨[]⟩⟩
def Vf:Obj:=⟨.type t17,.none,.func ⟨z28,z28,L2.aD (tt 21),.stmts (L2.aC (tt 21)),L2.aj (tt 21),3,[],.none,.none,.none,.str z94 302,.none,.ref 147,.none,0⟩,⟨[]⟩⟩
def U0:Obj:=⟨.type t2,.none,.seq ⟨[.str z76 390,.str TR 391]⟩ 0,⟨[]⟩⟩
def Q9:Obj:=⟨.none,.none,.func ⟨z30,z30,L2.aD (tt 24),.stmts (L2.aC (tt 24)),L2.aj (tt 24),0,[],.none,.none,.none,.none,.none,.none,.none,0⟩,⟨[]⟩⟩
def Rz:Obj:=⟨.type t3,.none,.fields ⟨[.str z30 387,.str z30 388,.str z9 389,.int 100 0,.int 2 0,.int 0 0,.int 0 0,.int 3 0,.ref 149,.bool true,.int 181 0,.ref 150,.none,.ref 151,.ref 152,.ref 153,.int 392 0,.int 100 0,.str z9 393]⟩,⟨[]⟩⟩
def Ue:Obj:=⟨.type t17,.none,.func ⟨z30,z30,L2.aD (tt 24),.stmts (L2.aC (tt 24)),L2.aj (tt 24),3,[],.none,.none,.none,.str KZ 383,.none,.ref 154,.none,0⟩,⟨[]⟩⟩
def SJ:Obj:=⟨.type t2,.none,.seq ⟨[.str z76 398,.str z95 399,.str TR 400,.str z80 401,.str Xv 402,.str Wj 403]⟩ 0,⟨[]⟩⟩
def Rv:Obj:=⟨.none,.none,.func ⟨z31,z31,L2.aD (tt 25),.stmts (L2.aC (tt 25)),L2.aj (tt 25),0,[],.none,.none,.none,.none,.none,.none,.none,0⟩,⟨[]⟩⟩
def Tc:Obj:=⟨.type t3,.none,.fields ⟨[.str z31 395,.str z31 396,.str z9 397,.int 103 0,.int 3 0,.int 0 0,.int 0 0,.int 3 0,.ref 156,.bool true,.int 181 0,.ref 157,.none,.ref 158,.ref 159,.ref 160,.int 404 0,.int 103 0,.str z9 405]⟩,⟨[]⟩⟩
def UZ:Obj:=⟨.type t17,.none,.func ⟨z31,z31,L2.aD (tt 25),.stmts (L2.aC (tt 25)),L2.aj (tt 25),3,[],.none,.none,.none,.str KZ 383,.none,.ref 161,.none,0⟩,⟨[]⟩⟩
def QT:Obj:=⟨.none,.none,.func ⟨z32,z32,L2.aD (tt 26),.stmts (L2.aC (tt 26)),L2.aj (tt 26),0,[],.none,.none,.none,.none,.none,.none,.none,0⟩,⟨[]⟩⟩
def Qv:Obj:=⟨.type t3,.none,.fields ⟨[.str z32 407,.str z32 408,.str z9 409,.int 111 0,.int 2 0,.int 0 0,.int 0 0,.int 3 0,.ref 163,.bool true,.int 181 0,.ref 164,.none,.none,.none,.ref 165,.int 410 0,.int 111 0,.str z9 411]⟩,⟨[]⟩⟩
def Qi:Obj:=⟨.type t17,.none,.func ⟨z32,z32,L2.aD (tt 26),.stmts (L2.aC (tt 26)),L2.aj (tt 26),3,[],.none,.none,.none,.str KZ 383,.none,.ref 166,.none,0⟩,⟨[]⟩⟩
def RX:Obj:=⟨.type t2,.none,.seq ⟨[.str z88 416,.str TR 417]⟩ 0,⟨[]⟩⟩
def Ur:Obj:=⟨.none,.none,.func ⟨z33,z33,L2.aD (tt 27),.stmts (L2.aC (tt 27)),L2.aj (tt 27),0,[],.none,.none,.none,.none,.none,.none,.none,0⟩,⟨[]⟩⟩
def U4:Obj:=⟨.type t3,.none,.fields ⟨[.str z33 413,.str z33 414,.str z9 415,.int 117 0,.int 2 0,.int 0 0,.int 0 0,.int 3 0,.ref 168,.bool true,.int 181 0,.ref 169,.none,.ref 170,.ref 171,.ref 172,.int 418 0,.int 117 0,.str z9 419]⟩,⟨[]⟩⟩
def RT:Obj:=⟨.type t17,.none,.func ⟨z33,z33,L2.aD (tt 27),.stmts (L2.aC (tt 27)),L2.aj (tt 27),3,[],.none,.none,.none,.str KZ 383,.none,.ref 173,.none,0⟩,⟨[]⟩⟩
def OD:Obj:=⟨.none,.none,.func ⟨z34,z34,L2.aD (tt 28),.stmts (L2.aC (tt 28)),L2.aj (tt 28),0,[],.none,.none,.none,.none,.none,.none,.none,0⟩,⟨[]⟩⟩
def R3:Obj:=⟨.type t3,.none,.fields ⟨[.str z34 421,.str z34 422,.str z9 423,.int 119 0,.int 2 0,.int 0 0,.int 0 0,.int 3 0,.ref 175,.bool true,.int 181 0,.ref 176,.none,.none,.none,.ref 177,.int 424 0,.int 119 0,.str z9 425]⟩,⟨[]⟩⟩
def UW:Obj:=⟨.type t17,.none,.func ⟨z34,z34,L2.aD (tt 28),.stmts (L2.aC (tt 28)),L2.aj (tt 28),3,[],.none,.none,.none,.str KZ 383,.none,.ref 178,.none,0⟩,⟨[]⟩⟩
def Tr:Obj:=⟨.none,.none,.func ⟨z35,z35,L2.aD (tt 30),.stmts (L2.aC (tt 30)),L2.aj (tt 30),0,[],.none,.none,.none,.none,.none,.none,.none,0⟩,⟨[]⟩⟩
def RQ:Obj:=⟨.type t3,.none,.fields ⟨[.str z35 429,.str z35 430,.str z9 431,.int 126 0,.int 3 0,.int 0 0,.int 0 0,.int 3 0,.ref 180,.bool true,.int 181 0,.ref 181,.none,.none,.none,.ref 182,.int 432 0,.int 126 0,.str z9 433]⟩,⟨[]⟩⟩
def U8:Obj:=⟨.type t17,.none,.func ⟨z35,z35,L2.aD (tt 30),.stmts (L2.aC (tt 30)),L2.aj (tt 30),3,[],.none,.none,.none,.str QL 427,.none,.ref 183,.none,0⟩,⟨[]⟩⟩
def Rh:Obj:=⟨.type t2,.none,.seq ⟨[.str z83 438,.str z89 439,.str VP 440,.str z86 441,.str WD 442]⟩ 0,⟨[]⟩⟩
def Rb:Obj:=⟨.none,.none,.func ⟨z36,z36,L2.aD (tt 31),.stmts (L2.aC (tt 31)),L2.aj (tt 31),0,[],.none,.none,.none,.none,.none,.none,.none,0⟩,⟨[]⟩⟩
def Uo:Obj:=⟨.type t3,.none,.fields ⟨[.str z36 435,.str z36 436,.str z9 437,.int 129 0,.int 2 0,.int 0 0,.int 0 0,.int 3 0,.ref 185,.bool true,.int 181 0,.ref 186,.none,.ref 187,.ref 188,.ref 189,.int 443 0,.int 129 0,.str z9 444]⟩,⟨[]⟩⟩
def Qz:Obj:=⟨.type t17,.none,.func ⟨z36,z36,L2.aD (tt 31),.stmts (L2.aC (tt 31)),L2.aj (tt 31),3,[],.none,.none,.none,.str QL 427,.none,.ref 190,.none,0⟩,⟨[]⟩⟩
def PK:Obj:=⟨.type t2,.none,.seq ⟨[.str VP 449,.str z83 450,.str z86 451]⟩ 0,⟨[]⟩⟩
def O2:Obj:=⟨.none,.none,.func ⟨z37,z37,L2.aD (tt 32),.stmts (L2.aC (tt 32)),L2.aj (tt 32),0,[],.none,.none,.none,.none,.none,.none,.none,0⟩,⟨[]⟩⟩
def O5:Obj:=⟨.type t3,.none,.fields ⟨[.str z37 446,.str z37 447,.str z9 448,.int 135 0,.int 1 0,.int 0 0,.int 0 0,.int 3 0,.ref 192,.bool true,.int 181 0,.ref 193,.none,.ref 194,.ref 195,.ref 196,.int 452 0,.int 135 0,.str z9 453]⟩,⟨[]⟩⟩
def PB:Obj:=⟨.type t17,.none,.func ⟨z37,z37,L2.aD (tt 32),.stmts (L2.aC (tt 32)),L2.aj (tt 32),3,[],.none,.none,.none,.str QL 427,.none,.ref 197,.none,0⟩,⟨[]⟩⟩
def R6:Obj:=⟨.type t2,.none,.seq ⟨[.str z73 462,.str z91 463]⟩ 0,⟨[]⟩⟩
def QS:Obj:=⟨.none,.none,.func ⟨z39,z39,L2.aD (tt 35),.stmts (L2.aC (tt 35)),L2.aj (tt 35),0,[],.none,.none,.none,.none,.none,.none,.none,0⟩,⟨[]⟩⟩
def SX:Obj:=⟨.type t3,.none,.fields ⟨[.str z39 459,.str z39 460,.str z9 461,.int 142 0,.int 1 0,.int 0 0,.int 0 0,.int 3 0,.ref 199,.bool true,.int 181 0,.ref 200,.none,.ref 201,.ref 202,.ref 203,.int 464 0,.int 142 0,.str z9 465]⟩,⟨[]⟩⟩
def PC:Obj:=⟨.type t17,.none,.func ⟨z39,z39,L2.aD (tt 35),.stmts (L2.aC (tt 35)),L2.aj (tt 35),3,[],.none,.none,.none,.str Ij 455,.none,.ref 204,.none,0⟩,⟨[]⟩⟩
def TY:Obj:=⟨.type t2,.none,.seq ⟨[.str Xr 470,.str z95 471]⟩ 0,⟨[]⟩⟩
def U5:Obj:=⟨.none,.none,.func ⟨z40,z40,L2.aD (tt 36),.stmts (L2.aC (tt 36)),L2.aj (tt 36),0,[],.none,.none,.none,.none,.none,.none,.none,0⟩,⟨[]⟩⟩
def Pu:Obj:=⟨.type t3,.none,.fields ⟨[.str z40 467,.str z40 468,.str z9 469,.int 147 0,.int 2 0,.int 0 0,.int 0 0,.int 3 0,.ref 206,.bool true,.int 181 0,.ref 207,.none,.ref 208,.ref 209,.ref 210,.int 472 0,.int 147 0,.str z9 473]⟩,⟨[]⟩⟩
def Ui:Obj:=⟨.type t17,.none,.func ⟨z40,z40,L2.aD (tt 36),.stmts (L2.aC (tt 36)),L2.aj (tt 36),3,[],.none,.none,.none,.str Ij 455,.none,.ref 211,.none,0⟩,⟨[]⟩⟩
def PJ:Obj:=⟨.none,.none,.func ⟨z41,z41,L2.aD (tt 37),.stmts (L2.aC (tt 37)),L2.aj (tt 37),0,[],.none,.none,.none,.none,.none,.none,.none,0⟩,⟨[]⟩⟩
def O1:Obj:=⟨.type t3,.none,.fields ⟨[.str z41 475,.str z41 476,.str z9 477,.int 149 0,.int 2 0,.int 0 0,.int 0 0,.int 3 0,.ref 213,.bool true,.int 181 0,.ref 214,.none,.none,.none,.ref 215,.int 478 0,.int 149 0,.str z9 479]⟩,⟨[]⟩⟩
def Vc:Obj:=⟨.type t17,.none,.func ⟨z41,z41,L2.aD (tt 37),.stmts (L2.aC (tt 37)),L2.aj (tt 37),3,[],.none,.none,.none,.str Ij 455,.none,.ref 216,.none,0⟩,⟨[]⟩⟩
def QD:Obj:=⟨.type t2,.none,.seq ⟨[.str VN 484,.str z73 485,.str V4 486]⟩ 0,⟨[]⟩⟩
def OX:Obj:=⟨.none,.none,.func ⟨z42,z42,L2.aD (tt 38),.stmts (L2.aC (tt 38)),L2.aj (tt 38),0,[],.none,.none,.none,.none,.none,.none,.none,0⟩,⟨[]⟩⟩
def Rq:Obj:=⟨.type t3,.none,.fields ⟨[.str z42 481,.str z42 482,.str z9 483,.int 151 0,.int 2 0,.int 0 0,.int 0 0,.int 3 0,.ref 218,.bool true,.int 181 0,.ref 219,.none,.ref 220,.ref 221,.ref 222,.int 487 0,.int 151 0,.str z9 488]⟩,⟨[]⟩⟩
def Ra:Obj:=⟨.type t17,.none,.func ⟨z42,z42,L2.aD (tt 38),.stmts (L2.aC (tt 38)),L2.aj (tt 38),3,[],.none,.none,.none,.str Ij 455,.none,.ref 223,.none,0⟩,⟨[]⟩⟩
def Pz:Obj:=⟨.type t2,.none,.seq ⟨[.str VN 493,.str z73 494,.str z77 495,.str V4 496,.str WC 497]⟩ 0,⟨[]⟩⟩
def PY:Obj:=⟨.none,.none,.func ⟨z43,z43,L2.aD (tt 39),.stmts (L2.aC (tt 39)),L2.aj (tt 39),0,[],.none,.none,.none,.none,.none,.none,.none,0⟩,⟨[]⟩⟩
def SY:Obj:=⟨.type t3,.none,.fields ⟨[.str z43 490,.str z43 491,.str z9 492,.int 154 0,.int 4 0,.int 0 0,.int 0 0,.int 3 0,.ref 225,.bool true,.int 181 0,.ref 226,.none,.ref 227,.ref 228,.ref 229,.int 498 0,.int 154 0,.str z9 499]⟩,⟨[]⟩⟩
def Ud:Obj:=⟨.type t17,.none,.func ⟨z43,z43,L2.aD (tt 39),.stmts (L2.aC (tt 39)),L2.aj (tt 39),3,[],.none,.none,.none,.str Ij 455,.none,.ref 230,.none,0⟩,⟨[]⟩⟩
def Qq:Obj:=⟨.none,.none,.func ⟨z44,z44,L2.aD (tt 40),.stmts (L2.aC (tt 40)),L2.aj (tt 40),0,[],.none,.none,.none,.none,.none,.none,.none,0⟩,⟨[]⟩⟩
def Qs:Obj:=⟨.type t3,.none,.fields ⟨[.str z44 501,.str z44 502,.str z9 503,.int 157 0,.int 2 0,.int 0 0,.int 0 0,.int 3 0,.ref 232,.bool true,.int 181 0,.ref 233,.none,.none,.none,.ref 234,.int 504 0,.int 157 0,.str z9 505]⟩,⟨[]⟩⟩
def O9:Obj:=⟨.type t17,.none,.func ⟨z44,z44,L2.aD (tt 40),.stmts (L2.aC (tt 40)),L2.aj (tt 40),3,[],.none,.none,.none,.str Ij 455,.none,.ref 235,.none,0⟩,⟨[]⟩⟩
def U7:Obj:=⟨.type t2,.none,.seq ⟨[.str z76 510,.str z81 511,.str z82 512]⟩ 0,⟨[]⟩⟩
def R4:Obj:=⟨.none,.none,.func ⟨z45,z45,L2.aD (tt 41),.stmts (L2.aC (tt 41)),L2.aj (tt 41),0,[],.none,.none,.none,.none,.none,.none,.none,0⟩,⟨[]⟩⟩
def Qa:Obj:=⟨.type t3,.none,.fields ⟨[.str z45 507,.str z45 508,.str z9 509,.int 175 0,.int 3 0,.int 0 0,.int 0 0,.int 3 0,.ref 237,.bool true,.int 181 0,.ref 238,.none,.ref 239,.ref 240,.ref 241,.int 513 0,.int 175 0,.str z9 514]⟩,⟨[]⟩⟩
def RG:Obj:=⟨.type t17,.none,.func ⟨z45,z45,L2.aD (tt 41),.stmts (L2.aC (tt 41)),L2.aj (tt 41),3,[],.none,.none,.none,.str Ij 455,.none,.ref 242,.none,0⟩,⟨[]⟩⟩
def Vh:Obj:=⟨.none,.none,.func ⟨z46,z46,L2.aD (tt 43),.stmts (L2.aC (tt 43)),L2.aj (tt 43),0,[],.none,.none,.none,.none,.none,.none,.none,0⟩,⟨[]⟩⟩
def Ru:Obj:=⟨.type t3,.none,.fields ⟨[.str z46 518,.str z46 519,.str z9 520,.int 178 0,.int 2 0,.int 0 0,.int 0 0,.int 3 0,.ref 244,.bool true,.int 181 0,.ref 245,.none,.none,.none,.ref 246,.int 521 0,.int 178 0,.str z9 522]⟩,⟨[]⟩⟩
def Vj:Obj:=⟨.type t17,.none,.func ⟨z46,z46,L2.aD (tt 43),.stmts (L2.aC (tt 43)),L2.aj (tt 43),3,[],.none,.none,.none,.str Qn 516,.none,.ref 247,.none,0⟩,⟨[]⟩⟩
def TX:Obj:=⟨.type t2,.none,.seq ⟨[.str z88 527,.str z76 528,.str z95 529,.str z97 530]⟩ 0,⟨[]⟩⟩
def U3:Obj:=⟨.none,.none,.func ⟨z47,z47,L2.aD (tt 44),.stmts (L2.aC (tt 44)),L2.aj (tt 44),0,[],.none,.none,.none,.none,.none,.none,.none,0⟩,⟨[]⟩⟩
def RV:Obj:=⟨.type t3,.none,.fields ⟨[.str z47 524,.str z47 525,.str z9 526,.int 186 0,.int 1 0,.int 0 0,.int 0 0,.int 3 0,.ref 249,.bool true,.int 181 0,.ref 250,.none,.ref 251,.ref 252,.ref 253,.int 531 0,.int 186 0,.str z9 532]⟩,⟨[]⟩⟩
def QV:Obj:=⟨.type t17,.none,.func ⟨z47,z47,L2.aD (tt 44),.stmts (L2.aC (tt 44)),L2.aj (tt 44),3,[],.none,.none,.none,.str Qn 516,.none,.ref 254,.none,0⟩,⟨[]⟩⟩
def TV:Obj:=⟨.type t2,.none,.seq ⟨[.str z88 537,.str Xe 538,.str z83 539]⟩ 0,⟨[]⟩⟩
def Uu:Obj:=⟨.none,.none,.func ⟨z48,z48,L2.aD (tt 45),.stmts (L2.aC (tt 45)),L2.aj (tt 45),0,[],.none,.none,.none,.none,.none,.none,.none,0⟩,⟨[]⟩⟩
def Rn:Obj:=⟨.type t3,.none,.fields ⟨[.str z48 534,.str z48 535,.str z9 536,.int 191 0,.int 1 0,.int 0 0,.int 0 0,.int 3 0,.ref 256,.bool true,.int 181 0,.ref 257,.none,.ref 258,.ref 259,.ref 260,.int 540 0,.int 191 0,.str z9 541]⟩,⟨[]⟩⟩
def Uk:Obj:=⟨.type t17,.none,.func ⟨z48,z48,L2.aD (tt 45),.stmts (L2.aC (tt 45)),L2.aj (tt 45),3,[],.none,.none,.none,.str Qn 516,.none,.ref 261,.none,0⟩,⟨[]⟩⟩
def QH:Obj:=⟨.type t2,.none,.seq ⟨[.str Xw 552,.str Wn 553]⟩ 0,⟨[]⟩⟩
def QW:Obj:=⟨.none,.none,.func ⟨z51,z51,L2.aD (tt 49),.stmts (L2.aC (tt 49)),L2.aj (tt 49),0,[],.none,.none,.none,.none,.none,.none,.none,0⟩,⟨[]⟩⟩
def Uq:Obj:=⟨.type t3,.none,.fields ⟨[.str z51 549,.str z51 550,.str z9 551,.int 198 0,.int 2 0,.int 0 0,.int 0 0,.int 3 0,.ref 263,.bool true,.int 181 0,.ref 264,.none,.ref 265,.ref 266,.ref 267,.int 554 0,.int 198 0,.str z9 555]⟩,⟨[]⟩⟩
def RZ:Obj:=⟨.type t17,.none,.func ⟨z51,z51,L2.aD (tt 49),.stmts (L2.aC (tt 49)),L2.aj (tt 49),3,[],.none,.none,.none,.str PF 543,.none,.ref 268,.none,0⟩,⟨[]⟩⟩
def Qw:Obj:=⟨.none,.none,.func ⟨z52,z52,L2.aD (tt 50),.stmts (L2.aC (tt 50)),L2.aj (tt 50),0,[],.none,.none,.none,.none,.none,.none,.none,0⟩,⟨[]⟩⟩
def Qk:Obj:=⟨.type t3,.none,.fields ⟨[.str z52 557,.str z52 558,.str z9 559,.int 201 0,.int 3 0,.int 0 0,.int 0 0,.int 3 0,.ref 270,.bool true,.int 181 0,.ref 271,.none,.none,.none,.ref 272,.int 560 0,.int 201 0,.str z9 561]⟩,⟨[]⟩⟩
def Tv:Obj:=⟨.type t17,.none,.func ⟨z52,z52,L2.aD (tt 50),.stmts (L2.aC (tt 50)),L2.aj (tt 50),3,[],.none,.none,.none,.str PF 543,.none,.ref 273,.none,0⟩,⟨[]⟩⟩
def Rt:Obj:=⟨.none,.none,.func ⟨z53,z53,L2.aD (tt 51),.stmts (L2.aC (tt 51)),L2.aj (tt 51),0,[],.none,.none,.none,.none,.none,.none,.none,0⟩,⟨[]⟩⟩
def Uh:Obj:=⟨.type t3,.none,.fields ⟨[.str z53 563,.str z53 564,.str z9 565,.int 205 0,.int 3 0,.int 0 0,.int 0 0,.int 3 0,.ref 275,.bool true,.int 181 0,.ref 276,.none,.none,.none,.ref 277,.int 566 0,.int 205 0,.str z9 567]⟩,⟨[]⟩⟩
def Vg:Obj:=⟨.type t17,.none,.func ⟨z53,z53,L2.aD (tt 51),.stmts (L2.aC (tt 51)),L2.aj (tt 51),3,[],.none,.none,.none,.str PF 543,.none,.ref 278,.none,0⟩,⟨[]⟩⟩
def SV:Obj:=⟨.type t2,.none,.seq ⟨[.str Vu 574,.str Q6 575]⟩ 0,⟨[]⟩⟩
def QG:Obj:=⟨.none,.none,.func ⟨z54,z54,L2.aD (tt 53),.stmts (L2.aC (tt 53)),L2.aj (tt 53),0,[],.none,.none,.none,.none,.none,.none,.none,0⟩,⟨[]⟩⟩
def Pr:Obj:=⟨.type t3,.none,.fields ⟨[.str z54 571,.str z54 572,.str z9 573,.int 214 0,.int 2 0,.int 0 0,.int 0 0,.int 3 0,.ref 280,.bool true,.int 181 0,.ref 281,.none,.ref 282,.ref 283,.ref 284,.int 576 0,.int 214 0,.str z9 577]⟩,⟨[]⟩⟩
def Qo:Obj:=⟨.type t17,.none,.func ⟨z54,z54,L2.aD (tt 53),.stmts (L2.aC (tt 53)),L2.aj (tt 53),3,[],.none,.none,.none,.str z1 569,.none,.ref 285,.none,0⟩,⟨[]⟩⟩
def R8:Obj:=⟨.type t2,.none,.seq ⟨[.str Oh 582,.str Q6 583,.str Vz 584]⟩ 0,⟨[]⟩⟩
def O4:Obj:=⟨.none,.none,.func ⟨z55,z55,L2.aD (tt 54),.stmts (L2.aC (tt 54)),L2.aj (tt 54),0,[],.none,.none,.none,.none,.none,.none,.none,0⟩,⟨[]⟩⟩
def Sd:Obj:=⟨.type t3,.none,.fields ⟨[.str z55 579,.str z55 580,.str z9 581,.int 218 0,.int 2 0,.int 0 0,.int 0 0,.int 3 0,.ref 287,.bool true,.int 181 0,.ref 288,.none,.ref 289,.ref 290,.ref 291,.int 585 0,.int 218 0,.str z9 586]⟩,⟨[]⟩⟩
def UY:Obj:=⟨.type t17,.none,.func ⟨z55,z55,L2.aD (tt 54),.stmts (L2.aC (tt 54)),L2.aj (tt 54),3,[],.none,.none,.none,.str z1 569,.none,.ref 292,.none,0⟩,⟨[]⟩⟩
def QC:Obj:=⟨.type t2,.none,.seq ⟨[.str Oh 591]⟩ 0,⟨[]⟩⟩
def Qm:Obj:=⟨.none,.none,.func ⟨z56,z56,L2.aD (tt 55),.stmts (L2.aC (tt 55)),L2.aj (tt 55),0,[],.none,.none,.none,.none,.none,.none,.none,0⟩,⟨[]⟩⟩
def Uj:Obj:=⟨.type t3,.none,.fields ⟨[.str z56 588,.str z56 589,.str z9 590,.int 222 0,.int 1 0,.int 0 0,.int 0 0,.int 3 0,.ref 294,.bool true,.int 181 0,.ref 295,.none,.ref 296,.ref 297,.ref 298,.int 592 0,.int 222 0,.str z9 593]⟩,⟨[]⟩⟩
def o300:Obj:=⟨.type t17,.none,.func ⟨z56,z56,L2.aD (tt 55),.stmts (L2.aC (tt 55)),L2.aj (tt 55),3,[],.none,.none,.none,.str z1 569,.none,.ref 299,.none,0⟩,⟨[]⟩⟩
def RP:Obj:=⟨.type t2,.none,.seq ⟨[.str Oi 598,.str Vz 599]⟩ 0,⟨[]⟩⟩
def TQ:Obj:=⟨.none,.none,.func ⟨z57,z57,L2.aD (tt 56),.stmts (L2.aC (tt 56)),L2.aj (tt 56),0,[],.none,.none,.none,.none,.none,.none,.none,0⟩,⟨[]⟩⟩
def Uy:Obj:=⟨.type t3,.none,.fields ⟨[.str z57 595,.str z57 596,.str z9 597,.int 224 0,.int 2 0,.int 0 0,.int 0 0,.int 3 0,.ref 301,.bool true,.int 181 0,.ref 302,.none,.ref 303,.ref 304,.ref 305,.int 600 0,.int 224 0,.str z9 601]⟩,⟨[]⟩⟩
def SQ:Obj:=⟨.type t17,.none,.func ⟨z57,z57,L2.aD (tt 56),.stmts (L2.aC (tt 56)),L2.aj (tt 56),3,[],.none,.none,.none,.str z1 569,.none,.ref 306,.none,0⟩,⟨[]⟩⟩
def UQ:Obj:=⟨.type t2,.none,.seq ⟨[.str Oi 606,.str Oh 607,.str Q6 608,.str Wt 609,.str Xa 610]⟩ 0,⟨[]⟩⟩
def QF:Obj:=⟨.none,.none,.func ⟨z58,z58,L2.aD (tt 57),.stmts (L2.aC (tt 57)),L2.aj (tt 57),0,[],.none,.none,.none,.none,.none,.none,.none,0⟩,⟨[]⟩⟩
def Vi:Obj:=⟨.type t3,.none,.fields ⟨[.str z58 603,.str z58 604,.str z9 605,.int 228 0,.int 3 0,.int 0 0,.int 0 0,.int 3 0,.ref 308,.bool true,.int 181 0,.ref 309,.none,.ref 310,.ref 311,.ref 312,.int 611 0,.int 228 0,.str z9 612]⟩,⟨[]⟩⟩
def PV:Obj:=⟨.type t17,.none,.func ⟨z58,z58,L2.aD (tt 57),.stmts (L2.aC (tt 57)),L2.aj (tt 57),3,[],.none,.none,.none,.str z1 569,.none,.ref 313,.none,0⟩,⟨[]⟩⟩
def SW:Obj:=⟨.none,.none,.func ⟨z59,z59,L2.aD (tt 58),.stmts (L2.aC (tt 58)),L2.aj (tt 58),0,[],.none,.none,.none,.none,.none,.none,.none,0⟩,⟨[]⟩⟩
def Rx:Obj:=⟨.type t3,.none,.fields ⟨[.str z59 614,.str z59 615,.str z9 616,.int 232 0,.int 2 0,.int 0 0,.int 0 0,.int 3 0,.ref 315,.bool true,.int 181 0,.ref 316,.none,.none,.none,.ref 317,.int 617 0,.int 232 0,.str z9 618]⟩,⟨[]⟩⟩
def Vd:Obj:=⟨.type t17,.none,.func ⟨z59,z59,L2.aD (tt 58),.stmts (L2.aC (tt 58)),L2.aj (tt 58),3,[],.none,.none,.none,.str z1 569,.none,.ref 318,.none,0⟩,⟨[]⟩⟩
def Sy:Obj:=⟨.none,.none,.func ⟨z60,z60,L2.aD (tt 59),.stmts (L2.aC (tt 59)),L2.aj (tt 59),0,[],.none,.none,.none,.none,.none,.none,.none,0⟩,⟨[]⟩⟩
def Rg:Obj:=⟨.type t3,.none,.fields ⟨[.str z60 620,.str z60 621,.str z9 622,.int 240 0,.int 4 0,.int 0 0,.int 0 0,.int 3 0,.ref 320,.bool true,.int 181 0,.ref 321,.none,.none,.none,.ref 322,.int 623 0,.int 240 0,.str z9 624]⟩,⟨[]⟩⟩
def Tj:Obj:=⟨.type t17,.none,.func ⟨z60,z60,L2.aD (tt 59),.stmts (L2.aC (tt 59)),L2.aj (tt 59),3,[],.none,.none,.none,.str z1 569,.none,.ref 323,.none,0⟩,⟨[]⟩⟩
def RK:Obj:=⟨.none,.none,.func ⟨z61,z61,L2.aD (tt 60),.stmts (L2.aC (tt 60)),L2.aj (tt 60),0,[],.none,.none,.none,.none,.none,.none,.none,0⟩,⟨[]⟩⟩
def RJ:Obj:=⟨.type t3,.none,.fields ⟨[.str z61 626,.str z61 627,.str z9 628,.int 250 0,.int 2 0,.int 0 0,.int 0 0,.int 3 0,.ref 325,.bool true,.int 181 0,.ref 326,.none,.none,.none,.ref 327,.int 629 0,.int 250 0,.str z9 630]⟩,⟨[]⟩⟩
def PZ:Obj:=⟨.type t17,.none,.func ⟨z61,z61,L2.aD (tt 60),.stmts (L2.aC (tt 60)),L2.aj (tt 60),3,[],.none,.none,.none,.str z1 569,.none,.ref 328,.none,0⟩,⟨[]⟩⟩
def Us:Obj:=⟨.type t2,.none,.seq ⟨[.str WZ 635,.str W9 636]⟩ 0,⟨[]⟩⟩
def Oz:Obj:=⟨.none,.none,.func ⟨z62,z62,L2.aD (tt 61),.stmts (L2.aC (tt 61)),L2.aj (tt 61),0,[],.none,.none,.none,.none,.none,.none,.none,0⟩,⟨[]⟩⟩
def UH:Obj:=⟨.type t3,.none,.fields ⟨[.str z62 632,.str z62 633,.str z9 634,.int 257 0,.int 1 0,.int 0 0,.int 0 0,.int 3 0,.ref 330,.bool true,.int 181 0,.ref 331,.none,.ref 332,.ref 333,.ref 334,.int 637 0,.int 257 0,.str z9 638]⟩,⟨[]⟩⟩
def Rj:Obj:=⟨.type t17,.none,.func ⟨z62,z62,L2.aD (tt 61),.stmts (L2.aC (tt 61)),L2.aj (tt 61),3,[],.none,.none,.none,.str z1 569,.none,.ref 335,.none,0⟩,⟨[]⟩⟩
def U9:Obj:=⟨.type t2,.none,.seq ⟨[.str Oi 643,.str VF 644,.str Vv 645,.str V5 646,.str WQ 647,.str VQ 648]⟩ 0,⟨[]⟩⟩
def Tz:Obj:=⟨.none,.none,.func ⟨z63,z63,L2.aD (tt 62),.stmts (L2.aC (tt 62)),L2.aj (tt 62),0,[],.none,.none,.none,.none,.none,.none,.none,0⟩,⟨[]⟩⟩
def Tt:Obj:=⟨.type t3,.none,.fields ⟨[.str z63 640,.str z63 641,.str z9 642,.int 262 0,.int 4 0,.int 0 0,.int 0 0,.int 3 0,.ref 337,.bool true,.int 181 0,.ref 338,.none,.ref 339,.ref 340,.ref 341,.int 649 0,.int 262 0,.str z9 650]⟩,⟨[]⟩⟩
def Q8:Obj:=⟨.type t17,.none,.func ⟨z63,z63,L2.aD (tt 62),.stmts (L2.aC (tt 62)),L2.aj (tt 62),3,[],.none,.none,.none,.str z1 569,.none,.ref 342,.none,0⟩,⟨[]⟩⟩
def Vb:Obj:=⟨.type t2,.none,.seq ⟨[.str Vu 655,.str Oi 656,.str VF 657,.str Oh 658,.str Vv 659,.str V5 660,.str VQ 661,.str WY 662,.str W5 663,.str Wk 664]⟩ 0,⟨[]⟩⟩
def Qf:Obj:=⟨.none,.none,.func ⟨z64,z64,L2.aD (tt 63),.stmts (L2.aC (tt 63)),L2.aj (tt 63),0,[],.none,.none,.none,.none,.none,.none,.none,0⟩,⟨[]⟩⟩
def Tq:Obj:=⟨.type t3,.none,.fields ⟨[.str z64 652,.str z64 653,.str z9 654,.int 266 0,.int 1 0,.int 0 0,.int 0 0,.int 3 0,.ref 344,.bool true,.int 181 0,.ref 345,.none,.ref 346,.ref 347,.ref 348,.int 665 0,.int 266 0,.str z9 666]⟩,⟨[]⟩⟩
def SN:Obj:=⟨.type t17,.none,.func ⟨z64,z64,L2.aD (tt 63),.stmts (L2.aC (tt 63)),L2.aj (tt 63),3,[],.none,.none,.none,.str z1 569,.none,.ref 349,.none,0⟩,⟨[]⟩⟩
def TF(P:Params):BT:=(nd (PySem.W.boot_o_0 P) (nd (PySem.W.boot_o_1 P) (nd (o3 P) (nd (PySem.W.boot_o_7 P) (nd o15 (nd o11 (nd o63 (nd o11 (nd QV e e) e) (nd Qz (nd Vd e e) e)) (nd o19 (nd o11 (nd o11 e e) e) (nd Rq e e))) (nd o11 (nd o79 (nd UU (nd o19 e e) e) (nd o19 (nd UH e e) e)) (nd o11 (nd o11 (nd RP e e) e) (nd U7 e e)))) (nd (o23 P) (nd o39 (nd o71 (nd o19 (nd o11 e e) e) (nd o11 (nd RK e e) e)) (nd UG (nd Qi (nd o19 e e) e) (nd Ud e e))) (nd o11 (nd o11 (nd U0 (nd Vg e e) e) (nd PJ (nd Q8 e e) e)) (nd SR (nd RQ (nd o11 e e) e) (nd Ru e e))))) (nd o11 (nd o19 (nd o11 (nd o19 (nd Qt (nd o11 e e) e) (nd o11 (nd Rg e e) e)) (nd o99 (nd o11 (nd O4 e e) e) (nd Pz e e))) (nd o51 (nd o11 (nd Pb (nd o11 e e) e) (nd Pu (nd U9 e e) e)) (nd o11 (nd UW (nd SQ e e) e) (nd RG e e)))) (nd o27 (nd o11 (nd o75 (nd o11 (nd QW e e) e) (nd QS (nd o19 e e) e)) (nd PN (nd o11 (nd Uj e e) e) (nd Qs e e))) (nd o11 (nd o91 (nd Ue (nd o11 e e) e) (nd o19 (nd o11 e e) e)) (nd o19 (nd Rh (nd o11 e e) e) (nd TX e e)))))) (nd (PySem.W.boot_o_5 P) (nd (PySem.W.boot_o_9 P) (nd (o17 P) (nd o33 (nd o65 (nd RD (nd o19 e e) e) (nd o19 (nd o19 e e) e)) (nd o11 (nd Tc (nd R8 e e) e) (nd o11 e e))) (nd o49 (nd o19 (nd o19 (nd Qk e e) e) (nd o11 (nd o11 e e) e)) (nd QJ (nd OD (nd TQ e e) e) (nd R4 e e)))) (nd o25 (nd o16 (nd o11 (nd UO (nd QH e e) e) (nd R6 (nd PZ e e) e)) (nd O7 (nd o19 (nd o11 e e) e) (nd o19 e e))) (nd o57 (nd o89 (nd Q9 (nd o19 e e) e) (nd Vc (nd o19 e e) e)) (nd QX (nd o11 (nd Vi e e) e) (nd o11 e e))))) (nd o13 (nd o21 (nd o37 (nd o11 (nd Px (nd Rn e e) e) (nd O5 (nd o11 e e) e)) (nd o11 (nd QT (nd UY e e) e) (nd PY e e))) (nd o19 (nd o85 (nd o11 (nd Rt e e) e) (nd o11 (nd Tz e e) e)) (nd Ss (nd o19 (nd o19 e e) e) (nd o19 e e)))) (nd o16 (nd o45 (nd o77 (nd QK (nd RZ e e) e) (nd PC (nd o11 e e) e)) (nd o19 (nd U4 (nd o11 e e) e) (nd o11 e e))) (nd o61 (nd o93 (nd o19 (nd Pr e e) e) (nd o11 (nd Tq e e) e)) (nd Ou (nd Rb (nd SW e e) e) (nd U3 e e))))))) (nd (PySem.W.boot_o_2 P) (nd (PySem.W.boot_o_4 P) (nd (PySem.W.boot_o_8 P) (nd o16 (nd o19 (nd o64 (nd o19 (nd o11 e e) e) (nd o11 (nd o11 e e) e)) (nd o96 (nd Rv (nd o19 e e) e) (nd Ra e e))) (nd (o48 P) (nd o11 (nd o11 (nd Qw e e) e) (nd TY (nd Rj e e) e)) (nd Qp (nd o19 (nd o11 e e) e) (nd o11 e e)))) (nd o24 (nd o28 (nd o72 (nd Tp (nd o19 e e) e) (nd o19 (nd RJ e e) e)) (nd o11 (nd o11 (nd QC e e) e) (nd o11 e e))) (nd o56 (nd o19 (nd o11 (nd o11 e e) e) (nd O1 (nd o11 e e) e)) (nd PD (nd U8 (nd QF e e) e) (nd Vj e e))))) (nd o12 (nd o20 (nd (o36 P) (nd o68 (nd Ti (nd Uu e e) e) (nd O2 (nd Tj e e) e)) (nd o100 (nd o19 (nd Sd e e) e) (nd o11 e e))) (nd o11 (nd o84 (nd Vf (nd o19 e e) e) (nd Ui (nd o11 e e) e)) (nd o19 (nd o11 (nd o11 e e) e) (nd o11 e e)))) (nd o28 (nd o19 (nd o11 (nd o19 (nd Uq e e) e) (nd SX (nd Us e e) e)) (nd o11 (nd Ur (nd o300 e e) e) (nd O9 e e))) (nd o19 (nd o92 (nd o11 (nd QG e e) e) (nd QD (nd Qf e e) e)) (nd Ow (nd o11 (nd o19 e e) e) (nd o11 e e)))))) (nd (PySem.W.boot_o_6 P) (nd (PySem.W.boot_o_10 P) (nd o11 (nd o34 (nd o11 (nd o11 (nd TV e e) e) (nd PK (nd Sy e e) e)) (nd o98 (nd UZ (nd o11 e e) e) (nd o19 e e))) (nd o50 (nd o82 (nd TN (nd Tv e e) e) (nd U5 (nd o19 e e) e)) (nd Pk (nd R3 (nd Uy e e) e) (nd Qa e e)))) (nd o26 (nd (o42 P) (nd o19 (nd OG (nd o11 e e) e) (nd o11 (nd o11 e e) e)) (nd Rr (nd RX (nd Qm e e) e) (nd Qq e e))) (nd o58 (nd o11 (nd Rz (nd SV e e) e) (nd o11 (nd Vb e e) e)) (nd o11 (nd o19 (nd PV e e) e) (nd o19 e e))))) (nd o14 (nd o11 (nd o38 (nd o70 (nd o11 (nd Uk e e) e) (nd PB (nd o19 e e) e)) (nd o19 (nd Qv (nd o11 e e) e) (nd SY e e))) (nd o54 (nd o86 (nd o19 (nd Uh e e) e) (nd o19 (nd Tt e e) e)) (nd o11 (nd Tr (nd UQ e e) e) (nd Vh e e)))) (nd (o30 P) (nd o46 (nd o78 (nd Ql (nd o11 e e) e) (nd o11 (nd Oz e e) e)) (nd TJ (nd RT (nd o19 e e) e) (nd o19 e e))) (nd o11 (nd o11 (nd SJ (nd Qo e e) e) (nd OX (nd SN e e) e)) (nd Pq (nd Uo (nd Rx e e) e) (nd RV e e))))))))
def HF(P:Params):Heap:=⟨⟨[PySem.W.boot_o_0 P,PySem.W.boot_o_1 P,PySem.W.boot_o_2 P,o3 P,PySem.W.boot_o_4 P,PySem.W.boot_o_5 P,PySem.W.boot_o_6 P,PySem.W.boot_o_7 P,PySem.W.boot_o_8 P,PySem.W.boot_o_9 P,PySem.W.boot_o_10 P,o11,o12,o13,o14,o15,o16,o17 P,o11,o19,o20,o21,o11,o23 P,o24,o25,o26,o27,o28,o16,o30 P,o11,o19,o33,o34,o11,o36 P,o37,o38,o39,o28,o16,o42 P,o11,o19,o45,o46,o11,o48 P,o49,o50,o51,o11,o19,o54,o11,o56,o57,o58,o11,o19,o61,o11,o63,o64,o65,o11,o19,o68,o11,o70,o71,o72,o11,o19,o75,o11,o77,o78,o79,o11,o19,o82,o11,o84,o85,o86,o11,o19,o89,o11,o91,o92,o93,o11,o19,o96,o11,o98,o99,o100,o11,o19,UG,o11,O7,Rr,PN,o11,o19,TJ,o11,Qp,QJ,Pk,o11,o19,Ss,o11,SR,PD,QX,o11,o19,Ow,Ou,Pq,o11,o19,RD,o11,Qt,Ti,Px,o11,o19,Tp,UO,OG,o11,o19,QK,Ql,UU,o11,o19,TN,Pb,Vf,o11,o19,U0,o11,Q9,Rz,Ue,o11,o19,SJ,o11,Rv,Tc,UZ,o11,o19,QT,Qv,Qi,o11,o19,RX,o11,Ur,U4,RT,o11,o19,OD,R3,UW,o11,o19,Tr,RQ,U8,o11,o19,Rh,o11,Rb,Uo,Qz,o11,o19,PK,o11,O2,O5,PB,o11,o19,R6,o11,QS,SX,PC,o11,o19,TY,o11,U5,Pu,Ui,o11,o19,PJ,O1,Vc,o11,o19,QD,o11,OX,Rq,Ra,o11,o19,Pz,o11,PY,SY,Ud,o11,o19,Qq,Qs,O9,o11,o19,U7,o11,R4,Qa,RG,o11,o19,Vh,Ru,Vj,o11,o19,TX,o11,U3,RV,QV,o11,o19,TV,o11,Uu,Rn,Uk,o11,o19,QH,o11,QW,Uq,RZ,o11,o19,Qw,Qk,Tv,o11,o19,Rt,Uh,Vg,o11,o19,SV,o11,QG,Pr,Qo,o11,o19,R8,o11,O4,Sd,UY,o11,o19,QC,o11,Qm,Uj,o300,o11,o19,RP,o11,TQ,Uy,SQ,o11,o19,UQ,o11,QF,Vi,PV,o11,o19,SW,Rx,Vd,o11,o19,Sy,Rg,Tj,o11,o19,RK,RJ,PZ,o11,o19,Us,o11,Oz,UH,Rj,o11,o19,U9,o11,Tz,Tt,Q8,o11,o19,Vb,o11,Qf,Tq,SN]⟩,{}⟩
def K(P:Params):Frag:=(nat_lit 0,PySem.W.boot_o_0 P)::(nat_lit 1,PySem.W.boot_o_1 P)::(nat_lit 2,PySem.W.boot_o_2 P)::(nat_lit 3,o3 P)::(nat_lit 4,PySem.W.boot_o_4 P)::(nat_lit 5,PySem.W.boot_o_5 P)::(nat_lit 6,PySem.W.boot_o_6 P)::(nat_lit 7,PySem.W.boot_o_7 P)::(nat_lit 8,PySem.W.boot_o_8 P)::(nat_lit 9,PySem.W.boot_o_9 P)::(nat_lit 10,PySem.W.boot_o_10 P)::(nat_lit 11,o11)::(nat_lit 12,o12)::(nat_lit 13,o13)::(nat_lit 14,o14)::(nat_lit 15,o15)::(nat_lit 22,o11)::(nat_lit 23,o23 P)::(nat_lit 24,o24)::(nat_lit 25,o25)::(nat_lit 28,o28)::(nat_lit 35,o11)::(nat_lit 36,o36 P)::(nat_lit 37,o37)::(nat_lit 40,o28)::(nat_lit 47,o11)::(nat_lit 48,o48 P)::(nat_lit 49,o49)::(nat_lit 52,o11)::(nat_lit 53,o19)::(nat_lit 54,o54)::(nat_lit 55,o11)::(nat_lit 56,o56)::(nat_lit 57,o57)::(nat_lit 58,o58)::(nat_lit 59,o11)::(nat_lit 60,o19)::(nat_lit 61,o61)::(nat_lit 62,o11)::(nat_lit 63,o63)::(nat_lit 64,o64)::(nat_lit 65,o65)::(nat_lit 66,o11)::(nat_lit 67,o19)::(nat_lit 68,o68)::(nat_lit 69,o11)::(nat_lit 70,o70)::(nat_lit 71,o71)::(nat_lit 72,o72)::(nat_lit 73,o11)::(nat_lit 74,o19)::(nat_lit 75,o75)::(nat_lit 76,o11)::(nat_lit 77,o77)::(nat_lit 78,o78)::(nat_lit 79,o79)::(nat_lit 80,o11)::(nat_lit 81,o19)::(nat_lit 82,o82)::(nat_lit 83,o11)::(nat_lit 84,o84)::(nat_lit 85,o85)::(nat_lit 86,o86)::(nat_lit 87,o11)::(nat_lit 88,o19)::(nat_lit 89,o89)::(nat_lit 90,o11)::(nat_lit 91,o91)::(nat_lit 92,o92)::(nat_lit 93,o93)::(nat_lit 94,o11)::(nat_lit 95,o19)::(nat_lit 96,o96)::(nat_lit 97,o11)::(nat_lit 98,o98)::(nat_lit 99,o99)::(nat_lit 100,o100)::(nat_lit 101,o11)::(nat_lit 102,o19)::(nat_lit 103,UG)::(nat_lit 104,o11)::(nat_lit 105,O7)::(nat_lit 106,Rr)::(nat_lit 107,PN)::(nat_lit 108,o11)::(nat_lit 109,o19)::(nat_lit 110,TJ)::(nat_lit 111,o11)::(nat_lit 112,Qp)::(nat_lit 113,QJ)::(nat_lit 114,Pk)::(nat_lit 115,o11)::(nat_lit 116,o19)::(nat_lit 117,Ss)::(nat_lit 118,o11)::(nat_lit 119,SR)::(nat_lit 120,PD)::(nat_lit 121,QX)::(nat_lit 122,o11)::(nat_lit 123,o19)::(nat_lit 124,Ow)::(nat_lit 125,Ou)::(nat_lit 126,Pq)::(nat_lit 127,o11)::(nat_lit 128,o19)::(nat_lit 129,RD)::(nat_lit 130,o11)::(nat_lit 131,Qt)::(nat_lit 132,Ti)::(nat_lit 133,Px)::(nat_lit 134,o11)::(nat_lit 135,o19)::(nat_lit 136,Tp)::(nat_lit 137,UO)::(nat_lit 138,OG)::(nat_lit 139,o11)::(nat_lit 140,o19)::(nat_lit 141,QK)::(nat_lit 142,Ql)::(nat_lit 143,UU)::(nat_lit 144,o11)::(nat_lit 145,o19)::(nat_lit 146,TN)::(nat_lit 147,Pb)::(nat_lit 148,Vf)::(nat_lit 149,o11)::(nat_lit 150,o19)::(nat_lit 151,U0)::(nat_lit 152,o11)::(nat_lit 153,Q9)::(nat_lit 154,Rz)::(nat_lit 155,Ue)::(nat_lit 156,o11)::(nat_lit 157,o19)::(nat_lit 158,SJ)::(nat_lit 159,o11)::(nat_lit 160,Rv)::(nat_lit 161,Tc)::(nat_lit 162,UZ)::(nat_lit 163,o11)::(nat_lit 164,o19)::(nat_lit 165,QT)::(nat_lit 166,Qv)::(nat_lit 167,Qi)::(nat_lit 168,o11)::(nat_lit 169,o19)::(nat_lit 170,RX)::(nat_lit 171,o11)::(nat_lit 172,Ur)::(nat_lit 173,U4)::(nat_lit 174,RT)::(nat_lit 175,o11)::(nat_lit 176,o19)::(nat_lit 177,OD)::(nat_lit 178,R3)::(nat_lit 179,UW)::(nat_lit 180,o11)::(nat_lit 181,o19)::(nat_lit 182,Tr)::(nat_lit 183,RQ)::(nat_lit 184,U8)::(nat_lit 185,o11)::(nat_lit 186,o19)::(nat_lit 187,Rh)::(nat_lit 188,o11)::(nat_lit 189,Rb)::(nat_lit 190,Uo)::(nat_lit 191,Qz)::(nat_lit 192,o11)::(nat_lit 193,o19)::(nat_lit 194,PK)::(nat_lit 195,o11)::(nat_lit 196,O2)::(nat_lit 197,O5)::(nat_lit 198,PB)::(nat_lit 199,o11)::(nat_lit 200,o19)::(nat_lit 201,R6)::(nat_lit 202,o11)::(nat_lit 203,QS)::(nat_lit 204,SX)::(nat_lit 205,PC)::(nat_lit 206,o11)::(nat_lit 207,o19)::(nat_lit 208,TY)::(nat_lit 209,o11)::(nat_lit 210,U5)::(nat_lit 211,Pu)::(nat_lit 212,Ui)::(nat_lit 213,o11)::(nat_lit 214,o19)::(nat_lit 215,PJ)::(nat_lit 216,O1)::(nat_lit 217,Vc)::(nat_lit 218,o11)::(nat_lit 219,o19)::(nat_lit 220,QD)::(nat_lit 221,o11)::(nat_lit 222,OX)::(nat_lit 223,Rq)::(nat_lit 224,Ra)::(nat_lit 225,o11)::(nat_lit 226,o19)::(nat_lit 227,Pz)::(nat_lit 228,o11)::(nat_lit 229,PY)::(nat_lit 230,SY)::(nat_lit 231,Ud)::(nat_lit 232,o11)::(nat_lit 233,o19)::(nat_lit 234,Qq)::(nat_lit 235,Qs)::(nat_lit 236,O9)::(nat_lit 237,o11)::(nat_lit 238,o19)::(nat_lit 239,U7)::(nat_lit 240,o11)::(nat_lit 241,R4)::(nat_lit 242,Qa)::(nat_lit 243,RG)::(nat_lit 244,o11)::(nat_lit 245,o19)::(nat_lit 246,Vh)::(nat_lit 247,Ru)::(nat_lit 248,Vj)::(nat_lit 249,o11)::(nat_lit 250,o19)::(nat_lit 251,TX)::(nat_lit 252,o11)::(nat_lit 253,U3)::(nat_lit 254,RV)::(nat_lit 255,QV)::(nat_lit 256,o11)::(nat_lit 257,o19)::(nat_lit 258,TV)::(nat_lit 259,o11)::(nat_lit 260,Uu)::(nat_lit 261,Rn)::(nat_lit 262,Uk)::(nat_lit 263,o11)::(nat_lit 264,o19)::(nat_lit 265,QH)::(nat_lit 266,o11)::(nat_lit 267,QW)::(nat_lit 268,Uq)::(nat_lit 269,RZ)::(nat_lit 270,o11)::(nat_lit 271,o19)::(nat_lit 272,Qw)::(nat_lit 273,Qk)::(nat_lit 274,Tv)::(nat_lit 275,o11)::(nat_lit 276,o19)::(nat_lit 277,Rt)::(nat_lit 278,Uh)::(nat_lit 279,Vg)::(nat_lit 280,o11)::(nat_lit 281,o19)::(nat_lit 282,SV)::(nat_lit 283,o11)::(nat_lit 284,QG)::(nat_lit 285,Pr)::(nat_lit 286,Qo)::(nat_lit 287,o11)::(nat_lit 288,o19)::(nat_lit 289,R8)::(nat_lit 290,o11)::(nat_lit 291,O4)::(nat_lit 292,Sd)::(nat_lit 293,UY)::(nat_lit 294,o11)::(nat_lit 295,o19)::(nat_lit 296,QC)::(nat_lit 297,o11)::(nat_lit 298,Qm)::(nat_lit 299,Uj)::(nat_lit 300,o300)::(nat_lit 301,o11)::(nat_lit 302,o19)::(nat_lit 303,RP)::(nat_lit 304,o11)::(nat_lit 305,TQ)::(nat_lit 306,Uy)::(nat_lit 307,SQ)::(nat_lit 308,o11)::(nat_lit 309,o19)::(nat_lit 310,UQ)::(nat_lit 311,o11)::(nat_lit 312,QF)::(nat_lit 313,Vi)::(nat_lit 314,PV)::(nat_lit 315,o11)::(nat_lit 316,o19)::(nat_lit 317,SW)::(nat_lit 318,Rx)::(nat_lit 319,Vd)::(nat_lit 320,o11)::(nat_lit 321,o19)::(nat_lit 322,Sy)::(nat_lit 323,Rg)::(nat_lit 324,Tj)::(nat_lit 325,o11)::(nat_lit 326,o19)::(nat_lit 327,RK)::(nat_lit 328,RJ)::(nat_lit 329,PZ)::(nat_lit 330,o11)::(nat_lit 331,o19)::(nat_lit 332,Us)::(nat_lit 333,o11)::(nat_lit 334,Oz)::(nat_lit 335,UH)::(nat_lit 336,Rj)::(nat_lit 337,o11)::(nat_lit 338,o19)::(nat_lit 339,U9)::(nat_lit 340,o11)::(nat_lit 341,Tz)::(nat_lit 342,Tt)::(nat_lit 343,Q8)::(nat_lit 344,o11)::(nat_lit 345,o19)::(nat_lit 346,Vb)::(nat_lit 347,o11)::(nat_lit 348,Qf)::(nat_lit 349,Tq)::(nat_lit 350,SN)::[]
def as:List Nat:=[nat_lit 0,nat_lit 1,nat_lit 2,nat_lit 3,nat_lit 4,nat_lit 5,nat_lit 6,nat_lit 7,nat_lit 8,nat_lit 9,nat_lit 10,nat_lit 11,nat_lit 12,nat_lit 13,nat_lit 14,nat_lit 15,nat_lit 22,nat_lit 23,nat_lit 24,nat_lit 25,nat_lit 28,nat_lit 35,nat_lit 36,nat_lit 37,nat_lit 40,nat_lit 47,nat_lit 48,nat_lit 49,nat_lit 52,nat_lit 53,nat_lit 54,nat_lit 55,nat_lit 56,nat_lit 57,nat_lit 58,nat_lit 59,nat_lit 60,nat_lit 61,nat_lit 62,nat_lit 63,nat_lit 64,nat_lit 65,nat_lit 66,nat_lit 67,nat_lit 68,nat_lit 69,nat_lit 70,nat_lit 71,nat_lit 72,nat_lit 73,nat_lit 74,nat_lit 75,nat_lit 76,nat_lit 77,nat_lit 78,nat_lit 79,nat_lit 80,nat_lit 81,nat_lit 82,nat_lit 83,nat_lit 84,nat_lit 85,nat_lit 86,nat_lit 87,nat_lit 88,nat_lit 89,nat_lit 90,nat_lit 91,nat_lit 92,nat_lit 93,nat_lit 94,nat_lit 95,nat_lit 96,nat_lit 97,nat_lit 98,nat_lit 99,nat_lit 100,nat_lit 101,nat_lit 102,nat_lit 103,nat_lit 104,nat_lit 105,nat_lit 106,nat_lit 107,nat_lit 108,nat_lit 109,nat_lit 110,nat_lit 111,nat_lit 112,nat_lit 113,nat_lit 114,nat_lit 115,nat_lit 116,nat_lit 117,nat_lit 118,nat_lit 119,nat_lit 120,nat_lit 121,nat_lit 122,nat_lit 123,nat_lit 124,nat_lit 125,nat_lit 126,nat_lit 127,nat_lit 128,nat_lit 129,nat_lit 130,nat_lit 131,nat_lit 132,nat_lit 133,nat_lit 134,nat_lit 135,nat_lit 136,nat_lit 137,nat_lit 138,nat_lit 139,nat_lit 140,nat_lit 141,nat_lit 142,nat_lit 143,nat_lit 144,nat_lit 145,nat_lit 146,nat_lit 147,nat_lit 148,nat_lit 149,nat_lit 150,nat_lit 151,nat_lit 152,nat_lit 153,nat_lit 154,nat_lit 155,nat_lit 156,nat_lit 157,nat_lit 158,nat_lit 159,nat_lit 160,nat_lit 161,nat_lit 162,nat_lit 163,nat_lit 164,nat_lit 165,nat_lit 166,nat_lit 167,nat_lit 168,nat_lit 169,nat_lit 170,nat_lit 171,nat_lit 172,nat_lit 173,nat_lit 174,nat_lit 175,nat_lit 176,nat_lit 177,nat_lit 178,nat_lit 179,nat_lit 180,nat_lit 181,nat_lit 182,nat_lit 183,nat_lit 184,nat_lit 185,nat_lit 186,nat_lit 187,nat_lit 188,nat_lit 189,nat_lit 190,nat_lit 191,nat_lit 192,nat_lit 193,nat_lit 194,nat_lit 195,nat_lit 196,nat_lit 197,nat_lit 198,nat_lit 199,nat_lit 200,nat_lit 201,nat_lit 202,nat_lit 203,nat_lit 204,nat_lit 205,nat_lit 206,nat_lit 207,nat_lit 208,nat_lit 209,nat_lit 210,nat_lit 211,nat_lit 212,nat_lit 213,nat_lit 214,nat_lit 215,nat_lit 216,nat_lit 217,nat_lit 218,nat_lit 219,nat_lit 220,nat_lit 221,nat_lit 222,nat_lit 223,nat_lit 224,nat_lit 225,nat_lit 226,nat_lit 227,nat_lit 228,nat_lit 229,nat_lit 230,nat_lit 231,nat_lit 232,nat_lit 233,nat_lit 234,nat_lit 235,nat_lit 236,nat_lit 237,nat_lit 238,nat_lit 239,nat_lit 240,nat_lit 241,nat_lit 242,nat_lit 243,nat_lit 244,nat_lit 245,nat_lit 246,nat_lit 247,nat_lit 248,nat_lit 249,nat_lit 250,nat_lit 251,nat_lit 252,nat_lit 253,nat_lit 254,nat_lit 255,nat_lit 256,nat_lit 257,nat_lit 258,nat_lit 259,nat_lit 260,nat_lit 261,nat_lit 262,nat_lit 263,nat_lit 264,nat_lit 265,nat_lit 266,nat_lit 267,nat_lit 268,nat_lit 269,nat_lit 270,nat_lit 271,nat_lit 272,nat_lit 273,nat_lit 274,nat_lit 275,nat_lit 276,nat_lit 277,nat_lit 278,nat_lit 279,nat_lit 280,nat_lit 281,nat_lit 282,nat_lit 283,nat_lit 284,nat_lit 285,nat_lit 286,nat_lit 287,nat_lit 288,nat_lit 289,nat_lit 290,nat_lit 291,nat_lit 292,nat_lit 293,nat_lit 294,nat_lit 295,nat_lit 296,nat_lit 297,nat_lit 298,nat_lit 299,nat_lit 300,nat_lit 301,nat_lit 302,nat_lit 303,nat_lit 304,nat_lit 305,nat_lit 306,nat_lit 307,nat_lit 308,nat_lit 309,nat_lit 310,nat_lit 311,nat_lit 312,nat_lit 313,nat_lit 314,nat_lit 315,nat_lit 316,nat_lit 317,nat_lit 318,nat_lit 319,nat_lit 320,nat_lit 321,nat_lit 322,nat_lit 323,nat_lit 324,nat_lit 325,nat_lit 326,nat_lit 327,nat_lit 328,nat_lit 329,nat_lit 330,nat_lit 331,nat_lit 332,nat_lit 333,nat_lit 334,nat_lit 335,nat_lit 336,nat_lit 337,nat_lit 338,nat_lit 339,nat_lit 340,nat_lit 341,nat_lit 342,nat_lit 343,nat_lit 344,nat_lit 345,nat_lit 346,nat_lit 347,nat_lit 348,nat_lit 349,nat_lit 350]
def cut(n:Nat)(t:BT):Nat->Nat->BT:=BT.rec (motive:=fun _=>Nat->Nat->BT) (fun _ _=> .nil) (fun v _ _ l r a b=>cond (Nat.blt b n) (.node v (l (Nat.mul 2 a) (Nat.add a b)) (r (Nat.mul 2 a) (Nat.add (Nat.mul 2 a) b))) .nil) t
def HA(P:Params):Heap:=⟨⟨[PySem.W.boot_o_0 P,PySem.W.boot_o_1 P,PySem.W.boot_o_2 P,PySem.W.boot_o_3 P,PySem.W.boot_o_4 P,PySem.W.boot_o_5 P,PySem.W.boot_o_6 P,PySem.W.boot_o_7 P,PySem.W.boot_o_8 P,PySem.W.boot_o_9 P,PySem.W.boot_o_10 P,o11,Lw,o13,o14]⟩,{}⟩
def SA(w:World)(os:OsState):Shared:=⟨HA w.params,⟨[]⟩,{},187,os⟩
def T1(P:Params):BT:=((cut 15 (TF P) 1 0).set 3 fun _=>PySem.W.boot_o_3 P).set 12 fun _=>Lw
def S1(w:World)(os:OsState):SharedT:=⟨T1 w.params,15,{},⟨[]⟩,{},187,os⟩
def T2(P:Params):BT:=(((cut 28 (TF P) 1 0).set 3 fun _=>Wb P).set 12 fun _=>Sh).set 24 fun _=>Va
def S2(w:World)(os:OsState):SharedT:=⟨T2 w.params,28,{},⟨[]⟩,{},207,os⟩
def T3(P:Params):BT:=(((cut 40 (TF P) 1 0).set 3 fun _=>W4 P).set 12 fun _=>Sw).set 24 fun _=>Vk
def S3(w:World)(os:OsState):SharedT:=⟨T3 w.params,40,{},⟨[]⟩,{},223,os⟩
def T4(P:Params):BT:=((cut 87 (TF P) 1 0).set 3 fun _=>Wd P).set 12 fun _=>R5
def S4(w:World)(os:OsState):SharedT:=⟨T4 w.params,87,{},⟨[]⟩,{},290,os⟩
def T5(P:Params):BT:=((cut 163 (TF P) 1 0).set 3 fun _=>Xh P).set 12 fun _=>NT
def S5(w:World)(os:OsState):SharedT:=⟨T5 w.params,163,{},⟨[]⟩,{},407,os⟩
def T6(P:Params):BT:=((cut 237 (TF P) 1 0).set 3 fun _=>Ua P).set 12 fun _=>MS
def S6(w:World)(os:OsState):SharedT:=⟨T6 w.params,237,{},⟨[]⟩,{},507,os⟩
def T7(P:Params):BT:=((cut 315 (TF P) 1 0).set 3 fun _=>Ut P).set 12 fun _=>K6
def S7(w:World)(os:OsState):SharedT:=⟨T7 w.params,315,{},⟨[]⟩,{},614,os⟩
def T8(P:Params):BT:=cut 351 (TF P) 1 0
def S8(w:World)(os:OsState):SharedT:=⟨T8 w.params,351,{},⟨[]⟩,{},668,os⟩
def SF(w:World)(os:OsState):Shared:=⟨HF w.params,⟨[]⟩,{},668,os⟩
def ann:Option Value:=some (.ref 6)
def env:Env:={ scope:=pwL.main.scope,locals:=mainNs,globals:=mainNs,cells:=[],code:= .ref 13,frame:=some 14 }
def cE:Code:= .body (behindTheImports pwL) env
abbrev BB:List Frame:=[topFrame ⟨0,0,0,0⟩]
def q:Program:={ pwL with main:={ pwL.main with body:=[topF 1,topF 2,topF 3,topF 5,topF 6,topF 7,topF 8,topF 10,topF 11,topF 13,topF 14,topF 15,topF 16,topF 17,topF 18,topF 19,topF 20,topF 21,topF 23,topF 24,topF 25,topF 26,topF 27,topF 28,topF 30,topF 31,topF 32,topF 34,topF 35,topF 36,topF 37,topF 38,topF 39,topF 40,topF 41,topF 43,topF 44,topF 45,topF 47,topF 48,topF 49,topF 50,topF 51,topF 53,topF 54,topF 55,topF 56,topF 57,topF 58,topF 59,topF 60,topF 61,topF 62,topF 63] } }
theorem warm2:((fun(_:Env) (_:Code) (_:Program)=>true) env cE q)=true:=by k_qdec
theorem a0:@segRunT=PySem.W.Fast.tw10110043849684766642:=PySem.W.Fast.te10110043849684766642
theorem a1:@treeTable=PySem.W.Fast.tw14364793385576792824:=PySem.W.Fast.te14364793385576792824
theorem a2:@topGo=PySem.W.Fast.tw15667345088766844465:=PySem.W.Fast.te15667345088766844465
theorem a3:@topRun=PySem.W.Fast.tw14082659384304107361:=PySem.W.Fast.te14082659384304107361
theorem a4:@segRun=PySem.W.Fast.tw14374325043358763698:=PySem.W.Fast.te14374325043358763698
theorem a5:@denote=PySem.W.Fast.tw11892475500146522536:=PySem.W.Fast.te11892475500146522536
theorem a6:@cE=PySem.W.Fast.tw448659488568118922:=PySem.W.Fast.te448659488568118922
theorem a7:@env=PySem.W.Fast.tw11700166494039883377:=PySem.W.Fast.te11700166494039883377
theorem a8:@q=PySem.W.Fast.tw10146295549465860641:=PySem.W.Fast.te10146295549465860641
theorem a9:@pwL=PySem.W.Fast.tw2593251472765068525:=PySem.W.Fast.te2593251472765068525
theorem a10:@topF=PySem.W.Fast.tw18095949283535741863:=PySem.W.Fast.te18095949283535741863
theorem a11:@importedModules=PySem.W.Fast.tw5923862056798008813:=PySem.W.Fast.te5923862056798008813
theorem a12:@openSeen=PySem.W.Fast.tw4187177175401517315:=PySem.W.Fast.te4187177175401517315
theorem a13:@Heap.nsMap=PySem.W.Fast.tw8920871248978507458:=PySem.W.Fast.te8920871248978507458
set_option maxHeartbeats 0
theorem pre(w:World)(os:OsState):topGo treeTable pwL w 11 ann 12 ⟨boot_heap w.params,⟨[]⟩,boot_drawn,boot_toks,os⟩ (topStub pwL)=some (SA w os,⟨denote treeTable cE,cE,⟨0,0,0,0⟩,BB⟩):=by
 (try rw[a0]);(try rw[a1]);(try rw[a2]);(try rw[a3]);(try rw[a4]);(try rw[a5]);(try rw[a6]);(try rw[a7]);(try rw[a8]);(try rw[a9]);(try rw[a10]);kernel_rfl
theorem blk(w:World)(os:OsState):segRun treeTable pwL w 11 ann 1 1 (SA w os) (blockOf (behindTheImports pwL) env cE ⟨0,0,0,0⟩ BB)=some (.next,(S1 w os).abs,cE,⟨0,0,0,0⟩):=by
 (try rw[a0]);(try rw[a1]);(try rw[a2]);(try rw[a3]);(try rw[a4]);(try rw[a5]);(try rw[a6]);(try rw[a7]);(try rw[a8]);(try rw[a9]);(try rw[a10]);kernel_rfl
abbrev c1:List Stmt:=[topF 0,topF 1]
theorem p1(w:World)(os:OsState):segRunT treeTable pwL w 11 ann 1 196 (S1 w os) (piecesOf c1 env cE ⟨0,0,0,0⟩ BB)=some (.next,S2 w os,cE,⟨2,0,3,8⟩):=by
 unfold c1;(try rw[a0]);(try rw[a1]);(try rw[a2]);(try rw[a3]);(try rw[a4]);(try rw[a5]);(try rw[a6]);(try rw[a7]);(try rw[a8]);(try rw[a9]);(try rw[a10]);kernel_rfl
abbrev c2:List Stmt:=[topF 2]
theorem p2(w:World)(os:OsState):segRunT treeTable pwL w 11 ann 1 214 (S2 w os) (piecesOf c2 env cE ⟨2,0,3,8⟩ BB)=some (.next,S3 w os,cE,⟨4,0,5,8⟩):=by
 unfold c2;(try rw[a0]);(try rw[a1]);(try rw[a2]);(try rw[a3]);(try rw[a4]);(try rw[a5]);(try rw[a6]);(try rw[a7]);(try rw[a8]);(try rw[a9]);(try rw[a10]);kernel_rfl
abbrev c3:List Stmt:=[topF 3,topF 4,topF 5,topF 6,topF 7,topF 8,topF 9,topF 10]
theorem p3(w:World)(os:OsState):segRunT treeTable pwL w 11 ann 1 389 (S3 w os) (piecesOf c3 env cE ⟨4,0,5,8⟩ BB)=some (.next,S4 w os,cE,⟨39,0,43,27⟩):=by
 unfold c3;(try rw[a0]);(try rw[a1]);(try rw[a2]);(try rw[a3]);(try rw[a4]);(try rw[a5]);(try rw[a6]);(try rw[a7]);(try rw[a8]);(try rw[a9]);(try rw[a10]);kernel_rfl
abbrev c4:List Stmt:=[topF 11,topF 12,topF 13,topF 14,topF 15,topF 16,topF 17,topF 18,topF 19,topF 20,topF 21,topF 22,topF 23,topF 24,topF 25]
theorem p4(w:World)(os:OsState):segRunT treeTable pwL w 11 ann 1 395 (S4 w os) (piecesOf c4 env cE ⟨39,0,43,27⟩ BB)=some (.next,S5 w os,cE,⟨103,0,110,15⟩):=by
 unfold c4;(try rw[a0]);(try rw[a1]);(try rw[a2]);(try rw[a3]);(try rw[a4]);(try rw[a5]);(try rw[a6]);(try rw[a7]);(try rw[a8]);(try rw[a9]);(try rw[a10]);kernel_rfl
abbrev c5:List Stmt:=[topF 26,topF 27,topF 28,topF 29,topF 30,topF 31,topF 32,topF 33,topF 34,topF 35,topF 36,topF 37,topF 38,topF 39,topF 40]
theorem p5(w:World)(os:OsState):segRunT treeTable pwL w 11 ann 1 376 (S5 w os) (piecesOf c5 env cE ⟨103,0,110,15⟩ BB)=some (.next,S6 w os,cE,⟨157,0,174,15⟩):=by
 unfold c5;(try rw[a0]);(try rw[a1]);(try rw[a2]);(try rw[a3]);(try rw[a4]);(try rw[a5]);(try rw[a6]);(try rw[a7]);(try rw[a8]);(try rw[a9]);(try rw[a10]);kernel_rfl
abbrev c6:List Stmt:=[topF 41,topF 42,topF 43,topF 44,topF 45,topF 46,topF 47,topF 48,topF 49,topF 50,topF 51,topF 52,topF 53,topF 54,topF 55,topF 56,topF 57]
theorem p6(w:World)(os:OsState):segRunT treeTable pwL w 11 ann 1 401 (S6 w os) (piecesOf c6 env cE ⟨157,0,174,15⟩ BB)=some (.next,S7 w os,cE,⟨228,0,231,135⟩):=by
 unfold c6;(try rw[a0]);(try rw[a1]);(try rw[a2]);(try rw[a3]);(try rw[a4]);(try rw[a5]);(try rw[a6]);(try rw[a7]);(try rw[a8]);(try rw[a9]);(try rw[a10]);kernel_rfl
abbrev c7:List Stmt:=[topF 58,topF 59,topF 60,topF 61,topF 62,topF 63]
theorem p7(w:World)(os:OsState):segRunT treeTable pwL w 11 ann 1 181 (S7 w os) (piecesOf c7 env cE ⟨228,0,231,135⟩ BB)=some (.next,S8 w os,cE,⟨266,0,285,122⟩):=by
 unfold c7;(try rw[a0]);(try rw[a1]);(try rw[a2]);(try rw[a3]);(try rw[a4]);(try rw[a5]);(try rw[a6]);(try rw[a7]);(try rw[a8]);(try rw[a9]);(try rw[a10]);kernel_rfl
theorem fin(w:World)(os:OsState):topRun treeTable pwL w 11 ann 2 (S8 w os).abs ⟨doneF .next,cE,⟨266,0,285,122⟩,BB⟩=some (SF w os):=by
 (try rw[a0]);(try rw[a1]);(try rw[a2]);(try rw[a3]);(try rw[a4]);(try rw[a5]);(try rw[a6]);(try rw[a7]);(try rw[a8]);(try rw[a9]);(try rw[a10]);kernel_rfl
theorem body:behindTheImports pwL=c1++(c2++(c3++(c4++(c5++(c6++(c7++([]))))))):=by
 (try rw[a6]);(try rw[a7]);(try rw[a8]);(try rw[a9]);(try rw[a10]);kernel_rfl
theorem run(w:World)(os:OsState):topRun treeTable pwL w 11 ann (12+(1+(196+(214+(389+(395+(376+(401+(181+(2)))))))))) ⟨boot_heap w.params,⟨[]⟩,boot_drawn,boot_toks,os⟩ (topStub pwL)=some (SF w os):=
 go_top (pre w os) (piece_block (blk w os) (by rw[body];exact piece_app (segRun_of (p1 w os)) (piece_app (segRun_of (p2 w os)) (piece_app (segRun_of (p3 w os)) (piece_app (segRun_of (p4 w os)) (piece_app (segRun_of (p5 w os)) (piece_app (segRun_of (p6 w os)) (piece_app (segRun_of (p7 w os)) (piece_nil (fin w os))))))))))
theorem size(w:World):((boot_heap w.params).isNs mainGlobals&&(Array.mk ([]:List GenState)).size==0,(boot_heap w.params).objs.size,(boot_heap w.params).nsMap mainGlobals "__annotations__")=(true,11,ann):=by
 (try rw[a11]);(try rw[a12]);(try rw[a13]);kernel_rfl
abbrev Xt(s:Shared):Bool:=xlAt q [] s&&recOk [] s
theorem lk1(w:World)(os:OsState):(staticsOk (importedModules pwL.main.body) (boot_heap w.params) (HF w.params)&&namesBound pwL (HF w.params)&&gensDone (SF w os)&&laidKept (boot_heap w.params) (HF w.params))=true:=by
 (try rw[a11]);(try rw[a12]);(try rw[a13]);(try rw[a6]);(try rw[a7]);(try rw[a8]);(try rw[a9]);(try rw[a10]);kernel_rfl
theorem lk2(w:World)(os:OsState):openSeen q [] (importedModules pwL.main.body) Xt true (SF w os)=openGood q []:=by
 (try rw[a11]);(try rw[a12]);(try rw[a13]);(try rw[a6]);(try rw[a7]);(try rw[a8]);(try rw[a9]);(try rw[a10]);kernel_rfl
theorem lk3(w:World)(os:OsState):PySem.W.X.obsZ as (SF w os)=PySem.W.X.valZ K 351 668 w:=by
 (try rw[a11]);(try rw[a12]);(try rw[a13]);(try rw[a6]);(try rw[a7]);(try rw[a8]);(try rw[a9]);(try rw[a10]);kernel_rfl
theorem imports:opening pwL=plainProg pwL.main.scope.names:=by kernel_rfl
theorem left:LeftO pwL q [] Xt (PySem.W.X.obsZ as) (PySem.W.X.valZ K 351 668) 4416:=
 LeftO.of_pieces (boot_open imports (by rfl) (fun s=>by kernel_rfl)) size run (by rfl) fun w=>funext fun os=>looks_pair (lk1 w os) (looks_pair (lk2 w os) (lk3 w os))
end
end H
end K40
open PySem PySem.W PyProof.Rows
set_option maxRecDepth 100000 in
set_option maxHeartbeats 0 in
theorem PySem.Challenge.cw_nextbyrule_k40_whole_far_by_far_holds : PySem.Challenge.rw_nextbyrule_k40_whole_far_by_far.Holds := by
 change K40.rwL.Holds
 w_on;o_law;rename_i said
 refine holds_openX (d:=?d) (kwd:=?kwd) K40.H.left (fun s h=>xl_of s (Bool.and_eq_true_iff.mp h).1) XL.keeps (by rfl) (by rfl) (by rfl) (fun s h=>recFacts_of (Bool.and_eq_true_iff.mp h).2) (by rfl) said (by decide +kernel) ⟨rfl,rfl,rfl,rfl,rfl,by decide +kernel⟩ ?hw ?hc;case hw=>w_witness2
 k_fill
 refine L2.Fl (fun _=>by kernel_rfl) ?_;refine L2.GN (l:=K40.rwL) (n:=63) (k:=K40.Qc) (x:= "_law_script") (CX:=fun w=>L2.uT K40.rwL.prog w) (sp:=fun _=>K40.KJ _) rfl (by decide) rfl ⟨rfl,by decide,by decide⟩ (fun w h Y=>Y) ?F (fun w H a ns hl hb _ hS=>⟨a,ns,rfl,hS,hl,hb,fun _=>rfl⟩) (fun _ _ _ _ _ z=>L2.sY z);case F=>
  intro w mg fa h KX G hmg
  refine' K40.all_mk KX G hmg ?F0 ?F1 ?F2 ?F3 ?F4 ?F5 ?F6 ?F7 ?F8 ?F9 ?F10 ?F11 ?F12 ?F13 ?F14 ?F15 ?F16 ?F17 ?F18 ?F19 ?F20 ?F21 ?F22 ?F23 ?F24 ?F25 ?F26 ?F27 ?F28 ?F29 ?F30 ?F31 ?F32 ?F33 ?F34 ?F35 ?F36 ?F37 ?F38 ?F39 ?F40 ?F41 ?F42 ?F43 ?F44 ?F45 ?FL ?IW ?JW ?Ek ?Jb ?IB ?w6 ?J5 ?wZ ?cI ?dg ?cU ?eU
  (case F0|F1|F2|F3|F4|F5|F6|F7|F8|F9|F10|F11|F12|F13|F14|F15|F16|F17|F18|F19|F20|F21|F22|F23|F24|F25|F26|F27|F28|F29|F30|F31|F32|F33|F34|F35|F36|F37|F38|F39|F40|F41|F42|F43|F44|F45|FL=>(refine' L2.JF ?a ?l ?c ?k;(case a|l|c|k=>k_is)))
  (case IW|JW|Ek|Jb|IB|w6|J5|wZ=>k_is)
  (case cI|dg|cU|eU=>exact⟨_,by k_is⟩)
