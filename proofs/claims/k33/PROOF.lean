import PyProof.Rows.All
import Wide.All
import OpenK.AllK
import Wide.FinOn
import Lean
import PyProof.EqAt
import PyProof.EqKinds
import PyProof.TupleCall
import PySem.Challenge.RW_nextbyrule_k33_every_so_many
local macro_rules | `(tactic| omega)=>`(tactic| lia)
set_option Elab.async false
set_option linter.all false
set_option maxRecDepth 100000
noncomputable section
namespace L2
open PySem PySem.Spec PyProof.Rows
abbrev Key:=Sum Int Str
def QM:Key->Value->Bool
 |.inl k,v=>Value.isInt k v
 |.inr x,v=>Value.isStrOf x v
def ZL(w:World):Key->Int
 |.inl k=>hashInt k
 |.inr x=>hashStr w x
theorem cV:∀{k:Key} {v:Value},QM k v=true->(∃i t,k=Sum.inl i/\v=Value.int i t)∨(∃x t,k=Sum.inr x/\v=Value.str x t)
 |.inl i,v,h=>by
  obtain⟨t,e⟩:=Value.isInt_shape (k:=i) (v:=v) h;exact .inl ⟨i,t,rfl,e⟩
 |.inr x,v,h=>by
  obtain⟨t,e⟩:=Value.isStrOf_shape (x:=x) (v:=v) h;exact .inr ⟨x,t,rfl,e⟩
theorem Qe(a b:Int):decide ((Sum.inl a:Key)=Sum.inl b)=(a==b):=by
 by_cases e:a=b
 ·subst e;simp
 ·have h:¬(Sum.inl a:Key)=Sum.inl b:=fun q=>e (Sum.inl.inj q);rw[decide_eq_false h];exact(beq_eq_false_iff_ne.mpr e).symm
theorem OJ(a b:Str):decide ((Sum.inr a:Key)=Sum.inr b)=decide (a=b):=by
 by_cases e:a=b
 ·subst e;simp
 ·have h:¬(Sum.inr a:Key)=Sum.inr b:=fun q=>e (Sum.inr.inj q);rw[decide_eq_false h,decide_eq_false e]
theorem Oe(a:Int)(b:Str):decide ((Sum.inl a:Key)=Sum.inr b)=false:=decide_eq_false (fun q=>nomatch q)
theorem Q5(a:Str)(b:Int):decide ((Sum.inr a:Key)=Sum.inl b)=false:=decide_eq_false (fun q=>nomatch q)
def pC(prog:Program)(w:World):PySem.KeyKind prog w Key where
 is:=QM
 hash:=ZL w
 inj:=fun v a b ha hb=>by
  rcases cV ha with⟨i,t,rfl,rfl⟩|⟨x,t,rfl,rfl⟩
  ·rcases cV hb with⟨j,u,rfl,e⟩|⟨y,u,rfl,e⟩
   ·injection e with e1 _;rw[e1]
   ·exact nomatch e
  ·rcases cV hb with⟨j,u,rfl,e⟩|⟨y,u,rfl,e⟩
   ·exact nomatch e
   ·injection e with e1 _;rw[e1]
 byValue:=fun k v h=>by
  rcases cV h with⟨i,t,rfl,rfl⟩|⟨x,t,rfl,rfl⟩<;>rfl
 pyHash:=fun hv h=>by
  rcases cV hv with⟨i,t,rfl,rfl⟩|⟨x,t,rfl,rfl⟩
  ·exact wpAny_pyHash_int h
  ·exact wpAny_pyHash_str h
 eqBool:=fun hu hv h=>by
  rcases cV hu with⟨i,t,rfl,rfl⟩|⟨x,t,rfl,rfl⟩
  ·rcases cV hv with⟨j,u,rfl,rfl⟩|⟨y,u,rfl,rfl⟩
   ·rw[Qe]at h;exact wpAny_eqBool_int h
   ·rw[Oe]at h;exact SeqAt.EqAt.int_str i t y u _ _ _ _ h
  ·rcases cV hv with⟨j,u,rfl,rfl⟩|⟨y,u,rfl,rfl⟩
   ·rw[Q5]at h;exact SeqAt.EqAt.str_int x t j u _ _ _ _ h
   ·rw[OJ]at h;exact wpAny_eqBool_str h
 «strs»:=fun k x t v h=>by
  rcases cV h with⟨i,u,rfl,e⟩|⟨y,u,rfl,e⟩
  ·exact nomatch e
  ·injection e with e1 _;subst e1;cases v<;>rfl
inductive V where
 |non|bl (b:Bool)|int (i:Int)|str (x:Str)|byt (b:Array UInt8)|flt (b:UInt64)|ref (a:Addr)|ty (n:String)
 deriving DecidableEq
def RelV:V->Value->Prop
 |.non,u=>u=Value.none
 |.bl b,u=>u=Value.bool b
 |.int i,u=>∃t,u=Value.int i t
 |.str x,u=>∃t,u=Value.str x t
 |.byt b,u=>∃t,u=Value.bytes b t
 |.flt b,u=>∃t,u=Value.float b t
 |.ref a,u=>u=Value.ref a
 |.ty n,u=>u=Value.type n
abbrev Vals:List V->List Value->Prop:=Paired RelV
theorem Vals.length{xs:List V}{us:List Value}(r:Vals xs us):xs.length=us.length:=Paired.length r
theorem Vals.get:∀{xs:List V} {us:List Value} {i:Nat} {x:V},Vals xs us->xs[i]?=some x->∃u,us[i]?=some u/\RelV x u
 |_,_,_,_,.nil,e=>by simp at e
 |_,_,0,_,.cons r _,e=>by simp at e;subst e;exact⟨_,rfl,r⟩
 |_,_,i+1,x,.cons _ t,e=>by
  obtain⟨u,h1,h2⟩:=Vals.get (i:=i) (x:=x) t (by simpa using e);exact⟨u,by simpa using h1,h2⟩
theorem Vals.set{x:V}{u:Value}(r:RelV x u):∀{xs:List V} {us:List Value} (i:Nat),Vals xs us->Vals (xs.set i x) (us.set i u)
 |_,_,_,.nil=> .nil
 |_,_,0,.cons _ t=> .cons r t
 |_,_,i+1,.cons q t=> .cons q (Vals.set r i t)
theorem Vals.append:∀{xs ys:List V} {us ws:List Value},Vals xs us->Vals ys ws->Vals (xs++ys) (us++ws)
 |_,_,_,_,.nil,s=>s
 |_,_,_,_,.cons r t,s=> .cons r (Vals.append t s)
theorem Vals.take:∀{xs:List V} {us:List Value} (n:Nat),Vals xs us->Vals (xs.take n) (us.take n)
 |_,_,0,_=> .nil
 |_,_,_+1,.nil=> .nil
 |_,_,n+1,.cons r t=> .cons r (Vals.take n t)
theorem Vals.drop:∀{xs:List V} {us:List Value} (n:Nat),Vals xs us->Vals (xs.drop n) (us.drop n)
 |_,_,0,r=>r
 |_,_,_+1,.nil=> .nil
 |_,_,n+1,.cons _ t=>Vals.drop n t
def G7:Option V->Option Value->Prop
 |some v,some u=>RelV v u
 |none,none=>True
 |_,_=>False
def KV{κ:Type}:List (κ×V)->List (κ×Value)->Prop:=Paired fun(p:κ×V) (q:κ×Value)=>p.1=q.1/\RelV p.2 q.2
def kV:Key->V
 |.inl i=> .int i
 |.inr x=> .str x
inductive HO where
 /-- a list -/
 |lst (xs:List V)
 /-- a tuple (never changes) -/
 |tup (xs:List V)
 /-- a dict whose keys are ints and texts;one whose keys are tuples of ints and texts (the empty one is both) -/
 |dK (kvs:List (Key×V))|dT (kvs:List (List Key×V))
 /-- a set of ints: its members,its size -/
 |set (S:Int->Bool) (n:Nat)
 /-- an instance of the class at C,its dict at dx,its attributes -/
 |ins (C dx:Addr) (fs:List (Str×V))
 /-- the dict of the instance at x -/
 |own (x:Addr)
 /-- the dict of an exception -/
 |xd (fs:List (Str×V))
 /-- a bound method,f of x -/
 |met (f x:Addr)
 /-- a range object lo,lo+1,.. below hi -/
 |rng (lo hi:Int)
 /-- a thing that is known to the object (the script;a dict while a loop walks it): read,never written while it is so -/
 |frz (o:Obj) (u:HO)
 /-- a code object's table -/
 |tbl (ps:Array Value)
 /-- any other thing,by what is true of its one object (a def of ZF own: aaO a S n:=HO.ext fun h=> ..) -/
 |ext (φ:Heap->Prop)
abbrev Hp:=Addr->Option HO
def upd(H:Hp)(a:Addr)(o:HO):Hp:=fun b=>if b=a then some o else H b
theorem aA{H:Hp}{a:Addr}{o:HO}:upd H a o a=some o:=by unfold upd;rw[if_pos rfl]
theorem cB{H:Hp}{a b:Addr}{o:HO}(h:b≠a):upd H a o b=H b:=by unfold upd;rw[if_neg h]
theorem LR{H:Hp}{a:Addr}{o u:HO}:upd (upd H a o) a u=upd H a u:=by
 funext b;unfold upd;split<;>rfl
theorem dX{H:Hp}{a b:Addr}{o:HO}(h:H a=some o)(h':H b=none):a≠b:=by
 intro e;subst e;rw[h]at h';cases h'
section
variable (P:Program) (w:World)
def iu(H:Hp)(h:Heap)(a:Addr):HO->Prop
 |.lst xs=>xs.length<=sizeLine/\∃(its:List Value) (n:Nat),Vals xs its/\h.get? a=some { cls:= .type "list",data:= .seq its.toArray n }
 |.tup xs=>xs.length<=sizeLine/\∃its:List Value,Vals xs its/\IsTup h a its.toArray
 |.dK kvs=>kvs.length<=sizeLine/\(a==sysModules)=false/\∃vs,KV kvs vs/\h.DictOf (pC P w) a vs
 |.dT kvs=>kvs.length<=sizeLine/\(a==sysModules)=false/\∃xs:List (List Key×Addr×Value),
   Paired (fun(p:List Key×V) (q:List Key×Addr×Value)=>p.1=q.1/\H q.2.1=some (.tup (p.1.map kV))/\RelV p.2 q.2.2) kvs xs/\
   ∃o es ep,h.get? a=some o/\o.ExactDict/\o.data = .dict es ep/\es.toList=xs.map (entryOfKey (tupleKind (pC P w)))/\(xs.map (·.1)).Nodup
 |.set S n=>h.SetOf (intKind P w) a S n
 |.ins C dx fs=>H dx=some (.own a)/\fs.length<=1000/\dx≠a/\h.get? a=some (W.instObj C dx)/\
   ∃mA,h.Ns1 dx mA/\(∀f,G7 (fs.lookup f) (mA f))/\PySem.Within mA (fs.map (·.1))
 |.own _=>∃o,h.get? a=some o
 |.xd fs=>∃mA,h.Ns1 a mA/\∀f,G7 (fs.lookup f) (mA f)
 |.rng lo hi=>∃t u v,h.get? a=some { cls:= .type "range",data:= .fields #[.int lo t,.int hi u,.int 1 v] }
 |.frz o u=>h.get? a=some o/\iu H h a u
 |.tbl ps=>h.get? a=some { cls:= .none,data:= .fields ps }
 |.met f x=>h.get? a=some (W.methodObj (.ref f) (.ref x))
 |.ext φ=>φ h/\(∃o,h.get? a=some o)/\∀h1 h2:Heap,φ h1->(∀o,h1.get? a=some o->h2.get? a=some o)->φ h2
def HOk(H:Hp)(h:Heap):Prop:=∀a o,H a=some o->iu P w H h a o
end
section
variable {P:Program} {w:World} {H H':Hp} {h h':Heap} {a:Addr} {o:HO}
theorem iu.lt(x:iu P w H h a o):a<h.objs.size:=by
 cases o with
 |lst xs=>obtain⟨_,_,_,_,e⟩:=x;exact Heap.lt_size e
 |tup xs=>obtain⟨_,_,_,p⟩:=x;exact p.lt
 |dK kvs=>obtain⟨_,_,_,_,o,_,_,e,_⟩:=x;exact Heap.lt_size e
 |dT kvs=>obtain⟨_,_,_,_,o,_,_,e,_⟩:=x;exact Heap.lt_size e
 |set S n=>obtain⟨o,_,_,_,e,_⟩:=x;exact Heap.lt_size e
 |ins C dx fs=>obtain⟨_,_,_,e,_⟩:=x;exact Heap.lt_size e
 |own y=>obtain⟨_,e⟩:=x;exact Heap.lt_size e
 |xd fs=>obtain⟨_,⟨_,_,_,e,_⟩,_⟩:=x;exact Heap.lt_size e
 |rng lo hi=>obtain⟨_,_,_,e⟩:=x;exact Heap.lt_size e
 |frz ob u=>obtain⟨e,_⟩:=x;exact Heap.lt_size e
 |tbl ps=>exact Heap.lt_size (show h.get? a=some _ from x)
 |met f y=>exact Heap.lt_size (show h.get? a=some _ from x)
 |ext φ=>obtain⟨_,⟨_,e⟩,_⟩:=x;exact Heap.lt_size e
theorem Paired.Yx{α β:Type}{F G:α->β->Prop}:∀{l₁:List α} {l₂:List β},Paired F l₁ l₂->(∀a b,F a b->G a b)->Paired G l₁ l₂
 |_,_,.nil,_=> .nil
 |_,_,.cons r t,f=> .cons (f _ _ r) (Paired.Yx t f)
theorem iu.stay(x:iu P w H h a o)(k:∀b u,(b=a∨H b=some (.own a))->h.get? b=some u->h'.get? b=some u)
  (ho:∀b,H b=some (.own a)->H' b=some (.own a)) (ht:∀b xs,H b=some (.tup xs)->H' b=some (.tup xs)):iu P w H' h' a o:=by
 induction o with
 |lst xs=>obtain⟨z,its,n,r,e⟩:=x;exact⟨z,its,n,r,k _ _ (.inl rfl) e⟩
 |tup xs=>obtain⟨z,its,r,ob,e,c⟩:=x;exact⟨z,its,r,ob,k _ _ (.inl rfl) e,c⟩
 |dK kvs=>obtain⟨z,y,vs,r,ob,es,ep,e,c⟩:=x;exact⟨z,y,vs,r,ob,es,ep,k _ _ (.inl rfl) e,c⟩
 |dT kvs=>
  obtain⟨z,y,xs,r,ob,es,ep,e,c⟩:=x;exact⟨z,y,xs,Paired.Yx r fun p q z=>⟨z.1,ht _ _ z.2.1,z.2.2⟩,ob,es,ep,k _ _ (.inl rfl) e,c⟩
 |set S n=>obtain⟨ob,es,ep,t,e,c⟩:=x;exact⟨ob,es,ep,t,k _ _ (.inl rfl) e,c⟩
 |ins C dx fs=>
  obtain⟨d,z,ne,e,mA,⟨od,es,ep,e2,c⟩,r⟩:=x;exact⟨ho _ d,z,ne,k _ _ (.inl rfl) e,mA,⟨od,es,ep,k _ _ (.inr d) e2,c⟩,r⟩
 |own y=>obtain⟨ob,e⟩:=x;exact⟨ob,k _ _ (.inl rfl) e⟩
 |xd fs=>obtain⟨mA,⟨od,es,ep,e,c⟩,r⟩:=x;exact⟨mA,⟨od,es,ep,k _ _ (.inl rfl) e,c⟩,r⟩
 |rng lo hi=>obtain⟨t,u,v,e⟩:=x;exact⟨t,u,v,k _ _ (.inl rfl) e⟩
 |frz ob u ih=>obtain⟨e,q⟩:=x;exact⟨k _ _ (.inl rfl) e,ih q⟩
 |tbl ps=>
  have e:h.get? a=some { cls:= .none,data:= .fields ps }:=x;show h'.get? a=some { cls:= .none,data:= .fields ps };exact k a _ (.inl rfl) e
 |met f y=>
  have e:h.get? a=some (W.methodObj (.ref f) (.ref y)):=x;show h'.get? a=some (W.methodObj (.ref f) (.ref y));exact k a _ (.inl rfl) e
 |ext φ=>obtain⟨p,⟨o,e⟩,st⟩:=x;exact⟨st _ _ p fun o q=>k _ _ (.inl rfl) q,⟨o,k _ _ (.inl rfl) e⟩,st⟩
theorem HOk.lt(x:HOk P w H h)(e:H a=some o):a<h.objs.size:=(x a o e).lt
theorem HOk.fresh(x:HOk P w H h)(e:h.objs.size<=a):H a=none:=by
 cases q:H a with
 |none=>rfl
 |some u=>exact absurd (Nat.lt_of_lt_of_le (x.lt q) e) (Nat.lt_irrefl _)
theorem HOk.kept(x:HOk P w H h)(k:∀b u,h.get? b=some u->h'.get? b=some u):HOk P w H h':=fun a o e=>
 (x a o e).stay (fun b u _ q=>k b u q) (fun _ q=>q) fun _ _ q=>q
theorem HOk.laid(x:HOk P w H h)(k:∀b u,h.get? b=some u->h'.get? b=some u)(hp:h.objs.size<=a)(new:iu P w (upd H a o) h' a o):HOk P w (upd H a o) h':=fun b u e=>by
 have hn:=x.fresh hp;by_cases hb:b=a
 ·subst hb;rw[aA]at e;cases e;exact new
 ·rw[cB hb]at e;exact(x b u e).stay (fun c v _ q=>k c v q) (fun c q=>by rw[cB (dX q hn)];exact q) fun c xs q=>by rw[cB (dX q hn)];exact q
end
def Rd(H:Hp)(a:Addr)(u:HO):Prop:=H a=some u∨∃o,H a=some (.frz o u)
theorem Rd.ok{P:Program}{w:World}{H:Hp}{h:Heap}{a:Addr}{u:HO}(r:Rd H a u)(x:HOk P w H h):iu P w H h a u:=by
 rcases r with r|⟨o,r⟩
 ·exact x a u r
 ·obtain⟨_,q⟩:=x a _ r;exact q
def Mut:Option HO->Prop
 |some (.lst _)=>True
 |some (.dK _)=>True
 |some (.dT _)=>True
 |some (.set _ _)=>True
 |some (.ins _ _ _)=>True
 |some (.ext _)=>True
 |_=>False
section
variable {P:Program} {w:World} {H:Hp} {h h':Heap} {x e:Addr} {o':HO}
theorem HOk.write(ok:HOk P w H h)(mu:Mut (H x))(he:e=x∨H e=some (.own x))(k:∀b u,b≠e->h.get? b=some u->h'.get? b=some u)(heo:∃u,h'.get? e=some u)
  (new:iu P w (upd H x o') h' x o'):HOk P w (upd H x o') h':=fun b u q=>by
 have YC:∀c y,H c=some (.own y)->c≠x:=fun c y r z=>by subst z;rw[r]at mu;exact mu
 have Z1:∀c xs,H c=some (.tup xs)->c≠x:=fun c xs r z=>by subst z;rw[r]at mu;exact mu
 by_cases hb:b=x
 ·subst hb;rw[aA]at q;cases q;exact new
 ·rw[cB hb]at q;by_cases hbe:b=e
  ·have q':H b=some (.own x):=by
    rcases he with z|z
    ·exact absurd (hbe.trans z) hb
    ·rw[hbe];exact z
   rw[q]at q';cases q';obtain⟨v,hv⟩:=heo;exact⟨v,by rw[hbe];exact hv⟩
  ·refine(ok b u q).stay (fun c v hc r=>k c v ?_ r) (fun c r=>by rw[cB (YC c b r)];exact r) fun c xs r=>by rw[cB (Z1 c xs r)];exact r
   rcases hc with rfl|hc
   ·exact hbe
   ·rintro rfl;rcases he with z|z
    ·exact YC c b hc z
    ·rw[hc]at z;cases z;exact hb rfl
end
structure Un(fs ex:List Addr)(H H':Hp)(h h':Heap):Prop where
 keep:∀b o,h.get? b=some o->H b=none->b∉fs->b∉ex->h'.get? b=some o
 slot:∀b o,h.get? b=some o->H b=none->b∈fs->b∉ex->∃sl,h'.get? b=some { o with slots:=sl }
 free:∀b o,h.get? b=some o->H b=none->b∉ex->H' b=none
 there:∀b o,h.get? b=some o->b∉ex->∃o',h'.get? b=some o'
 tups:∀b xs,H b=some (.tup xs)->H' b=some (.tup xs)
 yE:∀b o u,H b=some (.frz o u)->H' b=some (.frz o u)
 Ak:∀b ps,H b=some (.tbl ps)->∃more,H' b=some (.tbl (ps++more))
section
variable {fs fs' ex ex':List Addr} {H H1 H2:Hp} {h h1 h2 h':Heap} {a x e:Addr} {o:HO}
theorem Un.any(u:Un fs ex H H1 h h1){b:Addr}{ob:Obj}(q:h.get? b=some ob)(n:H b=none)(hx:b∉ex):∃sl,h1.get? b=some { ob with slots:=sl }:=by
 by_cases hb:b∈fs
 ·exact u.slot b ob q n hb hx
 ·exact⟨ob.slots,u.keep b ob q n hb hx⟩
theorem Un.kept(k:∀b u,h.get? b=some u->h'.get? b=some u):Un fs ex H H h h':=
 ⟨fun b ob q _ _ _=>k b ob q,fun b ob q _ _ _=>⟨ob.slots,k b ob q⟩,fun _ _ _ n _=>n,fun b ob q _=>⟨ob,k b ob q⟩,fun _ _ q=>q,fun _ _ _ q=>q,fun _ ps q=>⟨#[],by rw[q];simp⟩⟩
theorem Un.refl:Un fs ex H H h h:=Un.kept fun _ _ q=>q
theorem Un.laid(k:∀b u,h.get? b=some u->h'.get? b=some u)(hp:h.objs.size<=a)(hn:H a=none):Un fs ex H (upd H a o) h h' where
 keep:=fun b u q _ _ _=>k b u q
 slot:=fun b u q _ _ _=>⟨u.slots,k b u q⟩
 free:=fun b u q n _=>by rw[cB (Nat.ne_of_lt (Nat.lt_of_lt_of_le (Heap.lt_size q) hp))];exact n
 there:=fun b u q _=>⟨u,k b u q⟩
 tups:=fun b xs q=>by rw[cB (dX q hn)];exact q
 yE:=fun b u xs q=>by rw[cB (dX q hn)];exact q
 Ak:=fun b ps q=>⟨#[],by rw[cB (dX q hn),q];simp⟩
theorem Un.write(mu:Mut (H x))(he:e=x∨H e=some (.own x))(k:∀b u,b≠e->h.get? b=some u->h'.get? b=some u)(heo:∃u,h'.get? e=some u):Un fs ex H (upd H x o) h h':=by
 have hx:∀b,H b=none->b≠x:=fun b n z=>by subst z;rw[n]at mu;exact mu
 have hb:∀b,H b=none->b≠e:=fun b n z=>by
  subst z;rcases he with r|r
  ·exact hx b n r
  ·rw[n]at r;cases r
 have hm:∀b u,H b=some u->¬Mut (some u)->b≠x:=fun b u q nm z=>by subst z;rw[q]at mu;exact nm mu
 refine⟨fun b u q n _ _=>k b u (hb b n) q,fun b u q n _ _=>⟨u.slots,k b u (hb b n) q⟩,fun b u q n _=>by rw[cB (hx b n)];exact n,fun b u q _=>?_,
  fun b xs q=>by rw[cB (hm b _ q fun z=>z)];exact q,fun b u xs q=>by rw[cB (hm b _ q fun z=>z)];exact q,fun b ps q=>⟨#[],by rw[cB (hm b _ q fun z=>z),q];simp⟩⟩
 by_cases hbe:b=e
 ·subst hbe;exact heo
 ·exact⟨u,k b u hbe q⟩
end
def trk(h:Heap)(H:Hp):List Addr:=(List.range h.objs.size).filter fun a=>(H a).isSome
def Hy(h:Heap)(H:Hp):Heap:=W.hideAll h (trk h H)
theorem Fe(h:Heap)(H:Hp):(Hy h H).objs.size=h.objs.size:=W.hideAll_size _ _
theorem G9{h:Heap}{H:Hp}{b:Addr}{o:Obj}(e:h.get? b=some o)(n:H b=none):(Hy h H).get? b=some o:=
 W.hideAll_get _ e fun hm=>by
  have q:(H b).isSome=true:=(List.mem_filter.mp hm).2;rw[n]at q;simp at q
theorem Mg{h:Heap}{H:Hp}{b:Addr}{o:Obj}(e:(Hy h H).get? b=some o):h.get? b=some o/\H b=none:=by
 have e':h.get? b=some o:=W.of_hideAll (trk h H) e;refine⟨e',?_⟩;cases q:H b with
 |none=>rfl
 |some x=>
  have hm:b∈trk h H:=List.mem_filter.mpr ⟨List.mem_range.mpr (Heap.lt_size e'),by simp[q]⟩;have z:(Hy h H).get? b=none:=W.hideAll_none (trk h H) hm;rw[z]at e;cases e
structure Mod(K:W.Frag)(mg:Str->Option Value)(base:Heap):Prop where
 kin:K.In base
 glob:base.Ns mainGlobals mg
 blt:∃mb,base.Ns builtinsNs mb/\∀x:Str,x≠ "__name__" -> mb x=bootBuiltins x
 nolimit:base.NoLimit
 digits:base.NoDigits
structure Cx where
 prog:Program
 w:World
 K:W.Frag
 mg:Str->Option Value
 base:Heap
 A:Around
 N:List Str
 s₀:Shared
 H₀:Hp
 env:Env
 outer:List Env
 stack:List Env
 ex:List Addr
 fn:Str->Bool
 calm:Bool
 pn:List (Addr×Obj)
 xe:Value->Shared->Prop
def frs(l:List Env):List Addr:=l.filterMap (·.frame)
abbrev Cx.fs(X:Cx):List Addr:=frs X.outer
def Vis(sc:Scope)(x:Str):Prop:=sc.names.lookup x=some .local∨sc.names.lookup x=some .cell∨sc.names.lookup x=some .free
def Loc(sc:Scope)(x:Str):Prop:=sc.names.lookup x=some .local∨sc.names.lookup x=some .cell
def Look(env:Env)(h:Heap)(m:Str->Option Value)(x:Str)(u:Value):Prop:=
 (env.kindOf x=some .local/\m x=some u)∨((env.kindOf x=some .cell∨env.kindOf x=some .free)/\∃c,env.cells.lookup x=some c/\h.IsCell c (some u))
structure Cx.Ok(X:Cx):Prop where
 mod:Mod X.K X.mg X.base
 kind:X.env.scope.kind = .function
 glob:X.env.globals=mainGlobals
 blt:X.env.builtins=builtinsNs
 above:X.s₀.heap.objs.size<=X.env.locals
 inj:∀x y c,X.env.cells.lookup x=some c->X.env.cells.lookup y=some c->x=y
 has:∀x,(X.env.kindOf x=some .cell∨X.env.kindOf x=some .free)->∃c,X.env.cells.lookup x=some c
 cab:∀x c,X.fn x=true->X.env.cells.lookup x=some c->X.s₀.heap.objs.size<=c
 hd:X.calm=true->X.A.handled=none
 frames:X.A.frames=some X.stack
 stk:X.stack=X.outer∨(X.stack=X.env::X.outer/\X.env.frame=some X.env.locals)
 exf:∀b∈X.ex,b≠X.env.locals/\∀x c,X.env.cells.lookup x=some c->c≠b
 bs:∀b o,X.base.get? b=some o->X.s₀.heap.get? b=some o/\X.H₀ b=none
 bsz:X.base.objs.size<=X.s₀.heap.objs.size
 Mq:∀b o,X.base.get? b=some o->b∉X.ex
 Nb:∀b∈X.ex,b∉X.fs
 C4:X.s₀.heap.FunFrames X.base X.outer
 frf:∀b∈X.fs,X.H₀ b=none
structure Inv(X:Cx)(pins:List (Addr×Obj))(σ:List (Option V))(H:Hp)(s:Shared):Prop where
 ok:X.Ok
 os:s.os=X.s₀.os
 bare:AllBare s.gens
 base:Un X.fs X.ex X.H₀ H X.s₀.heap s.heap
 loc:∃m,s.heap.Ns X.env.locals m/\∀(i:Nat) (x:Str) (v:V),X.N[i]?=some x->σ[i]?=some (some v)->Vis X.env.scope x->∃u,RelV v u/\Look X.env s.heap m x u
 cell:∀x c,X.env.cells.lookup x=some c->∃v,s.heap.IsCell c v
 free:H X.env.locals=none
 nH:∀x c,X.env.cells.lookup x=some c->H c=none
 pin:∀p∈X.pn++pins,s.heap.get? p.1=some p.2/\H p.1=none/\p.1≠X.env.locals/\p.1∉X.fs/\∀v,p.2.data≠ .cell v
 hok:HOk X.prog X.w H s.heap
 len:σ.length=X.N.length
section
variable {X:Cx} {pins:List (Addr×Obj)} {σ:List (Option V)} {H H':Hp} {s:Shared} {h':Heap}
theorem Cx.Ok.Zu(ok:X.Ok){b:Addr}{o:Obj}(e:X.base.get? b=some o):b∉X.fs:=fun hb=>by
 have:=(ok.C4.mem hb).1;rw[e]at this;cases this
theorem Inv.bs(I:Inv X pins σ H s):∀b o,X.base.get? b=some o->s.heap.get? b=some o/\H b=none:=fun b o e=>
 ⟨I.base.keep b o (I.ok.bs b o e).1 (I.ok.bs b o e).2 (I.ok.Zu e) (I.ok.Mq b o e),I.base.free b o (I.ok.bs b o e).1 (I.ok.bs b o e).2 (I.ok.Mq b o e)⟩
theorem Inv.bk(I:Inv X pins σ H s):∀b o,X.base.get? b=some o->s.heap.get? b=some o:=fun b o e=>(I.bs b o e).1
theorem Inv.mod(I:Inv X pins σ H s):Mod X.K X.mg X.base:=I.ok.mod
theorem Inv.kIn(I:Inv X pins σ H s):X.K.In s.heap:=I.ok.mod.kin.keeps I.bk
theorem Inv.lt(I:Inv X pins σ H s):X.env.locals<s.heap.objs.size:=let⟨_,hn,_⟩:=I.loc;hn.lt
theorem Inv.sz(I:Inv X pins σ H s):X.s₀.heap.objs.size<=s.heap.objs.size:=Nat.le_trans I.ok.above (Nat.le_of_lt I.lt)
theorem Inv.aae(I:Inv X pins σ H s){a:Addr}(h:s.heap.objs.size<=a):a∉X.fs:=fun hb=>by
 obtain⟨_,o,ho,_⟩:=I.ok.C4.mem hb;exact absurd (Nat.lt_of_lt_of_le (Heap.lt_size ho) (Nat.le_trans I.sz h)) (Nat.lt_irrefl _)
theorem Inv.cne(I:Inv X pins σ H s):∀x c,X.env.cells.lookup x=some c->c≠X.env.locals:=fun x c e z=>by
 obtain⟨v,o,ho,hd⟩:=I.cell x c e;obtain⟨m,⟨o',es,ep,ho',hd',_⟩,_⟩:=I.loc;rw[z,ho']at ho;cases ho;rw[hd']at hd;cases hd
theorem Inv.C4(I:Inv X pins σ H s):s.heap.FunFrames X.base X.outer:=by
 have all:∀(l:List Env),(∀b∈frs l,b∈X.fs)->X.s₀.heap.FunFrames X.base l->s.heap.FunFrames X.base l:=by
  intro l;induction l with
  |nil=>intro _ _;trivial
  |cons env r ih=>
   intro hs hl;obtain⟨hk,⟨L,o,hf,hn,ho,hd⟩,hr⟩:=hl;have hL:L∈X.fs:=hs L (by unfold frs;rw[List.filterMap_cons,hf];exact List.mem_cons_self);obtain⟨sl,e⟩:=I.base.slot L o ho (I.ok.frf L hL) hL fun z=>I.ok.Nb L z hL;exact⟨hk,⟨L,_,hf,hn,e,hd⟩,ih (fun b hb=>hs b (by unfold frs;rw[List.filterMap_cons,hf];exact List.mem_cons_of_mem _ hb)) hr⟩
 exact all X.outer (fun _ hb=>hb) I.ok.C4
theorem Inv.stack(I:Inv X pins σ H s):s.heap.FunFrames X.base X.stack:=by
 rcases I.ok.stk with e|⟨e,hf⟩
 ·rw[e];exact I.C4
 ·rw[e];obtain⟨m,hn,_⟩:=I.loc;refine .cons (by rw[I.ok.kind];decide) hf hn ?_ I.C4;exact Heap.get?_none_of_le (Nat.le_trans I.ok.bsz I.ok.above)
theorem Inv.xu(I:Inv X pins σ H s):∀b∈frs X.stack,b∈X.env.locals::X.fs:=fun b hb=>by
 rcases I.ok.stk with e|⟨e,hf⟩
 ·rw[e]at hb;exact List.mem_cons_of_mem _ hb
 ·rw[e]at hb;unfold frs at hb;rw[List.filterMap_cons,hf]at hb;exact hb
theorem Inv.vK(I:Inv X pins σ H s):∀b∈frs X.stack,H b=none:=fun b hb=>by
 rcases List.mem_cons.mp (I.xu b hb)with e|hb
 ·rw[e];exact I.free
 ·obtain⟨_,o,ho,_⟩:=I.ok.C4.mem hb;exact I.base.free b o ho (I.ok.frf b hb) fun z=>I.ok.Nb b z hb
theorem Inv.step{g':Array GenState}{t':Nat}{d':Drawn}{ch:List Addr}(I:Inv X pins σ H s)
  (hch:∀b∈ch,(b∈X.ex∨X.s₀.heap.objs.size<=b)/\b≠X.env.locals/\(∀x c,X.env.cells.lookup x=some c->c≠b)/\∀p∈X.pn++pins,p.1≠b)
  (keep:∀b o,b≠X.env.locals->b∉X.fs->b∉ch->s.heap.get? b=some o->H b=none->h'.get? b=some o)
  (slot:∀b o,b≠X.env.locals->b∈X.fs->b∉ch->s.heap.get? b=some o->H b=none->∃sl,h'.get? b=some { o with slots:=sl }) (free:∀b o,b∉ch->s.heap.get? b=some o->H b=none->H' b=none)
  (there:∀b o,b∉ch->s.heap.get? b=some o->∃o',h'.get? b=some o')
  (tups:∀b xs,H b=some (.tup xs)->H' b=some (.tup xs)) (yE:∀b o u,H b=some (.frz o u)->H' b=some (.frz o u)) (Ak:∀b ps,H b=some (.tbl ps)->∃more,H' b=some (.tbl (ps++more)))
  (ns:∀m,s.heap.Ns X.env.locals m->h'.Ns X.env.locals m) (hok:HOk X.prog X.w H' h') (hg:AllBare g'):
  Inv X pins σ H' { s with heap:=h',gens:=g',drawn:=d',toks:=t' }:=by
 have neL:∀b o,X.s₀.heap.get? b=some o->b≠X.env.locals:=fun b o e=>Nat.ne_of_lt (Nat.lt_of_lt_of_le (Heap.lt_size e) I.ok.above);have neC:∀b o,X.s₀.heap.get? b=some o->b∉X.ex->b∉ch:=fun b o e hx hb=>by
  rcases(hch b hb).1 with z|z
  ·exact hx z
  ·exact absurd (Nat.lt_of_lt_of_le (Heap.lt_size e) z) (Nat.lt_irrefl _)
 have cellK:∀x c,X.env.cells.lookup x=some c->∀v,s.heap.IsCell c v->h'.IsCell c v:=fun x c e v ⟨o,ho,hd⟩=>by
  have nch:c∉ch:=fun z=>(hch c z).2.2.1 x c e rfl;by_cases hc:c∈X.fs
  ·obtain⟨sl,q⟩:=slot c o (I.cne x c e) hc nch ho (I.nH x c e);exact⟨_,q,hd⟩
  ·exact⟨o,keep c o (I.cne x c e) hc nch ho (I.nH x c e),hd⟩
 refine⟨I.ok,I.os,hg,⟨fun b o e n hb hx=>?_,fun b o e n hb hx=>?_,fun b o e n hx=>?_,fun b o e hx=>?_,fun b xs e=>tups b xs (I.base.tups b xs e),fun b o xs e=>yE b o xs (I.base.yE b o xs e),fun b ps e=>?_⟩,?_,fun x c e=>?_,?_,fun x c e=>?_,fun p hp=>?_,hok,I.len⟩
 ·exact keep b o (neL b o e) hb (neC b o e hx) (I.base.keep b o e n hb hx) (I.base.free b o e n hx)
 ·obtain⟨sl,e1⟩:=I.base.slot b o e n hb hx;obtain⟨sl',e2⟩:=slot b _ (neL b o e) hb (neC b o e hx) e1 (I.base.free b o e n hx);exact⟨sl',e2⟩
 ·obtain⟨o',e1⟩:=I.base.there b o e hx;exact free b o' (neC b o e hx) e1 (I.base.free b o e n hx)
 ·obtain⟨o',e1⟩:=I.base.there b o e hx;exact there b o' (neC b o e hx) e1
 ·obtain⟨m1,e1⟩:=I.base.Ak b ps e;obtain⟨m2,e2⟩:=Ak b _ e1;exact⟨m1++m2,by rw[e2,Array.append_assoc]⟩
 ·obtain⟨m,hn,hl⟩:=I.loc;refine⟨m,ns m hn,fun i x v e1 e2 e3=>?_⟩;obtain⟨u,r,l⟩:=hl i x v e1 e2 e3;refine⟨u,r,?_⟩;rcases l with l|⟨k,c,e,z⟩
  ·exact .inl l
  ·exact .inr ⟨k,c,e,cellK x c e _ z⟩
 ·obtain⟨v,z⟩:=I.cell x c e;exact⟨v,cellK x c e v z⟩
 ·obtain⟨m,⟨o,_,_,ho,_⟩,_⟩:=I.loc;exact free _ o (fun z=>(hch _ z).2.1 rfl) ho I.free
 ·obtain⟨v,o,ho,hd⟩:=I.cell x c e;exact free c o (fun z=>(hch c z).2.2.1 x c e rfl) ho (I.nH x c e)
 ·obtain⟨e,n,ne,nf,d⟩:=I.pin p hp;have nch:p.1∉ch:=fun z=>(hch p.1 z).2.2.2 p hp rfl;exact⟨keep p.1 p.2 ne nf nch e n,free p.1 p.2 nch e n,ne,nf,d⟩
theorem Inv.un{t':Nat}(I:Inv X pins σ H s)(u:Un X.fs [] H H' s.heap h')(hok:HOk X.prog X.w H' h'):Inv X pins σ H' { s with heap:=h',toks:=t' }:=by
 obtain⟨m,⟨o,es,ep,ho,r⟩,_⟩:=id I.loc;obtain⟨sl,hL⟩:=u.any ho I.free (by simp);exact I.step (g':=s.gens) (d':=s.drawn) (ch:=[]) (fun _ z=>nomatch z) (fun b o _ hb _ e n=>u.keep b o e n hb (by simp)) (fun b o _ hb _ e n=>u.slot b o e n hb (by simp)) (fun b o _ e n=>u.free b o e n (by simp)) (fun b o _ e=>u.there b o e (by simp)) u.tups u.yE u.Ak (fun m' hm=>by
  obtain⟨o',es',ep',ho',r'⟩:=hm;rw[ho]at ho';cases ho';exact⟨_,es',ep',hL,r'⟩) hok I.bare
theorem Inv.call{g':Array GenState}{t':Nat}{d':Drawn}{ch:List Addr}(I:Inv X pins σ H s)(u:Un (frs X.stack) ch H H' s.heap h')(hok:HOk X.prog X.w H' h')(hg:AllBare g')
  (hch:∀b∈ch,(b∈X.ex∨X.s₀.heap.objs.size<=b)/\b≠X.env.locals/\(∀x c,X.env.cells.lookup x=some c->c≠b)/\∀p∈X.pn++pins,p.1≠b):
  Inv X pins σ H' { s with heap:=h',gens:=g',drawn:=d',toks:=t' }:=by
 obtain⟨m,⟨o,es,ep,ho,r⟩,_⟩:=id I.loc;obtain⟨sl,hL⟩:=u.any ho I.free fun z=>(hch _ z).2.1 rfl;exact I.step (ch:=ch) hch (fun b o hL hb hc e n=>u.keep b o e n (fun z=>(List.mem_cons.mp (I.xu b z)).elim hL hb) hc) (fun b o _ _ hc e n=>u.any e n hc) (fun b o hc e n=>u.free b o e n hc) (fun b o hc e=>u.there b o e hc) u.tups u.yE u.Ak (fun m' hm=>by
  obtain⟨o',es',ep',ho',r'⟩:=hm;rw[ho]at ho';cases ho';exact⟨_,es',ep',hL,r'⟩) hok hg
theorem Inv.turned{t':Nat}{it:Addr}(I:Inv X pins σ H s)(k:∀b o,b≠it->s.heap.get? b=some o->h'.get? b=some o)(hn:H it=none)(hL:it≠X.env.locals)
  (h1:it∈X.ex∨X.s₀.heap.objs.size<=it) (h2:∀x c,X.env.cells.lookup x=some c->c≠it) (h3:∀p∈X.pn++pins,p.1≠it):Inv X pins σ H { s with heap:=h',toks:=t' }:=by
 have nit:∀b u,H b=some u->b≠it:=fun b u e z=>by rw[z,hn]at e;cases e
 refine I.step (g':=s.gens) (d':=s.drawn) (ch:=[it]) (fun b hb=>?_) (fun b o _ _ hc e _=>k b o (fun z=>hc (by simp[z])) e) (fun b o _ _ hc e _=>⟨o.slots,k b o (fun z=>hc (by simp[z])) e⟩) (fun _ _ _ _ n=>n)
  (fun b o hc e=>⟨o,k b o (fun z=>hc (by simp[z])) e⟩) (fun _ _ e=>e) (fun _ _ _ e=>e) (fun b ps e=>⟨#[],by rw[e];simp⟩) (fun m hm=>?_) (fun b u e=>?_) I.bare
 ·have e:b=it:=by simpa using hb
  subst e;exact⟨h1,hL,h2,h3⟩
 ·obtain⟨o,es,ep,ho,r⟩:=hm;exact⟨o,es,ep,k _ o (Ne.symm hL) ho,r⟩
 ·refine(I.hok b u e).stay (fun c v hc q=>k c v ?_ q) (fun _ q=>q) fun _ _ q=>q;rcases hc with z|z
  ·rw[z];exact nit b u e
  ·exact nit c _ z
theorem Inv.tok(I:Inv X pins σ H s)(t:Nat):Inv X pins σ H { s with toks:=t }:=I.un (h':=s.heap) (t':=t) Un.refl I.hok
theorem Inv.kept{t':Nat}(I:Inv X pins σ H s)(k:∀b u,s.heap.get? b=some u->h'.get? b=some u):Inv X pins σ H { s with heap:=h',toks:=t' }:=I.un (Un.kept k) (I.hok.kept k)
theorem Inv.laid{a:Addr}{o:HO}{t':Nat}(I:Inv X pins σ H s)(k:∀b u,s.heap.get? b=some u->h'.get? b=some u)(hp:s.heap.objs.size<=a)(new:iu X.prog X.w (upd H a o) h' a o):
  Inv X pins σ (upd H a o) { s with heap:=h',toks:=t' }:=I.un (Un.laid k hp (I.hok.fresh hp)) (I.hok.laid k hp new)
theorem Inv.write{x e:Addr}{o:HO}{t':Nat}(I:Inv X pins σ H s)(mu:Mut (H x))(he:e=x∨H e=some (.own x))(k:∀b u,b≠e->s.heap.get? b=some u->h'.get? b=some u)(heo:∃u,h'.get? e=some u)
  (new:iu X.prog X.w (upd H x o) h' x o):Inv X pins σ (upd H x o) { s with heap:=h',toks:=t' }:=I.un (Un.write mu he k heo) (I.hok.write mu he k heo new)
theorem Inv.Dy{Qz:List (Addr×Obj)}(I:Inv X pins σ H s)(h:∀p∈Qz,s.heap.get? p.1=some p.2/\H p.1=none/\p.1≠X.env.locals/\p.1∉X.fs/\∀v,p.2.data≠ .cell v):Inv X Qz σ H s:=
 ⟨I.ok,I.os,I.bare,I.base,I.loc,I.cell,I.free,I.nH,fun p hp=>(List.mem_append.mp hp).elim (fun z=>I.pin p (List.mem_append_left _ z)) (h p),I.hok,I.len⟩
theorem wB{N:List Str}(hN:N.Nodup){i j:Nat}{x:Str}(a:N[i]?=some x)(b:N[j]?=some x):i=j:=by
 obtain⟨h1,e1⟩:=List.getElem?_eq_some_iff.mp a;obtain⟨h2,e2⟩:=List.getElem?_eq_some_iff.mp b;exact(List.getElem_inj hN).mp (e1.trans e2.symm)
theorem E8{M:Model}{A:Around}{E:Value->Shared->Prop}{i:Nat}{x:Str}{v:V}{u:Value}{Q:Unit->Shared->Prop}(I:Inv X pins σ H s)(hN:X.N.Nodup)(hi:X.N[i]?=some x)(hx:Loc X.env.scope x)(r:RelV v u)
  (h:∀s',Inv X pins (σ.set i (some v)) H s'->(∃a,Heap.SameBut a s.heap s'.heap/\(a=X.env.locals∨X.env.cells.lookup x=some a))->Q () s') (hf:X.fn x=true∨X.env.scope.names.lookup x=some .local:=by first|exact .inl rfl|exact .inr rfl|assumption):wpAny M A (storeName X.env x u) Q E s:=by
 obtain⟨m,hn,hl⟩:=id I.loc;have hcls:(X.env.scope.kind== .class||(X.env.scope.kind== .module&&X.env.locals != X.env.globals))=false:=by rw[I.ok.kind];rfl
 have hiσ:i < σ.length:=by rw[I.len];exact(List.getElem?_eq_some_iff.mp hi).1
 have cne:=I.cne;have tracked:∀{a:Addr} {h':Heap},(∃o,s.heap.get? a=some o/\H a=none)->Heap.SameBut a s.heap h'->HOk X.prog X.w H h':=fun {a h'} ha hs b ob e=>by
  obtain⟨_,_,hfree⟩:=ha;refine(I.hok b ob e).stay (fun c w' hc q=>(hs.2 c ?_).trans q) (fun _ q=>q) fun _ _ q=>q;rintro rfl;rcases hc with rfl|hc
  ·rw[hfree]at e;cases e
  ·rw[hfree]at hc;cases hc
 rcases hx with hk|hk
 ·refine wpAny_storeName_local hk hn (fun h' hn' hs=>?_) hcls;obtain⟨oL,_,_,hoL,_⟩:=id hn;refine h _ ⟨I.ok,I.os,I.bare,⟨fun b o e n hb hx=>?_,fun b o e n hb hx=>?_,I.base.free,fun b o e hx=>?_,I.base.tups,I.base.yE,I.base.Ak⟩,⟨_,hn',fun j y v' e1 e2 e3=>?_⟩,fun y c e=>?_,I.free,I.nH,fun p hp=>?_,tracked ⟨oL,hoL,I.free⟩ hs,by simpa using I.len⟩ ⟨_,hs,.inl rfl⟩
  ·exact(hs.2 b (Nat.ne_of_lt (Nat.lt_of_lt_of_le (Heap.lt_size e) I.ok.above))).trans (I.base.keep b o e n hb hx)
  ·obtain⟨sl,e1⟩:=I.base.slot b o e n hb hx;exact⟨sl,(hs.2 b (Nat.ne_of_lt (Nat.lt_of_lt_of_le (Heap.lt_size e) I.ok.above))).trans e1⟩
  ·obtain⟨o',e1⟩:=I.base.there b o e hx;exact⟨o',(hs.2 b (Nat.ne_of_lt (Nat.lt_of_lt_of_le (Heap.lt_size e) I.ok.above))).trans e1⟩
  ·by_cases hj:j=i
   ·subst hj;rw[hi]at e1;cases e1;rw[List.getElem?_set_self hiσ]at e2;cases e2;exact⟨u,r,.inl ⟨hk,by simp⟩⟩
   ·rw[List.getElem?_set_ne (Ne.symm hj)]at e2;obtain⟨u',r',q⟩:=hl j y v' e1 e2 e3;refine⟨u',r',?_⟩;rcases q with⟨k,e⟩|⟨k,c,e,z⟩
    ·refine .inl ⟨k,?_⟩;have:y≠x:=fun e=>hj (wB hN e1 (e▸hi));simp[this,e]
    ·exact .inr ⟨k,c,e,z.sameBut hs (cne y c e)⟩
  ·obtain⟨w',z⟩:=I.cell y c e;exact⟨w',z.sameBut hs (cne y c e)⟩
  ·obtain⟨e,n,ne,nf,d⟩:=I.pin p hp;exact⟨(hs.2 p.1 ne).trans e,n,ne,nf,d⟩
 ·have hfn:X.fn x=true:=by
   rcases hf with z|z
   ·exact z
   ·rw[z]at hk;cases hk
  obtain⟨c,hc⟩:=I.ok.has x (.inl hk);obtain⟨w',z⟩:=I.cell x c hc;refine wpAny_storeName_cell I.ok.kind hk hc z (fun h' hc' hs=>?_);obtain⟨oc,hoc,Zn⟩:=id z;refine h { s with heap:=h' } ⟨I.ok,I.os,I.bare,⟨fun b o e n hb hx=>?_,fun b o e n hb hx=>?_,I.base.free,fun b o e hx=>?_,I.base.tups,I.base.yE,I.base.Ak⟩,⟨m,hn.sameBut hs (Ne.symm (cne x c hc)),fun j y v' e1 e2 e3=>?_⟩,fun y c' e=>?_,I.free,I.nH,fun p hp=>?_,tracked ⟨oc,hoc,I.nH x c hc⟩ hs,by simpa using I.len⟩ ⟨c,hs,.inr hc⟩
  ·exact(hs.2 b (Nat.ne_of_lt (Nat.lt_of_lt_of_le (Heap.lt_size e) (I.ok.cab x c hfn hc)))).trans (I.base.keep b o e n hb hx)
  ·obtain⟨sl,e1⟩:=I.base.slot b o e n hb hx;exact⟨sl,(hs.2 b (Nat.ne_of_lt (Nat.lt_of_lt_of_le (Heap.lt_size e) (I.ok.cab x c hfn hc)))).trans e1⟩
  ·obtain⟨o',e1⟩:=I.base.there b o e hx;exact⟨o',(hs.2 b (Nat.ne_of_lt (Nat.lt_of_lt_of_le (Heap.lt_size e) (I.ok.cab x c hfn hc)))).trans e1⟩
  ·by_cases hj:j=i
   ·subst hj;rw[hi]at e1;cases e1;rw[List.getElem?_set_self hiσ]at e2;cases e2;exact⟨u,r,.inr ⟨.inl hk,c,hc,hc'⟩⟩
   ·rw[List.getElem?_set_ne (Ne.symm hj)]at e2;obtain⟨u',r',q⟩:=hl j y v' e1 e2 e3;refine⟨u',r',?_⟩;rcases q with q|⟨k,c',e,z'⟩
    ·exact .inl q
    ·refine .inr ⟨k,c',e,z'.sameBut hs ?_⟩;rintro rfl;exact hj (wB hN e1 (I.ok.inj _ _ _ e hc▸hi))
  ·by_cases hcc:c'=c
   ·subst hcc;exact⟨_,hc'⟩
   ·obtain⟨w2,z2⟩:=I.cell y c' e;exact⟨w2,z2.sameBut hs hcc⟩
  ·obtain⟨e,n,ne,nf,d⟩:=I.pin p hp;refine⟨(hs.2 p.1 ?_).trans e,n,ne,nf,d⟩;intro q;rw[q,hoc]at e;have q':oc=p.2:=Option.some.inj e;exact d w' (by rw[<-q'];exact Zn)
theorem qT{M:Model}{A:Around}{E:Value->Shared->Prop}{i:Nat}{x:Str}{v:V}{u:Value}{Q:Unit->Shared->Prop}(I:Inv X pins σ H s)(hN:X.N.Nodup)(hi:X.N[i]?=some x)(hx:Loc X.env.scope x)(r:RelV v u)
  (h:∀s',Inv X pins (σ.set i (some v)) H s'->Q () s') (hf:X.fn x=true∨X.env.scope.names.lookup x=some .local:=by first|exact .inl rfl|exact .inr rfl|assumption):wpAny M A (storeName X.env x u) Q E s:=
 E8 I hN hi hx r (fun s' I' _=>h s' I') hf
theorem Inv.MR{s':Shared}{ch:List Addr}(I:Inv X pins σ H s)(ho:s'.os=s.os)(u:Un (frs X.stack) ch H H' s.heap s'.heap)(hok:HOk X.prog X.w H' s'.heap)(hg:AllBare s'.gens)
  (hch:∀b∈ch,(b∈X.ex∨X.s₀.heap.objs.size<=b)/\b≠X.env.locals/\(∀x c,X.env.cells.lookup x=some c->c≠b)/\∀p∈X.pn++pins,p.1≠b):Inv X pins σ H' s':=by
 obtain⟨h',g',d',t',o'⟩:=s';have e:o'=s.os:=ho;subst e;exact I.call (g':=g') (t':=t') (d':=d') u hok hg hch
end
abbrev XK:=Value->Option Addr->Hp->Prop
abbrev St:=List (Option V)
abbrev VK:=V->Hp->Prop
abbrev TE:=St->Hp->VK->Prop
abbrev TT:=St->Hp->(Bool->Hp->Prop)->Prop
abbrev TA:=St->Hp->(List V->Hp->Prop)->Prop
structure Ends where
 nx:St->Hp->Prop
 rt:VK
 bk:St->Hp->Prop:=fun _ _=>False
 ct:St->Hp->Prop:=fun _ _=>False
abbrev TS:=Ends->St->Hp->Prop
def EP(X:Cx)(pins:List (Addr×Obj))(σ:St)(Q:VK)(u:Value)(s':Shared):Prop:=∃v H',Inv X pins σ H' s'/\RelV v u/\Q v H'
def TP(X:Cx)(pins:List (Addr×Obj))(σ:St)(Q:Bool->Hp->Prop)(b:Bool)(s':Shared):Prop:=∃H',Inv X pins σ H' s'/\Q b H'
def AP(X:Cx)(pins:List (Addr×Obj))(σ:St)(Q:List V->Hp->Prop)(us:List Value)(s':Shared):Prop:=∃vs H',Inv X pins σ H' s'/\Vals vs us/\Q vs H'
def SP(X:Cx)(pins:List (Addr×Obj))(D:Ends)(f:Flow)(s':Shared):Prop:=
 match f with
 |.next=>∃σ' H',Inv X pins σ' H' s'/\D.nx σ' H'
 |.brk=>∃σ' H',Inv X pins σ' H' s'/\D.bk σ' H'
 |.cont=>∃σ' H',Inv X pins σ' H' s'/\D.ct σ' H'
 |.ret u=>∃v σ' H',Inv X pins σ' H' s'/\RelV v u/\D.rt v H'
def PE(X:Cx)(e:Expr)(t:TE):Prop:=
 ∀(pins:List (Addr×Obj)) (s:Shared) (σ:St) (H:Hp) (Q:VK),Inv X pins σ H s->t σ H Q->wpAny (model X.prog X.w) X.A (eval e X.env) (EP X pins σ Q) X.xe s
def PT(X:Cx)(e:Expr)(t:TT):Prop:=
 ∀(pins:List (Addr×Obj)) (s:Shared) (σ:St) (H:Hp) (Q:Bool->Hp->Prop),Inv X pins σ H s->t σ H Q->wpAny (model X.prog X.w) X.A (isTrue e X.env (eval e X.env)) (TP X pins σ Q) X.xe s
def PW(X:Cx)(e:Expr)(t:TT):Prop:=
 ∀(whole:Sem Value) (pins:List (Addr×Obj)) (s:Shared) (σ:St) (H:Hp) (Q:Bool->Hp->Prop),Inv X pins σ H s->t σ H Q->wpAny (model X.prog X.w) X.A (isTrue e X.env whole) (TP X pins σ Q) X.xe s
theorem PW.pt{X:Cx}{e:Expr}{t:TT}(h:PW X e t):PT X e t:=h _
def PA(X:Cx)(es:List Expr)(t:TA):Prop:=
 ∀(pos:Pos) (pins:List (Addr×Obj)) (s:Shared) (σ:St) (H:Hp) (Q:List V->Hp->Prop),Inv X pins σ H s->t σ H Q->wpAny (model X.prog X.w) X.A (spliced (backTo pos (starEach es X.env))) (AP X pins σ Q) X.xe s
def PS(X:Cx)(st:Stmt)(t:TS):Prop:=
 ∀(pins:List (Addr×Obj)) (s:Shared) (σ:St) (H:Hp) (D:Ends),Inv X pins σ H s->t D σ H->wpAny (model X.prog X.w) X.A (exec st X.env) (SP X pins D) X.xe s
def PSs(X:Cx)(st:List Stmt)(t:TS):Prop:=
 ∀(pins:List (Addr×Obj)) (s:Shared) (σ:St) (H:Hp) (D:Ends),Inv X pins σ H s->t D σ H->wpAny (model X.prog X.w) X.A (execs st X.env) (SP X pins D) X.xe s
theorem thn{α:Type}{t:Sem α}{Q Q':α->Shared->Prop}{M:Model}{A:Around}{E:Value->Shared->Prop}{s:Shared}(h:wpAny M A t Q E s)(hQ:∀a s,Q a s->Q' a s):wpAny M A t Q' E s:=wpAny_mono h hQ fun _ _ x=>x
section
variable {X:Cx}
inductive Z7(i:Nat)(σ:St)(H:Hp)(Q:VK):Prop|mk (v:V) (h:σ[i]?=some (some v)) (q:Q v H)
def Rk(i:Nat):TE:=fun σ H Q=>Z7 i σ H Q
def tC(v:V):TE:=fun _ H Q=>Q v H
theorem PZ{i:Nat}{x:Str}{pos:Pos}(hN:X.N[i]?=some x)(hv:Vis X.env.scope x)(hd:(x==("__debug__" : Str))=false:=by decide)(hcd:(x==("__classdict__" : Str))=false:=by decide):PE X (.Name x pos) (Rk i):=by
 intro pins s σ H Q I h;obtain⟨v,e,h⟩:=h;obtain⟨m,hn,hl⟩:=I.loc;obtain⟨u,r,l⟩:=hl i x v hN e hv;have fin:EP X pins σ Q u s:=⟨v,H,I,r,h⟩;rcases l with⟨hk,hm⟩|⟨hk,c,hc,hcell⟩
 ·exact wpAny_Name (wpAny_loadName_local I.ok.kind hk hn hm fin) hd
 ·rcases hk with hk|hk
  ·exact wpAny_Name (wpAny_loadName_cell I.ok.kind hk hc hcell fin) hd
  ·exact wpAny_Name (wpAny_loadName_free I.ok.kind hk hc hcell fin hcd) hd
theorem aq{i j pos}:PE X (.Constant (.int i) j pos) (tC (.int i)):=fun _ _ _ H _ I h=>wpAny_Constant_int ⟨.int i,H,I.tok _,⟨_,rfl⟩,h⟩
theorem qm{b j pos}:PE X (.Constant (.bool b) j pos) (tC (.bl b)):=fun _ _ _ H _ I h=>Constant_bool ⟨.bl b,H,I,rfl,h⟩
theorem O6{j pos}:PE X (.Constant .none j pos) (tC .non):=fun _ _ _ H _ I h=>Constant_none ⟨.non,H,I,rfl,h⟩
theorem Oa{x j pos}:PE X (.Constant (.str x) j pos) (tC (.str x)):=fun _ _ _ H _ I h=>Calls.Constant_str ⟨.str x,H,I.tok _,⟨_,rfl⟩,h⟩
def Gl(X:Cx)(x:Str):Prop:=X.env.kindOf x=some .globalImplicit
theorem tV{E:Value->Shared->Prop}{pins:List (Addr×Obj)}{s:Shared}{σ:St}{H:Hp}{x:Str}{u:Value}{pos:Pos}{Q:Value->Shared->Prop}(I:Inv X pins σ H s)(hg:Gl X x)(hm:X.mg x=some u)(h:Q u s)
  (hd:(x==("__debug__" : Str))=false:=by decide):wpAny (model X.prog X.w) X.A (eval (.Name x pos) X.env) Q E s:=
 Calls.Name_function_global I.ok.kind hg (Calls.loadGlobal_global (by rw[I.ok.glob];exact I.mod.glob.keeps I.bk) hm h) hd
theorem uL{E:Value->Shared->Prop}{pins:List (Addr×Obj)}{s:Shared}{σ:St}{H:Hp}{x:Str}{u:Value}{pos:Pos}{Q:Value->Shared->Prop}(I:Inv X pins σ H s)(hg:Gl X x)(hm:X.mg x=none)(hv:bootBuiltins x=some u)(h:Q u s)
  (hn:x≠ "__name__" := by decide) (hd:(x==("__debug__" : Str))=false:=by decide):wpAny (model X.prog X.w) X.A (eval (.Name x pos) X.env) Q E s:=by
 obtain⟨mb,h1,h2⟩:=I.mod.blt;exact Calls.Name_function_global I.ok.kind hg (Calls.loadGlobal_builtin (by rw[I.ok.glob];exact I.mod.glob.keeps I.bk) hm (by rw[I.ok.blt];exact h1.keeps I.bk) ((h2 x hn).trans hv) h) hd
theorem E9{x:Str}{v:V}{u:Value}{pos:Pos}(hg:Gl X x)(hm:X.mg x=some u)(r:RelV v u)(hd:(x==("__debug__" : Str))=false:=by decide):PE X (.Name x pos) (tC v):=
 fun _ _ _ H _ I h=>tV I hg hm ⟨v,H,I,r,h⟩ hd
theorem M8{x:Str}{v:V}{u:Value}{pos:Pos}(hg:Gl X x)(hm:X.mg x=none)(hv:bootBuiltins x=some u)(r:RelV v u)(hn:x≠ "__name__" := by decide)(hd:(x==("__debug__" : Str))=false:=by decide):PE X (.Name x pos) (tC v):=
 fun _ _ _ H _ I h=>uL I hg hm hv ⟨v,H,I,r,h⟩ hn hd
variable {a b:Expr} {ta tb:TE} {pos:Pos}
def tB(t:TE):TT:=fun σ H Q=>t σ H fun x H1=>∃c,x = .bl c/\Q c H1
theorem gF{e:Expr}{t:TE}(h:PE X e t)(he:∀whole,isTrue e X.env whole=(do let v<-whole;standAt e.pos;holding [v] (truthy v)):=by intro _;rfl):PT X e (tB t):=by
 intro pins s σ H Q I hw;refine isTrue_plain (thn (h pins s σ H _ I hw) fun v s1 ⟨x,H1,I1,r1,q1⟩=>?_) (he _);obtain⟨d,rfl,q⟩:=q1;cases r1;exact wpAny_truthy_bool ⟨H1,I1,q⟩
variable {tA tB':TT} {rest:List Expr}
def aak(t u:TT):TT:=fun σ H Q=>t σ H fun c H1=>if c=true then u σ H1 Q else Q false H1
def tOr(t u:TT):TT:=fun σ H Q=>t σ H fun c H1=>if c=true then Q true H1 else u σ H1 Q
def aaE(t:TT):TT:=fun σ H Q=>t σ H fun c H1=>Q (!c) H1
theorem KZ(ha:PT X a tA):PW X (.BoolOp .And [a] pos) tA:=by
 intro wh pins s σ H Q I h;refine isTrue_and (thn (ha pins s σ H Q I h) fun c s1 e=>?_);cases c with
 |true=>exact isTrue_and_nil e
 |false=>exact e
theorem qC(ha:PT X a tA):PW X (.BoolOp .Or [a] pos) tA:=by
 intro wh pins s σ H Q I h;refine isTrue_or (thn (ha pins s σ H Q I h) fun c s1 e=>?_);cases c with
 |false=>exact isTrue_or_nil e
 |true=>exact e
theorem N8(ha:PT X a tA)(hb:PW X (.BoolOp .And (b::rest) pos) tB'):PW X (.BoolOp .And (a::b::rest) pos) (aak tA tB'):=by
 intro wh pins s σ H Q I h;refine isTrue_and (thn (ha pins s σ H _ I h) fun c s1 ⟨H1,I1,q1⟩=>?_);cases c with
 |true=>exact hb wh pins s1 σ H1 Q I1 q1
 |false=>exact⟨H1,I1,q1⟩
theorem m6(ha:PT X a tA)(hb:PW X (.BoolOp .Or (b::rest) pos) tB'):PW X (.BoolOp .Or (a::b::rest) pos) (tOr tA tB'):=by
 intro wh pins s σ H Q I h;refine isTrue_or (thn (ha pins s σ H _ I h) fun c s1 ⟨H1,I1,q1⟩=>?_);cases c with
 |true=>exact⟨H1,I1,q1⟩
 |false=>exact hb wh pins s1 σ H1 Q I1 q1
theorem ji(ha:PT X a tA):PT X (.UnaryOp .Not a pos) (aaE tA):=by
 intro pins s σ H Q I h;exact isTrue_not (ha pins s σ H (fun c H1=>Q (!c) H1) I h)
def X3(ta tb:TE):TE:=fun σ H Q=>ta σ H fun x H1=>∃c,x = .bl c/\if c=true then tb σ H1 Q else Q (.bl false) H1
def Zi(ta tb:TE):TE:=fun σ H Q=>ta σ H fun x H1=>∃c,x = .bl c/\if c=true then Q (.bl true) H1 else tb σ H1 Q
theorem GY{op}{t:TE}(h:PE X a t):PE X (.BoolOp op [a] pos) t:=fun pins s σ H Q I hw=>BoolOp_one (h pins s σ H Q I hw)
theorem Ka(ha:PE X a ta)(hb:PE X (.BoolOp .And (b::rest) pos) tb):PE X (.BoolOp .And (a::b::rest) pos) (X3 ta tb):=by
 intro pins s σ H Q I h;refine BoolOp_and (thn (ha pins s σ H _ I h) fun v s1 ⟨x,H1,I1,r1,q1⟩=>?_);obtain⟨c,rfl,q1⟩:=q1;cases r1;refine wpAny_truthy_bool ?_;cases c with
 |true=>exact hb pins s1 σ H1 Q I1 q1
 |false=>exact⟨.bl false,H1,I1,rfl,q1⟩
theorem Wa(ha:PE X a ta)(hb:PE X (.BoolOp .Or (b::rest) pos) tb):PE X (.BoolOp .Or (a::b::rest) pos) (Zi ta tb):=by
 intro pins s σ H Q I h;refine BoolOp_or (thn (ha pins s σ H _ I h) fun v s1 ⟨x,H1,I1,r1,q1⟩=>?_);obtain⟨c,rfl,q1⟩:=q1;cases r1;refine wpAny_truthy_bool ?_;cases c with
 |false=>exact hb pins s1 σ H1 Q I1 q1
 |true=>exact⟨.bl true,H1,I1,rfl,q1⟩
def tIf(t:TT)(ta tb:TE):TE:=fun σ H Q=>t σ H fun c H1=>if c=true then ta σ H1 Q else tb σ H1 Q
theorem vD{c:Expr}(hc:PT X c tA)(ha:PE X a ta)(hb:PE X b tb):PE X (.IfExp c a b pos) (tIf tA ta tb):=by
 intro pins s σ H Q I h;refine wpAny_IfExp (thn (hc pins s σ H _ I h) fun d s1 ⟨H1,I1,q1⟩=>?_);cases d with
 |true=>exact ha pins s1 σ H1 Q I1 q1
 |false=>exact hb pins s1 σ H1 Q I1 q1
end
def SqL(K:W.Frag)(H:Hp)(a:Addr)(xs:List V):Prop:=
 Rd H a (.lst xs)∨
  ∃(o:Obj) (its:Array Value) (n:Nat),K.lookup a=some o/\o.cls = .type "list" /\ o.dict=none/\o.data = .seq its n/\its.size<=sizeLine/\Vals xs its.toList
def SqT(K:W.Frag)(H:Hp)(a:Addr)(xs:List V):Prop:=
 Rd H a (.tup xs)∨
  ∃(o:Obj) (its:Array Value) (n:Nat),K.lookup a=some o/\o.cls = .type "tuple" /\ o.data = .seq its n/\its.size<=sizeLine/\Vals xs its.toList
def Zz:Value->Option V
 |.none=>some .non
 |.bool b=>some (.bl b)
 |.int i _=>some (.int i)
 |.str x _=>some (.str x)
 |.bytes b _=>some (.byt b)
 |.float b _=>some (.flt b)
 |.ref a=>some (.ref a)
 |.type n=>some (.ty n)
 |_=>none
theorem RelV.abs{x:V}{u:Value}(r:RelV x u):Zz u=some x:=by
 cases x with
 |non=>cases r;rfl
 |bl _=>cases r;rfl
 |int _=>obtain⟨t,rfl⟩:=r;rfl
 |str _=>obtain⟨t,rfl⟩:=r;rfl
 |byt _=>obtain⟨t,rfl⟩:=r;rfl
 |flt _=>obtain⟨t,rfl⟩:=r;rfl
 |ref _=>cases r;rfl
 |ty _=>cases r;rfl
theorem RelV.inj{x y:V}{u:Value}(r:RelV x u)(q:RelV y u):x=y:=Option.some.inj (r.abs.symm.trans q.abs)
theorem Vals.inj{xs ys:List V}{us:List Value}(h:Vals xs us)(h':Vals ys us):xs=ys:=by
 induction h generalizing ys with
 |nil=>cases h';rfl
 |cons r t ih=>
  cases h' with
  |cons r' t'=>rw[r.inj r',ih t']
section
variable {X:Cx} {pins:List (Addr×Obj)} {σ:St} {H:Hp} {s:Shared} {a:Addr} {xs ys:List V}
theorem SqL.of{K:W.Frag}(h:H a=some (.lst xs)):SqL K H a xs:= .inl (.inl h)
theorem SqT.of{K:W.Frag}(h:H a=some (.tup xs)):SqT K H a xs:= .inl (.inl h)
theorem Inv.list(I:Inv X pins σ H s)(h:SqL X.K H a xs):∃its:List Value,Vals xs its/\PlainL s.heap a its.toArray/\xs.length<=sizeLine:=by
 rcases h with h|⟨o,its,n,hk,hc,hd,hs,hz,r⟩
 ·obtain⟨z,its,n,r,e⟩:=h.ok I.hok;exact⟨its,r,⟨_,n,e,rfl,rfl,rfl⟩,z⟩
 ·refine⟨its.toList,r,⟨o,n,I.kIn a o hk,hc,hd,by simpa using hs⟩,?_⟩;have e:=r.length;simp only[Array.length_toList]at e;omega
theorem Inv.tuple(I:Inv X pins σ H s)(h:SqT X.K H a xs):∃its:List Value,Vals xs its/\IsTup s.heap a its.toArray/\xs.length<=sizeLine:=by
 rcases h with h|⟨o,its,n,hk,hc,hs,hz,r⟩
 ·obtain⟨z,its,r,p⟩:=h.ok I.hok;exact⟨its,r,p,z⟩
 ·refine⟨its.toList,r,⟨o,I.kIn a o hk,hc,n,by simpa using hs⟩,?_⟩;have e:=r.length;simp only[Array.length_toList]at e;omega
theorem Inv.Hw(I:Inv X pins σ H s)(h:SqL X.K H a xs)(h':SqL X.K H a ys):xs=ys:=by
 obtain⟨its,r,⟨o,n,e,_,_,d⟩,_⟩:=I.list h;obtain⟨its',r',⟨o',n',e',_,_,d'⟩,_⟩:=I.list h';rw[e]at e';cases e';rw[d]at d';injection d' with d1 _;have:its=its':=by simpa using congrArg Array.toList d1
 subst this;exact r.inj r'
theorem Inv.Gi(I:Inv X pins σ H s)(h:SqT X.K H a xs)(h':SqT X.K H a ys):xs=ys:=by
 obtain⟨its,r,⟨o,e,_,n,d⟩,_⟩:=I.tuple h;obtain⟨its',r',⟨o',e',_,n',d'⟩,_⟩:=I.tuple h';rw[e]at e';cases e';rw[d]at d';injection d' with d1 _;have:its=its':=by simpa using congrArg Array.toList d1
 subst this;exact r.inj r'
end
abbrev Cx.wish(X:Cx)(E:Value->Shared->Prop):Cx:={ X with xe:=E }
abbrev Cx.nox(X:Cx):Cx:=X.wish fun _ _=>False
theorem Cx.Ok.wish{X:Cx}(ok:X.Ok)(E:Value->Shared->Prop):(X.wish E).Ok:=
 ⟨ok.mod,ok.kind,ok.glob,ok.blt,ok.above,ok.inj,ok.has,ok.cab,ok.hd,ok.frames,ok.stk,ok.exf,ok.bs,ok.bsz,ok.Mq,ok.Nb,ok.C4,ok.frf⟩
theorem Cx.Ok.n6{X:Cx}{E:Value->Shared->Prop}(ok:(X.wish E).Ok):X.Ok:=
 ⟨ok.mod,ok.kind,ok.glob,ok.blt,ok.above,ok.inj,ok.has,ok.cab,ok.hd,ok.frames,ok.stk,ok.exf,ok.bs,ok.bsz,ok.Mq,ok.Nb,ok.C4,ok.frf⟩
section
variable {X:Cx} {pins:List (Addr×Obj)} {σ:St} {H:Hp} {s:Shared} {E:Value->Shared->Prop}
theorem Inv.wish(I:Inv X pins σ H s)(E:Value->Shared->Prop):Inv (X.wish E) pins σ H s:=⟨I.ok.wish E,I.os,I.bare,I.base,I.loc,I.cell,I.free,I.nH,I.pin,I.hok,I.len⟩
theorem Inv.n6(I:Inv (X.wish E) pins σ H s):Inv X pins σ H s:=⟨I.ok.n6,I.os,I.bare,I.base,I.loc,I.cell,I.free,I.nH,I.pin,I.hok,I.len⟩
theorem SP.n6{D:Ends}{f:Flow}{s':Shared}(h:SP (X.wish E) pins D f s'):SP X pins D f s':=by
 cases f with
 |next=>obtain⟨σ',H',I,q⟩:=h;exact⟨σ',H',I.n6,q⟩
 |brk=>obtain⟨σ',H',I,q⟩:=h;exact⟨σ',H',I.n6,q⟩
 |cont=>obtain⟨σ',H',I,q⟩:=h;exact⟨σ',H',I.n6,q⟩
 |ret u=>obtain⟨v,σ',H',I,r,q⟩:=h;exact⟨v,σ',H',I.n6,r,q⟩
theorem PSs.nox{st:List Stmt}{t:TS}(h:PSs X.nox st t):PSs X st t:=fun pins s σ H D I hw=>
 wpAny_mono (h pins s σ H D (I.wish _) hw) (fun _ _ q=>q.n6) fun _ _ z=>False.elim z
end
section
variable {X:Cx} {st:Stmt} {rest:List Stmt} {t u:TS} {e:Expr} {te:TE} {pos:Pos}
def WR:TS:=fun D σ H=>D.nx σ H
def aaB(t u:TS):TS:=fun D σ H=>t { D with nx:=u D } σ H
theorem cF:PSs X [] WR:=fun _ _ σ H _ I h=>wpAny_execs_nil ⟨σ,H,I,h⟩
theorem ao(h1:PS X st t)(h2:PSs X rest u):PSs X (st::rest) (aaB t u):=by
 intro pins s σ H D I h;refine wpAny_execs_cons (thn (h1 pins s σ H { D with nx:=u D } I h) fun f s1 q=>?_);cases f with
 |next=>
  obtain⟨σ',H',I',q⟩:=q;exact h2 pins s1 σ' H' D I' q
 |ret v=>exact q
 |brk=>exact q
 |cont=>exact q
theorem aF(h1:PS X st t):PSs X [st] t:=by
 intro pins s σ H D I h;refine wpAny_execs_cons (thn (h1 pins s σ H D I h) fun f s1 q=>?_);cases f with
 |next=>exact wpAny_execs_nil q
 |ret v=>exact q
 |brk=>exact q
 |cont=>exact q
theorem Inv.quiet{pins:List (Addr×Obj)}{σ:St}{H:Hp}{s:Shared}(I:Inv X pins σ H s):interactive X.env=false:=by simp[interactive,I.ok.kind]
def Ss(te:TE):TS:=fun D σ H=>te σ H fun _ H1=>D.nx σ H1
theorem oN(he:PE X e te)(hs:swapsWith e none pos.line X.env=pure false:=by rfl):PS X (.Expr e pos) (Ss te):=by
 intro pins s σ H D I h;exact wpAny_Expr_any (thn (he pins s σ H _ I h) fun v s1 ⟨x,H1,I1,r1,q1⟩=>⟨σ,H1,I1,q1⟩) I.quiet hs
def ZR(te:TE):TS:=fun D σ H=>te σ H D.rt
theorem aU(he:PE X e te):PS X (.Return (some e) pos) (ZR te):=by
 intro pins s σ H D I h;exact wpAny_Return_some (thn (he pins s σ H _ I h) fun v s1 ⟨x,H1,I1,r1,q1⟩=>⟨x,σ,H1,I1,r1,q1⟩)
def Zx(c:TT)(t u:TS):TS:=fun D σ H=>c σ H fun b H1=>if b=true then t D σ H1 else u D σ H1
theorem iV{c:Expr}{a b:List Stmt}{tc:TT}(hc:PT X c tc)(ha:PSs X a t)(hb:PSs X b u):PS X (.If c a b pos) (Zx tc t u):=by
 intro pins s σ H D I h;refine wpAny_If (thn (hc pins s σ H _ I h) fun d s1 ⟨H1,I1,q1⟩=>?_);cases d with
 |true=>exact ha pins s1 σ H1 D I1 q1
 |false=>exact hb pins s1 σ H1 D I1 q1
def QS:TS:=fun _ _ _=>False
theorem Ba:PS X st QS:=fun _ _ _ _ _ _ h=>h.elim
end
abbrev TG:=V->St->Hp->(St->Hp->Prop)->Prop
abbrev TGs:=List V->St->Hp->(St->Hp->Prop)->Prop
def PG(X:Cx)(target:Expr)(t:TG):Prop:=
 ∀(pins:List (Addr×Obj)) (s:Shared) (σ:St) (H:Hp) (v:V) (u:Value) (Q:St->Hp->Prop),Inv X pins σ H s->RelV v u->t v σ H Q->
  wpAny (model X.prog X.w) X.A (assign target X.env u) (fun _ s'=>∃σ' H',Inv X pins σ' H' s'/\Q σ' H') X.xe s
def PGs(X:Cx)(ts:List Expr)(t:TGs):Prop:=
 ∀(pins:List (Addr×Obj)) (s:Shared) (σ:St) (H:Hp) (vs:List V) (us:List Value) (Q:St->Hp->Prop),Inv X pins σ H s->Vals vs us->t vs σ H Q->
  wpAny (model X.prog X.w) X.A (assignInOrder ((assignEach ts X.env).map (·.2)) us) (fun _ s'=>∃σ' H',Inv X pins σ' H' s'/\Q σ' H') X.xe s
abbrev Tj:=V->V->V->Hp->(Hp->Prop)->Prop
def Yz(X:Cx)(t:Tj):Prop:=
 ∀(pins:List (Addr×Obj)) (s:Shared) (σ:St) (H:Hp) (o i v:V) (ov iv u:Value) (Q:Hp->Prop),Inv X pins σ H s->RelV o ov->RelV i iv->RelV v u->t o i v H Q->
  wpAny (model X.prog X.w) X.A (setItem ov iv u) (fun _ s'=>∃H',Inv X pins σ H' s'/\Q H') X.xe s
section
variable {X:Cx} {pos:Pos}
def mU(i:Nat):TG:=fun v σ H Q=>Q (σ.set i (some v)) H
theorem aX{i:Nat}{x:Str}(hN:X.N.Nodup)(hi:X.N[i]?=some x)(hx:Loc X.env.scope x)(hf:X.fn x=true∨X.env.scope.names.lookup x=some .local:=by first|exact .inl rfl|exact .inr rfl|assumption):PG X (.Name x pos) (mU i):=by
 intro pins s σ H v u Q I r h;exact wpAny_assign_Name (qT I hN hi hx r (fun s' I'=>⟨_,H,I',h⟩) hf)
def ZJ:TGs:=fun vs σ H Q=>vs=[]/\Q σ H
inductive V6(t:TG)(u:TGs)(vs:List V)(σ:St)(H:Hp)(Q:St->Hp->Prop):Prop|mk (v:V) (r:List V) (h:vs=v::r) (q:t v σ H fun σ' H'=>u r σ' H' Q)
def WX(t:TG)(u:TGs):TGs:=fun vs σ H Q=>V6 t u vs σ H Q
theorem yG:PGs X [] ZJ:=by
 intro pins s σ H vs us Q I r h;obtain⟨e,h⟩:=h;subst e;cases r;exact assignInOrder_nil ⟨σ,H,I,h⟩
theorem jc{e:Expr}{es:List Expr}{t:TG}{u:TGs}(h1:PG X e t)(h2:PGs X es u)
  (hs:(assignEach (e::es) X.env).map (·.2)=assign e X.env::(assignEach es X.env).map (·.2):=by rfl):PGs X (e::es) (WX t u):=by
 intro pins s σ H vs us Q I r h;obtain⟨v,vr,e1,h⟩:=h;subst e1;cases r with
 |cons r rr=>
  rw[hs];refine assignInOrder_cons (thn (h1 pins s σ H _ _ _ I r h) fun _ s1 ⟨σ1,H1,I1,q1⟩=>?_);exact h2 pins s1 σ1 H1 _ _ Q I1 rr q1
def YD(K:W.Frag)(n:Nat)(t:TGs):TG:=fun v σ H Q=>∃a xs,v = .ref a/\SqT K H a xs/\xs.length=n/\t xs σ H Q
theorem Og{es:List Expr}{k:Nat}{t:TGs}{n:Nat}(hc:X.calm=true)(h:PGs X es t)
  (hn:(assignEach es X.env).length=n:=by rfl) (hst:(assignEach es X.env).findIdx? (·.1)=none:=by rfl):PG X (.Tuple es k pos) (YD X.K n t):=by
 intro pins s σ H v u Q I r hw;obtain⟨a,xs,e1,hq,hl,hw⟩:=hw;subst e1;cases r;obtain⟨its,rv,ht,hz⟩:=I.tuple hq;refine assign_Tuple_tuple (I.ok.hd hc) ht (by simp[hn,<-hl,rv.length]) hst fun h' hx=>?_;have I1:Inv X pins σ H { s with heap:=h' }:=I.kept (t':=s.toks) fun b o e=>hx b o (Nat.ne_of_lt (Heap.lt_size e)) e;exact h pins _ σ H xs _ Q I1 (by simpa using rv) hw
def aaD(to ti:TE)(t:Tj):TG:=fun v σ H Q=>to σ H fun o H1=>ti σ H1 fun i H2=>t o i v H2 fun H3=>Q σ H3
theorem rJ{o i:Expr}{to ti:TE}{t:Tj}(ho:PE X o to)(hi:PE X i ti)(hs:Yz X t)
  (ha:∀v,assign (.Subscript o i pos) X.env v=(do
   let ov<-holding [v] (eval o X.env)
   let iv<-holding [v,ov] (eval i X.env)
   standAt pos
   holding [v,ov,iv] (setItem ov iv v)
   release [v,ov,iv] []):=by intro _;rfl):PG X (.Subscript o i pos) (aaD to ti t):=by
 intro pins s σ H v u Q I r h;rw[ha];refine wpAny_bind (wpAny_holding (thn (ho pins s σ H _ I h) fun ov s1 ⟨x,H1,I1,r1,q1⟩=>?_));refine wpAny_bind (wpAny_holding (thn (hi pins s1 σ H1 _ I1 q1) fun iv s2 ⟨y,H2,I2,r2,q2⟩=>?_));refine wpAny_bind (wpAny_standAt (wpAny_bind (wpAny_holding (thn (hs pins s2 σ H2 x y v ov iv u _ I2 r1 r2 r q2) fun _ s3 ⟨H3,I3,q3⟩=>?_))));exact wpAny_release ⟨σ,H3,I3,q3⟩
def Xc(te:TE)(g:TG):TS:=fun D σ H=>te σ H fun x H1=>g x σ H1 D.nx
theorem qI{tg e:Expr}{te:TE}{g:TG}(he:PE X e te)(hg:PG X tg g)(hs:swapsWithSole [tg] e pos.line X.env=pure false:=by rfl)(hw:swappedStores [tg] e X.env=pure none:=by rfl)
  (h1:(assignEach [tg] X.env).map (·.2)=[assign tg X.env]:=by rfl):PS X (.Assign [tg] e pos) (Xc te g):=by
 intro pins s σ H D I h;refine wpAny_Assign_stores (thn (he pins s σ H _ I h) fun v s1 ⟨x,H1,I1,r1,q1⟩=>?_) hs hw;rw[h1];exact thn (hg pins s1 σ H1 x v _ I1 r1 q1) fun _ s2 q=>q
theorem aJ{i:Nat}{x:Str}{e:Expr}{te:TE}{pos':Pos}(hN:X.N.Nodup)(hi:X.N[i]?=some x)(hx:Loc X.env.scope x)(he:PE X e te)(hs:swapsWith e (some (.Name x pos')) pos.line X.env=pure false:=by rfl)(hf:X.fn x=true∨X.env.scope.names.lookup x=some .local:=by first|exact .inl rfl|exact .inr rfl|assumption):
  PS X (.Assign [.Name x pos'] e pos) (Xc te (mU i)):=by
 intro pins s σ H D I h;refine wpAny_Assign_Name (thn (he pins s σ H _ I h) fun v s1 ⟨y,H1,I1,r1,q1⟩=>?_) hs;exact qT I1 hN hi hx r1 (fun s2 I2=>⟨_,H1,I2,q1⟩) hf
end
section
variable {X:Cx} {pos:Pos}
def Ob(c:TT)(tb:TS):TS:=fun D σ H=>∃W:Nat->St->Hp->Prop,(∃m,W m σ H)/\∀m σ H,W m σ H->
 c σ H fun b H1=>if b=true then ∃N:St->Hp->Prop,(∀σ' H',N σ' H'->∃m',m'<m/\W m' σ' H')/\tb { D with nx:=N,ct:=N,bk:=D.nx } σ H1 else D.nx σ H1
theorem je{c:Expr}{body:List Stmt}{tc:TT}{tb:TS}(hp:PassesOwn (model X.prog X.w) X.A X.env X.xe)(hc:PT X c tc)(hb:PSs X body tb):PS X (.While c body [] pos) (Ob tc tb):=by
 intro pins s σ H D I h;obtain⟨W,⟨m0,w0⟩,turn⟩:=h;refine wpAny_While (codeAny_whileLoop (fun n s'=>∃σ' H',Inv X pins σ' H' s'/\W n σ' H') ?_ m0 ⟨σ,H,I,w0⟩);rintro n s1 ⟨σ1,H1,I1,w1⟩;refine wpAny_passesOwn hp (thn (hc pins s1 σ1 H1 _ I1 (turn n σ1 H1 w1)) fun b s2 ⟨H2,I2,q2⟩=>?_);cases b with
 |true=>
  obtain⟨N,hN,q2⟩:=q2;rw[if_pos rfl];refine wpAny_passesOwn hp (thn (hb pins s2 σ1 H2 _ I2 q2) fun f s3 q3=>?_);cases f with
  |next=>
   obtain⟨σ3,H3,I3,n3⟩:=q3;obtain⟨m',hm,w3⟩:=hN σ3 H3 n3;exact⟨m',hm,σ3,H3,I3,w3⟩
  |cont=>
   obtain⟨σ3,H3,I3,n3⟩:=q3;obtain⟨m',hm,w3⟩:=hN σ3 H3 n3;exact⟨m',hm,σ3,H3,I3,w3⟩
  |brk=>exact q3
  |ret v=>exact q3
 |false=>
  rw[if_neg Bool.false_ne_true];exact wpAny_execs_nil ⟨σ1,H2,I2,q2⟩
end
structure It where
 go:Nat->Hp->Prop
 yld:Nat->Hp->V->Hp->Prop
 stop:Nat->Hp->Prop
def C5(X:Cx)(pins:List (Addr×Obj))(H:Hp)(b:Addr):Prop:=
 H b=none/\b≠X.env.locals/\b∉X.fs/\(b∈X.ex∨X.s₀.heap.objs.size<=b)/\(∀x c,X.env.cells.lookup x=some c->c≠b)/\∀p∈X.pn++pins,p.1≠b
theorem Inv.Nm{X:Cx}{pins:List (Addr×Obj)}{σ:St}{H H':Hp}{s:Shared}{b:Addr}(I:Inv X pins σ H s)(hb:s.heap.objs.size<=b)(hn:H' b=none):C5 X pins H' b:=by
 refine⟨hn,Nat.ne_of_gt (Nat.lt_of_lt_of_le I.lt hb),I.aae hb,.inr (Nat.le_trans I.sz hb),fun x c e z=>?_,fun p hp z=>?_⟩
 ·obtain⟨v,q⟩:=I.cell x c e;exact absurd (Nat.lt_of_lt_of_le q.lt (by rw[z];exact hb)) (Nat.lt_irrefl _)
 ·exact absurd (Nat.lt_of_lt_of_le (Heap.lt_size (I.pin p hp).1) (by rw[z];exact hb)) (Nat.lt_irrefl _)
structure Turn(P:Program)(w:World)(K:W.Frag)(tg:Expr)(J:It)(fp:List Addr)(it:Addr)(tn:Nat->Heap->Prop):Prop where
 mem:it∈fp
 obj:∀i h,tn i h->∀b∈fp,∃o,h.get? b=some o/\∀v,o.data≠ .cell v
 keep:∀i h h',tn i h->(∀b∈fp,∀o,h.get? b=some o->h'.get? b=some o)->tn i h'
 item:∀(X:Cx),X.prog=P->X.w=w->X.K=K->X.calm=true->∀(i:Nat) (pins:List (Addr×Obj)) (s:Shared) (σ:St) (H:Hp) (E:Value->Shared->Prop),Inv X pins σ H s->(∀b∈fp,C5 X pins H b)->tn i s.heap->J.go i H->
  wpAny (model P w) X.A (pyNext (.ref it)) (fun r s1=>∃u,r=some u/\
   wpAny (model P w) X.A (letOwnedTupleGo tg (.ref it) u) (fun _ s2=>∃x H',Inv X pins σ H' s2/\RelV x u/\J.yld i H x H'/\tn (i+1) s2.heap/\∀b∈fp,H' b=none) E s1) E s
 done:∀(X:Cx),X.prog=P->X.w=w->X.K=K->X.calm=true->∀(i:Nat) (pins:List (Addr×Obj)) (s:Shared) (σ:St) (H:Hp) (E:Value->Shared->Prop),Inv X pins σ H s->(∀b∈fp,C5 X pins H b)->tn i s.heap->J.stop i H->
  wpAny (model P w) X.A (pyNext (.ref it)) (fun r s1=>r=none/\Inv X pins σ H s1) E s
 self:∀(A:Around) (i:Nat) (s:Shared) (Q:Value->Shared->Prop) (E:Value->Shared->Prop),tn i s.heap->Q (.ref it) s->wpAny (model P w) A (pyIter (.ref it)) Q E s
abbrev TI:=St->Hp->(It->Hp->Prop)->Prop
def PIE(X:Cx)(pins:List (Addr×Obj))(σ:St)(tg:Expr)(R:It->Hp->Prop)(itv:Value)(s2:Shared):Prop:=
 ∃(it:Addr) (fp:List Addr) (tn:Nat->Heap->Prop) (J:It) (H':Hp),itv = .ref it/\Inv X pins σ H' s2/\Turn X.prog X.w X.K tg J fp it tn/\tn 0 s2.heap/\(∀b∈fp,C5 X pins H' b)/\R J H'
def PI(X:Cx)(tg iter:Expr)(wi:TI):Prop:=
 ∀(pins:List (Addr×Obj)) (s:Shared) (σ:St) (H:Hp) (R:It->Hp->Prop),Inv X pins σ H s->wi σ H R->
  wpAny (model X.prog X.w) X.A (eval iter X.env) (fun v s1=>wpAny (model X.prog X.w) X.A (pyIter v) (PIE X pins σ tg R) X.xe s1) X.xe s
theorem Ja{M:Model}{A:Around}{E:Value->Shared->Prop}{s:Shared}{tg:Expr}{it:Addr}{u:Value}{o:Obj}{n:String}{vs:Array Value}{Q:Unit->Shared->Prop}(ho:s.heap.get? it=some o)(hc:o.cls = .type n)(hd:o.data = .fields vs)
  (hn:["enumerate","zip","dict_itemiterator","dict_reverseitemiterator","odict_iterator","itertools.zip_longest","itertools.pairwise"].contains n=false) (hQ:Q () s):wpAny M A (letOwnedTupleGo tg (.ref it) u) Q E s:=by
 unfold letOwnedTupleGo;cases tg<;>first
  |exact wpAny_pure hQ
  |(cases u<;>first
    |exact wpAny_pure hQ
    |(refine wpAny_bind (wpAny_load ho ?_);rw[hc,hd];show wpAny M A (if(["enumerate","zip","dict_itemiterator","dict_reverseitemiterator","odict_iterator","itertools.zip_longest","itertools.pairwise"].contains n&&vs[0]?==some (rawInt _))=true then _ else _) Q E s;rw[if_neg (by intro h;rw[hn,Bool.false_and]at h;cases h)];exact wpAny_pure hQ))
def Itl(K:W.Frag)(a:Addr):It:=
 ⟨fun i H=>∃xs x,SqL K H a xs/\xs[i]?=some x,fun i H x H'=>H'=H/\∀xs,SqL K H a xs->xs[i]?=some x,fun i H=>∃xs,SqL K H a xs/\xs.length<=i⟩
def Itt(K:W.Frag)(a:Addr):It:=
 ⟨fun i H=>∃xs x,SqT K H a xs/\xs[i]?=some x,fun i H x H'=>H'=H/\∀xs,SqT K H a xs->xs[i]?=some x,fun i H=>∃xs,SqT K H a xs/\xs.length<=i⟩
def Itr(lo:Int)(n:Nat):It:=⟨fun i _=>i<n,fun i H x H'=>H'=H/\x = .int (lo+i),fun i _=>n<=i⟩
theorem GX{P:Program}{w:World}{K:W.Frag}{tg:Expr}(a it:Addr):Turn P w K tg (Itl K a) [it] it (fun i h=>h.IsListIter it a i) where
 mem:=by simp
 obj:=fun i h st b hb=>by
  have e:b=it:=by simpa using hb
  subst e;obtain⟨o,e,c,d⟩:=st;exact⟨o,e,fun v z=>by rw[d]at z;cases z⟩
 keep:=fun i h h' st k=>st.at fun o e=>k it (by simp) o e
 item:=by
  intro X hP hw hK hc i pins s σ H E I hf st hg;subst hP hw hK;obtain⟨xs,x,hq,hx⟩:=hg;obtain⟨its,rv,p,hz⟩:=I.list hq;obtain⟨u,hu,ru⟩:=rv.get hx;obtain⟨f0,f1,f2,f3,f4,f5⟩:=hf it (by simp);refine wpAny_pyNext_list_item st p.isList (x:=u) (by simpa using hu) fun h' st' sb=>?_;have I1:Inv X pins σ H { s with heap:=h' }:=I.turned (t':=s.toks) (fun b o hb e=>(sb.2 b hb).trans e) f0 f1 f3 f4 f5;obtain⟨o,e,c,d⟩:=id st';exact⟨u,rfl,Ja (s:={ s with heap:=h' }) e c d (by decide) ⟨x,H,I1,ru,⟨rfl,fun ys hy=>by rw[I.Hw hy hq];exact hx⟩,st',fun b hb=>(hf b hb).1⟩⟩
 done:=by
  intro X hP hw hK hc i pins s σ H E I hf st hg;subst hP hw hK;obtain⟨xs,hq,hx⟩:=hg;obtain⟨its,rv,p,hz⟩:=I.list hq;obtain⟨f0,f1,f2,f3,f4,f5⟩:=hf it (by simp);have hl:=rv.length;exact wpAny_pyNext_list_end (I.ok.hd hc) st p.isList (by simp;omega) fun h' eb=>⟨rfl,I.turned (t':=s.toks) (fun b o hb e=>eb b o hb e) f0 f1 f3 f4 f5⟩
 self:=fun _ _ _ _ _ st h=>wpAny_pyIter_listiter st h
theorem CG{P:Program}{w:World}{K:W.Frag}{tg:Expr}(a it:Addr):Turn P w K tg (Itt K a) [it] it (fun i h=>h.IsTupleIter it a i) where
 mem:=by simp
 obj:=fun i h st b hb=>by
  have e:b=it:=by simpa using hb
  subst e;obtain⟨o,e,c,d⟩:=st;exact⟨o,e,fun v z=>by rw[d]at z;cases z⟩
 keep:=fun i h h' st k=>st.at fun o e=>k it (by simp) o e
 item:=by
  intro X hP hw hK hc i pins s σ H E I hf st hg;subst hP hw hK;obtain⟨xs,x,hq,hx⟩:=hg;obtain⟨its,rv,p,hz⟩:=I.tuple hq;obtain⟨u,hu,ru⟩:=rv.get hx;obtain⟨f0,f1,f2,f3,f4,f5⟩:=hf it (by simp);refine wpAny_pyNext_tuple_item st (show s.heap.IsTuple a its.toArray from p) (x:=u) (by simpa using hu) fun h' st' sb=>?_;have I1:Inv X pins σ H { s with heap:=h' }:=I.turned (t':=s.toks) (fun b o hb e=>(sb.2 b hb).trans e) f0 f1 f3 f4 f5;obtain⟨o,e,c,d⟩:=id st';exact⟨u,rfl,Ja (s:={ s with heap:=h' }) e c d (by decide) ⟨x,H,I1,ru,⟨rfl,fun ys hy=>by rw[I.Gi hy hq];exact hx⟩,st',fun b hb=>(hf b hb).1⟩⟩
 done:=by
  intro X hP hw hK hc i pins s σ H E I hf st hg;subst hP hw hK;obtain⟨xs,hq,hx⟩:=hg;obtain⟨its,rv,p,hz⟩:=I.tuple hq;obtain⟨f0,f1,f2,f3,f4,f5⟩:=hf it (by simp);have hl:=rv.length;exact wpAny_pyNext_tuple_end (I.ok.hd hc) st (show s.heap.IsTuple a its.toArray from p) (by simp;omega) fun h' eb=>⟨rfl,I.turned (t':=s.toks) (fun b o hb e=>eb b o hb e) f0 f1 f3 f4 f5⟩
 self:=fun _ _ _ _ _ st h=>wpAny_pyIter_tupleiter st h
theorem Cz{P:Program}{w:World}{K:W.Frag}{tg:Expr}(it:Addr)(lo:Int)(n:Nat):Turn P w K tg (Itr lo n) [it] it (fun i h=>IsRangeIter h it (lo+(i:Nat)*1) ((n:Int)-(i:Nat)) 1) where
 mem:=by simp
 obj:=fun i h st b hb=>by
  have e:b=it:=by simpa using hb
  subst e;exact⟨_,st,fun v z=>by
   have z':Data.fields _=Data.cell v:=z;cases z'⟩
 keep:=fun i h h' st k=>k it (by simp) _ st
 item:=by
  intro X hP hw hK hc i pins s σ H E I hf st hg;subst hP hw hK;obtain⟨f0,f1,f2,f3,f4,f5⟩:=hf it (by simp);have W:=Walks.range (prog:=X.prog) (w:=X.w) (I.ok.hd hc) it lo 1 n;refine W.item i s _ _ hg st fun v h' tk hv st' kk=>?_;obtain⟨t,rfl⟩:=hv;have I1:Inv X pins σ H { s with heap:=h',toks:=tk }:=I.turned (fun b o hb e=>kk b o (by simpa using hb) e) f0 f1 f3 f4 f5;refine⟨_,rfl,Ja (s:={ s with heap:=h',toks:=tk }) (n:= "range_iterator") st' rfl rfl (by decide) ⟨.int (lo+i),H,I1,⟨t,?_⟩,⟨rfl,rfl⟩,st',fun b hb=>(hf b hb).1⟩⟩;rw[Int.mul_one]
 done:=by
  intro X hP hw hK hc i pins s σ H E I hf st hg;subst hP hw hK;obtain⟨f0,f1,f2,f3,f4,f5⟩:=hf it (by simp);exact wpAny_pyNext_range_end (I.ok.hd hc) st (by have:n<=i:=hg;omega) fun h' eb=>⟨rfl,I.turned (t':=s.toks) (fun b o hb e=>eb b o hb e) f0 f1 f3 f4 f5⟩
 self:=fun _ _ _ _ _ st h=>wpAny_pyIter_rangeiter st h
section
variable {X:Cx} {tg:Expr}
def Tt(K:W.Frag)(tl:TE):TI:=fun σ H R=>tl σ H fun x H1=>∃a,x = .ref a/\(∃xs,SqL K H1 a xs)/\R (Itl K a) H1
theorem A8{pins:List (Addr×Obj)}{σ:St}{H:Hp}{s:Shared}{R:It->Hp->Prop}{E:Value->Shared->Prop}{lo hi:Int}{t u v:Tok}{tk:Nat}(I:Inv X pins σ H s)(h1:-(2^62)<=lo)(h2:lo<2^62)(h3:-(2^62)<=hi)(h4:hi<2^62)
  (q:R (Itr lo (hi-lo).toNat) H):wpAny (model X.prog X.w) X.A (pyIter (.ref s.heap.objs.size)) (PIE X pins σ tg R) E { s with heap:=s.heap.push { cls:= .type "range",data:= .fields #[.int lo t,.int hi u,.int 1 v] },toks:=tk }:=by
 refine wpAny_pyIter_range (IsRange.new ..) (small_one h1 h2 h3 h4) ?_;have I1:Inv X pins σ H { s with heap:=s.heap.push { cls:= .type "range",data:= .fields #[.int lo t,.int hi u,.int 1 v] },toks:=tk }:=I.kept fun b o e=>Heap.get?_push_of_some _ e;refine⟨(s.heap.push { cls:= .type "range",data:= .fields #[.int lo t,.int hi u,.int 1 v] }).objs.size,[(s.heap.push { cls:= .type "range",data:= .fields #[.int lo t,.int hi u,.int 1 v] }).objs.size],_,_,H,rfl,
  I1.kept (t':=tk) fun b o e=>Heap.get?_push_of_some _ e,Cz _ lo (hi-lo).toNat,?_,fun b hb=>?_,q⟩
 ·have e1:lo+((0:Nat):Int)*1=lo:=by simp
  have e2:(((hi-lo).toNat:Nat):Int)-((0:Nat):Int)=Builtin.Range.rangeSize lo hi 1:=by rw[rangeSize_one];split<;>omega
  show IsRangeIter _ _ (lo+((0:Nat):Int)*1) ((((hi-lo).toNat:Nat):Int)-((0:Nat):Int)) 1;rw[e1,e2];exact Heap.get?_push_size _ rfl
 ·have e:b=(s.heap.push { cls:= .type "range",data:= .fields #[.int lo t,.int hi u,.int 1 v] }).objs.size:=by simpa using hb
  subst e;exact I1.Nm (Nat.le_refl _) (I1.hok.fresh (Nat.le_refl _))
inductive WK(vs:List V)(H:Hp)(R:It->Hp->Prop):Prop|mk (j:Int) (h:vs=[.int j]) (h1:-(2^62)<=j) (h2:j<2^62) (q:R (Itr 0 j.toNat) H)
def RZ(ta:TA):TI:=fun σ H R=>ta σ H fun vs H1=>WK vs H1 R
def UH(ta:TA):TI:=fun σ H R=>ta σ H fun vs H1=>∃i j:Int,vs=[.int i,.int j]/\(-(2^62)<=i/\i<2^62/\-(2^62)<=j/\j<2^62)/\R (Itr i (j-i).toNat) H1
theorem bJ{a:Expr}{ta:TA}{p pos:Pos}(hg:Gl X "range")(hm:X.mg "range" = none)(ha:PA X [a] ta)(hs:starEach [a] X.env=[(false,eval a X.env)]:=by rfl):PI X tg (.Call (.Name "range" p) [a] [] pos) (RZ ta):=by
 intro pins s σ H R I h;refine Call_ (uL I hg hm boot_range (PyProof.Rows.callWith_type1 (thn (ha pos pins s σ H _ I h) fun us s1 ⟨vs,H1,I1,r1,q1⟩=>?_) hs rfl));obtain⟨j,e,q1,q2,q⟩:=q1;subst e;cases r1 with
 |cons r rr=>
  cases rr;obtain⟨t,rfl⟩:=r;exact call_range_1 (A8 I1 (by omega) (by omega) q1 q2 (by simpa using q))
theorem jG{a b:Expr}{ta:TA}{p pos:Pos}(hg:Gl X "range")(hm:X.mg "range" = none)(ha:PA X [a,b] ta)(hs:starEach [a,b] X.env=[(false,eval a X.env),(false,eval b X.env)]:=by rfl)(hs2:starEach [b] X.env=[(false,eval b X.env)]:=by rfl):
  PI X tg (.Call (.Name "range" p) [a,b] [] pos) (UH ta):=by
 intro pins s σ H R I h;refine Call_ (uL I hg hm boot_range (PyProof.Rows.callWith_type1 (thn (ha pos pins s σ H _ I h) fun us s1 ⟨vs,H1,I1,r1,q1⟩=>?_) (by rw[hs,hs2]) (by rw[hs2];rfl)));obtain⟨i,j,e,⟨q1,q2,q3,q4⟩,q⟩:=q1;subst e;cases r1 with
 |cons r rr=>
  cases rr with
  |cons r' rr=>
   cases rr;obtain⟨t,rfl⟩:=r;obtain⟨t',rfl⟩:=r';exact call_range_2 (A8 I1 q1 q2 q3 q4 q)
def ZP(wi:TI)(g:TG)(tb:TS):TS:=fun D σ H=>wi σ H fun J H1=>∃W:Nat->Nat->St->Hp->Prop,(∃m,W 0 m σ H1)/\∀i m σ H,W i m σ H->
 (J.stop i H/\D.nx σ H)∨(J.go i H/\∃N:St->Hp->Prop,(∀σ' H',N σ' H'->∃m',m'<m/\W (i+1) m' σ' H')/\∀x H',J.yld i H x H'->g x σ H' fun σ2 H2=>tb { D with nx:=N,ct:=N,bk:=D.nx } σ2 H2)
def uZ(fp:List Addr)(h:Heap):List (Addr×Obj):=fp.filterMap fun b=>(h.get? b).map fun o=>(b,o)
theorem gj{fp:List Addr}{h:Heap}{b:Addr}{o:Obj}(hb:b∈fp)(e:h.get? b=some o):(b,o)∈uZ fp h:=List.mem_filterMap.mpr ⟨b,hb,by rw[e];rfl⟩
theorem Gf{fp:List Addr}{h:Heap}{p:Addr×Obj}(hp:p∈uZ fp h):p.1∈fp/\h.get? p.1=some p.2:=by
 obtain⟨b,hb,e⟩:=List.mem_filterMap.mp hp;cases q:h.get? b with
 |none=>rw[q]at e;cases e
 |some o=>
  rw[q]at e;have e':(b,o)=p:=Option.some.inj e;subst e';exact⟨hb,q⟩
theorem Inv.pinned{pins:List (Addr×Obj)}{σ:St}{H:Hp}{s:Shared}{fp:List Addr}(I:Inv X pins σ H s)(hf:∀b∈fp,C5 X pins H b)(ho:∀b∈fp,∃o,s.heap.get? b=some o/\∀v,o.data≠ .cell v):Inv X (pins++uZ fp s.heap) σ H s:=
 I.Dy fun p hp=>(List.mem_append.mp hp).elim (fun z=>I.pin p (List.mem_append_right _ z)) fun z=>by
  obtain⟨hb,e⟩:=Gf z;obtain⟨f0,f1,f2,_⟩:=hf p.1 hb;obtain⟨o,e',d⟩:=ho p.1 hb;rw[e]at e';cases e';exact⟨e,f0,f1,f2,d⟩
theorem Inv.mz{pins pl:List (Addr×Obj)}{σ:St}{H:Hp}{s:Shared}(I:Inv X (pins++pl) σ H s):Inv X pins σ H s:=I.Dy fun p hp=>I.pin p (List.mem_append_right _ (List.mem_append_left _ hp))
theorem j8{iter:Expr}{body:List Stmt}{wi:TI}{g:TG}{tb:TS}{pos:Pos}(hp:PassesOwn (model X.prog X.w) X.A X.env X.xe)(hc:X.calm=true)(hi:PI X tg iter wi)(hg:PG X tg g)(hb:PSs X body tb)
  (hs:∀x,foldedSetIterable iter X.env x=pure x:=by intro _;rfl):PS X (.For tg iter body [] pos) (ZP wi g tb):=by
 intro pins s σ H D I h;refine wpAny_For (thn (hi pins s σ H _ I h) fun v s1 h1=>thn h1 fun itv s2 h2=>?_) hs;obtain⟨it,fp,tn,J,H2,e,I2,T,st2,f2,W,⟨m0,w0⟩,turn⟩:=h2;subst e;have stat:∀{H':Hp},(∀b∈fp,H' b=none)->∀b∈fp,C5 X pins H' b:=fun hn b hb=>⟨hn b hb,(f2 b hb).2⟩;refine codeAny_forLoop_any (fun n s'=>∃i σ' H',Inv X pins σ' H' s'/\tn i s'.heap/\(∀b∈fp,H' b=none)/\W i n σ' H') ?_ m0 ⟨0,σ,H2,I2,st2,fun b hb=>(f2 b hb).1,w0⟩;rintro n s3 ⟨i,σ3,H3,I3,st3,fr3,w3⟩;rcases turn i n σ3 H3 w3 with⟨stop,qn⟩|⟨go,N,hN,step⟩
 ·refine wpAny_passesOwn hp (thn (T.done X rfl rfl rfl hc i pins s3 σ3 H3 X.xe I3 (stat fr3) st3 stop) fun r s4 ⟨hr,I4⟩=>?_);subst hr;exact wpAny_execs_nil ⟨σ3,H3,I4,qn⟩
 ·refine wpAny_passesOwn hp (thn (T.item X rfl rfl rfl hc i pins s3 σ3 H3 X.xe I3 (stat fr3) st3 go) fun r s4 ⟨u,hr,h4⟩=>?_);subst hr;refine wpAny_passesOwn hp (thn h4 fun _ s5 ⟨x,H5,I5,r5,y5,st5,fr5⟩=>?_);have I5':=I5.pinned (stat fr5) (T.obj _ _ st5);refine wpAny_passesOwn hp (thn (hg _ s5 σ3 H5 x u _ I5' r5 (step x H5 y5)) fun _ s6 ⟨σ6,H6,I6,q6⟩=>?_);refine wpAny_passesOwn hp (thn (hb _ s6 σ6 H6 _ I6 q6) fun f s7 q7=>?_);have again:∀{σ7:St} {H7:Hp},Inv X (pins++uZ fp s5.heap) σ7 H7 s7->N σ7 H7->∃m,m<n/\∃i σ' H',Inv X pins σ' H' s7/\tn i s7.heap/\(∀b∈fp,H' b=none)/\W i m σ' H':=fun {σ7 H7} I7 n7=>by
   obtain⟨m',hm,w7⟩:=hN σ7 H7 n7;refine⟨m',hm,i+1,σ7,H7,I7.mz,T.keep _ _ _ st5 fun b hb o e=>(I7.pin (b,o) (List.mem_append_right _ (List.mem_append_right _ (gj hb e)))).1,fun b hb=>?_,w7⟩;obtain⟨o,e,d⟩:=T.obj _ _ st5 b hb;exact(I7.pin (b,o) (List.mem_append_right _ (List.mem_append_right _ (gj hb e)))).2.1
  cases f with
  |next=>obtain⟨σ7,H7,I7,n7⟩:=q7;exact again I7 n7
  |cont=>obtain⟨σ7,H7,I7,n7⟩:=q7;exact again I7 n7
  |brk=>obtain⟨σ7,H7,I7,q7⟩:=q7;exact⟨σ7,H7,I7.mz,q7⟩
  |ret v=>obtain⟨x7,σ7,H7,I7,r7,q7⟩:=q7;exact⟨x7,σ7,H7,I7.mz,r7,q7⟩
end
theorem fP{lo:Int}{n:Nat}{g:TG}{tb:TS}{D:Ends}{σ:St}{H:Hp}(Pv:Nat->St->Hp->Prop)(h0:Pv 0 σ H)
  (hs:∀i σ H,i<n->Pv i σ H->g (.int (lo+i)) σ H fun σ2 H2=>tb { D with nx:=Pv (i+1),ct:=Pv (i+1),bk:=D.nx } σ2 H2) (hd:∀σ H,Pv n σ H->D.nx σ H):
  ∃W:Nat->Nat->St->Hp->Prop,(∃m,W 0 m σ H)/\∀i m σ H,W i m σ H->
   ((Itr lo n).stop i H/\D.nx σ H)∨((Itr lo n).go i H/\∃N:St->Hp->Prop,(∀σ' H',N σ' H'->∃m',m'<m/\W (i+1) m' σ' H')/\∀x H',(Itr lo n).yld i H x H'->g x σ H' fun σ2 H2=>tb { D with nx:=N,ct:=N,bk:=D.nx } σ2 H2):=by
 refine⟨fun i m σ H=>m=n-i/\i<=n/\Pv i σ H,⟨n,by simp,Nat.zero_le _,h0⟩,?_⟩;rintro i m σ H ⟨rfl,hi,p⟩;by_cases hlt:i<n
 ·refine .inr ⟨hlt,Pv (i+1),fun σ' H' p'=>⟨n-(i+1),by omega,rfl,hlt,p'⟩,fun x H' y=>?_⟩;obtain⟨e,y⟩:=y;subst e y;exact hs i σ _ hlt p
 ·have e:i=n:=by omega
  subst e;exact .inl ⟨Nat.le_refl _,hd σ H p⟩
abbrev R2:=V->V->Hp->VK->Prop
def OpR(X:Cx)(f:Value->Value->Sem Value)(r:R2):Prop:=
 ∀(pins:List (Addr×Obj)) (s:Shared) (σ:St) (H:Hp) (x y:V) (v u:Value) (Q:VK),Inv X pins σ H s->RelV x v->RelV y u->r x y H Q->
  wpAny (model X.prog X.w) X.A (f v u) (EP X pins σ Q) X.xe s
def UnR(X:Cx)(f:Value->Sem Value)(r:V->Hp->VK->Prop):Prop:=
 ∀(pins:List (Addr×Obj)) (s:Shared) (σ:St) (H:Hp) (x:V) (v:Value) (Q:VK),Inv X pins σ H s->RelV x v->r x H Q->
  wpAny (model X.prog X.w) X.A (f v) (EP X pins σ Q) X.xe s
def mQ(X:Cx)(f:Value)(r:List V->Hp->VK->Prop):Prop:=
 ∀(pins:List (Addr×Obj)) (s:Shared) (σ:St) (H:Hp) (xs:List V) (us:List Value) (Q:VK),Inv X pins σ H s->Vals xs us->r xs H Q->
  wpAny (model X.prog X.w) X.A (call f us) (EP X pins σ Q) X.xe s
def tOp(r:R2)(ta tb:TE):TE:=fun σ H Q=>ta σ H fun x H1=>tb σ H1 fun y H2=>r x y H2 Q
def tUn(r:V->Hp->VK->Prop)(ta:TE):TE:=fun σ H Q=>ta σ H fun x H1=>r x H1 Q
inductive SII(C:Int->Int->Prop)(g:Int->Int->V)(x y:V)(H:Hp)(Q:VK):Prop|mk (i j:Int) (hx:x = .int i) (hy:y = .int j) (c:C i j) (q:Q (g i j) H)
def rI(C:Int->Int->Prop)(g:Int->Int->V):R2:=fun x y H Q=>SII C g x y H Q
inductive SI0(g:Int->Int->V)(x y:V)(H:Hp)(Q:VK):Prop|mk (i j:Int) (hx:x = .int i) (hy:y = .int j) (q:Q (g i j) H)
def rI0(g:Int->Int->V):R2:=fun x y H Q=>SI0 g x y H Q
inductive SU(g:Int->V)(x:V)(H:Hp)(Q:VK):Prop|mk (i:Int) (hx:x = .int i) (q:Q (g i) H)
def rU(g:Int->V):V->Hp->VK->Prop:=fun x H Q=>SU g x H Q
section
variable {X:Cx} {a b c:Expr} {ta tb tc:TE} {pos:Pos}
theorem XC(ha:PE X a ta)(hb:PE X b tb){pins:List (Addr×Obj)}{s:Shared}{σ:St}{H:Hp}{R:V->V->Hp->Prop}(I:Inv X pins σ H s)
  (h:ta σ H fun x H1=>tb σ H1 fun y H2=>R x y H2) {Q:Value->Shared->Prop} {f:Value->Value->Sem Value}
  (hf:∀v u s2 x y H2,Inv X pins σ H2 s2->RelV x v->RelV y u->R x y H2->wpAny (model X.prog X.w) X.A (f v u) Q X.xe s2):
  wpAny (model X.prog X.w) X.A (eval a X.env) (fun v s₁=>wpAny (model X.prog X.w) X.A (eval b X.env) (fun u s₂=>wpAny (model X.prog X.w) X.A (f v u) Q X.xe s₂) X.xe s₁) X.xe s:=by
 refine thn (ha pins s σ H _ I h) fun v s1 ⟨x,H1,I1,r1,q1⟩=>?_;refine thn (hb pins s1 σ H1 _ I1 q1) fun u s2 ⟨y,H2,I2,r2,q2⟩=>?_;exact hf v u s2 x y H2 I2 r1 r2 q2
theorem aH{op:Operator}{r:R2}(ho:OpR X (binaryOp op) r)(ha:PE X a ta)(hb:PE X b tb):PE X (.BinOp a op b pos) (tOp r ta tb):=by
 intro pins s σ H Q I h;exact wpAny_BinOp (XC ha hb I h fun v u s2 x y H2 I2 rx ry q=>ho pins s2 σ H2 x y v u Q I2 rx ry q)
theorem Af{op:UnaryOp}{r:V->Hp->VK->Prop}(ho:UnR X (unaryOp op) r)(ha:PE X a ta):PE X (.UnaryOp op a pos) (tUn r ta):=by
 intro pins s σ H Q I h;exact UnaryOp_ (thn (ha pins s σ H _ I h) fun v s1 ⟨x,H1,I1,r1,q1⟩=>ho pins s1 σ H1 x v Q I1 r1 q1)
theorem opI{f:Value->Value->Sem Value}{C:Int->Int->Prop}{g:Int->Int->Int}
  (rule:∀(i j:Int) (t u:Tok) (s:Shared) (Q:Value->Shared->Prop) (E:Value->Shared->Prop),C i j->Q (.int (g i j) s.toks) { s with toks:=s.toks+1 }->wpAny (model X.prog X.w) X.A (f (.int i t) (.int j u)) Q E s):
  OpR X f (rI C fun i j=> .int (g i j)):=by
 intro pins s σ H x y v u Q I rx ry h;obtain⟨i,j,rfl,rfl,hc,q⟩:=h;obtain⟨t,rfl⟩:=rx;obtain⟨t',rfl⟩:=ry;exact rule i j t t' s _ _ hc ⟨.int (g i j),H,I.tok _,⟨_,rfl⟩,q⟩
theorem Yi{f:Value->Value->Sem Value}{g:Int->Int->Int}
  (rule:∀(i j:Int) (t u:Tok) (s:Shared) (Q:Value->Shared->Prop) (E:Value->Shared->Prop),Q (.int (g i j) s.toks) { s with toks:=s.toks+1 }->wpAny (model X.prog X.w) X.A (f (.int i t) (.int j u)) Q E s):
  OpR X f (rI0 fun i j=> .int (g i j)):=by
 intro pins s σ H x y v u Q I rx ry h;obtain⟨i,j,rfl,rfl,q⟩:=h;obtain⟨t,rfl⟩:=rx;obtain⟨t',rfl⟩:=ry;exact rule i j t t' s _ _ ⟨.int (g i j),H,I.tok _,⟨_,rfl⟩,q⟩
theorem Xa{f:Value->Value->Sem Value}{g:Int->Int->Bool}
  (rule:∀(i j:Int) (t u:Tok) (s:Shared) (Q:Value->Shared->Prop) (E:Value->Shared->Prop),Q (.bool (g i j)) s->wpAny (model X.prog X.w) X.A (f (.int i t) (.int j u)) Q E s):
  OpR X f (rI0 fun i j=> .bl (g i j)):=by
 intro pins s σ H x y v u Q I rx ry h;obtain⟨i,j,rfl,rfl,q⟩:=h;obtain⟨t,rfl⟩:=rx;obtain⟨t',rfl⟩:=ry;exact rule i j t t' s _ _ ⟨.bl (g i j),H,I,rfl,q⟩
def aaJ(i j:Int):Prop:=0<j/\j<1073741824
def aau(i j:Int):Prop:=0<=j/\j<=1000000/\i.natAbs<2^64
theorem Pg:OpR X (binaryOp .Add) (rI0 fun i j=> .int (i+j)):=Yi fun _ _ _ _ _ _ _ q=>add_int q
theorem bN:OpR X (binaryOp .Sub) (rI0 fun i j=> .int (i-j)):=Yi fun _ _ _ _ _ _ _ q=>sub_int q
theorem Ab:OpR X (binaryOp .FloorDiv) (rI aaJ fun i j=> .int (i/j)):=opI fun i j _ _ _ _ _ hc q=>by
 have h1:(0:Int)<j:=hc.1;have h2:j<1073741824:=hc.2;exact floordiv_int (by omega) (by rw[Int.fdiv_eq_ediv_of_nonneg i (by omega)];exact q) (.inl (PyProof.noPylong_small (by omega)))
theorem eE:OpR X (binaryOp .Mod) (rI (fun _ j=>0<j) fun i j=> .int (i%j)):=opI fun i j _ _ _ _ _ hc q=>by
 have h1:(0:Int)<j:=hc;exact mod_int' (by omega) (by rw[Int.fmod_eq_emod_of_nonneg i (by omega)];exact q)
theorem Ao:OpR X (binaryOp .Pow) (rI aau fun i j=> .int (i^j.toNat)):=opI fun _ _ _ _ _ _ _ hc q=>pow_int_small hc.1 hc.2.1 hc.2.2 q
theorem unI{f:Value->Sem Value}{g:Int->Int}
  (rule:∀(i:Int) (t:Tok) (s:Shared) (Q:Value->Shared->Prop) (E:Value->Shared->Prop),Q (.int (g i) s.toks) { s with toks:=s.toks+1 }->wpAny (model X.prog X.w) X.A (f (.int i t)) Q E s):
  UnR X f (rU fun i=> .int (g i)):=by
 intro pins s σ H x v Q I rx h;obtain⟨i,rfl,q⟩:=h;obtain⟨t,rfl⟩:=rx;exact rule i t s _ _ ⟨.int (g i),H,I.tok _,⟨_,rfl⟩,q⟩
theorem uh:UnR X (unaryOp .USub) (rU fun i=> .int (-i)):=unI fun _ _ _ _ _ q=>neg_int q
end
def RJ:V->V->Bool
 |.non,.non=>true | .non,.int _=>true | .int _,.non=>true | .non,.bl _=>true | .bl _,.non=>true | .non,.str _=>true | .str _,.non=>true
 |.int _,.int _=>true | .bl _,.bl _=>true | .str _,.str _=>true | .byt _,.byt _=>true
 |.int _,.str _=>true | .str _,.int _=>true | .bl _,.str _=>true | .str _,.bl _=>true
 |_,_=>false
def rEq:R2:=fun x y H Q=>RJ x y=true/\Q (.bl (decide (x=y))) H
def rNe:R2:=fun x y H Q=>RJ x y=true/\Q (.bl (!decide (x=y))) H
theorem G6{i j:Int}:decide (V.int i=V.int j)=(i==j):=by
 rw[Bool.eq_iff_iff];simp
theorem Kq{i j:Bool}:decide (V.bl i=V.bl j)=(i==j):=by
 rw[Bool.eq_iff_iff];simp
theorem D4{i j:Str}:decide (V.str i=V.str j)=(i==j):=by
 rw[Bool.eq_iff_iff];simp
theorem Eh{i j:Array UInt8}:decide (V.byt i=V.byt j)=(i.toList==j.toList):=by
 rw[Bool.eq_iff_iff];cases i;cases j;simp
section
variable {X:Cx} {a b c:Expr} {ta tb tc:TE} {pos:Pos}
theorem cD{pins:List (Addr×Obj)}{σ:St}{H:Hp}{s:Shared}{Q:VK}{k k':Bool}(I:Inv X pins σ H s)(q:Q (.bl k) H)(e:k=k'):EP X pins σ Q (.bool k') s:=by
 subst e;exact⟨.bl k,H,I,rfl,q⟩
theorem X7:OpR X (compareOp .Eq) rEq:=by
 intro pins s σ H x y v u Q I rx ry h;obtain⟨hs,q⟩:=h;cases x with
 |non=>
  cases rx;cases y with
  |non=>cases ry;exact PySem.EqNone.eq_none_none (cD I q (by simp))
  |bl j=>cases ry;exact PySem.EqNone.eq_none_bool (cD I q (by simp))
  |int j=>obtain⟨t',rfl⟩:=ry;exact PySem.EqNone.eq_none_int (cD I q (by simp))
  |str j=>obtain⟨t',rfl⟩:=ry;exact PySem.EqNone.eq_none_str (cD I q (by simp))
  |_=>exact absurd (show false=true from hs) Bool.false_ne_true
 |bl i=>
  cases rx;cases y with
  |non=>cases ry;exact PySem.EqNone.eq_bool_none (cD I q (by simp))
  |bl j=>cases ry;exact eq_bool (cD I q Kq)
  |str j=>obtain⟨t',rfl⟩:=ry;exact PySem.EqMixed.eq_bool_str (cD I q (by simp))
  |_=>exact absurd (show false=true from hs) Bool.false_ne_true
 |int i=>
  obtain⟨t,rfl⟩:=rx;cases y with
  |non=>cases ry;exact PySem.EqNone.eq_int_none (cD I q (by simp))
  |int j=>obtain⟨t',rfl⟩:=ry;exact eq_int (cD I q G6)
  |str j=>obtain⟨t',rfl⟩:=ry;exact PySem.EqMixed.eq_int_str (cD I q (by simp))
  |_=>exact absurd (show false=true from hs) Bool.false_ne_true
 |str i=>
  obtain⟨t,rfl⟩:=rx;cases y with
  |non=>cases ry;exact PySem.EqNone.eq_str_none (cD I q (by simp))
  |bl j=>cases ry;exact PySem.EqMixed.eq_str_bool (cD I q (by simp))
  |int j=>obtain⟨t',rfl⟩:=ry;exact PySem.EqMixed.eq_str_int (cD I q (by simp))
  |str j=>obtain⟨t',rfl⟩:=ry;exact eq_str (cD I q D4)
  |_=>exact absurd (show false=true from hs) Bool.false_ne_true
 |byt i=>
  obtain⟨t,rfl⟩:=rx;cases y with
  |byt j=>obtain⟨t',rfl⟩:=ry;exact W.eq_bytes (cD I q Eh)
  |_=>exact absurd (show false=true from hs) Bool.false_ne_true
 |_=>cases y<;>exact absurd (show false=true from hs) Bool.false_ne_true
theorem Ul:OpR X (compareOp .NotEq) rNe:=by
 intro pins s σ H x y v u Q I rx ry h;obtain⟨hs,q⟩:=h;cases x with
 |non=>
  cases rx;cases y with
  |non=>cases ry;exact PySem.EqNone.ne_none_none (cD I q (by simp))
  |bl j=>cases ry;exact PySem.EqNone.ne_none_bool (cD I q (by simp))
  |int j=>obtain⟨t',rfl⟩:=ry;exact PySem.EqNone.ne_none_int (cD I q (by simp))
  |str j=>obtain⟨t',rfl⟩:=ry;exact PySem.EqNone.ne_none_str (cD I q (by simp))
  |_=>exact absurd (show false=true from hs) Bool.false_ne_true
 |bl i=>
  cases rx;cases y with
  |non=>cases ry;exact PySem.EqNone.ne_bool_none (cD I q (by simp))
  |bl j=>cases ry;exact ne_bool (cD I q (congrArg not Kq))
  |str j=>obtain⟨t',rfl⟩:=ry;exact PySem.EqMixed.ne_bool_str (cD I q (by simp))
  |_=>exact absurd (show false=true from hs) Bool.false_ne_true
 |int i=>
  obtain⟨t,rfl⟩:=rx;cases y with
  |non=>cases ry;exact PySem.EqNone.ne_int_none (cD I q (by simp))
  |int j=>obtain⟨t',rfl⟩:=ry;exact ne_int (cD I q (congrArg not G6))
  |str j=>obtain⟨t',rfl⟩:=ry;exact PySem.EqMixed.ne_int_str (cD I q (by simp))
  |_=>exact absurd (show false=true from hs) Bool.false_ne_true
 |str i=>
  obtain⟨t,rfl⟩:=rx;cases y with
  |non=>cases ry;exact PySem.EqNone.ne_str_none (cD I q (by simp))
  |bl j=>cases ry;exact PySem.EqMixed.ne_str_bool (cD I q (by simp))
  |int j=>obtain⟨t',rfl⟩:=ry;exact PySem.EqMixed.ne_str_int (cD I q (by simp))
  |str j=>obtain⟨t',rfl⟩:=ry;exact ne_str (cD I q (congrArg not D4))
  |_=>exact absurd (show false=true from hs) Bool.false_ne_true
 |byt i=>
  obtain⟨t,rfl⟩:=rx;cases y with
  |byt j=>obtain⟨t',rfl⟩:=ry;exact W.ne_bytes (cD I q (congrArg not Eh))
  |_=>exact absurd (show false=true from hs) Bool.false_ne_true
 |_=>cases y<;>exact absurd (show false=true from hs) Bool.false_ne_true
theorem wH:OpR X (compareOp .Lt) (rI0 fun i j=> .bl (decide (i<j))):=Xa fun _ _ _ _ _ _ _ q=>lt_int q
theorem PV:OpR X (compareOp .LtE) (rI0 fun i j=> .bl (decide (i<=j))):=Xa fun _ _ _ _ _ _ _ q=>le_int q
theorem vd:OpR X (compareOp .Gt) (rI0 fun i j=> .bl (decide (j<i))):=Xa fun _ _ _ _ _ _ _ q=>gt_int q
theorem OpR.or{f:Value->Value->Sem Value}{r r':R2}(h:OpR X f r)(h':OpR X f r'):OpR X f (fun x y H Q=>r x y H Q∨r' x y H Q):=by
 intro pins s σ H x y v u Q I rx ry q;rcases q with q|q
 ·exact h pins s σ H x y v u Q I rx ry q
 ·exact h' pins s σ H x y v u Q I rx ry q
theorem bF(b:Expr){op:CmpOp}(h:op≠ .In:=by decide)(h2:op≠ .NotIn:=by decide):behindInMarks op b=false:=by
 have e1:(op==CmpOp.In)=false:=by cases op<;>first|rfl|exact absurd rfl h
 have e2:(op==CmpOp.NotIn)=false:=by cases op<;>first|rfl|exact absurd rfl h2
 cases b<;>simp[behindInMarks,e1,e2]
theorem lZ{op:CmpOp}{r:R2}(ho:OpR X (compareOp op) r)(ha:PE X a ta)(hb:PE X b tb)(hm:behindInMarks op b=false):PE X (.Compare a [op] [b] pos) (tOp r ta tb):=by
 intro pins s σ H Q I h;exact wpAny_Compare1 (XC ha hb I h fun v u s2 x y H2 I2 rx ry q=>ho pins s2 σ H2 x y v u Q I2 rx ry q) hm
inductive Z8(x:V)(H:Hp)(Q:Bool->Hp->Prop):Prop|mk (k:Bool) (hx:x = .bl k) (q:Q k H)
def W3(t:TE):TT:=fun σ H Q=>t σ H fun x H'=>Z8 x H' Q
theorem bh{op:CmpOp}{r:R2}(ho:OpR X (compareOp op) r)(ha:PE X a ta)(hb:PE X b tb)(hm:behindInMarks op b=false):PT X (.Compare a [op] [b] pos) (W3 (tOp r ta tb)):=by
 intro pins s σ H Q I h;refine wpAny_isTrue_Compare1 (thn (ha pins s σ H _ I h) fun v s1 ⟨x,H1,I1,r1,q1⟩=>thn (hb pins s1 σ H1 _ I1 q1) fun u s2 ⟨y,H2,I2,r2,q2⟩=>
  thn (ho pins s2 σ H2 x y v u _ I2 r1 r2 q2) fun c s3 ⟨z,H3,I3,r3,k,e,q3⟩=>?_) hm
 subst e;cases r3;exact wpAny_truthy_bool ⟨H3,I3,q3⟩
theorem Ny{κ:Type}{kvs:List (κ×V)}{vs:List (κ×Value)}(r:KV kvs vs):(!vs.isEmpty)=!kvs.isEmpty:=by
 cases r<;>rfl
theorem Nx{xs:List V}{its:List Value}(r:Vals xs its):(!its.toArray.isEmpty)=!xs.isEmpty:=by
 cases r<;>simp
theorem xK:(sizeLine:Nat)<2^63:=by rw[sizeLine_eq];decide
theorem BX:OpR X (binaryOp .Add) (fun x y H Q=>∃i j,x = .str i/\y = .str j/\i.length+j.length<=sizeLine/\Q (.str (i++j)) H):=by
 intro pins s σ H x y v u Q I rx ry h;obtain⟨i,j,rfl,rfl,hz,q⟩:=h;obtain⟨t,rfl⟩:=rx;obtain⟨t',rfl⟩:=ry;exact add_str (fun t' tk=>⟨.str (i++j),H,I.tok _,⟨_,rfl⟩,q⟩) hz
theorem vals1{x:V}{us:List Value}(r:Vals [x] us):∃u,us=[u]/\RelV x u:=by
 cases r with
 |cons r1 r2=>cases r2;exact⟨_,rfl,r1⟩
theorem vals2{x y:V}{us:List Value}(r:Vals [x,y] us):∃u w',us=[u,w']/\RelV x u/\RelV y w':=by
 cases r with
 |cons r1 r2=>
  cases r2 with
  |cons r3 r4=>cases r4;exact⟨_,_,rfl,r1,r3⟩
theorem Dh(hc:X.calm=true):mQ X (.builtin "max") (fun xs H Q=>∃i j,xs=[.int i,.int j]/\Q (.int (if j>i then j else i)) H):=by
 intro pins s σ H xs us Q I r h;obtain⟨i,j,rfl,q⟩:=h;obtain⟨u,w',rfl,⟨t,rfl⟩,⟨t',rfl⟩⟩:=vals2 r;refine max_two_ints (I.ok.hd hc) fun h' tk k=>⟨_,H,I.kept k,?_,q⟩;by_cases hj:j>i
 ·rw[if_pos hj,if_pos hj];exact⟨_,rfl⟩
 ·rw[if_neg hj,if_neg hj];exact⟨_,rfl⟩
theorem Ep(hc:X.calm=true):mQ X (.builtin "min") (fun xs H Q=>∃i j,xs=[.int i,.int j]/\Q (.int (if j<i then j else i)) H):=by
 intro pins s σ H xs us Q I r h;obtain⟨i,j,rfl,q⟩:=h;obtain⟨u,w',rfl,⟨t,rfl⟩,⟨t',rfl⟩⟩:=vals2 r;refine min_two_ints (I.ok.hd hc) fun h' tk k=>⟨_,H,I.kept k,?_,q⟩;by_cases hj:j<i
 ·rw[if_pos hj,if_pos hj];exact⟨_,rfl⟩
 ·rw[if_neg hj,if_neg hj];exact⟨_,rfl⟩
theorem Dp:mQ X (.type "int") (fun xs H Q=>(∃i,xs=[.int i]/\Q (.int i) H)∨∃k,xs=[.bl k]/\Q (.int (if k then 1 else 0)) H):=by
 intro pins s σ H xs us Q I r h;rcases h with⟨i,rfl,q⟩|⟨k,rfl,q⟩
 ·obtain⟨u,rfl,t,rfl⟩:=vals1 r;exact call_int_int ⟨.int i,H,I,⟨_,rfl⟩,q⟩
 ·obtain⟨u,rfl,r1⟩:=vals1 r;cases r1;exact call_int_bool ⟨.int (if k then 1 else 0),H,I.tok _,⟨_,rfl⟩,q⟩
def YX(K:W.Frag)(x:V)(H:Hp)(n:Nat):Prop:=
 match x with
 |.str y=>y.length<=sizeLine/\n=y.length
 |.byt y=>y.size<=sizeLine/\n=y.size
 |.ref p=>(∃xs,SqL K H p xs/\n=xs.length)∨∃xs,SqT K H p xs/\n=xs.length
 |_=>False
theorem Hj:mQ X (.builtin "len") (fun xs H Q=>∃x n,xs=[x]/\YX X.K x H n/\Q (.int n) H):=by
 intro pins s σ H xs us Q I r h;obtain⟨x,n,rfl,e,q⟩:=h;obtain⟨u,rfl,rx⟩:=vals1 r;have hl:=xK;have hs:sizeLine=16777216:=sizeLine_eq;cases x with
 |str y=>
  obtain⟨t,rfl⟩:=rx;obtain⟨hy,e'⟩:y.length<=sizeLine/\n=y.length:=e;subst e';exact len_str (by omega) ⟨.int _,H,I.tok _,⟨_,rfl⟩,q⟩
 |byt y=>
  obtain⟨t,rfl⟩:=rx;obtain⟨hy,e'⟩:y.size<=sizeLine/\n=y.size:=e;subst e';exact W.len_bytes (by omega) ⟨.int _,H,I.tok _,⟨_,rfl⟩,q⟩
 |ref p=>
  cases rx;have e':(∃xs,SqL X.K H p xs/\n=xs.length)∨∃xs,SqT X.K H p xs/\n=xs.length:=e;rcases e' with⟨xs,hx,e'⟩|⟨xs,hx,e'⟩
  ·subst e';obtain⟨its,r',pl,hz⟩:=I.list hx;have hlen:=r'.length;exact Calls.call_len_list pl.isList (by simp only[List.size_toArray];omega) ⟨.int xs.length,H,I.tok _,⟨_,by simp only[List.size_toArray];rw[hlen]⟩,q⟩
  ·subst e';obtain⟨its,r',pl,hz⟩:=I.tuple hx;have hlen:=r'.length;exact len_tuple pl (by simp only[List.size_toArray];omega) ⟨.int xs.length,H,I.tok _,⟨_,by simp only[List.size_toArray];rw[hlen]⟩,q⟩
 |_=>exact(show False from e).elim
end
structure U7(h:Heap)(x dx C:Addr)(mA:Str->Option Value):Prop where
 obj:h.get? x=some (W.instObj C dx)
 ns:h.Ns1 dx mA
 ne:dx≠x
theorem Gm{h:Heap}{dx:Addr}{mA:Str->Option Value}(n:h.Ns1 dx mA):∃od,h.get? dx=some od/\∀name,W.lookIn name od=some (mA name):=by
 obtain⟨o,es,ep,ho,hd,hk,_,hm⟩:=n;refine⟨o,ho,fun name=>?_⟩;have e:=hm name;unfold nsFind findBy at e;rw[<-Array.find?_toList]at e;unfold W.lookIn;rw[hd];dsimp only;split
 ·rename_i y q
  rw[q]at e;exact congrArg some e
 ·rename_i q
  rw[q]at e;have a:es.toList.any (·.refKey)=false:=by
   rw[List.any_eq_false];intro y hy;obtain⟨z,t,hkey⟩:=hk y (Array.mem_toList_iff.mp hy);simp[DictEntry.refKey,hkey]
  have a':¬es.toList.any (·.refKey)=true:=by rw[a];exact Bool.false_ne_true
  rw[if_neg a'];exact congrArg some e
theorem U7.look{h:Heap}{x dx C:Addr}{mA:Str->Option Value}(I:U7 h x dx C mA):∃od,W.InstAt h x (W.instObj C dx) C (some od)/\∀name,W.lookIn name od=some (mA name):=
 let⟨od,ho,hl⟩:=Gm I.ns
 ⟨od,⟨I.obj,rfl,rfl,ho⟩,hl⟩
section
variable {prog:Program} {w:World} {A:Around} {E:Value->Shared->Prop} {s:Shared} {K:W.Frag} {x dx C f:Addr} {mA:Str->Option Value} {name:Str} {v:Value}
end
theorem G7.some_of{v:V}{o:Option Value}(r:G7 (some v) o):∃u,o=some u/\RelV v u:=by
 cases o with
 |none=>exact(show False from r).elim
 |some u=>exact⟨u,rfl,r⟩
theorem G7.none_of{o:Option Value}(r:G7 none o):o=none:=by
 cases o with
 |none=>rfl
 |some u=>exact(show False from r).elim
section
variable {P:Program} {w:World} {H H':Hp} {h h':Heap} {a C dx:Addr} {fs fs':List (Str×V)}
theorem LX(hok:HOk P w H h)(e:H a=some (.ins C dx fs)):∃mA,U7 h a dx C mA/\(∀f,G7 (fs.lookup f) (mA f))/\PySem.Within mA (fs.map (·.1))/\fs.length<=1000/\H dx=some (.own a):=by
 obtain⟨d,z,ne,ob,mA,n,r,q⟩:=(show iu P w H h a (.ins C dx fs)from hok a _ e);exact⟨mA,⟨ob,n,ne⟩,r,q,z,d⟩
end
structure Cls(K:W.Frag)(C:Addr):Prop where
 pg:W.plainGet K C Str.empty=true
 hd:W.hasDictIn K C=true
 po:W.plainOver K C=true
 sa:W.findIn K (.ref C) "__setattr__" = some (some (.builtin "object.__setattr__"))
theorem Cls.get{K:W.Frag}{C:Addr}(c:Cls K C)(f:Str):W.plainGet K C f=true:=c.pg
section
variable {X:Cx} {pins:List (Addr×Obj)} {σ:St} {H:Hp} {s:Shared} {a C dx:Addr} {fs:List (Str×V)} {f:Str} {v:V} {A:Around} {E:Value->Shared->Prop}
end
section
variable {X:Cx} {o e value:Expr} {f:Str} {pos pos' tpos:Pos} {ta tv:TE}
end
section
variable {X:Cx} {pins:List (Addr×Obj)} {σ:St} {H:Hp} {s:Shared} {A:Around} {E:Value->Shared->Prop} {Q:Value->Shared->Prop} {c:Value} {b:Bool}
inductive CW(K:W.Frag)(H:Hp):V->Value->Prop where
 |non:CW K H .non (.type "NoneType")
 |bl (x:Bool):CW K H (.bl x) (.type "bool")
 |int (i:Int):CW K H (.int i) (.type "int")
 |str (x:Str):CW K H (.str x) (.type "str")
 |flt (x:UInt64):CW K H (.flt x) (.type "float")
 |lst {a:Addr} {xs:List V} (e:H a=some (.lst xs)):CW K H (.ref a) (.type "list")
 |frz {a:Addr} {o:Obj} {xs:List V} (e:H a=some (.frz o (.lst xs))):CW K H (.ref a) (.type "list")
 |tup {a:Addr} {xs:List V} (e:H a=some (.tup xs)):CW K H (.ref a) (.type "tuple")
 |dK {a:Addr} {kvs:List (Key×V)} (e:H a=some (.dK kvs)):CW K H (.ref a) (.type "dict")
 |dT {a:Addr} {kvs:List (List Key×V)} (e:H a=some (.dT kvs)):CW K H (.ref a) (.type "dict")
 |ins {a C dx:Addr} {fs:List (Str×V)} (e:H a=some (.ins C dx fs)) (cl:Cls K C) (ha:W.findIn K (.ref C) "__class__" = some (some (.builtin "object.__class__")))
   (hn:W.specialIn K (.builtin "object.__class__") "__get__" = some (some (.builtin "getset_descriptor.__get__"))) (htk:W.takesIn K (.builtin "object.__class__")=some true)
   (hm:W.mroIn K C (.type "object")=some true):CW K H (.ref a) (.ref C)
theorem ED{x:V}{u t:Value}(I:Inv X pins σ H s)(rx:RelV x u)(ty:CW X.K H x t)(e:W.kitOne X.K t c=some b)(h:∀tk,Q (.bool b) { s with toks:=tk }):
  wpAny (model X.prog X.w) A (call (.builtin "isinstance") [u,c]) Q E s:=by
 cases ty with
 |non=>cases (show u=Value.none from rx);exact W.kia_one W.kitx_none I.kIn True.intro e (fun z=>nomatch z) h
 |bl y=>cases (show u=Value.bool y from rx);exact W.kia_one W.kitx_bool I.kIn True.intro e (fun z=>nomatch z) h
 |int i=>obtain⟨t,q⟩:=(show ∃t,u=Value.int i t from rx);cases q;exact W.kia_one W.kitx_int I.kIn True.intro e (fun z=>nomatch z) h
 |str y=>obtain⟨t,q⟩:=(show ∃t,u=Value.str y t from rx);cases q;exact W.kia_one W.kitx_str I.kIn True.intro e (fun z=>nomatch z) h
 |flt y=>obtain⟨t,q⟩:=(show ∃t,u=Value.float y t from rx);cases q;exact W.kia_one W.kitx_float I.kIn True.intro e (fun z=>nomatch z) h
 |@lst a xs ea=>
  cases (show u=Value.ref a from rx);obtain⟨_,_,n,_,h1⟩:=(show iu X.prog X.w H s.heap a (.lst xs)from I.hok a _ ea);exact W.kia_one W.kitx_list I.kIn ⟨_,h1,rfl⟩ e (fun z=>nomatch z) h
 |@frz a ob xs ea=>
  cases (show u=Value.ref a from rx);obtain⟨_,_,_,n,_,h1⟩:=(show iu X.prog X.w H s.heap a (.frz ob (.lst xs))from I.hok a _ ea);exact W.kia_one W.kitx_list I.kIn ⟨_,h1,rfl⟩ e (fun z=>nomatch z) h
 |@tup a xs ea=>
  cases (show u=Value.ref a from rx);obtain⟨_,_,_,p⟩:=(show iu X.prog X.w H s.heap a (.tup xs)from I.hok a _ ea);obtain⟨o,h1,h2,_⟩:=p;exact W.kia_one W.kitx_tuple I.kIn ⟨o,h1,h2⟩ e (fun z=>nomatch z) h
 |@dK a kvs ea=>
  cases (show u=Value.ref a from rx);obtain⟨_,_,vs,_,p⟩:=(show iu X.prog X.w H s.heap a (.dK kvs)from I.hok a _ ea);obtain⟨o,es,ep,h1,h2,_⟩:=p;exact W.kia_one W.kitx_dict I.kIn ⟨o,h1,h2.1⟩ e (fun z=>nomatch z) h
 |@dT a kvs ea=>
  cases (show u=Value.ref a from rx);obtain⟨_,_,xs,_,o,es,ep,h1,h2,_⟩:=(show iu X.prog X.w H s.heap a (.dT kvs)from I.hok a _ ea);exact W.kia_one W.kitx_dict I.kIn ⟨o,h1,h2.1⟩ e (fun z=>nomatch z) h
 |@ins a C dx fs ea cl ha hn htk hm=>
  cases (show u=Value.ref a from rx);obtain⟨mA,O,_⟩:=LX I.hok ea;obtain⟨od,J,_⟩:=O.look;exact W.kia_one (W.kitx_own (cl.get _) cl.hd ha hn htk hm) I.kIn J e (fun z=>nomatch z) h
end
structure mR(k:Nat)(A:Around):Prop where
 hd:A.handled=none
 dp:A.depth+3*k+5<recursionLimit
 un:A.units+16*k+200<cLine
theorem mR.mono{j k:Nat}{A:Around}(r:mR k A)(h:j<=k):mR j A:=⟨r.hd,by have:=r.dp;omega,by have:=r.un;omega⟩
theorem mR.deeper{k:Nat}{A:Around}(r:mR (k+1) A)(env:Env):mR k (A.deeper env):=
 ⟨r.hd,by have:=r.dp;show A.depth+1+3*k+5<_;omega,by have:=r.un;show A.units+3+16*k+200<_;omega⟩
theorem mR.depth{k:Nat}{A:Around}(r:mR k A):A.depth<recursionLimit:=by have:=r.dp;omega
theorem mR.units{k:Nat}{A:Around}(r:mR k A):A.units+64<cLine:=by have:=r.un;omega
theorem mR.JV{k:Nat}{A:Around}(r:mR k A):A.units<cLine:=by have:=r.un;omega
def XM:TA:=fun _ H Q=>Q [] H
def xV(ta:TE)(tr:TA):TA:=fun σ H Q=>ta σ H fun x H1=>tr σ H1 fun xs H2=>Q (x::xs) H2
section
variable {X:Cx} {e:Expr} {es:List Expr} {te:TE} {t:TA} {pos:Pos}
theorem ak:PA X [] XM:=fun _ _ _ _ H Q I h=>Calls.spliced_nil ⟨[],H,I,.nil,h⟩
theorem aG(ha:PE X e te)(hr:PA X es t)(hs:starEach (e::es) X.env=(false,eval e X.env)::starEach es X.env:=by rfl):PA X (e::es) (xV te t):=by
 intro pos pins s σ H Q I h;rw[hs];show wpAny _ _ (spliced ((false,eval e X.env)::backTo pos (starEach es X.env))) _ _ s;refine Calls.spliced_cons (thn (ha pins s σ H _ I h) fun u s1 ⟨x,H1,I1,r1,q1⟩=>?_);exact thn (hr pos pins s1 σ H1 _ I1 q1) fun us s2 ⟨xs,H2,I2,r2,q2⟩=>⟨x::xs,H2,I2,.cons r1 r2,q2⟩
inductive Yp(xs:List V)(o:HO)(H:Hp)(Q:VK):Prop|mk (hz:xs.length<=sizeLine) (q:∀p,H p=none->Q (.ref p) (upd H p o))
def ZY(t:TA):TE:=fun σ H Q=>t σ H fun xs H1=>Yp xs (.tup xs) H1 Q
def ZW(t:TA):TE:=fun σ H Q=>t σ H fun xs H1=>Yp xs (.lst xs) H1 Q
theorem gW{x1}(h:PA X es t):PE X (.Tuple es x1 pos) (ZY t):=by
 intro pins s σ H Q I hq;refine wpAny_Tuple_spliced (thn (h pos pins s σ H _ I hq) fun us s1 ⟨xs,H1,I1,r,z,q⟩=>⟨by rw[<-r.length];exact z,?_⟩);have hf:H1 s1.heap.objs.size=none:=I1.hok.fresh (Nat.le_refl _);refine⟨.ref s1.heap.objs.size,upd H1 s1.heap.objs.size (.tup xs),I1.laid (t':=s1.toks) (fun b u e=>Heap.get?_push_of_some _ e) (Nat.le_refl _) ?_,rfl,q _ hf⟩;exact⟨z,us,r,⟨_,Heap.get?_push_size _ rfl,rfl,_,rfl⟩⟩
theorem jf(h:PA X es t):PE X (.List es pos) (ZW t):=by
 intro pins s σ H Q I hq;refine wpAny_List_spliced (thn (h pos pins s σ H _ I hq) fun us s1 ⟨xs,H1,I1,r,z,q⟩=>⟨by rw[<-r.length];exact z,?_⟩);have hf:H1 s1.heap.objs.size=none:=I1.hok.fresh (Nat.le_refl _);refine⟨.ref s1.heap.objs.size,upd H1 s1.heap.objs.size (.lst xs),I1.laid (t':=s1.toks) (fun b u e=>Heap.get?_push_of_some _ e) (Nat.le_refl _) ?_,rfl,q _ hf⟩;exact⟨z,us,0,r,Heap.get?_push_size _ rfl⟩
end
abbrev Sp:=List V->Hp->VK->XK->Prop
abbrev CXT:=List Env->Hp->Shared->XK->Value->Shared->Prop
structure Rp(P:Program)(w:World)(K:W.Frag)(mg:Str->Option Value)(base:Heap)(A:Around)(outer:List Env)(s:Shared)(H:Hp):Prop where
 frames:A.frames=some outer
 mod:Mod K mg base
 bs:∀b o,base.get? b=some o->s.heap.get? b=some o/\H b=none
 bsz:base.objs.size<=s.heap.objs.size
 C4:s.heap.FunFrames base outer
 frf:∀b∈frs outer,H b=none
 hok:HOk P w H s.heap
 bare:AllBare s.gens
def CE(outer:List Env)(P:Program)(w:World)(H:Hp)(s:Shared)(Q:VK)(u:Value)(s':Shared):Prop:=
 ∃v H',s'.os=s.os/\AllBare s'.gens/\Un (frs outer) [] H H' s.heap s'.heap/\HOk P w H' s'.heap/\RelV v u/\Q v H'
def CR(CX:CXT)(outer:List Env)(P:Program)(w:World)(H:Hp)(s:Shared)(Q:VK)(E:XK)(r:Result)(s':Shared):Prop:=
 match r with
 |.ok (.ret u)=>CE outer P w H s Q u s'
 |.ok _=>False
 |.error e=>CX outer H s E e s'
structure G8(P:Program)(w:World)(K:W.Frag)(mg:Str->Option Value)(base:Heap)(CX:CXT)(k:Nat)(f:Addr)(fd:FuncData)(ps:List Str)(sp:Sp):Prop where
 len:∀vs H Q E,sp vs H Q E->vs.length=ps.length
 run:∀(A:Around) (outer:List Env) (s:Shared) (H:Hp) (args:Args) (us:List Value) (vs:List V) (Q:VK) (E:XK),mR k A->Rp P w K mg base A outer s H->BindsTo s fd args (ps.zip us)->Vals vs us->sp vs H Q E->
  codeAny (model P w) A (.call (.ref f) args) (CR CX outer P w H s Q E) s
section
variable {X:Cx} {pins:List (Addr×Obj)} {σ:St} {H:Hp} {s s':Shared}
theorem Inv.env0(I:Inv X pins σ H s):Rp X.prog X.w X.K X.mg X.base X.A X.stack s H:=
 ⟨I.ok.frames,I.ok.mod,I.bs,Nat.le_trans I.ok.bsz I.sz,I.stack,I.vK,I.hok,I.bare⟩
theorem Inv.after{Q:VK}{u:Value}(I:Inv X pins σ H s)(h:CE X.stack X.prog X.w H s Q u s'):EP X pins σ Q u s':=by
 obtain⟨v,H',os,bare,un,hok,r,q⟩:=h;obtain⟨hh,g,d,t,os'⟩:=s';obtain rfl:os'=s.os:=os;exact⟨v,H',I.call (h':=hh) (g':=g) (d':=d) (t':=t) (ch:=[]) un hok bare (fun b z=>absurd z (by simp)),r,q⟩
end
def MV(sp:Sp)(dvs:List V)(E:XK)(t:TA):TE:=fun σ H Q=>t σ H fun vs H1=>sp (vs++dvs) H1 Q E
def Binds(K:W.Frag)(fd:FuncData)(ps:List Str)(ds:List Value):Prop:=
 ∀(s:Shared) (us:List Value),K.In s.heap->(us++ds).length=ps.length->BindsTo s fd ⟨us,[]⟩ (ps.zip (us++ds))
theorem Binds.all{K:W.Frag}{fd:FuncData}{ps:List Str}(h:∀us:List Value,us.length=ps.length->bindArgs fd ⟨us,[]⟩=pure (ps.zip us)):Binds K fd ps []:=fun s us _ hl=>by
 rw[List.append_nil]at hl⊢;exact .of_eq (h us hl)
def Passes(CX:CXT)(X:Cx)(E:XK):Prop:=∀(pins:List (Addr×Obj)) (σ:St) (H:Hp) (s:Shared) (e:Value) (s':Shared),Inv X pins σ H s->CX X.stack H s E e s'->X.xe e s'
section
variable {X:Cx} {CX:CXT} {k:Nat} {f C:Addr} {fd:FuncData} {ps:List Str} {sp:Sp} {dvs:List V} {ds:List Value} {E:XK} {x m:Str} {p pos apos:Pos} {e o:Expr} {es:List Expr} {ta:TE} {t:TA}
theorem Oq{pins:List (Addr×Obj)}{σ:St}{H:Hp}{s:Shared}{Q:VK}{us:List Value}{vs:List V}(F:G8 X.prog X.w X.K X.mg X.base CX k f fd ps sp)(hr:mR k X.A)(hb:Binds X.K fd ps ds)(hd:Vals dvs ds)(hx:Passes CX X E)
  (I:Inv X pins σ H s) (r:Vals vs us) (h:sp (vs++dvs) H Q E):wpAny (model X.prog X.w) X.A (call (.ref f) us) (EP X pins σ Q) X.xe s:=by
 have r2:Vals (vs++dvs) (us++ds):=r.append hd;have hl:(us++ds).length=ps.length:=by rw[<-r2.length];exact F.len _ _ _ _ h
 refine wpAny_call (codeAny_mono (F.run X.A X.stack s H ⟨us,[]⟩ (us++ds) (vs++dvs) Q E hr I.env0 (hb s us I.kIn hl) r2 h) fun r s' hq=>?_);cases r with
 |error e=>exact hx pins σ H s e s' I hq
 |ok fl=>
  cases fl with
  |ret u=>exact I.after hq
  |next=>exact False.elim hq
  |brk=>exact False.elim hq
  |cont=>exact False.elim hq
theorem Fq(F:G8 X.prog X.w X.K X.mg X.base CX k f fd ps sp)(hr:mR k X.A)(hg:Gl X x)(hm:X.mg x=some (.ref f))(hk:W.keepIn X.K (.ref f)=true)(hb:Binds X.K fd ps ds)(hd:Vals dvs ds)(hx:Passes CX X E)
  (ha:PA X (e::es) t) (hdb:(x==("__debug__" : Str))=false:=by decide) (he:starEach (e::es) X.env=(false,eval e X.env)::starEach es X.env:=by rfl) (hpl:(backTo pos (starEach es X.env)).any (·.1)=false:=by rfl):
  PE X (.Call (.Name x p) (e::es) [] pos) (MV sp dvs E t):=by
 intro pins s σ H Q I h;refine wpAny_Call_Name_kw (tV I hg hm ?_ hdb);refine W.callWith_K (h₀:=X.base) I.ok.mod.kin hk (thn (ha pos pins s σ H _ I h) fun us s1 ⟨vs,H1,I1,r,q⟩=>⟨I1.kIn,?_⟩) he hpl;exact Oq F hr hb hd hx I1 r q
end
section
variable {X:Cx} {CX:CXT} {k:Nat} {f C:Addr} {fd:FuncData} {ps ks:List Str} {sp:Sp} {E:XK} {x m:Str} {p pos apos kpos:Pos} {e o:Expr} {es:List Expr} {kws:List Keyword} {te ta:TE} {t tk:TA} {nm:Option Str}
variable {g:List Value->List Value->List Value} {gV:List V->List V->List V}
end
structure aQ(N P:List Str)(sc:Scope):Prop where
 kind:sc.kind = .function
 co:sc.isCoroutine=false
 gen:sc.isGenerator=false
 nd:N.Nodup
 pre:N.take P.length=P
 par:∀x∈P,sc.names.lookup x=some .local∨sc.names.lookup x=some .cell
 Et:∀y∈sc.names,y.2≠ .free
theorem wL{kindOf:Str->Option NameKind}{x:Str}:∀{binds:List (Str×Value)} {m:Str->Option Value},(∀v,(x,v)∉binds)->bindL kindOf binds m x=m x
 |[],_,_=>rfl
 |(n,v)::r,m,h=>by
  unfold bindL;rw[wL fun w hw=>h w (List.mem_cons_of_mem _ hw)];split
  ·have:x≠n:=by rintro rfl;exact h v List.mem_cons_self
   simp[this]
  ·rfl
theorem yc{kindOf:Str->Option NameKind}{x:Str}:∀{binds:List (Str×Value)} {m:Str->Option Value},(∀v,(x,v)∉binds)->bindC kindOf binds m x=m x
 |[],_,_=>rfl
 |(n,v)::r,m,h=>by
  unfold bindC;rw[yc fun w hw=>h w (List.mem_cons_of_mem _ hw)];split
  ·rfl
  ·have:x≠n:=by rintro rfl;exact h v List.mem_cons_self
   simp[this]
theorem xJ{kindOf:Str->Option NameKind}{x:Str}{v:Value}:∀{P:List Str} {vs:List Value} {i:Nat} {m:Str->Option Value},P.Nodup->P[i]?=some x->vs[i]?=some v->kindOf x=some .local->
  bindL kindOf (P.zip vs) m x=some v
 |[],_,_,_,_,h,_,_=>by simp at h
 |_::_,[],_,_,_,_,h,_=>by simp at h
 |p::P,w::vs,0,m,nd,h1,h2,hk=>by
  simp at h1 h2;subst h1;subst h2;show bindL kindOf ((p,w)::P.zip vs) m p=_;unfold bindL;rw[wL fun v hv=>(List.nodup_cons.mp nd).1 (List.of_mem_zip hv).1,if_pos hk];simp
 |p::P,w::vs,i+1,m,nd,h1,h2,hk=>by
  show bindL kindOf ((p,w)::P.zip vs) m x=_;unfold bindL;exact xJ (i:=i) (List.nodup_cons.mp nd).2 (by simpa using h1) (by simpa using h2) hk
theorem xP{kindOf:Str->Option NameKind}{x:Str}{v:Value}:∀{P:List Str} {vs:List Value} {i:Nat} {m:Str->Option Value},P.Nodup->P[i]?=some x->vs[i]?=some v->kindOf x≠some .local->
  bindC kindOf (P.zip vs) m x=some v
 |[],_,_,_,_,h,_,_=>by simp at h
 |_::_,[],_,_,_,_,h,_=>by simp at h
 |p::P,w::vs,0,m,nd,h1,h2,hk=>by
  simp at h1 h2;subst h1;subst h2;show bindC kindOf ((p,w)::P.zip vs) m p=_;unfold bindC;rw[yc fun v hv=>(List.nodup_cons.mp nd).1 (List.of_mem_zip hv).1,if_neg hk];simp
 |p::P,w::vs,i+1,m,nd,h1,h2,hk=>by
  show bindC kindOf ((p,w)::P.zip vs) m x=_;unfold bindC;exact xP (i:=i) (List.nodup_cons.mp nd).2 (by simpa using h1) (by simpa using h2) hk
def start(N:List Str)(vs:List V):St:=vs.map some++List.replicate (N.length-vs.length) none
def Np(CX:CXT)(P:Program)(w:World)(K:W.Frag)(mg:Str->Option Value)(base:Heap)(N:List Str)(qual:Str)(scope:Scope)(f:Addr)(cd:Value)(A:Around)(outer:List Env)(s:Shared)(H:Hp)(E:XK):Cx where
 prog:=P
 w:=w
 K:=K
 mg:=mg
 base:=base
 A:=A.deeper (envOfC qual scope s.heap.objs.size f cd)
 N:=N
 s₀:=s
 H₀:=H
 env:=envOfC qual scope s.heap.objs.size f cd
 outer:=outer
 stack:=envOfC qual scope s.heap.objs.size f cd::outer
 ex:=[]
 calm:=true
 fn:=fun _=>true
 pn:=[]
 xe:=fun e s'=>wpAny (model P w) (A.deeper (envOfC qual scope s.heap.objs.size f cd)) (leaving (envOfC qual scope s.heap.objs.size f cd) e) (fun _ s''=>CX outer H s E e s'') (fun e' s''=>CX outer H s E e' s'') s'
theorem Bv{sc:Scope}{n:Nat}{x:Str}(h:sc.names.lookup x=some .cell):∃c,(cellsFrom n sc.names []).lookup x=some c:=by
 have q:=W.cellsFrom_some sc.names n [] (.inl h);exact Option.isSome_iff_exists.mp q
theorem GQ{CX:CXT}{P:Program}{w:World}{K:W.Frag}{mg:Str->Option Value}{base:Heap}{N ps:List Str}{qual:Str}{scope:Scope}{f:Addr}{cd:Value}{A:Around}{outer:List Env}{s s1:Shared}{H:Hp}{E:XK}{us:List Value}{vs:List V}
  (S:aQ N ps scope) (hd:A.handled=none) (e0:Rp P w K mg base A outer s H) (hl:vs.length=ps.length) (r:Vals vs us)
  (x:InCallC s s.heap.objs.size (bindL (envOfC qual scope s.heap.objs.size f cd).kindOf (ps.zip us) fun _=>none) (cellsFrom (s.heap.objs.size+1) scope.names []) (bindC (envOfC qual scope s.heap.objs.size f cd).kindOf (ps.zip us) fun _=>none) s1):
  Inv (Np CX P w K mg base N qual scope f cd A outer s H E) [] (start N vs) H s1:=by
 have hpl:ps.length<=N.length:=by have:=congrArg List.length S.pre;rw[List.length_take]at this;omega
 obtain⟨h1,tk,rfl,hk⟩:=x.done;have noA:∀b:Addr,b∉(Np CX P w K mg base N qual scope f cd A outer s H E).ex:=fun b z=>absurd (show b∈([]:List Addr)from z) (by simp);refine⟨⟨e0.mod,S.kind,rfl,rfl,Nat.le_refl _,fun y z c h1 h2=>?_,fun y hy=>?_,fun y c _ h=>?_,fun _=>hd,Around.frames_deeper e0.frames,.inr ⟨rfl,rfl⟩,fun b z=>absurd z (noA b),e0.bs,e0.bsz,fun b _ _=>noA b,fun b z=>absurd z (noA b),e0.C4,e0.frf⟩,
  rfl,e0.bare,Un.kept hk,⟨_,x.toInCall.ns,fun i y v h1 h2 h3=>?_⟩,fun y c h=>⟨_,x.cell y c h⟩,e0.hok.fresh (Nat.le_refl _),fun y c h=>?_,fun p hp=>absurd (show p∈([]:List (Addr×Obj))from hp) (by simp),e0.hok.kept hk,?_⟩
 ·exact name_of_addr x.apart (PySem.mem_of_lookup h1) (PySem.mem_of_lookup h2)
 ·have hy:scope.names.lookup y=some .cell∨scope.names.lookup y=some .free:=hy;rcases hy with hy|hy
  ·exact Bv hy
  ·exact absurd rfl (S.Et _ (PySem.mem_of_lookup hy))
 ·exact Nat.le_of_lt (x.above y c (PySem.mem_of_lookup h))
 ·have hi:i<vs.length:=by
   unfold start at h2;by_cases hi:i<vs.length
   ·exact hi
   ·rw[List.getElem?_append_right (by simpa using hi)]at h2;rw[List.getElem?_replicate]at h2;split at h2<;>cases h2
  have ha:vs[i]?=some v:=by
   unfold start at h2;rw[List.getElem?_append_left (by simpa using hi),List.getElem?_map]at h2;cases e:vs[i]? with
   |none=>rw[e]at h2;cases h2
   |some a=>rw[e]at h2;cases h2;rfl
  obtain⟨u,hu,rv⟩:=r.get ha;have hp:ps[i]?=some y:=by
   rw[<-S.pre,List.getElem?_take_of_lt (by omega)];exact h1
  have ndP:ps.Nodup:=by rw[<-S.pre];exact S.nd.sublist (List.take_sublist _ _)
  refine⟨u,rv,?_⟩;rcases S.par y (List.mem_of_getElem? hp)with k|k
  ·exact .inl ⟨k,xJ ndP hp hu k⟩
  ·obtain⟨c,e⟩:=Bv (n:=s.heap.objs.size+1) k;refine .inr ⟨.inl k,c,e,?_⟩;have q:=x.cell y c e;rw[xP ndP hp hu (by show scope.names.lookup y≠_;rw[k];decide)]at q;exact q
 ·exact e0.hok.fresh (Nat.le_of_lt (x.above y c (PySem.mem_of_lookup h)))
 ·unfold start;show _=N.length;rw[List.length_append,List.length_map,List.length_replicate];omega
theorem Vd{CX:CXT}{P:Program}{w:World}{K:W.Frag}{mg:Str->Option Value}{base:Heap}{k:Nat}{f:Addr}{name qual:Str}{params:Arguments}{body:List Stmt}{scope:Scope}{dV kV doc pm cdv ct oc:Value}{an od:Option Addr}
  {osl:Array (Option Value)} {N ps:List Str} {sp:Sp} (lk:K.lookup f=some ⟨oc,od,.func (W.fnOf name qual params body scope dV kV doc pm an cdv ct),osl⟩) (hcd:W.codeIn K cdv qual=true) (S:aQ N ps scope)
  (len:∀vs H Q E,sp vs H Q E->vs.length=ps.length)
  (hbody:∀(A:Around) (outer:List Env) (s:Shared) (H:Hp) (vs:List V) (Q:VK) (E:XK),mR k (A.deeper (envOfC qual scope s.heap.objs.size f cdv))->sp vs H Q E->
   ∃t,PSs (Np CX P w K mg base N qual scope f cdv A outer s H E) body t/\t { nx:=fun _ H'=>Q .non H',rt:=Q } (start N vs) H):
  G8 P w K mg base CX (k+1) f (W.fnOf name qual params body scope dV kV doc pm an cdv ct) ps sp:=by
 refine⟨len,fun A outer s H args us vs Q E hr e0 hb r hsp=>?_⟩;have hl:=len _ _ _ _ hsp;have KX:K.In s.heap:=e0.mod.kin.keeps fun b o e=>(e0.bs b o e).1;have lim:s.heap.NoLimit:=e0.mod.nolimit.keeps fun b o e=>(e0.bs b o e).1;have hkind:∀y∈ps.zip us,scope.names.lookup y.1=some .local∨(scope.names.lookup y.1=some .cell/\((cellsFrom (s.heap.objs.size+1) scope.names []).lookup y.1).isSome=true):=fun⟨n,v⟩ hy=>by
  rcases S.par n (List.of_mem_zip hy).1 with q|q
  ·exact .inl q
  ·exact .inr ⟨q,W.cellsFrom_some _ _ _ (.inl q)⟩
 refine codeAny_call_function hr.depth (KX _ _ lk) rfl S.co S.gen rfl (W.codeRec_of KX hcd) (hb _ _ _ _ ?_);refine wpAny_newFunctionEnv_cells S.kind hkind fun env he s1 x=>?_;subst he;refine⟨lim.keeps x.toInCall.keep,codeAny_func ?_⟩;obtain⟨t,ht,hq⟩:=hbody A outer s H vs Q E (hr.deeper _) hsp;have I:Inv (Np CX P w K mg base N qual scope f cdv A outer s H E) [] (start N vs) H s1:=GQ S hr.hd e0 hl r x;refine wpAny_mono (ht [] s1 (start N vs) H _ I hq) (fun fl s' hs=>?_) fun e s' hs=>hs;have fin:∀{σ':St} {H':Hp} {v:V} {u:Value},Inv (Np CX P w K mg base N qual scope f cdv A outer s H E) [] σ' H' s'->RelV v u->Q v H'->CE outer P w H s Q u s':=
  fun {σ' H' v u} J rv q=>⟨v,H',J.os,J.bare,J.base,J.hok,rv,q⟩
 cases fl with
 |ret u=>
  obtain⟨v,σ',H',J,rv,q⟩:=hs;exact fin J rv q
 |next=>
  obtain⟨σ',H',J,q⟩:=hs;exact fin (v:=V.non) (u:=Value.none) J rfl q
 |brk=>
  obtain⟨_,_,_,q⟩:=hs;exact False.elim q
 |cont=>
  obtain⟨_,_,_,q⟩:=hs;exact False.elim q
section
variable {X:Cx} {x:Str} {p pos:Pos} {e:Expr} {es:List Expr} {t:TA} {id T:String} {r:List V->Hp->VK->Prop}
def tCB(r:List V->Hp->VK->Prop)(t:TA):TE:=fun σ H Q=>t σ H fun vs H1=>r vs H1 Q
theorem aK(hc:mQ X (.builtin id) r)(hg:Gl X x)(hm:X.mg x=none)(hv:bootBuiltins x=some (.builtin id))(ha:PA X (e::es) t)(hn:x≠ "__name__" := by decide)(hdb:(x==("__debug__" : Str))=false:=by decide)
  (he:starEach (e::es) X.env=(false,eval e X.env)::starEach es X.env:=by rfl) (hpl:(backTo pos (starEach es X.env)).any (·.1)=false:=by rfl):PE X (.Call (.Name x p) (e::es) [] pos) (tCB r t):=by
 intro pins s σ H Q I h;refine wpAny_Call_Name_kw (uL I hg hm hv ?_ hn hdb);exact PyProof.Rows.callWith_builtin1 (thn (ha pos pins s σ H _ I h) fun us s1 ⟨vs,H1,I1,r1,q1⟩=>hc pins s1 σ H1 vs us Q I1 r1 q1) he hpl
theorem bQ(hc:mQ X (.type T) r)(hg:Gl X x)(hm:X.mg x=none)(hv:bootBuiltins x=some (.type T))(ha:PA X (e::es) t)(hn:x≠ "__name__" := by decide)(hdb:(x==("__debug__" : Str))=false:=by decide)
  (he:starEach (e::es) X.env=(false,eval e X.env)::starEach es X.env:=by rfl) (hpl:(backTo pos (starEach es X.env)).any (·.1)=false:=by rfl):PE X (.Call (.Name x p) (e::es) [] pos) (tCB r t):=by
 intro pins s σ H Q I h;refine wpAny_Call_Name_kw (uL I hg hm hv ?_ hn hdb);exact PyProof.Rows.callWith_type1 (thn (ha pos pins s σ H _ I h) fun us s1 ⟨vs,H1,I1,r1,q1⟩=>hc pins s1 σ H1 vs us Q I1 r1 q1) he hpl
end
end L2
namespace HT
open PySem PyProof.Rows
section
open PySem.SeqAt
open PySem.AutoSeq1 (wpAny_loadPart')
open PySem.MeetsSeq PySem.MeetsSeq2 PySem.MeetsSeq3
end
section
variable {prog:Program} {w:World} {A:Around} {E:Value->Shared->Prop} {s:Shared}
theorem KJ{t b:Addr}{vs ws:List Value}{Q:Value->Shared->Prop}(ht:IsTup s.heap t vs.toArray)(hb:IsTup s.heap b ws.toArray)(hv:vs≠[])
  (h1:ws=[]->Q (.ref t) s) (h2:ws≠[]->Q (.ref s.heap.objs.size) { s with heap:=s.heap.push { cls:= .type "tuple",data:= .seq (vs++ws).toArray } })
  (hsz:vs.length+ws.length<=sizeLine):wpAny (model prog w) A (binaryOp .Add (.ref t) (.ref b)) Q E s:=by
 obtain⟨⟨cls,dd,data,sl⟩,ho,hc,n,hd⟩:=id ht;obtain⟨⟨cls2,dd2,data2,sl2⟩,ho2,hc2,n2,hd2⟩:=id hb;simp only at hc hd hc2 hd2;subst hc hd hc2 hd2;have e:vs.toArray++ws.toArray=(vs++ws).toArray:=by simp
 by_cases hw:ws=[]
 ·exact concat_meets ⟨_,ho,rfl⟩ ⟨_,ho2,rfl⟩ noFill_tuple_add seq_tuple_add PySem.F.slot_tuple_add PySem.F.entry_tuple_add (PySem.F.args_tuple_add_2 _ _)
   (tuple_addW1 t b vs.toArray ws.toArray n n2 dd dd2 sl sl2 (by simpa using hv) (by simp[hw])) ⟨ho,ho2,h1 hw⟩
 ·refine concat_meets ⟨_,ho,rfl⟩ ⟨_,ho2,rfl⟩ noFill_tuple_add seq_tuple_add PySem.F.slot_tuple_add PySem.F.entry_tuple_add (PySem.F.args_tuple_add_2 _ _)
   (tuple_addW2 t b vs.toArray ws.toArray n n2 dd dd2 sl sl2 (by simpa using hv) (by simpa using hw) (by rw[List.size_toArray,List.size_toArray];exact hsz)) ⟨ho,ho2,?_⟩
  rw[e];exact h2 hw
def sIx(n d:Nat):Option Int->Nat
 |none=>d
 |some v=>if v<0 then(v+(n:Int)).toNat else min v.toNat n
theorem ig(n d:Nat):sIx n d none=d:=rfl
theorem jZ(n d k:Nat):sIx n d (some (k:Int))=min k n:=by
 show(if(k:Int)<0 then((k:Int)+(n:Int)).toNat else min (k:Int).toNat n)=min k n;rw[if_neg (by omega),Int.toNat_natCast]
theorem NP(n d:Nat)(hd:d<=n)(o:Option Int):sIx n d o<=n:=by
 cases o with
 |none=>exact hd
 |some v=>
  show(if v<0 then(v+(n:Int)).toNat else min v.toNat n)<=n;by_cases hv:v<0
  ·rw[if_pos hv];omega
  ·rw[if_neg hv];exact Nat.min_le_right _ _
theorem Fw(v:Int)(n d:Nat):(if v<0 then max (v+(n:Int)) 0 else min v (n:Int))=((sIx n d (some v):Nat):Int):=by
 show(if v<0 then max (v+(n:Int)) 0 else min v (n:Int))=(((if v<0 then(v+(n:Int)).toNat else min v.toNat n):Nat):Int);by_cases hv:v<0
 ·simp only[if_pos hv];omega
 ·simp only[if_neg hv];omega
theorem CD(lo hi:Option Int)(n:Nat):Builtin.Slice.sliceAdjust lo hi 1 (n:Int)=(((sIx n 0 lo:Nat):Int),((sIx n n hi:Nat):Int)):=by
 have h1:¬((1:Int)<0):=by omega
 unfold Builtin.Slice.sliceAdjust;simp only[h1,if_false];refine Prod.ext ?_ ?_
 ·cases lo with
  |none=>rfl
  |some v=>exact Fw v n 0
 ·cases hi with
  |none=>rfl
  |some v=>exact Fw v n n
theorem Cd(i j:Nat):Builtin.Slice.slicePlaces (i:Int) (j:Int) 1=j-i:=by
 unfold Builtin.Slice.slicePlaces;have h1:(1:Int)>0:=by omega
 simp only[h1,if_true,Int.ediv_one];split<;>omega
theorem uO{v:Value}{o:Option Int}{Q:Option Int->Shared->Prop}(p:IsPart v o)(h:Q o s):wpAny (model prog w) A (Builtin.Slice.slicePartIndex v) Q E s:=by
 cases p with
 |none=>exact slicePart_none h
 |int i t=>exact slicePart_int h
theorem j9{sl:Addr}{vl vu:Value}{lo hi:Option Int}{n:Nat}{Q:Int×Int×Nat->Shared->Prop}(hs:s.heap.IsSliceOf sl vl vu .none)(pl:IsPart vl lo)(pu:IsPart vu hi)
  (h:Q (((sIx n 0 lo:Nat):Int),1,sIx n n hi-sIx n 0 lo) s):wpAny (model prog w) A (Builtin.Slice.sliceApplied (.ref sl) (pure (n:Int))) Q E s:=by
 obtain⟨os,hos,hcs,hds⟩:=id hs;unfold Builtin.Slice.sliceApplied Builtin.Slice.sliceFields;refine wpAny_bind (wpAny_bind (wpAny_field hos hds (x:=vl) rfl (wpAny_bind (wpAny_field hos hds (x:=vu) rfl (wpAny_bind (wpAny_field hos hds (x:= .none) rfl (wpAny_pure ?_)))))));refine wpAny_bind (slicePart_none ?_);show wpAny _ _ (if((1:Int)==0)=true then _ else _) _ _ s;rw[if_neg (by decide)];refine wpAny_bind (uO pl (wpAny_bind (uO pu (wpAny_bind (wpAny_pure ?_)))));show wpAny _ _ (match Builtin.Slice.sliceAdjust lo hi 1 (n:Int)with|(lo,hi)=>pure (lo,(1:Int),Builtin.Slice.slicePlaces lo hi 1)) _ _ s
 rw[CD lo hi n];show wpAny _ _ (pure (((sIx n 0 lo:Nat):Int),(1:Int),Builtin.Slice.slicePlaces ((sIx n 0 lo:Nat):Int) ((sIx n n hi:Nat):Int) 1)) _ _ s;rw[Cd];exact wpAny_pure h
theorem Hs(xs:Array Value)(i k:Nat):((List.range k).filterMap fun(m:Nat)=>xs[((i:Int)+(m:Int)*1).toNat]?).toArray=((xs.toList.drop i).take k).toArray:=by
 have e:(fun(m:Nat)=>xs[((i:Int)+(m:Int)*1).toNat]?)=fun m=>xs[i+m]?:=by
  funext m
  have:((i:Int)+(m:Int)*1).toNat=i+m:=by omega
  rw[this]
 rw[e];have:=pick_run xs i k;rw[List.filterMap_map]at this;have e2:((fun x=>xs[x]?)∘fun x=>i+x)=fun m=>xs[i+m]?:=rfl;rw[e2]at this;rw[this]
theorem oV{t sl:Addr}{items:Array Value}{vl vu:Value}{lo hi:Option Int}{Q:Value->Shared->Prop}(ht:IsTup s.heap t items)(hs:s.heap.IsSliceOf sl vl vu .none)(pl:IsPart vl lo)(pu:IsPart vu hi)
  (hw:¬(sIx items.size 0 lo=0/\sIx items.size items.size hi=items.size))
  (h:Q (.ref s.heap.objs.size) { s with heap:=s.heap.push { cls:= .type "tuple",data:= .seq ((items.toList.drop (sIx items.size 0 lo)).take (sIx items.size items.size hi-sIx items.size 0 lo)).toArray } })
  (hsz:items.size<=sizeLine):wpAny (model prog w) A (getItem (.ref t) (.ref sl)) Q E s:=by
 have Ib:sizeOk (.seq ((items.toList.drop (sIx items.size 0 lo)).take (sIx items.size items.size hi-sIx items.size 0 lo)).toArray):=by
  show((items.toList.drop (sIx items.size 0 lo)).take (sIx items.size items.size hi-sIx items.size 0 lo)).toArray.size<=sizeLine;rw[List.size_toArray,List.length_take,List.length_drop,Array.length_toList];omega
 have hj:sIx items.size items.size hi<=items.size:=NP _ _ (Nat.le_refl _) hi;obtain⟨os,hos,hcs,hds⟩:=id hs;have hTs:s.TypeIs (.ref sl) "slice" := ⟨os,hos,hcs⟩;unfold getItem;try with_reducible refine wpAny_holding ?_
 first|refine wpAny_bind (wpAny_pure ?_)|skip
 refine wpAny_bind (wpAny_sequenceKey ht.typeIs (by decide) ?_);refine wpAny_bind (wpAny_callSpecial?_slot (name:=Str.ofString "__getitem__") ht.typeIs PyProof.Rows.slot_tuple_getitem
  (wpAny_call_entry PyProof.Rows.slot_tuple_getitem ht.typeIs entry_tuple_getitem ?_ (args_tuple_getitem _ _)))
 show wpAny _ _ (Builtin.Tuple.tupleItemsOf (.ref t)>>=_) _ _ s;refine wpAny_bind (tupleItemsOf_ ht ?_);refine wpAny_bind (wpAny_typeOf hTs ?_);rw[if_pos (by decide)];refine wpAny_bind (j9 hs pl pu ?_);have hno:¬((((sIx items.size 0 lo:Nat):Int)==0&&(1:Int)==1&&(sIx items.size items.size hi-sIx items.size 0 lo)==items.size)=true):=by
  intro q;rw[Bool.and_eq_true,Bool.and_eq_true]at q;have q1:((sIx items.size 0 lo:Nat):Int)=0:=eq_of_beq q.1.1;have q2:sIx items.size items.size hi-sIx items.size 0 lo=items.size:=eq_of_beq q.2;exact hw ⟨by omega,by omega⟩
 show wpAny _ _ (if(((sIx items.size 0 lo:Nat):Int)==0&&(1:Int)==1&&(sIx items.size items.size hi-sIx items.size 0 lo)==items.size)=true then _ else _) _ _ s;rw[if_neg hno,Hs];first
  |exact wpAny_bind (m:=Builtin.Tuple.tupleExact _) (wpAny_newObj_type (wpAny_pure ⟨_,rfl,wpAny_pure h⟩) Ib)
  |exact wpAny_bind (m:=Builtin.Tuple.tupleExact _) (wpAny_newObj_type (wpAny_bind (wpAny_pure (wpAny_pure ⟨_,rfl,wpAny_pure h⟩))) Ib)
  |exact wpAny_bind (wpAny_bind (m:=Builtin.Tuple.tupleExact _) (wpAny_newObj_type (wpAny_pure (wpAny_pure ⟨_,rfl,wpAny_pure h⟩)) Ib))
  |exact wpAny_bind (wpAny_bind (m:=Builtin.Tuple.tupleExact _) (wpAny_newObj_type (wpAny_pure ⟨_,rfl,wpAny_pure h⟩) Ib))
end
end HT
namespace L2
open PySem PySem.Spec PyProof.Rows
abbrev TO:=St->Hp->(Option Int->Hp->Prop)->Prop
def PO(X:Cx)(e:Option Expr)(t:TO):Prop:=
 ∀(pins:List (Addr×Obj)) (s:Shared) (σ:St) (H:Hp) (Q:Option Int->Hp->Prop),Inv X pins σ H s->t σ H Q->
  wpAny (model X.prog X.w) X.A (evalPart e X.env) (fun u s'=>∃o H',Inv X pins σ H' s'/\IsPart u o/\Q o H') X.xe s
def MD:TO:=fun _ H Q=>Q none H
inductive Vt(x:V)(H:Hp)(Q:Option Int->Hp->Prop):Prop|mk (i:Int) (hx:x = .int i) (q:Q (some i) H)
def Vo(t:TE):TO:=fun σ H Q=>t σ H fun x H1=>Vt x H1 Q
theorem intsAre_of{ns:List Int}:∀{us:List Value},Vals (ns.map V.int) us->IntsAre us ns:=by
 induction ns with
 |nil=>intro us r;rw[List.map_nil]at r;cases r;exact .nil
 |cons n ns ih=>
  intro us r;rw[List.map_cons]at r;cases r with
  |cons r1 r2=>
   obtain⟨t,e⟩:=r1;subst e;exact .cons n t (ih r2)
section
variable {X:Cx} {e:Expr} {te:TE} {lo hi:Option Expr} {tl th:TO} {pos p2:Pos}
theorem pB:PO X none MD:=by
 intro pins s σ H Q I h;rw[evalPart_none];exact wpAny_pure ⟨none,H,I,.none,h⟩
theorem pI(h:PE X e te):PO X (some e) (Vo te):=by
 intro pins s σ H Q I hw;rw[evalPart_some];refine thn (h pins s σ H _ I hw) fun u s1 ⟨x,H1,I1,r1,q1⟩=>?_;obtain⟨i,rfl,q⟩:=q1;obtain⟨t,rfl⟩:=r1;exact⟨some i,H1,I1,.int i t,q⟩
def SlR(X:Cx)(r:V->Option Int->Option Int->Hp->VK->Prop):Prop:=
 ∀(pins:List (Addr×Obj)) (s:Shared) (σ:St) (H:Hp) (x:V) (v vl vu:Value) (lo hi:Option Int) (sl:Addr) (Q:VK),Inv X pins σ H s->RelV x v->s.heap.IsSliceOf sl vl vu .none->IsPart vl lo->IsPart vu hi->r x lo hi H Q->
  ∃T id,typeLookup (.type T) "__getitem__" = pure (some (.builtin id))/\s.TypeIs v T/\wpAny (model X.prog X.w) X.A (getItem v (.ref sl)) (EP X pins σ Q) X.xe s
theorem SlR.or{r r':V->Option Int->Option Int->Hp->VK->Prop}(h:SlR X r)(h':SlR X r'):SlR X (fun x lo hi H Q=>r x lo hi H Q∨r' x lo hi H Q):=by
 intro pins s σ H x v vl vu lo hi sl Q I rx hs pl pu q;rcases q with q|q
 ·exact h pins s σ H x v vl vu lo hi sl Q I rx hs pl pu q
 ·exact h' pins s σ H x v vl vu lo hi sl Q I rx hs pl pu q
def tSl(r:V->Option Int->Option Int->Hp->VK->Prop)(te:TE)(tl th:TO):TE:=fun σ H Q=>te σ H fun x H1=>tl σ H1 fun l H2=>th σ H2 fun u H3=>r x l u H3 Q
theorem mq{r:V->Option Int->Option Int->Hp->VK->Prop}(hr:SlR X r)(he:PE X e te)(hl:PO X lo tl)(hu:PO X hi th):PE X (.Subscript e (.Slice lo hi none p2) pos) (tSl r te tl th):=by
 intro pins s σ H Q I h;refine Subscript_ (thn (he pins s σ H _ I h) fun v s1 ⟨x,H1,I1,r1,q1⟩=>?_);refine wpAny_Slice (thn (hl pins s1 σ H1 _ I1 q1) fun vl s2 ⟨l,H2,I2,pl,q2⟩=>thn (hu pins s2 σ H2 _ I2 q2) fun vu s3 ⟨u,H3,I3,pu,q3⟩=>?_);rw[evalPart_none];refine wpAny_pure ?_;have I4:Inv X pins σ H3 { s3 with heap:=s3.heap.push { cls:= .type "slice",data:= .fields #[vl,vu,.none] } }:=I3.kept (t':=s3.toks) fun b ob q=>Heap.get?_push_of_some _ q;obtain⟨T,id,hT,ht,hg⟩:=hr pins { s3 with heap:=s3.heap.push { cls:= .type "slice",data:= .fields #[vl,vu,.none] } } σ H3 x v vl vu l u s3.heap.objs.size Q I4 r1 (Heap.IsSliceOf.new ..) pl pu q3;show wpAny (model X.prog X.w) X.A (subscriptTail e (.Slice lo hi none p2) v (.ref s3.heap.objs.size)) (EP X pins σ Q) X.xe { s3 with heap:=s3.heap.push { cls:= .type "slice",data:= .fields #[vl,vu,.none] } };exact tail_any (ops:=[.ref s3.heap.objs.size,v]) ht hT hg (by with_unfolding_all rfl)
def vI(xs:List V)(lo hi:Option Int):List V:=(xs.drop (HT.sIx xs.length 0 lo)).take (HT.sIx xs.length xs.length hi-HT.sIx xs.length 0 lo)
theorem sV(xs:List V)(lo hi:Option Int):(vI xs lo hi).length<=xs.length:=by
 unfold vI;rw[List.length_take,List.length_drop];omega
def ZM(K:W.Frag):V->Option Int->Option Int->Hp->VK->Prop:=fun x lo hi H Q=>∃a xs,x = .ref a/\SqT K H a xs/\
 ¬(HT.sIx xs.length 0 lo=0/\HT.sIx xs.length xs.length hi=xs.length)/\∀p,H p=none->Q (.ref p) (upd H p (.tup (vI xs lo hi)))
theorem Q6:SlR X (ZM X.K):=by
 intro pins s σ H x v vl vu lo hi sl Q I rx hs pl pu h;obtain⟨a,xs,rfl,hx,hw,q⟩:=h;cases rx;obtain⟨its,r,ht,hz⟩:=I.tuple hx;have hlen:its.toArray.size=xs.length:=by rw[List.size_toArray];exact r.length.symm
 refine⟨"tuple",_,PyProof.Rows.slot_tuple_getitem.lookup,ht.typeIs,?_⟩;refine HT.oV ht hs pl pu (by rw[hlen];exact hw) ?_ (by rw[hlen];exact hz);rw[hlen];refine⟨.ref s.heap.objs.size,_,I.laid (t':=s.toks) (o:= .tup (vI xs lo hi)) (fun b ob q=>Heap.get?_push_of_some _ q) (Nat.le_refl _) ?_,rfl,q _ (I.hok.fresh (Nat.le_refl _))⟩;exact⟨Nat.le_trans (sV xs lo hi) hz,_,(r.drop (HT.sIx xs.length 0 lo)).take (HT.sIx xs.length xs.length hi-HT.sIx xs.length 0 lo),IsTup.new _ _⟩
def Sg(K:W.Frag):R2:=fun x y H Q=>∃a b xs ys,x = .ref a/\y = .ref b/\SqT K H a xs/\SqT K H b ys/\xs≠[]/\xs.length+ys.length<=sizeLine/\
 (ys=[]->Q (.ref a) H)/\(ys≠[]->∀p,H p=none->Q (.ref p) (upd H p (.tup (xs++ys))))
theorem Vals.vf{xs:List V}{us:List Value}(r:Vals xs us):us=[]↔xs=[]:=by
 cases r with
 |nil=>simp
 |cons _ _=>simp
theorem M4:OpR X (binaryOp .Add) (Sg X.K):=by
 intro pins s σ H x y v u Q I rx ry h;obtain⟨a,b,xs,ys,rfl,rfl,ha,hb,hx,hz,q1,q2⟩:=h;cases rx;cases ry;obtain⟨its,r1,p1,_⟩:=I.tuple ha;obtain⟨its2,r2,p2,_⟩:=I.tuple hb;refine HT.KJ p1 p2 (fun z=>hx (r1.vf.mp z)) (fun z=>⟨.ref a,H,I,rfl,q1 (r2.vf.mp z)⟩) (fun z=>?_) (by rw[<-r1.length,<-r2.length];exact hz);refine⟨.ref s.heap.objs.size,_,I.laid (t':=s.toks) (o:= .tup (xs++ys)) (fun b ob q=>Heap.get?_push_of_some _ q) (Nat.le_refl _) ?_,rfl,q2 (fun w=>z (r2.vf.mpr w)) _ (I.hok.fresh (Nat.le_refl _))⟩;exact⟨by rw[List.length_append];exact hz,_,r1.append r2,IsTup.new _ _⟩
end
def ixN(n:Nat)(i:Int):Option Nat:=if 0<=i then(if i<n then some i.toNat else none)else if -(n:Int)<=i then some (i+n).toNat else none
def atI{α:Type}(xs:List α)(i:Int):Option α:=(ixN xs.length i).bind fun j=>xs[j]?
theorem D7{n:Nat}{i:Int}{j:Nat}(h:ixN n i=some j):seqIndex? i n=some j/\j<n/\-(n:Int)<=i/\i<n:=by
 unfold ixN at h;by_cases h0:0<=i
 ·rw[if_pos h0]at h;by_cases h1:i<n
  ·rw[if_pos h1]at h;have e:i.toNat=j:=Option.some.inj h;exact⟨by rw[seqIndex_of h0 h1,e],by omega,by omega,h1⟩
  ·rw[if_neg h1]at h;cases h
 ·rw[if_neg h0]at h;by_cases h1:-(n:Int)<=i
  ·rw[if_pos h1]at h;have e:(i+n).toNat=j:=Option.some.inj h;exact⟨by rw[seqIndex_neg (by omega) h1,e],by omega,h1,by omega⟩
  ·rw[if_neg h1]at h;cases h
theorem Ai{α:Type}{xs:List α}{i:Int}{v:α}(h:atI xs i=some v):∃j,seqIndex? i xs.length=some j/\xs[j]?=some v/\j<xs.length/\-(xs.length:Int)<=i/\i<xs.length:=by
 unfold atI at h;cases e:ixN xs.length i with
 |none=>rw[e]at h;cases h
 |some j=>
  rw[e]at h;obtain⟨h1,h2,h3,h4⟩:=D7 e;exact⟨j,h1,h,h2,h3,h4⟩
theorem Fp{α:Type}{xs:List α}{j:Nat}{v:α}(h:xs[j]?=some v):atI xs (j:Int)=some v:=by
 have hj:j<xs.length:=(List.getElem?_eq_some_iff.mp h).1;have e:ixN xs.length (j:Int)=some j:=by
  unfold ixN;rw[if_pos (by omega),if_pos (by omega)];simp
 unfold atI;rw[e];exact h
def Mt(b:Expr):Prop:=∀o i,subscripted b false o i=operate [o,i] (getItem o i)
def IxR(X:Cx)(r:R2):Prop:=
 ∀(value slice:Expr) (pins:List (Addr×Obj)) (s:Shared) (σ:St) (H:Hp) (x y:V) (v u:Value) (Q:VK),Inv X pins σ H s->RelV x v->RelV y u->r x y H Q->
  subscripted slice false v u=operate [v,u] (getItem v u)->wpAny (model X.prog X.w) X.A (subscriptTail value slice v u) (EP X pins σ Q) X.xe s
def MtR(X:Cx)(id:String)(r:V->List V->Hp->VK->Prop):Prop:=
 ∀(pins:List (Addr×Obj)) (s:Shared) (σ:St) (H:Hp) (x:V) (xs:List V) (v:Value) (us:List Value) (Q:VK),Inv X pins σ H s->RelV x v->Vals xs us->r x xs H Q->
  wpAny (model X.prog X.w) X.A (call (.builtin id) (v::us)) (EP X pins σ Q) X.xe s
section
variable {X:Cx} {a b:Expr} {ta tb:TE} {pos:Pos}
theorem IxR.or{r r':R2}(h:IxR X r)(h':IxR X r'):IxR X (fun x y H Q=>r x y H Q∨r' x y H Q):=by
 intro value slice pins s σ H x y v u Q I rx ry q hs;rcases q with q|q
 ·exact h value slice pins s σ H x y v u Q I rx ry q hs
 ·exact h' value slice pins s σ H x y v u Q I rx ry q hs
theorem aY{r:R2}(hr:IxR X r)(ha:PE X a ta)(hb:PE X b tb)(hs:Mt b):PE X (.Subscript a b pos) (tOp r ta tb):=by
 intro pins s σ H Q I h;exact Subscript_ (XC ha hb I h fun v u s2 x y H2 I2 rx ry q=>hr a b pins s2 σ H2 x y v u Q I2 rx ry q (hs _ _))
def YH(K:W.Frag):R2:=fun x y H Q=>∃p xs i v,x = .ref p/\y = .int i/\SqL K H p xs/\atI xs i=some v/\Q v H
def Yq(K:W.Frag):R2:=fun x y H Q=>∃p xs i v,x = .ref p/\y = .int i/\SqT K H p xs/\atI xs i=some v/\Q v H
def Y5:R2:=fun x y H Q=>∃z i c,x = .str z/\y = .int i/\z.length<=sizeLine/\atI z.cps.toList i=some c/\Q (.str ⟨#[c]⟩) H
theorem Mx:IxR X (YH X.K):=by
 intro value slice pins s σ H x y v u Q I rx ry h hs;obtain⟨p,xs,i,z,rfl,rfl,hq,he,q⟩:=h;cases rx;obtain⟨t,rfl⟩:=ry;obtain⟨its,r,pl,hz⟩:=I.list hq;obtain⟨j,h1,h2,h3,h4,h5⟩:=Ai he;obtain⟨w,ew,rw'⟩:=r.get h2;have hl:=r.length;have hn:=xK;have fin:EP X pins σ Q w s:=⟨z,H,I,rw',q⟩;by_cases h0:0<=i
 ·have hj:i.toNat=j:=by
   rw[seqIndex_of h0 h5]at h1;exact Option.some.inj h1
  exact item_listR pl.isList h0 (by omega) (by rw[hj];simpa using ew) fin hs
 ·have hj:(i+(its.toArray.size:Int)).toNat=j:=by
   rw[seqIndex_neg (by omega) h4]at h1;rw[List.size_toArray,<-hl];exact Option.some.inj h1
  exact subscriptTail_builtinR (x:=w) pl.isList.typeIs slot_list_getitem.lookup
   (wpAny_getItem_list_neg (Q:=fun r s'=>r=w/\EP X pins σ Q r s') pl.isList (by omega) (by rw[List.size_toArray]<;>omega) (by omega) (by rw[hj];simpa using ew) ⟨rfl,fin⟩) hs
theorem QG:IxR X (Yq X.K):=by
 intro value slice pins s σ H x y v u Q I rx ry h hs;obtain⟨p,xs,i,z,rfl,rfl,hq,he,q⟩:=h;cases rx;obtain⟨t,rfl⟩:=ry;obtain⟨its,r,pl,hz⟩:=I.tuple hq;obtain⟨j,h1,h2,h3,h4,h5⟩:=Ai he;obtain⟨w,ew,rw'⟩:=r.get h2;have hl:=r.length;have hn:=xK;have fin:EP X pins σ Q w s:=⟨z,H,I,rw',q⟩;exact subscriptTail_builtinR (x:=w) pl.typeIs slot_tuple_getitem.lookup
  (getItem_tuple (j:=j) (Q:=fun r s'=>r=w/\EP X pins σ Q r s') pl (by omega) (by omega) (by rw[List.size_toArray,<-hl];exact h1) (by simpa using ew) ⟨rfl,fin⟩) hs
theorem QT:IxR X Y5:=by
 intro value slice pins s σ H x y v u Q I rx ry h hs;obtain⟨z,i,c,rfl,rfl,hz,he,q⟩:=h;obtain⟨t,rfl⟩:=rx;obtain⟨t',rfl⟩:=ry;obtain⟨j,h1,h2,h3,h4,h5⟩:=Ai he;have hl:z.cps.toList.length=z.length:=by simp[Str.length]
 rw[hl]at h1 h4 h5;have hn:=xK;exact tail_any (typeIs_str s z t) slot_str_getitem.lookup (getItem_str (c:=c) (by
  have e1:decide (i < -(2^63:Int))=false:=decide_eq_false (by omega);have e2:decide (i≥2^63)=false:=decide_eq_false (by omega);rw[e1,e2,Bool.or_false]) (by rw[h1];simpa using h2) ⟨.str ⟨#[c]⟩,H,I.tok _,⟨_,rfl⟩,q⟩) hs
def rIx(K:W.Frag):R2:=fun x y H Q=>YH K x y H Q∨Yq K x y H Q∨Y5 x y H Q
theorem PD:IxR X (rIx X.K):=Mx.or (QG.or QT)
theorem BP(its:List Value)(n j:Nat)(u:Value):Obj.mapSeq (·.setIfInBounds j u) { cls:= .type "list",data:= .seq its.toArray n }={ cls:= .type "list",data:= .seq (its.set j u).toArray n }:=by
 simp[Obj.mapSeq]
theorem Inv.lst{pins:List (Addr×Obj)}{σ:St}{H:Hp}{s:Shared}{p:Addr}{xs:List V}(I:Inv X pins σ H s)(h:H p=some (.lst xs)):
  ∃(its:List Value) (n:Nat),Vals xs its/\s.heap.get? p=some { cls:= .type "list",data:= .seq its.toArray n }/\xs.length<=sizeLine:=by
 obtain⟨z,its,n,r,e⟩:=I.hok p _ h;exact⟨its,n,r,e,z⟩
theorem Inv.O8{pins:List (Addr×Obj)}{σ:St}{H:Hp}{s:Shared}{p:Addr}{xs ys:List V}{its its':List Value}{n n':Nat}{f:Obj->Obj}(I:Inv X pins σ H s)(h:H p=some (.lst xs))
  (ho:s.heap.get? p=some { cls:= .type "list",data:= .seq its.toArray n }) (hf:f { cls:= .type "list",data:= .seq its.toArray n }={ cls:= .type "list",data:= .seq its'.toArray n' }) (r:Vals ys its') (hz:ys.length<=sizeLine) (t:Nat):
  Inv X pins σ (upd H p (.lst ys)) { s with heap:=s.heap.update p f,toks:=t }:=by
 have e:(s.heap.update p f).get? p=some { cls:= .type "list",data:= .seq its'.toArray n' }:=by
  rw[Heap.get?_update_self f ho (by rw[hf]<;>rfl),hf]
 refine I.write (x:=p) (e:=p) (by rw[h];trivial) (.inl rfl) (fun b u hb q=>(Heap.get?_update_other _ _ (Ne.symm hb)).trans q) ⟨_,e⟩ ?_;exact⟨hz,its',n',r,e⟩
inductive SSet(o i v:V)(H:Hp)(Q:Hp->Prop):Prop|mk (p:Addr) (xs:List V) (k:Int) (j:Nat) (ho:o = .ref p) (hi:i = .int k) (hp:H p=some (.lst xs)) (hj:ixN xs.length k=some j) (q:Q (upd H p (.lst (xs.set j v))))
def RP:V->V->V->Hp->(Hp->Prop)->Prop:=fun o i v H Q=>SSet o i v H Q
theorem set_list:Yz X RP:=by
 intro pins s σ H o i v ov iv u Q I ro ri rv h;obtain⟨p,xs,k,j,rfl,rfl,hp,hj,q⟩:=h;cases ro;obtain⟨t,rfl⟩:=ri;obtain⟨its,n,r,ho,hz⟩:=I.lst hp;obtain⟨h1,h2,h3,h4⟩:=D7 hj;have hl:=r.length;have hn:=xK;have I':Inv X pins σ (upd H p (.lst (xs.set j v))) { s with heap:=s.heap.update p (Obj.mapSeq (·.setIfInBounds j u)) }:=
  I.O8 hp ho (BP its n j u) (r.set rv j) (by rw[List.length_set];exact hz) s.toks
 by_cases h0:0<=k
 ·have hk:k.toNat=j:=by
   rw[seqIndex_of h0 h4]at h1;exact Option.some.inj h1
  exact W.ki_setAt ho h0 (by omega) (by rw[List.size_toArray,<-hl];exact h4) (by rw[hk];exact⟨_,I',q⟩)
 ·have hk:(k+(its.toArray.size:Int)).toNat=j:=by
   rw[seqIndex_neg (by omega) h3]at h1;rw[List.size_toArray,<-hl];exact Option.some.inj h1
  exact W.ki_setBack ho (by omega) (by rw[List.size_toArray,<-hl];exact h3) (by omega) (by rw[hk];exact⟨_,I',q⟩)
theorem yd(lo hi:Option Int)(n:Nat):(sliceBounds lo hi none n).1=((HT.sIx n 0 lo:Nat):Int)/\(sliceBounds lo hi none n).2.1=((HT.sIx n n hi:Nat):Int)/\(sliceBounds lo hi none n).2.2=1:=by
 refine⟨?_,?_,rfl⟩
 ·cases lo with
  |none=>simp[sliceBounds,HT.sIx]
  |some i=>
   simp only[sliceBounds,HT.sIx,Option.getD_none,show(1:Int)>0 by decide,if_true];by_cases h:i<0
   ·simp only[h,if_true]<;>omega
   ·simp only[h,if_false]<;>omega
 ·cases hi with
  |none=>simp[sliceBounds,HT.sIx]
  |some i=>
   simp only[sliceBounds,HT.sIx,Option.getD_none,show(1:Int)>0 by decide,if_true];by_cases h:i<0
   ·simp only[h,if_true]<;>omega
   ·simp only[h,if_false]<;>omega
theorem vQ(its:List Value)(lo hi:Option Int):slicePick its.toArray lo hi none=((its.drop (HT.sIx its.length 0 lo)).take (HT.sIx its.length its.length hi-HT.sIx its.length 0 lo)).toArray:=by
 obtain⟨h1,h2,h3⟩:=yd lo hi its.toArray.size;unfold slicePick;rw[h1,h2,h3];simp only[sliceRange_one,pick_run,List.size_toArray]<;>rfl
def aaA(K:W.Frag):V->Option Int->Option Int->Hp->VK->Prop:=fun x lo hi H Q=>∃a xs,x = .ref a/\SqL K H a xs/\∀p,H p=none->Q (.ref p) (upd H p (.lst (vI xs lo hi)))
theorem Lh:SlR X (aaA X.K):=by
 intro pins s σ H x v vl vu lo hi sl Q I rx hs pl pu h;obtain⟨a,xs,rfl,hx,q⟩:=h;cases rx;obtain⟨its,r,ht,hz⟩:=I.list hx;have hlen:=r.length;refine⟨"list",_,slot_list_getitem.lookup,ht.isList.typeIs,?_⟩;refine wpAny_getItem_list_slice ht.isList hs pl pu .none (by simp) ?_ (by rw[List.size_toArray]<;>omega);rw[vQ,<-hlen];refine⟨.ref s.heap.objs.size,_,I.laid (t':=s.toks) (o:= .lst (vI xs lo hi)) (fun b ob q=>Heap.get?_push_of_some _ q) (Nat.le_refl _) ?_,rfl,q _ (I.hok.fresh (Nat.le_refl _))⟩;exact⟨Nat.le_trans (sV xs lo hi) hz,_,0,(r.drop (HT.sIx xs.length 0 lo)).take (HT.sIx xs.length xs.length hi-HT.sIx xs.length 0 lo),Heap.get?_push_size _ rfl⟩
def tE:V->Bool
 |.non=>true
 |.bl _=>true
 |.int _=>true
 |.str _=>true
 |_=>false
def eqV:V->V->Bool
 |.non,.non=>true
 |.bl a,.bl b=>a==b
 |.bl a,.int b=>(if a then 1 else 0)==b
 |.int a,.bl b=>a==(if b then 1 else 0)
 |.int a,.int b=>a==b
 |.str a,.str b=>a==b
 |_,_=>false
theorem Oi{A:Around}{s:Shared}{y x:V}{u v:Value}(ry:RelV y u)(rx:RelV x v)(fy:tE y=true)(fx:tE x=true):SeqAt.EqAt A s u v (eqV y x):=by
 cases y with
 |non=>
  cases ry;cases x with
  |non=>cases rx;exact SeqAt.EqAt.same _
  |bl b=>cases rx;exact SeqAt.EqAt.none_bool b
  |int b=>obtain⟨t,rfl⟩:=rx;exact SeqAt.EqAt.none_int b t
  |str b=>obtain⟨t,rfl⟩:=rx;exact SeqAt.EqAt.none_str b t
  |_=>exact absurd (show false=true from fx) Bool.false_ne_true
 |bl a=>
  cases ry;cases x with
  |non=>cases rx;exact SeqAt.EqAt.bool_none a
  |bl b=>cases rx;exact SeqAt.EqAt.bool_bool a b
  |int b=>obtain⟨t,rfl⟩:=rx;exact SeqAt.EqAt.bool_int a b t
  |str b=>obtain⟨t,rfl⟩:=rx;exact SeqAt.EqAt.bool_str a b t
  |_=>exact absurd (show false=true from fx) Bool.false_ne_true
 |int a=>
  obtain⟨t',rfl⟩:=ry;cases x with
  |non=>cases rx;exact SeqAt.EqAt.int_none a t'
  |bl b=>cases rx;exact SeqAt.EqAt.int_bool a t' b
  |int b=>obtain⟨t,rfl⟩:=rx;exact SeqAt.EqAt.int_int a t' b t
  |str b=>obtain⟨t,rfl⟩:=rx;exact SeqAt.EqAt.int_str a t' b t
  |_=>exact absurd (show false=true from fx) Bool.false_ne_true
 |str a=>
  obtain⟨t',rfl⟩:=ry;cases x with
  |non=>cases rx;exact SeqAt.EqAt.str_none a t'
  |bl b=>cases rx;exact SeqAt.EqAt.str_bool a t' b
  |int b=>obtain⟨t,rfl⟩:=rx;exact SeqAt.EqAt.str_int a t' b t
  |str b=>obtain⟨t,rfl⟩:=rx;exact SeqAt.EqAt.str_str a t' b t
  |_=>exact absurd (show false=true from fx) Bool.false_ne_true
 |_=>exact absurd (show false=true from fy) Bool.false_ne_true
theorem xR:mQ X (.type "list") (fun xs H Q=>∃p ys,xs=[.ref p]/\(SqL X.K H p ys∨SqT X.K H p ys)/\∀l,H l=none->Q (.ref l) (upd H l (.lst ys))):=by
 intro pins s σ H xs us Q I r h;obtain⟨p,ys,rfl,hq,q⟩:=h;obtain⟨u,rfl,rx⟩:=vals1 r;cases rx;have fin:∀(its:List Value),Vals ys its->ys.length<=sizeLine->∀(h':Heap) (c':Nat),(∀b o',s.heap.get? b=some o'->h'.get? b=some o')->
   h'.get? s.heap.objs.size=some { cls:= .type "list",dict:=none,data:= .seq its.toArray c',slots:=#[] }->EP X pins σ Q (.ref s.heap.objs.size) { s with heap:=h' }:=fun its r' hz h' c' kp e=>
  ⟨.ref s.heap.objs.size,_,I.laid (t':=s.toks) kp (Nat.le_refl _) (show iu X.prog X.w _ h' _ (.lst ys)from⟨hz,its,c',r',e⟩),rfl,q _ (I.hok.fresh (Nat.le_refl _))⟩
 rcases hq with hq|hq
 ·obtain⟨its,r',pl,hz⟩:=I.list hq;have hlen:=r'.length;obtain⟨o,ho,hc,n,hd⟩:=pl.isList;exact call_list_seq p (.inl rfl) ho hc hd (fun h' c' kp e=>fin its r' hz h' c' kp e) (by simp only[List.size_toArray]<;>omega)
 ·obtain⟨its,r',pl,hz⟩:=I.tuple hq;have hlen:=r'.length;obtain⟨o,ho,hc,n,hd⟩:=pl;exact call_list_seq p (.inr rfl) ho hc hd (fun h' c' kp e=>fin its r' hz h' c' kp e) (by simp only[List.size_toArray]<;>omega)
theorem vC:mQ X (.type "tuple") (fun xs H Q=>∃p ys,xs=[.ref p]/\((SqL X.K H p ys/\∀l,H l=none->Q (.ref l) (upd H l (.tup ys)))∨(SqT X.K H p ys/\Q (.ref p) H))):=by
 intro pins s σ H xs us Q I r h;obtain⟨p,ys,rfl,h⟩:=h;obtain⟨u,rfl,rx⟩:=vals1 r;cases rx;rcases h with⟨hq,q⟩|⟨hq,q⟩
 ·obtain⟨its,r',pl,hz⟩:=I.list hq;have hlen:=r'.length;refine call_tuple_list pl.isList (fun h' kp=>?_) (by simp only[List.size_toArray]<;>omega);have I1:Inv X pins σ H { s with heap:=h' }:=I.kept (t':=s.toks) kp;have I2:Inv X pins σ (upd H h'.objs.size (.tup ys)) { s with heap:=h'.push { cls:= .type "tuple",data:= .seq its.toArray } }:=
   I1.laid (t':=s.toks) (fun b o e=>Heap.get?_push_of_some _ e) (Nat.le_refl _) (show iu X.prog X.w _ _ _ (.tup ys)from⟨hz,its,r',IsTup.new _ _⟩)
  exact⟨.ref h'.objs.size,_,I2,rfl,q _ (I1.hok.fresh (Nat.le_refl _))⟩
 ·obtain⟨its,r',pl,hz⟩:=I.tuple hq;exact call_tuple_same pl ⟨.ref p,H,I,rfl,q⟩
def tyV(K:W.Frag)(T:String)(x:V)(H:Hp):Prop:=match x with
 |.str _=>T = "str"
 |.int _=>T = "int"
 |.ref p=>(T = "list" /\ ∃xs,SqL K H p xs)∨(T = "tuple" /\ ∃o,K.lookup p=some o/\o.cls = .type "tuple" /\ o.dict=none)∨
   (T = "dict" /\ ((∃kvs,H p=some (.dK kvs))∨∃kvs,H p=some (.dT kvs)))∨(T = "set" /\ ∃S n,H p=some (.set S n))
 |_=>False
theorem Pq{pins:List (Addr×Obj)}{σ:St}{H:Hp}{s:Shared}{T:String}{x:V}{v:Value}(I:Inv X pins σ H s)(r:RelV x v)(ty:tyV X.K T x H):
  s.TypeIs v T/\∀a,v = .ref a->∃ob,s.heap.get? a=some ob/\ob.dict=none:=by
 cases x with
 |str z=>
  obtain⟨t,rfl⟩:=r;cases (show T = "str" from ty);exact⟨typeIs_str s z t,fun _ e=>nomatch e⟩
 |int i=>
  obtain⟨t,rfl⟩:=r;cases (show T = "int" from ty);exact⟨typeIs_int s i t,fun _ e=>nomatch e⟩
 |ref p=>
  cases r;rcases ty with⟨rfl,xs,hq⟩|⟨rfl,o,hk,hc,hd⟩|⟨rfl,hk⟩|⟨rfl,S,n,hk⟩
  ·obtain⟨its,_,pl,_⟩:=I.list hq;refine⟨pl.isList.typeIs,fun a e=>?_⟩;cases e;obtain⟨o,n,e,c,hd,_⟩:=pl;exact⟨o,e,hd⟩
  ·refine⟨⟨o,I.kIn p o hk,hc⟩,fun a e=>?_⟩;cases e;exact⟨o,I.kIn _ o hk,hd⟩
  ·have z:∃o,s.heap.get? p=some o/\o.ExactDict:=by
    rcases hk with⟨kvs,hk⟩|⟨kvs,hk⟩
    ·obtain⟨_,_,_,_,o,_,_,e,ex,_⟩:=I.hok p _ hk;exact⟨o,e,ex⟩
    ·obtain⟨_,_,_,_,o,_,_,e,ex,_⟩:=I.hok p _ hk;exact⟨o,e,ex⟩
   obtain⟨o,e,ex⟩:=z;refine⟨⟨o,e,ex.1⟩,fun a e2=>?_⟩;cases e2;exact⟨o,e,ex.2.1⟩
  ·obtain⟨o,_,_,_,e,ex,_⟩:=I.hok p _ hk;refine⟨⟨o,e,ex.1⟩,fun a e2=>?_⟩;cases e2;exact⟨o,e,ex.2.1⟩
 |_=>exact False.elim ty
def tBM(K:W.Frag)(T:String)(r:V->List V->Hp->VK->Prop)(to:TE)(t:TA):TE:=fun σ H Q=>to σ H fun x H1=>tyV K T x H1/\t σ H1 fun xs H2=>r x xs H2 Q
variable {o e:Expr} {es:List Expr} {to:TE} {t:TA} {name:Str} {apos cpos:Pos} {T id:String} {r:V->List V->Hp->VK->Prop}
theorem R5(pa:PlainAttrs T)(slot:Slot T name id)(hty:typeOf (.builtin id)=pure (.type "method_descriptor"))(hm:MtR X id r)(ho:PE X o to)(ha:PA X (e::es) t)
  (hbase:attributeBase o name X.env (eval o X.env)=eval o X.env:=by rfl)
  (hfew:((backTo cpos (starEach (e::es) X.env)).all (fun x=>!x.1)&&(backToKw cpos (keywordEach [] X.env)).all (fun x=>x.1.isSome)
   && decide ((e::es).length+([]:List Keyword).length+(if([]:List Keyword).isEmpty then 0 else 1)<30))=true:=by rfl)
  (hline:(apos.endLine==cpos.line)=true:=by rfl) (hs:starEach (e::es) X.env=(false,eval e X.env)::starEach es X.env:=by rfl) (hplain:(backTo cpos (starEach es X.env)).any (·.1)=false:=by rfl):
  PE X (.Call (.Attribute o name apos) (e::es) [] cpos) (tBM X.K T r to t):=by
 intro pins s σ H Q I h;refine wpAny_Call_method_late hbase hfew hline rfl (thn (ho pins s σ H _ I h) fun v s1 ⟨x,H1,I1,r1,ty,q1⟩=>?_);obtain⟨h1,h2⟩:=Pq I1 r1 ty;refine⟨T,id,pa,slot,hty,h1,h2,?_⟩;have hA:=ha cpos pins s1 σ H1 _ I1 q1;rw[hs]at hA⊢;refine Calls.callWith_builtin (by show(false||(backTo cpos (starEach es X.env)).any (·.1))=false;rw[hplain]<;>rfl) (Calls.evalArgs_plain ?_);exact thn hA fun us s2 ⟨vs,H2,I2,r2,q2⟩=>hm pins s2 σ H2 x vs v us Q I2 r1 r2 q2
end
def MtM(X:Cx)(id:String)(r:V->List V->Hp->VK->Prop):Prop:=
 ∀(pins:List (Addr×Obj)) (s:Shared) (σ:St) (H:Hp) (x:V) (xs:List V) (v:Value) (us:List Value) (Q:VK),Inv X pins σ H s->RelV x v->Vals xs us->r x xs H Q->
  wpAny (model X.prog X.w) X.A (call (.builtin id) (v::us)) (EP X pins σ Q) X.xe s
theorem Vals.one{x:V}{us:List Value}(h:Vals [x] us):∃u,us=[u]/\RelV x u:=by
 cases h with
 |cons r h=>cases h;exact⟨_,rfl,r⟩
theorem Vals.two{x y:V}{us:List Value}(h:Vals [x,y] us):∃u v,us=[u,v]/\RelV x u/\RelV y v:=by
 cases h with
 |cons r h=>
  obtain⟨v,rfl,q⟩:=Vals.one h;exact⟨_,_,rfl,r,q⟩
theorem Vals.rep{xs:List V}{us:List Value}(h:Vals xs us):∀k:Nat,Vals (List.replicate k xs).flatten (List.replicate k us).flatten
 |0=> .nil
 |k+1=>by
  rw[List.replicate_succ,List.replicate_succ,List.flatten_cons,List.flatten_cons];exact Vals.append h (Vals.rep h k)
theorem foldl_rep(its:List Value):∀(k:Nat) (acc:List Value),
  List.foldl (fun x1 x2=>x1++x2) acc.toArray (List.replicate k its.toArray)=(acc++(List.replicate k its).flatten).toArray
 |0,acc=>by simp
 |k+1,acc=>by
  have e:acc.toArray++its.toArray=(acc++its).toArray:=by simp
  have e2:(acc++its)++(List.replicate k its).flatten=acc++(List.replicate (k+1) its).flatten:=by
   rw[List.replicate_succ,List.flatten_cons,List.append_assoc]
  rw[<-e2,<-foldl_rep its k (acc++its),<-e,List.replicate_succ,List.foldl_cons]
section
variable {X:Cx} {pins:List (Addr×Obj)} {σ:St} {H:Hp} {s:Shared} {l b:Addr} {xs ys zs:List V}
theorem Inv.Zk{its its':List Value}{n:Nat}{f:Array Value->Array Value}{t':Nat}(I:Inv X pins σ H s)(hH:H l=some (.lst xs))
  (e:s.heap.get? l=some { cls:= .type "list",data:= .seq its.toArray n }) (hf:f its.toArray=its'.toArray) (hv:Vals ys its') (hz:ys.length<=sizeLine):
  Inv X pins σ (upd H l (.lst ys)) { s with heap:=s.heap.update l (Obj.mapSeq f),toks:=t' }:=by
 have q:=PySem.IsL.update e f;rw[hf]at q;refine I.write (x:=l) (e:=l) (by rw[hH];exact trivial) (.inl rfl) (fun b' u hb hu=>(Heap.get?_update_other s.heap (Obj.mapSeq f) (Ne.symm hb)).trans hu) ⟨_,q⟩ ?_;exact⟨hz,its',_,hv,q⟩
theorem Inv.Rn{its:List Value}{t':Nat}(I:Inv X pins σ H s)(hv:Vals ys its)(hz:ys.length<=sizeLine):
  Inv X pins σ (upd H s.heap.objs.size (.lst ys)) { s with heap:=s.heap.push { cls:= .type "list",data:= .seq its.toArray },toks:=t' }:=
 I.laid (fun _ _ q=>Heap.get?_push_of_some _ q) (Nat.le_refl _) ⟨hz,its,0,hv,Heap.get?_push_size _ rfl⟩
theorem Inv.fresh(I:Inv X pins σ H s):H s.heap.objs.size=none:=I.hok.fresh (Nat.le_refl _)
theorem Inv.Ro(I:Inv X pins σ H s)(hH:H l=some (.lst xs)):xs.length<=sizeLine/\∃(its:List Value) (n:Nat),Vals xs its/\xs.length=its.length/\s.heap.get? l=some { cls:= .type "list",data:= .seq its.toArray n }:=by
 obtain⟨z,its,n,r,e⟩:=I.hok l _ hH;exact⟨z,its,n,r,r.length,e⟩
theorem Jg{n:Nat}(h:n<=sizeLine):Builtin.List.listTooLong n=false:=by
 unfold Builtin.List.listTooLong;exact decide_eq_false (by omega)
end
section
variable {X:Cx}
inductive ZQ(x:V)(vs:List V)(H:Hp)(Q:VK):Prop|mk (l:Addr) (xs:List V) (y:V) (hx:x = .ref l) (hv:vs=[y]) (hl:H l=some (.lst xs)) (hz:xs.length<sizeLine) (q:Q .non (upd H l (.lst (xs++[y]))))
def Ge:V->List V->Hp->VK->Prop:=fun x vs H Q=>ZQ x vs H Q
theorem tW:MtM X "list.append" Ge:=by
 intro pins s σ H x vs v us Q I rx rv h;obtain⟨l,xs,y,rfl,rfl,hH,hz,q⟩:=h;cases rx;obtain⟨u,rfl,ru⟩:=rv.one;obtain⟨z,its,n,r,hl,e⟩:=I.Ro hH;refine call_meets F.slot_list_append ⟨_,e,rfl⟩ F.entry_list_append (F.args_list_append_2 _ _) (PySem.list_append l its.toArray n u (by rw[List.size_toArray];omega)) ⟨e,?_⟩;refine⟨.non,_,I.Zk (its':=its++[u]) hH e (by simp) (r.append (.cons ru .nil)) ?_,rfl,q⟩;rw[List.length_append,List.length_singleton];omega
def aaI:R2:=fun x y H Q=>∃l b xs zs,x = .ref l/\y = .ref b/\H l=some (.lst xs)/\H b=some (.lst zs)/\xs.length+zs.length<=sizeLine/\∀p,H p=none->Q (.ref p) (upd H p (.lst (xs++zs)))
theorem Ol:OpR X (binaryOp .Add) aaI:=by
 intro pins s σ H x y v u Q I rx ry h;obtain⟨l,b,xs,zs,rfl,rfl,hH,hB,hz,q⟩:=h;cases rx;cases ry;obtain⟨z,its,n,r,hl,e⟩:=I.Ro hH;obtain⟨z2,its2,n2,r2,hl2,e2⟩:=I.Ro hB;refine PySem.P.add_list e e2 ?_ (by rw[List.size_toArray,List.size_toArray];omega);have ea:its.toArray++its2.toArray=(its++its2).toArray:=by simp
 rw[ea];exact⟨.ref _,_,I.Rn (t':=s.toks) (r.append r2) (by rw[List.length_append];omega),rfl,q _ I.fresh⟩
def aas:R2:=fun x y H Q=>∃l k xs,x = .ref l/\y = .int k/\H l=some (.lst xs)/\-(2^63)<=k/\k<2^63/\xs.length*k.toNat<=sizeLine/\
 ∀p,H p=none->Q (.ref p) (upd H p (.lst (List.replicate k.toNat xs).flatten))
theorem len_rep{α:Type}(xs:List α)(k:Nat):(List.replicate k xs).flatten.length=k*xs.length:=by
 induction k with
 |zero=>simp
 |succ k ih=>rw[List.replicate_succ,List.flatten_cons,List.length_append,ih,Nat.succ_mul,Nat.add_comm]
theorem QB:OpR X (binaryOp .Mult) aas:=by
 intro pins s σ H x y v u Q I rx ry h;obtain⟨l,k,xs,rfl,rfl,hH,h1,h2,hz,q⟩:=h;cases rx;obtain⟨t,rfl⟩:=ry;obtain⟨z,its,n,r,hl,e⟩:=I.Ro hH;have hlen:its.toArray.size*k.toNat<=sizeLine:=by rw[List.size_toArray,<-hl];exact hz
 have hcap:¬its.toArray.size*k.toNat>(2^63-1)/8:=by
  have:(sizeLine:Nat)<=(2^63-1)/8:=by decide
  omega
 have hfit:¬(!Builtin.List.listFitsIndex k)=true:=by
  rw[fitsIndex_both h1 h2];exact Bool.false_ne_true
 have TX:¬Builtin.List.listTooLong (its.toArray.size*k.toNat)=true:=by
  rw[Jg hlen];exact Bool.false_ne_true
 have hnew:List.foldl (fun x1 x2=>x1++x2) #[] (List.replicate (if its.toArray.isEmpty=true then 0 else k.toNat) its.toArray)=(List.replicate k.toNat its).flatten.toArray:=by
  have f0:∀m:Nat,List.foldl (fun x1 x2=>x1++x2) #[] (List.replicate m its.toArray)=(List.replicate m its).flatten.toArray:=fun m=>by
   have:=foldl_rep its m [];rw[List.nil_append]at this;exact this
  rw[f0];cases its with
  |nil=>simp
  |cons a r'=>rw[if_neg (by simp)]
 refine wpAny_binaryOp_repeat_ref (T:= "list") (U:= "int") (by decide) ⟨_,e,rfl⟩ (fun s'=>typeIs_int s' k t) noFill_list_mul F.fills_int_mul F.slot_int_rmul repeat_list F.slot_int_index.lookup
  (call_meets F.slot_int_rmul (typeIs_int s k t) F.entry_int_rmul (F.args_int_rmul_2 _ _) (int___rmul___int_list k t l its.toArray n)
   ⟨e,rfl,⟨_,e,rfl⟩,call_meets F.slot_list_mul ⟨_,e,rfl⟩ F.entry_list_mul (F.args_list_mul_2 _ _) (AutoListH.list___mul___list_int_3 l its.toArray n k t hfit hcap TX) ⟨e,?_⟩⟩)
 rw[hnew];exact⟨.ref _,_,I.Rn (t':=s.toks) (r.rep k.toNat) (by rw[len_rep,Nat.mul_comm];exact hz),rfl,q _ I.fresh⟩
end
section
variable {prog:Program} {w:World} {A:Around} {E:Value->Shared->Prop} {s:Shared}
end
section
variable {X:Cx}
end
section
variable {κ:Type} [DecidableEq κ]
def Ie(kvs:List (κ×V))(k:κ):Option V:=(kvs.find? fun kv=>decide (kv.1=k)).map (·.2)
theorem Ij{p:κ×V}{r:List (κ×V)}{k:κ}(e:p.1=k):Ie (p::r) k=some p.2:=by simp[Ie,List.find?_cons,e]
theorem JH{p:κ×V}{r:List (κ×V)}{k:κ}(e:¬p.1=k):Ie (p::r) k=Ie r k:=by simp[Ie,List.find?_cons,e]
theorem KV.val{kvs:List (κ×V)}{vs:List (κ×Value)}(r:KV kvs vs)(k:κ):G7 (Ie kvs k) (valueAt vs k):=by
 unfold KV at r;induction r with
 |nil=>exact True.intro
 |@cons p q ps qs h t ih=>
  obtain⟨h1,h2⟩:=h;by_cases e:p.1=k
  ·have e':q.1=k:=h1.symm.trans e;have b:valueAt (q::qs) k=some q.2:=by simp[valueAt,List.find?_cons,e']
   rw[Ij e,b];exact h2
  ·have e':¬q.1=k:=fun z=>e (h1.trans z);have b:valueAt (q::qs) k=valueAt qs k:=by simp[valueAt,List.find?_cons,e']
   rw[JH e,b];exact ih
end
section
variable {P:Program} {w:World} {H:Hp} {h:Heap} {a:Addr}
end
section
variable {X:Cx} {pins:List (Addr×Obj)} {σ:St} {H:Hp} {s:Shared} {a:Addr} {y v:V} {u r:Value} {o:Option V} {A:Around} {E:Value->Shared->Prop}
end
section
variable {X:Cx} {pins:List (Addr×Obj)} {σ:St} {H:Hp} {s:Shared} {a:Addr} {kvs:List (Key×V)} {k:Key} {u:Value} {A:Around} {E:Value->Shared->Prop}
end
section
variable {X:Cx} {o i e value:Expr} {pos pos' tpos:Pos} {td ty tv:TE}
end
section
variable {X:Cx} {pos:Pos}
end
section
variable {X:Cx} {pins:List (Addr×Obj)} {σ:St} {H:Hp} {s:Shared} {a:Addr} {y d:V} {u r:Value} {o:Option V} {A:Around} {E:Value->Shared->Prop}
end
section
variable {X:Cx} {o e f:Expr} {apos cpos:Pos} {td ty tx:TE}
end
section
variable {X:Cx} {pins:List (Addr×Obj)} {σ:St} {H:Hp} {s:Shared} {a:Addr} {kvs:List (Key×V)} {A:Around} {E:Value->Shared->Prop}
end
section
variable {X:Cx} {pins:List (Addr×Obj)} {σ:St} {H:Hp} {s:Shared} {a:Addr} {y:V} {u:Value} {A:Around} {E:Value->Shared->Prop}
end
end L2
namespace Att
open PySem PySem.W PySem.Calls PyProof.Rows
theorem rE{P:Params}{h:Heap}:∀(ns:List Int) (vs:List Value),WellAll P h vs (ns.map WData.int)->IntsAre vs ns:=by
 intro ns;induction ns with
 |nil=>
  intro vs w;rw[List.map_nil]at w;cases w;exact .nil
 |cons n ns ih=>
  intro vs w;rw[List.map_cons]at w;cases w with
  |cons a b=>
   cases a;exact .cons _ _ (ih _ b)
theorem Ez{l:OpenLaw}{n:Nat}(hn:l.most=some n){P:Params}{h:Heap}{args:List WData}{vals:List Value}
  (hpre:l.row.toRowW.claim.pre args=true) (hwl:WellAll P h vals args):
  ∃a vs ns,vals=[Value.ref a]/\args=[WData.list (ns.map WData.int)]/\h.get? a=some { cls:= .type "list",data:= .seq vs.toArray }/\IntsAre vs ns/\ns.length<=n:=by
 have hsh:WShape.hasAll [] args [.list .int]=true:=(pre_splitW hpre).1;have hc:l.pre.holds [] { args:=args }=true:=(pre_splitW hpre).2;obtain⟨d,r,rfl,h1,h2⟩:=hasAllW_cons hsh;obtain rfl:=hasAllW_nil h2;obtain⟨xs,rfl,h3⟩:=hasW_list h1;obtain⟨ns,rfl⟩:=items_int h3;have hlen:ns.length<=n:=by
  unfold OpenLaw.pre at hc;have h4:(WTm.not (.lt (.lit (.int (n:Int))) (.len (.arg 0)))).holds [] { args:=[.list (ns.map .int)] }=true:=by
   have h4:=(holds_andW hc).1;rw[hn]at h4;exact h4
  have h5:=condW_of h4 (w_not (w_lt w_lit (w_len_list (w_arg rfl))));rw[List.length_map]at h5;refine Nat.le_of_not_lt fun q=>?_;have q':(n:Int)<((ns.length:Nat):Int):=by omega
  first
   |(rw[decide_eq_true q']at h5;exact absurd h5 (by decide))
   |(simp at h5;omega)
 cases hwl with
 |cons w1 w2=>
  cases w2;cases w1 with
  |list ho hall=>exact⟨_,_,ns,rfl,rfl,ho,rE ns _ hall,hlen⟩
theorem Fv(l:OpenLaw)(args:List WData):l.row.toRowW.claim.post args (.bool true) args=true:=
 postW_of (r:=l.row.toRowW) (X:=(true==true))
  (show WShape.has [] (.bool true) .bool=true by first|rfl|decide|simp[WShape.has,WShape.arms,WShape.armsAll])
  (show(WTm.eq .res (.lit (.bool true))).value [] { args:=args,res:=some (.bool true),after:=args }=some (.bool (true==true))from w_eq_bool (w_res rfl) w_lit) rfl
section
variable {prog:Program} {w:World} {A:Around} {E:Value->Shared->Prop} {s:Shared} {K:Frag}
end
end Att
namespace L2
open PySem PySem.Spec PyProof.Rows
theorem DW{vs:List Value}{ns:List Int}(h:IntsAre vs ns):Vals (ns.map V.int) vs:=by
 induction h with
 |nil=>exact .nil
 |cons n t h ih=>exact .cons ⟨t,rfl⟩ ih
def Only(H:Hp):Prop:=∀b,H b=none∨∃o xs,H b=some (.frz o (.lst xs))
theorem Jl{P:Program}{w:World}{K:W.Frag}{mg mb:Str->Option Value}{CX:CXT}{k:Nat}{fa a:Addr}{fd:FuncData}{x:Str}{sp:Sp}{s₁:Shared}{vs:List Value}{ns:List Int}
  (KX:K.In s₁.heap) (hns:s₁.heap.Ns mainGlobals mg) (hb:s₁.heap.Ns builtinsNs mb) (hbb:∀x:Str,x≠ "__name__" -> mb x=bootBuiltins x) (hlim:s₁.heap.NoLimit) (hdig:s₁.heap.NoDigits) (hg:s₁.gens=#[])
  (ha:s₁.heap.get? a=some { cls:= .type "list",data:= .seq vs.toArray }) (hi:IntsAre vs ns) (hl:ns.length<=sizeLine) (hr:mR k callerA)
  (F:∀base:Heap,K.In base->base.Ns mainGlobals mg->G8 P w K mg base CX k fa fd [x] sp) (hbind:∀(s:Shared) (u:Value),BindsTo s fd ⟨[u],[]⟩ [(x,u)])
  (hsp:∀H:Hp,Only H->SqL K H a (ns.map V.int)->sp [.ref a] H (fun v _=>v = .bl true) fun _ _ _=>False)
  (hCX:∀H e s',CX [] H s₁ (fun _ _ _=>False) e s'->False):
  codeAny (model P w) callerA (.call (.ref fa) ⟨[.ref a],[]⟩) (fun r s'=>r = .ok (.ret (.bool true))/\OldK s₁.heap s'.heap/\s'.os=s₁.os/\AllBare s'.gens) s₁:=by
 have rv:=DW hi;have lenV:=hi.length;have core:∀H:Hp,Only H->SqL K H a (ns.map V.int)->HOk P w H s₁.heap->(∀b,H b≠none->b=a)->(H a≠none->K.lookup a=none)->
   codeAny (model P w) callerA (.call (.ref fa) ⟨[.ref a],[]⟩) (fun r s'=>r = .ok (.ret (.bool true))/\OldK s₁.heap s'.heap/\s'.os=s₁.os/\AllBare s'.gens) s₁:=by
  intro H hO hS hok hA hK;have Dq:∀{b:Addr} {o:Obj},s₁.heap.get? b=some o->H b=none->(Hy s₁.heap H).get? b=some o:=fun e n=>G9 e n;have noA:∀{b:Addr} {o:Obj} {es:Array DictEntry} {ep:Nat},s₁.heap.get? b=some o->o.data = .dict es ep->H b=none:=fun {b o es ep} e d=>by
   cases q:H b with
   |none=>rfl
   |some u=>
    have e':b=a:=hA b (by rw[q];simp);subst e';rw[ha]at e;cases e;have d':Data.seq vs.toArray _=Data.dict es ep:=d;cases d'
  have nsK:∀{b:Addr} {m:Str->Option Value},s₁.heap.Ns b m->(Hy s₁.heap H).Ns b m:=fun {b m} ⟨o,es,ep,e,d,r⟩=>⟨o,es,ep,Dq e (noA e d),d,r⟩;have hKb:K.In (Hy s₁.heap H):=fun b o e=>Dq (KX b o e) (by
   cases q:H b with
   |none=>rfl
   |some u=>
    have e':b=a:=hA b (by rw[q];simp);subst e';rw[hK (by rw[q];simp)]at e;cases e)
  have hM:Mod K mg (Hy s₁.heap H):=⟨hKb,nsK hns,⟨mb,nsK hb,hbb⟩,let⟨mc,h1,h2⟩:=hlim;⟨mc,nsK h1,h2⟩,let⟨mc,h1,h2⟩:=hdig;⟨mc,nsK h1,h2⟩⟩;have e0:Rp P w K mg (Hy s₁.heap H) callerA [] s₁ H:=⟨rfl,hM,fun b o e=>Mg e,Nat.le_of_eq (Fe _ _),trivial,fun b hb=>absurd (show b∈([]:List Addr)from hb) (by simp),hok,.of_eq hg⟩;refine codeAny_mono ((F _ hKb (nsK hns)).run callerA [] s₁ H ⟨[.ref a],[]⟩ [.ref a] [.ref a] _ _ hr e0 (hbind s₁ (.ref a)) (.cons rfl .nil) (hsp H hO hS)) fun r s' h=>?_;cases r with
  |error e=>exact(hCX H e s' h).elim
  |ok fl=>
   cases fl with
   |next=>exact False.elim h
   |brk=>exact False.elim h
   |cont=>exact False.elim h
   |ret u=>
    obtain⟨v,H',os,bare,un,hok',r',q⟩:=h;have q':v = .bl true:=q;subst q';obtain rfl:u=Value.bool true:=r';refine⟨rfl,OldK.of_keep fun b o e=>?_,os,bare⟩;cases q:H b with
    |none=>exact un.keep b o e q (by intro z;exact absurd (show b∈([]:List Addr)from z) (by simp)) (by simp)
    |some u=>
     rcases hO b with z|⟨ob,xs,z⟩
     ·rw[q]at z;cases z
     ·have z2:=un.yE b ob _ z;obtain⟨e1,_⟩:=hok b _ z;obtain⟨e2,_⟩:=hok' b _ z2;rw[e]at e1;cases e1;exact e2
 cases hk:K.lookup a with
 |some o=>
  have e:=KX a o hk;rw[ha]at e;cases e;refine core (fun _=>none) (fun _=> .inl rfl) (.inr ⟨_,vs.toArray,_,hk,rfl,rfl,rfl,by rw[List.size_toArray,lenV];exact hl,by simpa using rv⟩) (fun b u z=>by have z':(none:Option HO)=some u:=z;cases z') (fun b z=>absurd rfl z) fun z=>absurd rfl z
 |none=>
  refine core (fun b=>if b=a then some (.frz { cls:= .type "list",data:= .seq vs.toArray } (.lst (ns.map V.int)))else none) (fun b=>?_) (.inl (.inr ⟨{ cls:= .type "list",data:= .seq vs.toArray },if_pos rfl⟩)) (fun b u z=>?_) (fun b z=>?_) fun _=>hk
  ·by_cases hb:b=a
   ·exact .inr ⟨_,_,if_pos hb⟩
   ·exact .inl (if_neg hb)
  ·by_cases hb:b=a
   ·have z':=(if_pos hb).symm.trans z;cases z';subst hb;exact⟨ha,by rw[List.length_map];exact hl,vs,_,rv,ha⟩
   ·have z':=(if_neg hb).symm.trans z;cases z'
  ·by_cases hb:b=a
   ·exact hb
   ·exact absurd (if_neg hb) z
def aD(s:Stmt):Arguments:=match s with
 |.FunctionDef _ a _ _ _ _ _ _ _ _=>a
 |_=>{ posonlyargs:=[],args:=[],vararg:=none,kwonlyargs:=[],kw_defaults:=[],kwarg:=none,defaults:=[] }
def aC(s:Stmt):List Stmt:=match s with
 |.FunctionDef _ _ b _ _ _ _ _ _ _=>b
 |_=>[]
def aj(s:Stmt):Scope:=match s with
 |.FunctionDef _ _ _ _ _ _ sc _ _ _=>sc
 |_=>{ kind:= .function,names:=[],isGenerator:=false,isCoroutine:=false }
abbrev E0:XK:=fun _ _ _=>False
structure Fun(K:W.Frag)(x qual:Str)(st:Stmt)(f:Addr)(fd:FuncData):Prop where
 ex:∃(oc:Value) (od:Option Addr) (kV doc pm:Value) (an:Option Addr) (cdv ct:Value) (osl:Array (Option Value)),
  fd=W.fnOf x qual (aD st) (aC st) (aj st) .none kV doc pm an cdv ct/\K.lookup f=some ⟨oc,od,.func fd,osl⟩/\W.codeIn K cdv qual=true
 kp:W.keepIn K (.ref f)=true
section
variable {P:Program} {w:World} {K:W.Frag} {mg:Str->Option Value} {base:Heap}
theorem Fun.binds{x qual:Str}{st:Stmt}{f:Addr}{fd:FuncData}{ps:List Str}(F:Fun K x qual st f fd)
  (h:∀(kV doc pm:Value) (an:Option Addr) (cdv ct:Value) (us:List Value),us.length=ps.length->bindArgs (W.fnOf x qual (aD st) (aC st) (aj st) .none kV doc pm an cdv ct) ⟨us,[]⟩=pure (ps.zip us)):Binds K fd ps []:=by
 obtain⟨oc,od,kV,doc,pm,an,cdv,ct,osl,rfl,lk,hcd⟩:=F.ex;exact .all (h kV doc pm an cdv ct)
theorem Kg{x qual:Str}{st:Stmt}{f:Addr}{oc:Value}{od an:Option Addr}{osl:Array (Option Value)}{kV doc pm cdv ct:Value}(l:K.lookup f=some ⟨oc,od,.func (W.fnOf x qual (aD st) (aC st) (aj st) .none kV doc pm an cdv ct),osl⟩)
  (c:W.codeIn K cdv qual=true) (k:W.keepIn K (.ref f)=true):Fun K x qual st f (W.fnOf x qual (aD st) (aC st) (aj st) .none kV doc pm an cdv ct):=⟨⟨oc,od,kV,doc,pm,an,cdv,ct,osl,rfl,l,c⟩,k⟩
end
theorem bI{n:Nat}(h:n<=1000):n<sizeLine:=Nat.lt_of_le_of_lt h (by decide)
section
variable {X:Cx}
theorem pv(i:Nat){x:Str}{pos:Pos}(hN:X.N[i]?=some x:=by rfl)(hv:Vis X.env.scope x:=by first|exact Or.inl rfl|exact Or.inr (Or.inl rfl)|exact Or.inr (Or.inr rfl))(hd:(x==("__debug__" : Str))=false:=by decide)
  (hcd:(x==("__classdict__" : Str))=false:=by decide):PE X (.Name x pos) (Rk i):=PZ hN hv hd hcd
end
theorem uQ{A B:Prop}(h:B):if false=true then A else B:=by
 rw[if_neg Bool.false_ne_true];exact h
theorem Yl{A B:Prop}(h:A):if true=true then A else B:=by
 rw[if_pos rfl];exact h
theorem mZ{c A B:Prop}[Decidable c](h1:c->A)(h2:¬c->B):if c then A else B:=by
 by_cases h:c
 ·rw[if_pos h];exact h1 h
 ·rw[if_neg h];exact h2 h
theorem Uj{c A B:Prop}[Decidable c](hc:c)(h:B):if(!decide c)=true then A else B:=by
 rw[decide_eq_true hc];exact uQ h
def Same(H H':Hp):Prop:=∀b o,H b=some o->H' b=some o
theorem Same.refl(H:Hp):Same H H:=fun _ _ h=>h
theorem Same.trans{H H1 H2:Hp}(a:Same H H1)(b:Same H1 H2):Same H H2:=fun c o h=>b c o (a c o h)
theorem Same.free{H H':Hp}(e:Same H H'){l:Addr}(h:H' l=Option.none):H l=Option.none:=by
 cases q:H l with
 |none=>rfl
 |some o=>
  rw[e l o q]at h;cases h
theorem Same.seq{K:W.Frag}{H H':Hp}{a:Addr}{xs:List V}(e:Same H H')(h:SqL K H a xs):SqL K H' a xs:=by
 rcases h with(h|⟨o,h⟩)|h
 ·exact .inl (.inl (e _ _ h))
 ·exact .inl (.inr ⟨o,e _ _ h⟩)
 ·exact .inr h
section
variable {κ:Type} [DecidableEq κ]
end
theorem us0{us:List Value}(h:us.length=0):us=[]:=List.eq_nil_of_length_eq_zero h
theorem usS{us:List Value}{n:Nat}(h:us.length=n+1):∃a r,us=a::r/\r.length=n:=by
 cases us with
 |nil=>cases h
 |cons a r=>exact⟨a,r,rfl,Nat.succ.inj h⟩
theorem us1{us:List Value}(h:us.length=1):∃a,us=[a]:=by
 obtain⟨a,r,rfl,k⟩:=usS h;obtain rfl:=us0 k;exact⟨a,rfl⟩
theorem us2{us:List Value}(h:us.length=2):∃a b,us=[a,b]:=by
 obtain⟨a,r,rfl,k⟩:=usS h;obtain⟨b,rfl⟩:=us1 k;exact⟨a,b,rfl⟩
theorem us3{us:List Value}(h:us.length=3):∃a b c,us=[a,b,c]:=by
 obtain⟨a,r,rfl,k⟩:=usS h;obtain⟨b,c,rfl⟩:=us2 k;exact⟨a,b,c,rfl⟩
theorem us4{us:List Value}(h:us.length=4):∃a b c d,us=[a,b,c,d]:=by
 obtain⟨a,r,rfl,k⟩:=usS h;obtain⟨b,c,d,rfl⟩:=us3 k;exact⟨a,b,c,d,rfl⟩
structure qM(P:Program)(w:World)(outer:List Env)(H:Hp)(s:Shared)(E:XK)(e:Value)(s':Shared):Prop where
 ex:∃(ea C:Addr) (a0:Value) (B:Heap) (H':Hp),e = .ref ea/\s'.os=s.os/\AllBare s'.gens/\Heap.FlyingW B outer ea (.ref C) a0 s'.heap/\HOk P w H' B/\Un (frs outer) [] H H' s.heap s'.heap/\
  (∀b o,s.heap.get? b=some o->b∈frs outer∨∃o',B.get? b=some o')/\E (.ref C) none H'
theorem uE{P:Program}{w:World}{outer:List Env}{H:Hp}{s s':Shared}{e:Value}(h:qM P w outer H s E0 e s'):False:=by
 obtain⟨_,_,_,_,_,_,_,_,_,_,_,_,q⟩:=h.ex;exact q
theorem QH{X:Cx}:Passes (qM X.prog X.w) X E0:=fun _ _ _ _ _ _ _ h=>(uE h).elim
section
variable {X:Cx} {pins:List (Addr×Obj)} {σ:St} {H:Hp} {s:Shared}
theorem Inv.Dd(I:Inv X pins σ H s){b:Addr}{o:Obj}(e:X.s₀.heap.get? b=some o)(hb:b∉X.fs):b∉frs X.stack:=fun z=>by
 rcases List.mem_cons.mp (I.xu b z)with q|q
 ·exact absurd (Nat.lt_of_lt_of_le (Heap.lt_size e) I.ok.above) (by rw[<-q];exact Nat.lt_irrefl _)
 ·exact hb q
theorem v5(I:Inv X pins σ H s){b:Addr}{o:Obj}(e:s.heap.get? b=some o)(hb:b∉frs X.stack):(W.hideAll s.heap (frs X.stack)).get? b=some o:=W.hideAll_get _ e hb
theorem Inv.Qw(I:Inv X pins σ H s):HOk X.prog X.w H (W.hideAll s.heap (frs X.stack)):=fun b o e=>
 (I.hok b o e).stay (fun c u hc q=>v5 I q fun z=>by
  have n:=I.vK c z;rcases hc with rfl|hc
  ·rw[n]at e;cases e
  ·rw[n]at hc;cases hc) (fun _ q=>q) fun _ _ q=>q
theorem Inv.Yv(I:Inv X pins σ H s)(hex:X.ex=[]){H':Hp}{h':Heap}(keep:∀b o,s.heap.get? b=some o->H b=none->b∉frs X.stack->h'.get? b=some o)
  (slot:∀b o,s.heap.get? b=some o->H b=none->b∈X.fs->∃sl,h'.get? b=some { o with slots:=sl }) (free:∀b o,s.heap.get? b=some o->H b=none->H' b=none) (there:∀b o,s.heap.get? b=some o->∃o',h'.get? b=some o')
  (tups:∀b xs,H b=some (.tup xs)->H' b=some (.tup xs)) (yE:∀b o u,H b=some (.frz o u)->H' b=some (.frz o u)) (Ak:∀b ps,H b=some (.tbl ps)->∃more,H' b=some (.tbl (ps++more))):
  Un (frs X.outer) [] X.H₀ H' X.s₀.heap h':=by
 have nx:∀b:Addr,b∉X.ex:=fun b=>by rw[hex];simp
 refine⟨fun b o e n hb _=>?_,fun b o e n hb _=>?_,fun b o e n _=>?_,fun b o e _=>?_,fun b xs e=>tups b xs (I.base.tups b xs e),fun b o u e=>yE b o u (I.base.yE b o u e),fun b ps e=>?_⟩
 ·exact keep b o (I.base.keep b o e n hb (nx b)) (I.base.free b o e n (nx b)) (I.Dd e hb)
 ·obtain⟨sl,e1⟩:=I.base.slot b o e n hb (nx b);obtain⟨sl',e2⟩:=slot b _ e1 (I.base.free b o e n (nx b)) hb;exact⟨sl',e2⟩
 ·obtain⟨o',e1⟩:=I.base.there b o e (nx b);exact free b o' e1 (I.base.free b o e n (nx b))
 ·obtain⟨o',e1⟩:=I.base.there b o e (nx b);exact there b o' e1
 ·obtain⟨m1,e1⟩:=I.base.Ak b ps e;obtain⟨m2,e2⟩:=Ak b _ e1;exact⟨m1++m2,by rw[e2,Array.append_assoc]⟩
end
abbrev cxF(P:Program)(w:World)(K:W.Frag)(mg:Str->Option Value)(base:Heap)(N:List Str)(qual:Str)(scope:Scope)(f:Addr)(cdv:Value)(A:Around)(outer:List Env)(s:Shared)(H:Hp)(E:XK):Cx:=
 Np (qM P w) P w K mg base N qual scope f cdv A outer s H E
section
variable {P:Program} {w:World} {K:W.Frag} {mg:Str->Option Value} {base:Heap} {N:List Str} {qual:Str} {scope:Scope} {f:Addr} {cdv:Value} {A:Around} {outer:List Env} {s₀:Shared} {H₀:Hp} {E:XK}
theorem zQ{pins:List (Addr×Obj)}{σ:St}{H:Hp}{s:Shared}{h1:Heap}{e C:Addr}{vs:List Value}(I:Inv (cxF P w K mg base N qual scope f cdv A outer s₀ H₀ E) pins σ H s)(hx:Heap.MadeExcOf s.heap h1 e (.ref C) vs)(q:E (.ref C) none H):
  (cxF P w K mg base N qual scope f cdv A outer s₀ H₀ E).xe (.ref e) { s with heap:=h1 }:=by
 have hin:∀env∈envOfC qual scope s₀.heap.objs.size f cdv::outer,∀a,env.frame=some a->a∈frs (envOfC qual scope s₀.heap.objs.size f cdv::outer):=fun env he a ha=>List.mem_filterMap.mpr ⟨env,he,ha⟩;refine wpAny_leaves_madeW (base:=W.hideAll s.heap (frs (envOfC qual scope s₀.heap.objs.size f cdv::outer))) (h:=s.heap) (L:=s₀.heap.objs.size) I.ok.frames rfl (fun b o q=>W.of_hideAll _ q) (W.funFrames_hide I.stack hin) hx fun h' t x1 x2 x3 x4=>?_;have up:∀b o,s.heap.get? b=some o->b∈frs (envOfC qual scope s₀.heap.objs.size f cdv::outer)->∃sl,h'.get? b=some { o with slots:=sl }:=fun b o e hb=>by
  obtain⟨_,o',ho',hd⟩:=I.stack.mem hb;rw[e]at ho';cases ho';exact x4 b o (hx.keeps b o e) hd
 refine⟨e,C,.ref t,_,H,rfl,I.os,I.bare,x1,I.Qw,I.Yv rfl (fun b o e _ hb=>x1.1 b o (v5 I e hb)) (fun b o e _ hb=>up b o e (List.mem_cons_of_mem _ hb)) (fun _ _ _ n=>n) (fun b o e=>?_) (fun _ _ z=>z) (fun _ _ _ z=>z) (fun b ps z=>⟨#[],by rw[z];simp⟩),fun b o e=>?_,q⟩
 ·by_cases hb:b∈frs (envOfC qual scope s₀.heap.objs.size f cdv::outer)
  ·obtain⟨sl,z⟩:=up b o e hb;exact⟨_,z⟩
  ·exact⟨o,x1.1 b o (v5 I e hb)⟩
 ·by_cases hb:b∈frs outer
  ·exact .inl hb
  ·obtain⟨o',e1⟩:=I.base.there b o e (by intro z;cases z);exact .inr ⟨o',v5 I e1 (I.Dd e hb)⟩
theorem K6:Passes (qM P w) (cxF P w K mg base N qual scope f cdv A outer s₀ H₀ E) E:=by
 intro pins σ H s e s' I h;obtain⟨ea,C,a0,B,H',rfl,os,bare,fl,hok,un,old,q⟩:=h.ex;refine wpAny_leaves_onW (L:=s₀.heap.objs.size) I.ok.frames rfl fl fun h' x1 x2=>?_;have inB:∀b o,s.heap.get? b=some o->b∉frs (envOfC qual scope s₀.heap.objs.size f cdv::outer)->∃o',B.get? b=some o'/\s'.heap.get? b=some o':=fun b o e hb=>by
  rcases old b o e with z|⟨o',z⟩
  ·exact absurd z hb
  ·exact⟨o',z,fl.1 b o' z⟩
 have up:∀b o,s'.heap.get? b=some o->b∈frs (envOfC qual scope s₀.heap.objs.size f cdv::outer)->∃sl,h'.get? b=some { o with slots:=sl }:=fun b o e hb=>by
  obtain⟨_,o',ho',hd⟩:=fl.2.2.1.mem hb;rw[e]at ho';cases ho';exact x2 b o e hd
 refine⟨ea,C,a0,B,H',rfl,os.trans I.os,bare,x1,hok,I.Yv rfl (fun b o e n hb=>?_) (fun b o e n hb=>?_) (fun b o e n=>un.free b o e n (by simp)) (fun b o e=>?_) un.tups un.yE un.Ak,fun b o e=>?_,q⟩
 ·obtain⟨o',e1,e2⟩:=inB b o e hb;have e3:=un.keep b o e n hb (by simp);rw[e2]at e3;cases e3;exact x1.1 b _ e1
 ·obtain⟨sl,e1⟩:=un.slot b o e n (List.mem_cons_of_mem _ hb) (by simp);obtain⟨sl',e2⟩:=up b _ e1 (List.mem_cons_of_mem _ hb);exact⟨sl',e2⟩
 ·by_cases hb:b∈frs (envOfC qual scope s₀.heap.objs.size f cdv::outer)
  ·obtain⟨o',e1⟩:=un.there b o e (by simp);obtain⟨sl,e2⟩:=up b o' e1 hb;exact⟨_,e2⟩
  ·obtain⟨o',e1,_⟩:=inB b o e hb;exact⟨o',x1.1 b o' e1⟩
 ·by_cases hb:b∈frs outer
  ·exact .inl hb
  ·obtain⟨o',e1⟩:=I.base.there b o e (by intro z;cases z);obtain⟨o2,e2,_⟩:=inB b o' e1 (I.Dd e hb);exact .inr ⟨o2,e2⟩
end
def Ku(C:Addr)(E:XK)(t:TA):TS:=fun _ σ H=>t σ H fun vs H1=>vs.length<=sizeLine/\E (.ref C) none H1
structure ExC(mg:Str->Option Value)(base:Heap)(x:Str)(C:Addr):Prop where
 ex:∃bm newId,OwnCls x C bm newId mg base/\∃(Bn inN:String) (bmN:List Value) (B nid initId:String),ExcBaseFacts Bn newId inN bmN/\bm.contains (.type Bn)=true/\ExcBaseFacts B nid initId bm
theorem JB{P:Program}{w:World}{K:W.Frag}{mg:Str->Option Value}{base:Heap}{N:List Str}{qual:Str}{scope:Scope}{f:Addr}{cdv:Value}{A:Around}{outer:List Env}{s₀:Shared}{H₀:Hp}{E:XK}
  {x:Str} {C:Addr} {np cpos pos:Pos} {e:Expr} {es:List Expr} {t:TA} (O:ExC mg base x C) (hg:Gl (cxF P w K mg base N qual scope f cdv A outer s₀ H₀ E) x) (ha:PA (cxF P w K mg base N qual scope f cdv A outer s₀ H₀ E) (e::es) t)
  (hdb:(x==("__debug__" : Str))=false:=by decide)
  (he:starEach (e::es) (cxF P w K mg base N qual scope f cdv A outer s₀ H₀ E).env=(false,eval e (cxF P w K mg base N qual scope f cdv A outer s₀ H₀ E).env)::starEach es (cxF P w K mg base N qual scope f cdv A outer s₀ H₀ E).env:=by rfl)
  (hpl:(backTo cpos (starEach es (cxF P w K mg base N qual scope f cdv A outer s₀ H₀ E).env)).any (·.1)=false:=by rfl):
  PS (cxF P w K mg base N qual scope f cdv A outer s₀ H₀ E) (.Raise (some (.Call (.Name x np) (e::es) [] cpos)) none pos) (Ku C E t):=by
 intro pins s σ H D I h;obtain⟨bm,newId,O,Bn,inN,bmN,B,nid,initId,Fn,hBn,FB⟩:=O.ex;obtain⟨tl,Nn,nm,q,bs,hdct,sn,sub,ab,col,dd,k0,k1,k2,k3,k5,mN,hC,hN,hni,T⟩:=O.obj;refine wpAny_Raise_call_subU (C:=C) (nm:=nm) (q:=q) (N:=Nn) (bs:=bs) (bm:=tl) (hdct:=hdct) (sn:=sn) (sub:=sub) (ab:=ab) (col:=col) (dd:=dd) (k0:=k0) (k1:=k1) (k2:=k2) (k3:=k3) (k5:=k5)
  Fn hBn FB (mN:=mN) (T.hasType FB.hasBase) (I.ok.hd rfl) (by rw[he];show(false||(backTo cpos (starEach es (cxF P w K mg base N qual scope f cdv A outer s₀ H₀ E).env)).any (·.1))=false;rw[hpl];rfl) hni (tV I hg O.bound ⟨rfl,?_⟩ hdb)
 have h2:=ha cpos pins s σ H _ I h;rw[he]at h2⊢;refine Calls.evalArgs_plain (wpAny_mono h2 (fun us s2 ⟨vs,H2,I2,r,z,q⟩=>⟨rfl,by rw[<-r.length];exact z,I2.bk _ _ hC,hN.keeps I2.bk,T.keeps I2.bk,fun h' e hm=>zQ I2 hm q⟩) fun _ _ y=>y)
theorem Fun.okF{P:Program}{w:World}{K:W.Frag}{mg:Str->Option Value}{base:Heap}{x qual:Str}{st:Stmt}{f:Addr}{fd:FuncData}{N ps:List Str}{k:Nat}{sp:Sp}(F:Fun K x qual st f fd)(S:aQ N ps (aj st))(len:∀vs H Q E,sp vs H Q E->vs.length=ps.length)
  (hbody:∀(cdv:Value) (A:Around) (outer:List Env) (s:Shared) (H:Hp) (vs:List V) (Q:VK) (E:XK),mR k (A.deeper (envOfC qual (aj st) s.heap.objs.size f cdv))->sp vs H Q E->
   ∃t,PSs (cxF P w K mg base N qual (aj st) f cdv A outer s H E) (aC st) t/\t { nx:=fun _ H'=>Q .non H',rt:=Q } (start N vs) H):G8 P w K mg base (qM P w) (k+1) f fd ps sp:=by
 obtain⟨oc,od,kV,doc,pm,an,cdv,ct,osl,rfl,lk,hcd⟩:=F.ex;exact Vd lk hcd S len fun A outer s H vs Q E hr hsp=>hbody cdv A outer s H vs Q E hr hsp
theorem Fun.okN{P:Program}{w:World}{K:W.Frag}{mg:Str->Option Value}{base:Heap}{x qual:Str}{st:Stmt}{f:Addr}{fd:FuncData}{N ps:List Str}{k:Nat}{sp:Sp}(F:Fun K x qual st f fd)(S:aQ N ps (aj st))(len:∀vs H Q E,sp vs H Q E->vs.length=ps.length)
  (hbody:∀(cdv:Value) (A:Around) (outer:List Env) (s:Shared) (H:Hp) (vs:List V) (Q:VK) (E:XK),mR k (A.deeper (envOfC qual (aj st) s.heap.objs.size f cdv))->sp vs H Q E->
   ∃t,PSs (cxF P w K mg base N qual (aj st) f cdv A outer s H E).nox (aC st) t/\t { nx:=fun _ H'=>Q .non H',rt:=Q } (start N vs) H):G8 P w K mg base (qM P w) (k+1) f fd ps sp:=
 F.okF S len fun cdv A outer s H vs Q E hr h=>let⟨t,a,b⟩:=hbody cdv A outer s H vs Q E hr h;⟨t,a.nox,b⟩
section
variable {X:Cx}
theorem OpR.imp{f:Value->Value->Sem Value}{r r':R2}(h:OpR X f r)(i:∀x y H Q,r' x y H Q->r x y H Q):OpR X f r':=fun pins s σ H x y v u Q I rx ry q=>h pins s σ H x y v u Q I rx ry (i _ _ _ _ q)
theorem IxR.imp{r r':R2}(h:IxR X r)(i:∀x y H Q,r' x y H Q->r x y H Q):IxR X r':=fun value slice pins s σ H x y v u Q I rx ry q hs=>h value slice pins s σ H x y v u Q I rx ry (i _ _ _ _ q) hs
theorem vo{x:Str}{i:Int}{pos:Pos}(hg:Gl X x)(hm:∃t,X.mg x=some (.int i t))(hd:(x==("__debug__" : Str))=false:=by decide):PE X (.Name x pos) (tC (.int i)):=by
 obtain⟨t,e⟩:=hm;exact E9 hg e ⟨t,rfl⟩ hd
theorem qw{x:Str}{n:String}{pos:Pos}(hg:Gl X x)(hm:X.mg x=none)(hv:bootBuiltins x=some (.type n))(hn:x≠ "__name__" := by decide)(hd:(x==("__debug__" : Str))=false:=by decide):PE X (.Name x pos) (tC (.ty n)):=
 M8 hg hm hv (v:= .ty n) rfl hn hd
structure Cal(P:Program)(w:World)(K:W.Frag)(mg:Str->Option Value)(base:Heap)(x:Str)(k:Nat)(ps:List Str)(sp:Sp):Prop where
 ex:∃(g:Addr) (gd:FuncData),mg x=some (.ref g)/\W.keepIn K (.ref g)=true/\Binds K gd ps []/\G8 P w K mg base (qM P w) k g gd ps sp
theorem aB{x:Str}{k k':Nat}{ps:List Str}{sp:Sp}{p pos:Pos}{e:Expr}{es:List Expr}{t:TA}(C:Cal X.prog X.w X.K X.mg X.base x k ps sp)(hr:mR k' X.A)(hg:Gl X x)(ha:PA X (e::es) t)
  (hk:k<=k':=by decide) (hd:(x==("__debug__" : Str))=false:=by decide)
  (he:starEach (e::es) X.env=(false,eval e X.env)::starEach es X.env:=by rfl) (hpl:(backTo pos (starEach es X.env)).any (·.1)=false:=by rfl):PE X (.Call (.Name x p) (e::es) [] pos) (MV sp [] E0 t):=by
 obtain⟨g,gd,hm,hkp,hb,F⟩:=C.ex;exact Fq F (hr.mono hk) hg hm hkp hb .nil QH ha hd he hpl
theorem FQ{P:Program}{w:World}{K:W.Frag}{mg:Str->Option Value}{base:Heap}{N:List Str}{qual:Str}{scope:Scope}{f:Addr}{cdv:Value}{A:Around}{outer:List Env}{s₀:Shared}{H₀:Hp}{E:XK}
  {x:Str} {k k':Nat} {ps:List Str} {sp:Sp} {p pos:Pos} {e:Expr} {es:List Expr} {t:TA} (C:Cal P w K mg base x k ps sp) (hr:mR k' (cxF P w K mg base N qual scope f cdv A outer s₀ H₀ E).A) (hg:Gl (cxF P w K mg base N qual scope f cdv A outer s₀ H₀ E) x)
  (ha:PA (cxF P w K mg base N qual scope f cdv A outer s₀ H₀ E) (e::es) t) (hk:k<=k':=by decide) (hd:(x==("__debug__" : Str))=false:=by decide)
  (he:starEach (e::es) (cxF P w K mg base N qual scope f cdv A outer s₀ H₀ E).env=(false,eval e (cxF P w K mg base N qual scope f cdv A outer s₀ H₀ E).env)::starEach es (cxF P w K mg base N qual scope f cdv A outer s₀ H₀ E).env:=by rfl)
  (hpl:(backTo pos (starEach es (cxF P w K mg base N qual scope f cdv A outer s₀ H₀ E).env)).any (·.1)=false:=by rfl):
  PE (cxF P w K mg base N qual scope f cdv A outer s₀ H₀ E) (.Call (.Name x p) (e::es) [] pos) (MV sp [] E t):=by
 obtain⟨g,gd,hm,hkp,hb,F⟩:=C.ex;exact Fq (X:=cxF P w K mg base N qual scope f cdv A outer s₀ H₀ E) F (hr.mono hk) hg hm hkp hb .nil K6 ha hd he hpl
theorem IV{prog:Program}{w:World}{A:Around}{E:Value->Shared->Prop}{s:Shared}{t b:Addr}{vs ws:List Value}{Q:Value->Shared->Prop}(ht:IsTup s.heap t vs.toArray)(hb:IsTup s.heap b ws.toArray)(hv:vs=[])
  (h1:Q (.ref b) s):wpAny (model prog w) A (binaryOp .Add (.ref t) (.ref b)) Q E s:=by
 obtain⟨⟨cls,dd,data,sl⟩,ho,hc,n,hd⟩:=id ht;obtain⟨⟨cls2,dd2,data2,sl2⟩,ho2,hc2,n2,hd2⟩:=id hb;simp only at hc hd hc2 hd2;subst hc hd hc2 hd2;exact concat_meets ⟨_,ho,rfl⟩ ⟨_,ho2,rfl⟩ noFill_tuple_add seq_tuple_add PySem.F.slot_tuple_add PySem.F.entry_tuple_add (PySem.F.args_tuple_add_2 _ _)
   (tuple_addW0 t b vs.toArray ws.toArray n n2 dd dd2 sl sl2 (by simp[hv])) ⟨ho,ho2,h1⟩
def V3(K:W.Frag):R2:=fun x y H Q=>∃a b ys,x = .ref a/\y = .ref b/\SqT K H a []/\SqT K H b ys/\Q (.ref b) H
theorem LD:OpR X (binaryOp .Add) (V3 X.K):=by
 intro pins s σ H x y v u Q I rx ry h;obtain⟨a,b,ys,rfl,rfl,ha,hb,q⟩:=h;cases rx;cases ry;obtain⟨its,r1,p1,_⟩:=I.tuple ha;obtain⟨its2,r2,p2,_⟩:=I.tuple hb;exact IV p1 p2 (r1.vf.mpr rfl) ⟨.ref b,H,I,rfl,q⟩
def Iw(K:W.Frag):R2:=fun x y H Q=>match x,y with
 |.int i,.int j=>Q (.int (i+j)) H
 |.str i,.str j=>i.length+j.length<=sizeLine/\Q (.str (i++j)) H
 |.ref a,.ref b=>(∃xs ys,H a=some (.lst xs)/\H b=some (.lst ys)/\xs.length+ys.length<=sizeLine/\∀p,H p=none->Q (.ref p) (upd H p (.lst (xs++ys))))∨
   (∃xs ys,SqT K H a xs/\SqT K H b ys/\xs.length+ys.length<=sizeLine/\(xs=[]->Q (.ref b) H)/\(xs≠[]->ys=[]->Q (.ref a) H)/\(xs≠[]->ys≠[]->∀p,H p=none->Q (.ref p) (upd H p (.tup (xs++ys)))))
 |_,_=>False
theorem v_add:OpR X (binaryOp .Add) (Iw X.K):=by
 refine((Pg.or BX).or (Ol.or (M4.or LD))).imp fun x y H Q h=>?_;unfold Iw at h;split at h
 ·exact .inl (.inl ⟨_,_,rfl,rfl,h⟩)
 ·exact .inl (.inr ⟨_,_,rfl,rfl,h⟩)
 ·rcases h with⟨xs,ys,h1,h2,h3,h4⟩|⟨xs,ys,h1,h2,h3,h4,h5,h6⟩
  ·exact .inr (.inl ⟨_,_,xs,ys,rfl,rfl,h1,h2,h3,h4⟩)
  ·by_cases hx:xs=[]
   ·subst hx;exact .inr (.inr (.inr ⟨_,_,ys,rfl,rfl,h1,h2,h4 rfl⟩))
   ·exact .inr (.inr (.inl ⟨_,_,xs,ys,rfl,rfl,h1,h2,hx,h3,h5 hx,h6 hx⟩))
 ·exact h.elim
def Od:R2:=fun x y H Q=>match x,y with
 |.int i,.int j=>IntMulOk i j/\Q (.int (i*j)) H
 |.ref l,.int k=>∃xs,H l=some (.lst xs)/\-(2^63)<=k/\k<2^63/\xs.length*k.toNat<=sizeLine/\∀p,H p=none->Q (.ref p) (upd H p (.lst (List.replicate k.toNat xs).flatten))
 |_,_=>False
theorem MZ:OpR X (binaryOp .Mult) (rI IntMulOk fun i j=> .int (i*j)):=opI fun _ _ _ _ _ _ _ hc q=>mul_int q hc
theorem v_mul:OpR X (binaryOp .Mult) Od:=by
 refine(MZ.or QB).imp fun x y H Q h=>?_;unfold Od at h;split at h
 ·exact .inl ⟨_,_,rfl,rfl,h.1,h.2⟩
 ·obtain⟨xs,h1,h2,h3,h4,h5⟩:=h;exact .inr ⟨_,_,xs,rfl,rfl,h1,h2,h3,h4,h5⟩
 ·exact h.elim
inductive SIx(K:W.Frag)(p:Addr)(i:Int)(H:Hp)(Q:VK):Prop|mk (xs:List V) (v:V) (hs:SqL K H p xs∨SqT K H p xs) (ha:atI xs i=some v) (q:Q v H)
def Ru(K:W.Frag):R2:=fun x y H Q=>match x,y with
 |.ref p,.int i=>SIx K p i H Q
 |.str z,.int i=>∃c,z.length<=sizeLine/\atI z.cps.toList i=some c/\Q (.str ⟨#[c]⟩) H
 |_,_=>False
theorem aaH:IxR X (Ru X.K):=by
 refine PD.imp fun x y H Q h=>?_;unfold Ru at h;split at h
 ·obtain⟨xs,v,h1|h1,h2,h3⟩:=h
  ·exact .inl ⟨_,xs,_,v,rfl,rfl,h1,h2,h3⟩
  ·exact .inr (.inl ⟨_,xs,_,v,rfl,rfl,h1,h2,h3⟩)
 ·obtain⟨c,h1,h2,h3⟩:=h;exact .inr (.inr ⟨_,_,c,rfl,rfl,h1,h2,h3⟩)
 ·exact h.elim
def Hf(H:Hp):V->Option String
 |.non=>some "NoneType"
 |.bl _=>some "bool"
 |.int _=>some "int"
 |.str _=>some "str"
 |.ref a=>match H a with
  |some (.lst _)=>some "list"
  |some (.frz _ (.lst _))=>some "list"
  |some (.tup _)=>some "tuple"
  |some (.dK _)=>some "dict"
  |_=>none
 |_=>none
def subB(t c:String):Bool:=t==c||(t== "bool" && c== "int")
theorem VZ{K:W.Frag}{t c:String}(ht:t∈["NoneType","bool","int","str","list","tuple","dict"])(hc:c∈["int","bool","tuple","list","str","dict"]):W.kitOne K (.type t) (.type c)=some (subB t c):=by
 simp only[List.mem_cons,List.not_mem_nil,or_false]at ht hc;rcases ht with rfl|rfl|rfl|rfl|rfl|rfl|rfl<;>rcases hc with rfl|rfl|rfl|rfl|rfl|rfl<;>kernel_rfl
theorem LQ{K:W.Frag}{H:Hp}{x:V}{t:String}(h:Hf H x=some t):CW K H x (.type t)/\t∈["NoneType","bool","int","str","list","tuple","dict"]:=by
 unfold Hf at h;split at h
 ·cases h;exact⟨.non,by simp⟩
 ·cases h;exact⟨.bl _,by simp⟩
 ·cases h;exact⟨.int _,by simp⟩
 ·cases h;exact⟨.str _,by simp⟩
 ·split at h
  ·rename_i e;cases h;exact⟨.lst e,by simp⟩
  ·rename_i e;cases h;exact⟨.frz e,by simp⟩
  ·rename_i e;cases h;exact⟨.tup e,by simp⟩
  ·rename_i e;cases h;exact⟨.dK e,by simp⟩
  ·cases h
 ·cases h
theorem dG:mQ X (.builtin "isinstance") (fun xs H Q=>∃x c t,xs=[x,.ty c]/\Hf H x=some t/\c∈["int","bool","tuple","list","str","dict"]/\Q (.bl (subB t c)) H):=by
 intro pins s σ H xs us Q I r h;obtain⟨x,c,t,rfl,ht,hc,q⟩:=h;obtain⟨u,v,rfl,ru,rv⟩:=r.two;cases rv;obtain⟨ty,hm⟩:=LQ (K:=X.K) ht;exact ED I ru ty (VZ hm hc) fun tk=>⟨.bl _,H,I.tok tk,rfl,q⟩
theorem v_sum(hc:X.calm=true):mQ X (.builtin "sum") (fun xs H Q=>∃(l:Addr) (ns:List Int),xs=[.ref l]/\SqL X.K H l (ns.map V.int)/\Q (.int ns.sum) H):=by
 intro pins s σ H xs us Q I r h;obtain⟨l,ns,rfl,hl,q⟩:=h;obtain⟨u,rfl,ru⟩:=r.one;cases ru;obtain⟨its,rv,pl,hz⟩:=I.list hl;have hi:=intsAre_of rv;obtain⟨xs,hx⟩:=hi.allInts.items;have hl':s.heap.IsList l (intItems xs):=hx▸pl.isList;refine sum_intListG (I.ok.hd hc) hl' fun h' tk t' hk=>?_;have e1:ns=xs.toList.map (·.1):=by
  rw[<-nums_intItems,<-hx];exact(show numsOf its.toArray.toList=ns from hi.numsOf).symm
 have e2:preSum (numAt xs) xs.size=ns.sum:=by
  rw[preSum_eq,List.take_of_length_le (by simp),e1]
 rw[e2];exact⟨.int _,H,I.kept hk,⟨_,rfl⟩,q⟩
def Yr(K:W.Frag)(tl:TE):TI:=fun σ H R=>tl σ H fun x H1=>∃a,x = .ref a/\(((∃xs,SqL K H1 a xs)/\R (Itl K a) H1)∨((∃xs,SqT K H1 a xs)/\R (Itt K a) H1))
theorem QK{tg l:Expr}{tl:TE}(hl:PE X l tl):PI X tg l (Yr X.K tl):=by
 intro pins s σ H R I h;refine thn (hl pins s σ H _ I h) fun v s1 ⟨x,H1,I1,r1,a,e,q⟩=>?_;subst e;cases r1;rcases q with⟨⟨xs,hq⟩,q⟩|⟨⟨xs,hq⟩,q⟩
 ·have hh:PI X tg l (Tt X.K fun σ' H' Q=>Q (.ref a) H')->True:=fun _=>trivial;obtain⟨its,rv,p,hz⟩:=I1.list hq;refine wpAny_pyIter_list p.isList ?_;refine⟨s1.heap.objs.size,[s1.heap.objs.size],_,_,H1,rfl,I1.kept (t':=s1.toks) fun b o e=>Heap.get?_push_of_some _ e,GX a _,⟨_,Heap.get?_push_size _ rfl,rfl,rfl⟩,fun b hb=>?_,q⟩;have e:b=s1.heap.objs.size:=by simpa using hb
  subst e;exact I1.Nm (Nat.le_refl _) (I1.hok.fresh (Nat.le_refl _))
 ·obtain⟨its,rv,p,hz⟩:=I1.tuple hq;refine wpAny_pyIter_tuple (show s1.heap.IsTuple a its.toArray from p) ?_;refine⟨s1.heap.objs.size,[s1.heap.objs.size],_,_,H1,rfl,I1.kept (t':=s1.toks) fun b o e=>Heap.get?_push_of_some _ e,CG a _,⟨_,Heap.get?_push_size _ rfl,rfl,rfl⟩,fun b hb=>?_,q⟩;have e:b=s1.heap.objs.size:=by simpa using hb
  subst e;exact I1.Nm (Nat.le_refl _) (I1.hok.fresh (Nat.le_refl _))
end
theorem pX{env:Env}:∀(names:List (Str×NameKind)) (acc:List (Str×Addr)),(∀y∈names,y.2 = .free->∃c,env.cells.lookup y.1=some c)->(∀p∈acc,env.cells.lookup p.1=some p.2)->
 ∃cl,(forIn names acc fun(y:Str×NameKind) (cs:List (Str×Addr))=>match y with|(name,kind)=>if(kind== .free)=true then do let a<-cellOf env name;pure (ForInStep.yield ((name,a)::cs))else pure (ForInStep.yield cs))=(pure cl:Sem _)/\(∀p∈cl,env.cells.lookup p.1=some p.2)/\(∀p∈acc,p∈cl)/\∀y∈names,y.2 = .free->∃c,(y.1,c)∈cl
 |[],acc,_,ha=>⟨acc,rfl,ha,fun _ h=>h,fun _ h=>nomatch h⟩
 |(n,k)::r,acc,hf,ha=>by
  have hr:∀y∈r,y.2 = .free->∃c,env.cells.lookup y.1=some c:=fun y hy=>hf y (List.mem_cons_of_mem _ hy);by_cases hk:k = .free
  ·subst hk;obtain⟨c,hc⟩:=hf (n,.free) List.mem_cons_self rfl;obtain⟨cl,e,h1,h2,h3⟩:=pX r ((n,c)::acc) hr (fun p hp=>by
    rcases List.mem_cons.mp hp with rfl|hp
    ·exact hc
    ·exact ha p hp)
   refine⟨cl,?_,h1,fun p hp=>h2 p (List.mem_cons_of_mem _ hp),fun y hy hyf=>?_⟩
   ·rw[List.forIn_cons];simp only[beq_self_eq_true,if_true,cellOf,hc,pure_bind];exact e
   ·rcases List.mem_cons.mp hy with rfl|hy
    ·exact⟨c,h2 _ List.mem_cons_self⟩
    ·exact h3 y hy hyf
  ·have hb:(k==NameKind.free)=false:=by simpa using hk
   obtain⟨cl,e,h1,h2,h3⟩:=pX r acc hr ha;refine⟨cl,?_,h1,h2,fun y hy hyf=>?_⟩
   ·rw[List.forIn_cons];simp only[hb,Bool.false_eq_true,if_false,pure_bind];exact e
   ·rcases List.mem_cons.mp hy with rfl|hy
    ·exact absurd hyf hk
    ·exact h3 y hy hyf
theorem uX{env:Env}{scope:Scope}(hf:∀y∈scope.names,y.2 = .free->∃c,env.cells.lookup y.1=some c):
  ∃cl,closureFor scope env=pure cl/\(∀x c,cl.lookup x=some c->env.cells.lookup x=some c)/\∀y∈scope.names,y.2 = .free->∃c,cl.lookup y.1=some c:=by
 obtain⟨cl,e,h1,_,h3⟩:=pX (env:=env) scope.names [] hf (fun _ h=>nomatch h);refine⟨cl,?_,fun x c h=>h1 (x,c) (PySem.mem_of_lookup h),fun y hy hyf=>?_⟩
 ·unfold closureFor;simp only[bind_pure_comp]at e⊢;rw[e];rfl
 ·obtain⟨c,hc⟩:=h3 y hy hyf;cases q:cl.lookup y.1 with
  |some d=>exact⟨d,rfl⟩
  |none=>
   have z:=List.lookup_eq_none_iff.mp q (y.1,c) hc;simp at z
def Qd(sc:Scope)(cl:List (Str×Addr))(C:Addr)(env:Env):Env:=
 { scope:=sc,locals:=C,globals:=env.globals,cells:=cl,qual:=env.qual,func:=none,code:=env.code,frame:=env.frame,builtins:=env.builtins }
def cCx(X:Cx)(sc:Scope)(N:List Str)(cl:List (Str×Addr))(C:Addr)(s₀:Shared)(H₀:Hp)(ex:List Addr):Cx:=
 { X with env:=Qd sc cl C X.env,N:=N,s₀:=s₀,H₀:=H₀,outer:=X.stack,ex:=ex,fn:=fun _=>false,pn:=[],xe:=fun _ _=>False }
def cst(ix:List (Option Nat))(σ:St):St:=ix.map fun o=>match o with
 |none=>none
 |some i=>match σ[i]? with
  |some v=>v
  |none=>none
def PIf(X:Cx)(ifs:List Expr)(t:TT):Prop:=
 ∀(pins:List (Addr×Obj)) (s:Shared) (σ:St) (H:Hp) (Q:Bool->Hp->Prop),Inv X pins σ H s->t σ H Q->
  wpAny (model X.prog X.w) X.A (forIn ifs true fun c r=>if r=true then do let ok<-isTrue c X.env (eval c X.env);pure (ForInStep.yield ok)else pure (ForInStep.yield r)) (TP X pins σ Q) X.xe s
def C2:TT:=fun _ H Q=>Q true H
theorem cO{X:Cx}:PIf X [] C2:=fun _ _ _ H _ I h=>wpAny_tests_nil ⟨H,I,h⟩
theorem Mu{X:Cx}{c:Expr}{t:TT}(h:PT X c t):PIf X [c] t:=fun pins s σ H Q I q=>wpAny_tests_one (h pins s σ H Q I q)
theorem gR{prog:Program}{w:World}{A:Around}{R:Result->Shared->Prop}{s:Shared}{elt target iter:Expr}{ifs:List Expr}{scope:Scope}{pos:Pos}{it acc:Value}{env:Env}(I:Nat->Shared->Prop)
  (turn:∀n s,I n s->wpAny (model prog w) A (pyNext it) (fun r s₁=>match r with
   |none=>R (.ok .next) s₁
   |some v=>wpAny (model prog w) A (letOwnedTupleGo target it v) (fun _ s₀=>wpAny (model prog w) A (assign target env v) (fun _ s₂=>
     wpAny (model prog w) A (forIn ifs true fun c r=>if r=true then do let ok<-isTrue c env (eval c env);pure (ForInStep.yield ok)else pure (ForInStep.yield r)) (fun ok s₃=>
      if ok=true then wpAny (model prog w) A (eval elt env) (fun x s₄=>
       wpAny (model prog w) A (call (.builtin "list.append") [acc,x]) (fun _ s₅=>∃m,m<n/\I m s₅) (fun _ _=>False) s₄) (fun _ _=>False) s₃
      else ∃m,m<n/\I m s₃) (fun _ _=>False) s₂) (fun _ _=>False) s₀) (fun _ _=>False) s₁) (fun _ _=>False) s)
  (n:Nat) (h:I n s):
  codeAny (model prog w) A (.compLoop (.ListComp elt [⟨target,iter,ifs,0⟩] scope pos) 0 it acc env) R s:=by
 refine codeAny_loop rfl I (fun n s hI=>?_) n h;show wpAny _ A ((compTurn (.ListComp elt [⟨target,iter,ifs,0⟩] scope pos) 0 it acc env).onRaise (fun x=>do noteFrame x env;theTreesLotGoes x)) _ _ s
 refine wpAny_noted ?_;rw[compTurn_list];refine wpAny_bind (wpAny_standAt (wpAny_bind (wpAny_mono (turn n s hI) (fun r s₁ h₁=>?_) fun _ _ h'=>h'.elim)));cases r with
 |none=>exact wpAny_pure h₁
 |some v=>
  refine wpAny_bind (wpAny_mono h₁ (fun _ s₀ h₀=>?_) fun _ _ h'=>h'.elim);refine wpAny_bind (wpAny_mono h₀ (fun _ s₂ h₂=>wpAny_bind (wpAny_mono h₂ (fun ok s₃ h₃=>?_) fun _ _ h'=>h'.elim)) fun _ _ h'=>h'.elim);cases ok with
  |false=>exact wpAny_pure ⟨rfl,h₃⟩
  |true=>
   exact wpAny_bind (wpAny_bind (wpAny_mono h₃ (fun x s₄ h₄=>wpAny_bind (wpAny_mono h₄ (fun _ s₅ h₅=>wpAny_pure (wpAny_pure ⟨rfl,h₅⟩)) fun _ _ h'=>h'.elim)) fun _ _ h'=>h'.elim))
structure nU(ix:List (Option Nat))(g:TG)(tc:TT)(te:TE)(σ:St)(Q:VK)(J:It)(H1:Hp):Prop where
 go:∀D,H1 D=none->∃W:Nat->Nat->St->Hp->Prop,(∃m,W 0 m (cst ix σ) (upd H1 D (.lst [])))/\
  ∀i m σ' H',W i m σ' H'->(J.stop i H'/\Q (.ref D) H')∨(J.go i H'/\∀x H2,J.yld i H' x H2->g x σ' H2 fun σ3 H3=>tc σ3 H3 fun b H4=>
   if b=true then te σ3 H4 fun y H5=>∃ys,H5 D=some (.lst ys)/\ys.length<sizeLine/\∃m',m'<m/\W (i+1) m' σ3 (upd H5 D (.lst (ys++[y])))
   else ∃m',m'<m/\W (i+1) m' σ3 H4)
def Es(ix:List (Option Nat))(wi:TI)(g:TG)(tc:TT)(te:TE):TE:=fun σ H Q=>wi σ H fun J H1=>nU ix g tc te σ Q J H1
structure BD(X:Cx)(scope sc:Scope)(N:List Str)(ix:List (Option Nat)):Prop where
 rel:relabel scope X.env=sc
 kind:scope.kind = .function
 cell:∀y∈scope.names,y.2≠ .cell
 names:∀x∈scope.names,x.2 = .local->scope.names.lookup x.1=some .local
 free:∀y∈scope.names,y.2 = .free->X.env.kindOf y.1=some .cell∨X.env.kindOf y.1=some .free
 len:N.length=ix.length
 ix:∀(j:Nat) (x:Str) (i:Nat),N[j]?=some x->ix[j]?=some (some i)->X.N[i]?=some x/\(x,NameKind.free)∈scope.names/\(sc.names.lookup x=some .cell∨sc.names.lookup x=some .free)
 has:∀x,(sc.names.lookup x=some .cell∨sc.names.lookup x=some .free)->(x,NameKind.free)∈scope.names
theorem xU{X:Cx}{tg iter elt:Expr}{ifs:List Expr}{scope sc:Scope}{pos ip:Pos}{wi:TI}{g:TG}{tc:TT}{te:TE}{N:List Str}{ix:List (Option Nat)}(O:BD X scope sc N ix)(hc:X.calm=true)(hi:PI X tg iter wi)
  (hb:∀cl C s₀ H₀ ex,PG (cCx X sc N cl C s₀ H₀ ex) tg g/\PIf (cCx X sc N cl C s₀ H₀ ex) ifs tc/\PE (cCx X sc N cl C s₀ H₀ ex) elt te) (hs:∀x,foldedSetIterable iter X.env x=pure x)
  {use:Option (Value->Sem Unit)} {QQ:Value->Shared->Prop} {pins:List (Addr×Obj)} {s:Shared} {σ:St} {H:Hp} {Q:VK} (I:Inv X pins σ H s) (h:Es ix wi g tc te σ H Q)
  (fin:∀(D C:Addr) (s6:Shared) (H5:Hp) (m:Str->Option Value),Inv X pins σ H5 s6->s6.heap.Ns C m->C5 X pins H5 C->Q (.ref D) H5->compPost (model X.prog X.w) X.A X.xe use QQ (.ref D) C (.ok .next) s6):
  wpAny (model X.prog X.w) X.A (comprehension (.ListComp elt [⟨tg,iter,ifs,0⟩] scope pos) scope X.env ip (newList []) false (eval iter X.env) use) QQ X.xe s:=by
 have hcl:∃cl,closureFor scope X.env=pure cl/\(∀x c,cl.lookup x=some c->X.env.cells.lookup x=some c)/\∀y∈scope.names,y.2 = .free->∃c,cl.lookup y.1=some c:=
  uX fun y hy hf=>I.ok.has y.1 (O.free y hy hf)
 obtain⟨cl,ecl,zF,Ot⟩:=hcl;refine wpAny_comprehension_free (use:=use) rfl hs ecl O.kind O.names (thn (hi pins s σ H _ I h) fun v s1 h1=>thn h1 fun itv s2 h2=>?_);obtain⟨it,fp,tn,J,H2,e,I2,T,st2,f2,q2⟩:=h2;subst e;obtain⟨W,⟨m0,w0⟩,turn⟩:=q2.go s2.heap.objs.size I2.fresh;refine wpAny_newObj_type ?_;have I3:=I2.Rn (its:=[]) (t':=s2.toks) (ys:=[]) .nil (Nat.zero_le _);generalize eH3:upd H2 s2.heap.objs.size (.lst [])=H3 at I3 w0;have eD:H3 s2.heap.objs.size=some (.lst []):=by rw[<-eH3];exact aA
 have Xb:∀b∈fp,b≠s2.heap.objs.size:=fun b hb z=>by
  obtain⟨o,ho,_⟩:=T.obj _ _ st2 b hb;exact absurd (Heap.lt_size ho) (by rw[z];exact Nat.lt_irrefl _)
 have st3:tn 0 (s2.heap.push { cls:= .type "list",dict:=none,data:= .seq ([]:List Value).toArray }):=T.keep _ _ _ st2 fun b _ o e=>Heap.get?_push_of_some _ e;have f3:∀b∈fp,C5 X pins H3 b:=fun b hb=>⟨by rw[<-eH3,cB (Xb b hb)];exact(f2 b hb).1,(f2 b hb).2⟩;generalize es3:({ s2 with heap:=s2.heap.push { cls:= .type "list",dict:=none,data:= .seq ([]:List Value).toArray },toks:=s2.toks }:Shared)=s3 at I3;have Nv:tn 0 s3.heap:=by rw[<-es3];exact st3
 refine wpAny_newFunctionEnv O.cell (fun y hy=>nomatch hy) (fun h4 QV aah=>?_) O.kind;have wM:∀b o,s3.heap.get? b=some o->h4.get? b=some o:=fun b o e=>(aah.2 b (Nat.ne_of_lt (Heap.lt_size e))).trans (Heap.get?_push_of_some _ e);have I4:Inv X pins σ H3 { s3 with heap:=h4,toks:=s3.toks+([]:List (Str×Value)).length }:=I3.kept wM;have Ur:({ newEnv scope s3.heap.objs.size X.env.globals cl X.env.qual none .none (some X.env) builtinsNs with scope:=relabel scope X.env }:Env)=Qd sc cl s3.heap.objs.size X.env:=by rw[O.rel];rfl
 rw[Ur];show codeAny _ _ _ (compPost (model X.prog X.w) X.A X.xe use QQ (.ref s2.heap.objs.size) s3.heap.objs.size) _;generalize eC:s3.heap.objs.size=C;generalize es4:({ s3 with heap:=h4,toks:=s3.toks+([]:List (Str×Value)).length }:Shared)=s4 at I4;have h4s:s4.heap=h4:=by rw[<-es4]
 have o4s:s4.os=s3.os:=by rw[<-es4]
 have fC:∀b∈fp,b≠C:=fun b hb z=>by
  obtain⟨o,ho,_⟩:=T.obj _ _ Nv b hb;exact absurd (Heap.lt_size ho) (by rw[z,eC];exact Nat.lt_irrefl _)
 have okC:(cCx X sc N cl C s3 H3 fp).Ok:=by
  refine⟨I3.ok.mod,?_,I3.ok.glob,I3.ok.blt,Nat.le_of_eq eC,fun x y c h1 h2=>I3.ok.inj x y c (zF x c h1) (zF y c h2),fun x hx=>?_,fun x c z _=>(nomatch z),I3.ok.hd,I3.ok.frames,.inl rfl,fun b hb=>⟨fC b hb,fun x c e=>(f3 b hb).2.2.2.2.1 x c (zF x c e)⟩,
   I3.bs,Nat.le_trans I3.ok.bsz I3.sz,fun b o e hb=>?_,fun b hb z=>?_,I3.stack,I3.vK⟩
  ·show sc.kind = .function;rw[<-O.rel];exact O.kind
  ·exact Ot (x,.free) (O.has x hx) rfl
  ·rcases(f3 b hb).2.2.2.1 with z|z
   ·exact I3.ok.Mq b o e z
   ·exact absurd (Nat.lt_of_lt_of_le (Heap.lt_size e) (Nat.le_trans I3.ok.bsz z)) (Nat.lt_irrefl _)
  ·rcases List.mem_cons.mp (I3.xu b z)with z|z
   ·exact(f3 b hb).2.1 z
   ·exact(f3 b hb).2.2.1 z
 have IC:Inv (cCx X sc N cl C s3 H3 fp) [] (cst ix σ) H3 s4:=by
  refine⟨okC,o4s,I4.bare,?_,?_,fun x c e=>I4.cell x c (zF x c e),?_,fun x c e=>I4.nH x c (zF x c e),fun p hp=>(nomatch hp),I4.hok,?_⟩
  ·rw[h4s];exact Un.kept wM
  ·refine⟨_,by rw[h4s,<-eC];exact QV,fun j x v e1 e2 e3=>?_⟩;have e2':(cst ix σ)[j]?=some (some v):=e2;unfold cst at e2';rw[List.getElem?_map]at e2';cases q:ix[j]? with
   |none=>rw[q]at e2';cases e2'
   |some o=>
    rw[q]at e2';cases o with
    |none=>cases e2'
    |some i=>
     obtain⟨hx,hm,hsc⟩:=O.ix j x i e1 q;cases q2:σ[i]? with
     |none=>simp[q2]at e2'
     |some w'=>
      simp[q2]at e2';subst e2';obtain⟨m,hn,hl⟩:=I4.loc;have kf:=O.free (x,.free) hm rfl;have vis:Vis X.env.scope x:=by
       rcases kf with k|k
       ·exact .inr (.inl k)
       ·exact .inr (.inr k)
      obtain⟨u,r,l⟩:=hl i x v hx q2 vis;refine⟨u,r,?_⟩;rcases l with⟨k,_⟩|⟨_,c,e,z⟩
      ·rcases kf with k'|k'
       ·rw[k]at k';cases k'
       ·rw[k]at k';cases k'
      ·obtain⟨c',e'⟩:=Ot (x,.free) hm rfl;have:=zF x c' e';rw[e]at this;cases this;exact .inr ⟨hsc,c,e',z⟩
  ·rw[<-eC];exact I3.fresh
  ·show(cst ix σ).length=N.length;rw[O.len];simp[cst]
 have st4:tn 0 s4.heap:=T.keep _ _ _ Nv fun b _ o e=>by rw[h4s];exact wM b o e
 have stat:∀{H':Hp},(∀b∈fp,H' b=none)->∀b∈fp,C5 (cCx X sc N cl C s3 H3 fp) [] H' b:=fun hn b hb=>
  ⟨hn b hb,fC b hb,okC.Nb b hb,.inl hb,fun x c e=>(f3 b hb).2.2.2.2.1 x c (zF x c e),fun p hp=>(nomatch hp)⟩
 obtain⟨hg,ht,he⟩:=hb cl C s3 H3 fp;have loop:codeAny (model X.prog X.w) X.A (.compLoop (.ListComp elt [⟨tg,iter,ifs,0⟩] scope pos) 0 (.ref it) (.ref s2.heap.objs.size) (Qd sc cl C X.env))
   (compPost (model X.prog X.w) X.A X.xe use QQ (.ref s2.heap.objs.size) C) s4:=by
  refine gR (fun n s'=>∃i σ' H',Inv (cCx X sc N cl C s3 H3 fp) [] σ' H' s'/\tn i s'.heap/\(∀b∈fp,H' b=none)/\W i n σ' H') ?_ m0 ⟨0,cst ix σ,H3,IC,st4,fun b hb=>(f3 b hb).1,w0⟩;rintro n s5 ⟨i,σ5,H5,I5,st5,fr5,w5⟩;rcases turn i n σ5 H5 w5 with⟨stop,qn⟩|⟨go,step⟩
  ·refine thn (T.done (cCx X sc N cl C s3 H3 fp) rfl rfl rfl hc i [] s5 σ5 H5 (fun _ _=>False) I5 (stat fr5) st5 stop) fun r s6 ⟨hr,I6⟩=>?_;subst hr;obtain⟨m,hn,_⟩:=id I6.loc;have I7:Inv X pins σ H5 s6:=I3.MR (ch:=fp) I6.os I6.base I6.hok I6.bare fun b hb=>⟨(f3 b hb).2.2.2.1,(f3 b hb).2.1,(f3 b hb).2.2.2.2.1,(f3 b hb).2.2.2.2.2⟩;exact fin _ C s6 H5 m I7 hn (I3.Nm (Nat.le_of_eq eC) I6.free) qn
  ·refine thn (T.item (cCx X sc N cl C s3 H3 fp) rfl rfl rfl hc i [] s5 σ5 H5 (fun _ _=>False) I5 (stat fr5) st5 go) fun r s6 ⟨u,hr,h6⟩=>?_;subst hr;refine thn h6 fun _ s7 ⟨x,H7,I7,r7,y7,st7,fr7⟩=>?_;have I7':=I7.pinned (stat fr7) (T.obj _ _ st7);have again:∀{σ9:St} {H9:Hp} {s9:Shared} {m':Nat},Inv (cCx X sc N cl C s3 H3 fp) ([]++uZ fp s7.heap) σ9 H9 s9->m'<n->W (i+1) m' σ9 H9->
     ∃m,m<n/\∃i σ' H',Inv (cCx X sc N cl C s3 H3 fp) [] σ' H' s9/\tn i s9.heap/\(∀b∈fp,H' b=none)/\W i m σ' H':=fun {σ9 H9 s9 m'} I9 hm w9=>by
    refine⟨m',hm,i+1,σ9,H9,I9.mz,T.keep _ _ _ st7 fun b hb o e=>(I9.pin (b,o) (List.mem_append_right _ (List.mem_append_right _ (gj hb e)))).1,fun b hb=>?_,w9⟩;obtain⟨o,e,d⟩:=T.obj _ _ st7 b hb;exact(I9.pin (b,o) (List.mem_append_right _ (List.mem_append_right _ (gj hb e)))).2.1
   refine thn (hg _ s7 σ5 H7 x u _ I7' r7 (step x H7 y7)) fun _ s8 ⟨σ8,H8,I8,q8⟩=>?_;refine thn (ht _ s8 σ8 H8 _ I8 q8) fun b s9 ⟨H9,I9,q9⟩=>?_;cases b with
   |false=>
    rw[if_neg Bool.false_ne_true]at q9;obtain⟨m',hm,w9⟩:=q9;rw[if_neg Bool.false_ne_true];exact again I9 hm w9
   |true=>
    rw[if_pos rfl]at q9;rw[if_pos rfl];refine thn (he _ s9 σ8 H9 _ I9 q9) fun y s10 ⟨yv,H10,I10,r10,ys,e10,z10,m',hm,w10⟩=>?_;refine thn (tW _ s10 σ8 H10 (.ref s2.heap.objs.size) [yv] (.ref s2.heap.objs.size) [y] (fun _ H'=>W (i+1) m' σ8 H') I10 rfl (.cons r10 .nil) ⟨_,ys,yv,rfl,rfl,e10,z10,w10⟩) fun _ s11 ⟨_,H11,I11,_,w11⟩=>?_;exact again I11 hm w11
 exact codeAny_compStart_list loop (T.self _ _ _ _ _ st4 loop)
theorem dJ{X:Cx}{tg iter elt:Expr}{ifs:List Expr}{scope sc:Scope}{pos:Pos}{wi:TI}{g:TG}{tc:TT}{te:TE}{N:List Str}{ix:List (Option Nat)}(O:BD X scope sc N ix)(hc:X.calm=true)(hi:PI X tg iter wi)
  (hb:∀cl C s₀ H₀ ex,PG (cCx X sc N cl C s₀ H₀ ex) tg g/\PIf (cCx X sc N cl C s₀ H₀ ex) ifs tc/\PE (cCx X sc N cl C s₀ H₀ ex) elt te)
  (hs:∀x,foldedSetIterable iter X.env x=pure x:=by intro _;rfl):PE X (.ListComp elt [⟨tg,iter,ifs,0⟩] scope pos) (Es ix wi g tc te):=by
 intro pins s σ H Q I h;rw[eval_ListComp];exact xU (use:=none) (QQ:=EP X pins σ Q) O hc hi hb hs I h fun D C s6 H5 m I7 hn f q=>⟨m,hn,fun h' hs'=>⟨.ref D,H5,I7.turned (it:=C) (t':=s6.toks) (fun b o hb e=>(hs'.2 b hb).trans e) f.1 f.2.1 f.2.2.2.1 f.2.2.2.2.1 f.2.2.2.2.2,rfl,q⟩⟩
theorem vA{X:Cx}{i:Nat}{y:Str}{py spos:Pos}{tg iter elt:Expr}{ifs:List Expr}{scope sc:Scope}{pos:Pos}{wi:TI}{g:TG}{tc:TT}{te:TE}{N:List Str}{ix:List (Option Nat)}(hN:X.N.Nodup)(hi':X.N[i]?=some y)(hx:Loc X.env.scope y)
  (O:BD X scope sc N ix) (hc:X.calm=true) (hi:PI X tg iter wi)
  (hb:∀cl C s₀ H₀ ex,PG (cCx X sc N cl C s₀ H₀ ex) tg g/\PIf (cCx X sc N cl C s₀ H₀ ex) ifs tc/\PE (cCx X sc N cl C s₀ H₀ ex) elt te)
  (hs:∀x,foldedSetIterable iter X.env x=pure x:=by intro _;rfl) (hsw:swapsWith (.ListComp elt [⟨tg,iter,ifs,0⟩] scope pos) (some (.Name y py)) spos.line X.env=pure true:=by rfl)
  (hf:X.fn y=true∨X.env.scope.names.lookup y=some .local:=by first|exact .inl rfl|exact .inr rfl|assumption):
  PS X (.Assign [.Name y py] (.ListComp elt [⟨tg,iter,ifs,0⟩] scope pos) spos) (Xc (Es ix wi g tc te) (mU i)):=by
 intro pins s σ H D I h;rw[exec_Assign_Name_used _ _ _ _ hsw];refine wpAny_bind (wpAny_standAt (wpAny_bind ?_));show wpAny _ X.A (do let _<-comprehension (.ListComp elt [⟨tg,iter,ifs,0⟩] scope pos) scope X.env _ (newList []) false (eval iter X.env) (some (assign (.Name y py) X.env))) _ _ s
 refine wpAny_bind (wpAny_mono (xU (use:=some (assign (.Name y py) X.env)) (QQ:=fun _ s'=>∃σ' H',Inv X pins σ' H' s'/\D.nx σ' H') O hc hi hb hs I h fun D1 C s6 H5 m I7 hn f q=>?_) (fun _ s' ⟨σ',H',I',q'⟩=>wpAny_pure (wpAny_pure ⟨σ',H',I',q'⟩)) fun _ _ e=>e);obtain⟨o,es,ep,ho,hc1,hc2⟩:=id hn;have I8:=I7.pinned (fp:=[C]) (fun b hb=>by
  have e:b=C:=by simpa using hb
  subst e;exact f) (fun b hb=>by
  have e:b=C:=by simpa using hb
  subst e;exact⟨o,ho,fun v z=>by first|(rw[hc1.2]at z;cases z)|(rw[hc2.1]at z;cases z)|(rw[hc1]at z;cases z)|(simp_all)⟩)
 show wpAny _ X.A (assign (.Name y py) X.env (.ref D1)) _ _ _;refine wpAny_assign_Name (qT I8 hN hi' hx (v:= .ref D1) rfl (fun s7 I9=>?_) hf);have hC:=(I9.pin (C,o) (List.mem_append_right _ (List.mem_append_right _ (gj (by simp) ho)))).1;refine⟨m,⟨o,es,ep,hC,hc1,hc2⟩,fun h' hs'=>⟨_,H5,I9.mz.turned (it:=C) (t':=s7.toks) (fun b o hb e=>(hs'.2 b hb).trans e) f.1 f.2.1 f.2.2.2.1 f.2.2.2.2.1 f.2.2.2.2.2,q⟩⟩
mutual
inductive RdD(K:W.Frag)(H:Hp):V->PyData->Prop
 |non:RdD K H .non .none
 |bl (b:Bool):RdD K H (.bl b) (.bool b)
 |int (i:Int):RdD K H (.int i) (.int i)
 |str (x:Str):RdD K H (.str x) (.str x)
 |lst {a:Addr} {xs:List V} {ds:List PyData}:SqL K H a xs->Ca K H xs ds->RdD K H (.ref a) (.list ds)
 |tup {a:Addr} {xs:List V} {ds:List PyData}:SqT K H a xs->Ca K H xs ds->RdD K H (.ref a) (.tuple ds)
inductive Ca(K:W.Frag)(H:Hp):List V->List PyData->Prop
 |nil:Ca K H [] []
 |cons {x:V} {d:PyData} {xs:List V} {ds:List PyData}:RdD K H x d->Ca K H xs ds->Ca K H (x::xs) (d::ds)
end
section
variable {X:Cx} {pins:List (Addr×Obj)} {σ:St} {H:Hp} {s:Shared}
mutual
theorem Inv.reads(I:Inv X pins σ H s):∀{x:V} {d:PyData} {u:Value},RdD X.K H x d->RelV x u->∃as,Reads s.heap u d as
 |_,_,_,.non,r=>by cases r;exact⟨_,.none⟩
 |_,_,_,.bl b,r=>by cases r;exact⟨_,.bool b⟩
 |_,_,_,.int i,r=>by obtain⟨t,rfl⟩:=r;exact⟨_,.int i t⟩
 |_,_,_,.str x,r=>by obtain⟨t,rfl⟩:=r;exact⟨_,.str x t⟩
 |_,_,_,.lst hq hs,r=>by
  cases r;obtain⟨its,rv,pl,_⟩:=I.list hq;obtain⟨as,ra⟩:=Inv.readsAll I hs rv;obtain⟨o,ho,hc,n,hd⟩:=pl.isList;exact⟨_,.list ho hc hd (by simpa using ra)⟩
 |_,_,_,.tup hq hs,r=>by
  cases r;obtain⟨its,rv,pl,_⟩:=I.tuple hq;obtain⟨as,ra⟩:=Inv.readsAll I hs rv;obtain⟨o,ho,hc,n,hd⟩:=pl;exact⟨_,.tuple ho hc hd (by simpa using ra)⟩
theorem Inv.readsAll(I:Inv X pins σ H s):∀{xs:List V} {ds:List PyData} {us:List Value},Ca X.K H xs ds->Vals xs us->∃as,ReadsAll s.heap us ds as
 |_,_,_,.nil,.nil=>⟨_,.nil⟩
 |_,_,_,.cons h1 h2,.cons r1 r2=>by
  obtain⟨as,a⟩:=Inv.reads I h1 r1;obtain⟨bs,b⟩:=Inv.readsAll I h2 r2;exact⟨_,.cons a b⟩
end
theorem Ca.ints{K:W.Frag}{H:Hp}:∀ns:List Int,Ca K H (ns.map V.int) (ns.map PyData.int)
 |[]=> .nil
 |n::r=> .cons (.int n) (Ca.ints r)
def gC(kb:List (Key×V)):List (Key×V)->Bool
 |[]=>true
 |(k,v)::r=>match Ie kb k with
  |none=>false
  |some y=>eqV v y&&gC kb r
theorem zB{A:Around}{kb:List (Key×V)}{vb:List (Key×Value)}(hb:KV kb vb)(fb:kb.all (fun p=>tE p.2)=true):∀{ka:List (Key×V)} {va:List (Key×Value)},KV ka va->ka.all (fun p=>tE p.2)=true->
  W.KeqHits A s vb va (gC kb ka)
 |[],_,.nil,_=> .nil
 |(k,v)::r,(k',v')::r',.cons ⟨e,rv⟩ t,f=>by
  cases (show k=k' from e);rw[List.all_cons,Bool.and_eq_true]at f;have hv:=KV.val hb k;cases q:Ie kb k with
  |none=>
   have hn:valueAt vb k=none:=G7.none_of (by rw[q]at hv;exact hv);have e2:gC kb ((k,v)::r)=false:=by simp[gC,q]
   rw[e2];exact .miss hn
  |some y=>
   rw[q]at hv;obtain⟨u,hu,ru⟩:=G7.some_of hv;have fy:tE y=true:=by
    unfold Ie at q;cases q2:kb.find? (fun kv=>decide (kv.1=k))with
    |none=>rw[q2]at q;cases q
    |some p=>
     rw[q2]at q;cases q;exact List.all_eq_true.mp fb p (List.mem_of_find?_eq_some q2)
   have e2:gC kb ((k,v)::r)=(eqV v y&&gC kb r):=by simp[gC,q]
   rw[e2];exact .hit hu (Oi rv ru f.1 fy) (zB hb fb t f.2)
end
section
variable {X:Cx}
def Gg(K:W.Frag)(g:Bool->Bool):R2:=fun x y H Q=>match x,y with
 |.int i,.int j=>Q (.bl (g (decide (i=j)))) H
 |.bl i,.bl j=>Q (.bl (g (decide (i=j)))) H
 |.str i,.str j=>Q (.bl (g (decide (i=j)))) H
 |.non,.non=>Q (.bl (g true)) H
 |.ref a,.ref b=>(∃d e,RdD K H (.ref a) d/\RdD K H (.ref b) e/\SeqAt.shaped d=true/\SeqAt.shaped e=true/\Q (.bl (g (PyData.eqv d e))) H)∨
   (∃ka kb,H a=some (.dK ka)/\H b=some (.dK kb)/\ka.all (fun p=>tE p.2)=true/\kb.all (fun p=>tE p.2)=true/\Q (.bl (g (ka.length==kb.length&&gC kb ka))) H)
 |.non,.ref _=>False
 |.ref _,.non=>False
 |x,y=>RJ x y=true/\Q (.bl (g (decide (x=y)))) H
theorem OX{k:Nat}(hr:mR k X.A):OpR X (compareOp .Eq) (fun x y H Q=>∃d e,RdD X.K H x d/\RdD X.K H y e/\SeqAt.shaped d=true/\SeqAt.shaped e=true/\Q (.bl (PyData.eqv d e)) H):=by
 intro pins s σ H x y v u Q I rx ry h;obtain⟨d,e,h1,h2,h3,h4,q⟩:=h;obtain⟨as,ra⟩:=I.reads h1 rx;obtain⟨bs,rb⟩:=I.reads h2 ry;exact eq_dataH ra rb h3 h4 hr.units ⟨.bl _,H,I,rfl,q⟩
theorem PJ{k:Nat}(hr:mR k X.A):OpR X (compareOp .NotEq) (fun x y H Q=>∃d e,RdD X.K H x d/\RdD X.K H y e/\SeqAt.shaped d=true/\SeqAt.shaped e=true/\Q (.bl (!PyData.eqv d e)) H):=by
 intro pins s σ H x y v u Q I rx ry h;obtain⟨d,e,h1,h2,h3,h4,q⟩:=h;obtain⟨as,ra⟩:=I.reads h1 rx;obtain⟨bs,rb⟩:=I.reads h2 ry;exact ne_dataH ra rb h3 h4 hr.units ⟨.bl _,H,I,rfl,q⟩
theorem Qf{k:Nat}(hr:mR k X.A):OpR X (compareOp .Eq) (fun x y H Q=>∃a b ka kb,x = .ref a/\y = .ref b/\H a=some (.dK ka)/\H b=some (.dK kb)/\ka.all (fun p=>tE p.2)=true/\kb.all (fun p=>tE p.2)=true/\Q (.bl (ka.length==kb.length&&gC kb ka)) H):=by
 intro pins s σ H x y v u Q I rx ry h;obtain⟨a,b,ka,kb,rfl,rfl,h1,h2,h3,h4,q⟩:=h;cases rx;cases ry;obtain⟨_,ea,va,ra,da⟩:ka.length<=sizeLine/\(a==sysModules)=false/\∃vs,KV ka vs/\s.heap.DictOf (pC X.prog X.w) a vs:=I.hok a _ h1;obtain⟨_,eb,vb,rb,db⟩:kb.length<=sizeLine/\(b==sysModules)=false/\∃vs,KV kb vs/\s.heap.DictOf (pC X.prog X.w) b vs:=I.hok b _ h2;refine W.keq_eq ea eb da db hr.JV (fun _=>zB rb h4 ra h3) ⟨.bl _,H,I,?_,q⟩;show _=Value.bool _;rw[Paired.length ra,Paired.length rb]
theorem OL{k:Nat}(hr:mR k X.A):OpR X (compareOp .NotEq) (fun x y H Q=>∃a b ka kb,x = .ref a/\y = .ref b/\H a=some (.dK ka)/\H b=some (.dK kb)/\ka.all (fun p=>tE p.2)=true/\kb.all (fun p=>tE p.2)=true/\Q (.bl (!(ka.length==kb.length&&gC kb ka))) H):=by
 intro pins s σ H x y v u Q I rx ry h;obtain⟨a,b,ka,kb,rfl,rfl,h1,h2,h3,h4,q⟩:=h;cases rx;cases ry;obtain⟨_,ea,va,ra,da⟩:ka.length<=sizeLine/\(a==sysModules)=false/\∃vs,KV ka vs/\s.heap.DictOf (pC X.prog X.w) a vs:=I.hok a _ h1;obtain⟨_,eb,vb,rb,db⟩:kb.length<=sizeLine/\(b==sysModules)=false/\∃vs,KV kb vs/\s.heap.DictOf (pC X.prog X.w) b vs:=I.hok b _ h2;refine W.keq_ne ea eb da db hr.JV (fun _=>zB rb h4 ra h3) ⟨.bl _,H,I,?_,q⟩;show _=Value.bool _;rw[Paired.length ra,Paired.length rb]
theorem Qy{i j:Int}:decide (V.int i=V.int j)=decide (i=j):=by simp
theorem Oz{i j:Bool}:decide (V.bl i=V.bl j)=decide (i=j):=by simp
theorem Rj{i j:Str}:decide (V.str i=V.str j)=decide (i=j):=by simp
theorem v_eq{k:Nat}(hr:mR k X.A):OpR X (compareOp .Eq) (Gg X.K id):=by
 refine(X7.or ((OX hr).or (Qf hr))).imp fun x y H Q h=>?_;unfold Gg at h;split at h
 ·exact .inl ⟨rfl,by rw[Qy];exact h⟩
 ·exact .inl ⟨rfl,by rw[Oz];exact h⟩
 ·exact .inl ⟨rfl,by rw[Rj];exact h⟩
 ·exact .inl ⟨rfl,by rw[decide_eq_true rfl];exact h⟩
 ·rcases h with⟨d,e,h⟩|⟨ka,kb,h⟩
  ·exact .inr (.inl ⟨d,e,h⟩)
  ·exact .inr (.inr ⟨_,_,ka,kb,rfl,rfl,h⟩)
 ·exact h.elim
 ·exact h.elim
 ·exact .inl h
theorem ZS{k:Nat}(hr:mR k X.A):OpR X (compareOp .NotEq) (Gg X.K not):=by
 refine(Ul.or ((PJ hr).or (OL hr))).imp fun x y H Q h=>?_;unfold Gg at h;split at h
 ·exact .inl ⟨rfl,by rw[Qy];exact h⟩
 ·exact .inl ⟨rfl,by rw[Oz];exact h⟩
 ·exact .inl ⟨rfl,by rw[Rj];exact h⟩
 ·exact .inl ⟨rfl,by rw[decide_eq_true rfl];exact h⟩
 ·rcases h with⟨d,e,h⟩|⟨ka,kb,h⟩
  ·exact .inr (.inl ⟨d,e,h⟩)
  ·exact .inr (.inr ⟨_,_,ka,kb,rfl,rfl,h⟩)
 ·exact h.elim
 ·exact h.elim
 ·exact .inl h
end
end L2
namespace PySem.SeqAt
open AutoSeq1 (wpAny_loadPart')
open MeetsSeq MeetsSeq2 MeetsSeq3 SeqRoads2
section
variable {A:Around} {s:Shared}
end
end PySem.SeqAt
namespace L2
open PySem PySem.Spec PyProof.Rows
section
variable {X:Cx}
end
theorem boot_isinstance:bootBuiltins "isinstance" = some (.builtin "isinstance"):=by decide +kernel
theorem boot_sum:bootBuiltins "sum" = some (.builtin "sum"):=by decide +kernel
theorem boot_max:bootBuiltins "max" = some (.builtin "max"):=by decide +kernel
theorem boot_int:bootBuiltins "int" = some (.type "int"):=by decide +kernel
theorem boot_bool:bootBuiltins "bool" = some (.type "bool"):=by decide +kernel
theorem boot_tuple:bootBuiltins "tuple" = some (.type "tuple"):=by decide +kernel
theorem boot_list:bootBuiltins "list" = some (.type "list"):=by decide +kernel
structure Fn(K:W.Frag)(mg:Str->Option Value)(x:Str)(st:Stmt)(ps:List Str):Prop where
 ex:∃(f:Addr) (fd:FuncData),Fun K x x st f fd/\mg x=some (.ref f)/\Binds K fd ps []
theorem Fn.cal{P:Program}{w:World}{K:W.Frag}{mg:Str->Option Value}{base:Heap}{x:Str}{st:Stmt}{N ps:List Str}{k:Nat}{sp:Sp}(F:Fn K mg x st ps)(S:aQ N ps (aj st))(len:∀vs H Q E,sp vs H Q E->vs.length=ps.length)
  (hbody:∀(f:Addr) (cdv:Value) (A:Around) (outer:List Env) (s:Shared) (H:Hp) (vs:List V) (Q:VK) (E:XK),mR k (A.deeper (envOfC x (aj st) s.heap.objs.size f cdv))->sp vs H Q E->
   ∃t,PSs (cxF P w K mg base N x (aj st) f cdv A outer s H E).nox (aC st) t/\t { nx:=fun _ H'=>Q .non H',rt:=Q } (start N vs) H):Cal P w K mg base x (k+1) ps sp:=by
 obtain⟨f,fd,F,m,b⟩:=F.ex;exact⟨f,fd,m,F.kp,b,F.okN S len fun cdv A outer s H vs Q E hr h=>hbody f cdv A outer s H vs Q E hr h⟩
theorem Fn.Ys{P:Program}{w:World}{K:W.Frag}{mg:Str->Option Value}{base:Heap}{x:Str}{st:Stmt}{N ps:List Str}{k:Nat}{sp:Sp}(F:Fn K mg x st ps)(S:aQ N ps (aj st))(len:∀vs H Q E,sp vs H Q E->vs.length=ps.length)
  (hbody:∀(f:Addr) (cdv:Value) (A:Around) (outer:List Env) (s:Shared) (H:Hp) (vs:List V) (Q:VK) (E:XK),mR k (A.deeper (envOfC x (aj st) s.heap.objs.size f cdv))->sp vs H Q E->
   ∃t,PSs (cxF P w K mg base N x (aj st) f cdv A outer s H E) (aC st) t/\t { nx:=fun _ H'=>Q .non H',rt:=Q } (start N vs) H):Cal P w K mg base x (k+1) ps sp:=by
 obtain⟨f,fd,F,m,b⟩:=F.ex;exact⟨f,fd,m,F.kp,b,F.okF S len fun cdv A outer s H vs Q E hr h=>hbody f cdv A outer s H vs Q E hr h⟩
theorem Same.new{H:Hp}{p:Addr}(h:H p=none)(o:HO):Same H (upd H p o):=fun b u q=>by rw[cB (dX q h)];exact q
theorem Same.upd{H H':Hp}{p:Addr}(g:Same H H')(h:H p=none)(o:HO):Same H (L2.upd H' p o):=fun b u q=>by rw[cB (dX q h)];exact g b u q
theorem Same.Xv{K:W.Frag}{H H':Hp}{a:Addr}{xs:List V}(e:Same H H')(h:SqT K H a xs):SqT K H' a xs:=by
 rcases h with(h|⟨o,h⟩)|h
 ·exact .inl (.inl (e _ _ h))
 ·exact .inl (.inr ⟨o,e _ _ h⟩)
 ·exact .inr h
theorem mulL{i j:Int}(h1:-(2^64)<i)(h2:i<2^64):IntMulOk i j:= .of_left (intBits_le_64 h1 h2)
theorem mulR{i j:Int}(h1:-(2^64)<j)(h2:j<2^64):IntMulOk i j:= .of_right (intBits_le_64 h1 h2)
theorem iZ{N:List Str}(h:decide N.Nodup=true:=by kernel_rfl):N.Nodup:=of_decide_eq_true h
abbrev csF(l:List (Str×NameKind)):Scope:={ kind:= .function,names:=l,isGenerator:=false,isCoroutine:=false }
theorem cN{X:Cx}{scope sc:Scope}{N:List Str}{ix:List (Option Nat)}(sc':relabel scope X.env=sc:=by kernel_rfl)(kind:scope.kind = .function:=by kernel_rfl)(cell:scope.names.all (fun y=>y.2 != .cell)=true:=by kernel_rfl)
  (names:scope.names.all (fun x=>x.2 != .local||scope.names.lookup x.1==some .local)=true:=by kernel_rfl)
  (free:scope.names.all (fun y=>y.2 != .free||(X.env.scope.names.lookup y.1==some .cell||X.env.scope.names.lookup y.1==some .free))=true:=by kernel_rfl)
  (len:N.length=ix.length:=by kernel_rfl)
  (hix:(N.zip ix).all (fun p=>match p.2 with
   |none=>true
   |some i=>X.N[i]?==some p.1&&scope.names.any (fun y=>y.1==p.1&&y.2== .free)&&(sc.names.lookup p.1==some .cell||sc.names.lookup p.1==some .free))=true:=by kernel_rfl)
  (has:sc.names.all (fun y=>(y.2 != .cell&&y.2 != .free)||scope.names.any (fun z=>z.1==y.1&&z.2== .free))=true:=by kernel_rfl):BD X scope sc N ix:=by
 have mem:∀x:Str,scope.names.any (fun y=>y.1==x&&y.2== .free)=true->(x,NameKind.free)∈scope.names:=fun x h=>by
  obtain⟨y,hy,e⟩:=List.any_eq_true.mp h;rw[Bool.and_eq_true]at e;obtain⟨a,b⟩:=y;have e1:a=x:=eq_of_beq e.1;have e2:b = .free:=eq_of_beq e.2;subst e1;subst e2;exact hy
 refine⟨sc',kind,fun y hy e=>?_,fun x hx e=>?_,fun y hy e=>?_,len,fun j x i h1 h2=>?_,fun x hx=>?_⟩
 ·have:=List.all_eq_true.mp cell y hy;rw[e]at this;cases this
 ·have:=List.all_eq_true.mp names x hx;rw[e]at this;simpa using this
 ·have:=List.all_eq_true.mp free y hy;rw[e]at this;simpa[Env.kindOf]using this
 ·have hm:(x,some i)∈N.zip ix:=by
   have:(N.zip ix)[j]?=some (x,some i):=by
    rw[List.getElem?_zip_eq_some];exact⟨h1,h2⟩
   exact List.mem_of_getElem? this
  have:=List.all_eq_true.mp hix _ hm;simp only[Bool.and_eq_true]at this;obtain⟨⟨a1,a2⟩,a3⟩:=this;refine⟨eq_of_beq a1,mem x a2,?_⟩;rw[Bool.or_eq_true]at a3;rcases a3 with z|z
  ·exact .inl (eq_of_beq z)
  ·exact .inr (eq_of_beq z)
 ·have hm:∃k,(x,k)∈sc.names/\(k = .cell∨k = .free):=by
   rcases hx with z|z
   ·exact⟨_,PySem.mem_of_lookup z,.inl rfl⟩
   ·exact⟨_,PySem.mem_of_lookup z,.inr rfl⟩
  obtain⟨k,hk,e⟩:=hm;have:=List.all_eq_true.mp has _ hk;rw[Bool.or_eq_true]at this;rcases this with z|z
  ·rcases e with e|e<;>(subst e;simp at z)
  ·exact mem x z
structure iD(K:W.Frag)(x:Str)(st:Stmt):Prop where
 ex:∃(f:Addr) (oc:Value) (od:Option Addr) (kV doc pm:Value) (an:Option Addr) (cdv ct:Value) (sl:Array (Option Value)),W.nsIn K mainGlobals x=some (some (.ref f))/\
  K.lookup f=some ⟨oc,od,.func (W.fnOf x x (aD st) (aC st) (aj st) .none kV doc pm an cdv ct),sl⟩/\W.codeIn K cdv x=true/\W.keepIn K (.ref f)=true
theorem M7{K:W.Frag}{x:Str}{st:Stmt}{f:Addr}{oc:Value}{od:Option Addr}{kV doc pm:Value}{an:Option Addr}{cdv ct:Value}{sl:Array (Option Value)}(a:W.nsIn K mainGlobals x=some (some (.ref f)))
  (l:K.lookup f=some ⟨oc,od,.func (W.fnOf x x (aD st) (aC st) (aj st) .none kV doc pm an cdv ct),sl⟩) (c:W.codeIn K cdv x=true) (k:W.keepIn K (.ref f)=true):iD K x st:=
 ⟨f,oc,od,kV,doc,pm,an,cdv,ct,sl,a,l,c,k⟩
theorem iD.fn{K:W.Frag}{h:Heap}{mg:Str->Option Value}{x:Str}{st:Stmt}{ps:List Str}(F:iD K x st)(X:K.In h)(G:h.Ns mainGlobals mg)
  (hb:∀(kV doc pm:Value) (an:Option Addr) (cdv ct:Value) (us:List Value),us.length=ps.length->bindArgs (W.fnOf x x (aD st) (aC st) (aj st) .none kV doc pm an cdv ct) ⟨us,[]⟩=pure (ps.zip us)):Fn K mg x st ps:=by
 obtain⟨f,oc,od,kV,doc,pm,an,cdv,ct,sl,a,l,c,k⟩:=F.ex;have FF:=Kg (st:=st) l c k;exact⟨f,_,FF,W.mg_of X G a,FF.binds hb⟩
theorem iD.fnA{K:W.Frag}{h:Heap}{mg:Str->Option Value}{x:Str}{st:Stmt}{ps:List Str}(F:iD K x st)(X:K.In h)(G:h.Ns mainGlobals mg)
  (hb:∀(kV doc pm:Value) (an:Option Addr) (cdv ct:Value) (us:List Value),us.length=ps.length->bindArgs (W.fnOf x x (aD st) (aC st) (aj st) .none kV doc pm an cdv ct) ⟨us,[]⟩=pure (ps.zip us):=by
   intro _ _ _ _ _ _ us hl;first
    |(obtain⟨_,rfl⟩:=L2.us1 hl;rfl)
    |(obtain⟨_,_,rfl⟩:=L2.us2 hl;rfl)
    |(obtain⟨_,_,_,rfl⟩:=L2.us3 hl;rfl)
    |(obtain⟨_,_,_,_,rfl⟩:=L2.us4 hl;rfl)
    |(obtain rfl:=L2.us0 hl;rfl)
    |(obtain⟨_,_,_,_,_,rfl⟩:=L2.us5 hl;rfl)
    |(obtain⟨_,_,_,_,_,_,rfl⟩:=L2.us6 hl;rfl)):Fn K mg x st ps:=F.fn X G hb
theorem cM{N P:List Str}{sc:Scope}(kind:sc.kind = .function:=by rfl)(co:sc.isCoroutine=false:=by rfl)(gen:sc.isGenerator=false:=by rfl)(nd:N.Nodup:=by decide +kernel)(pre:N.take P.length=P:=by rfl)
  (par:∀x∈P,sc.names.lookup x=some .local∨sc.names.lookup x=some .cell:=by decide +kernel) (Et:∀y∈sc.names,y.2≠ .free:=by decide +kernel):aQ N P sc:=⟨kind,co,gen,nd,pre,par,Et⟩
structure ItS(J:It)(xs:List V)(H1:Hp):Prop where
 go:∀i H',Same H1 H'->i<xs.length->J.go i H'
 yld:∀i H' x H2,Same H1 H'->J.yld i H' x H2->H2=H'/\(i<xs.length->xs[i]?=some x)
 stop:∀i H',Same H1 H'->xs.length<=i->J.stop i H'
theorem vL{K:W.Frag}{a:Addr}{xs:List V}{H1:Hp}(hq:SqL K H1 a xs):ItS (Itl K a) xs H1:=
 ⟨fun i H' g h=>⟨xs,xs[i],g.seq hq,by simp[h]⟩,fun i H' x H2 g y=>⟨y.1,fun _=>y.2 xs (g.seq hq)⟩,fun i H' g h=>⟨xs,g.seq hq,h⟩⟩
theorem wG{K:W.Frag}{a:Addr}{xs:List V}{H1:Hp}(hq:SqT K H1 a xs):ItS (Itt K a) xs H1:=
 ⟨fun i H' g h=>⟨xs,xs[i],g.Xv hq,by simp[h]⟩,fun i H' x H2 g y=>⟨y.1,fun _=>y.2 xs (g.Xv hq)⟩,fun i H' g h=>⟨xs,g.Xv hq,h⟩⟩
theorem jN{lo:Int}{n:Nat}{H1:Hp}:ItS (Itr lo n) ((List.range n).map fun i=>V.int (lo+(i:Nat))) H1:=
 ⟨fun i H' g h=>show i<n by simpa using h,fun i H' x H2 g y=>⟨y.1,fun h=>by
  have h':i<n:=by simpa using h
  rw[List.getElem?_map,List.getElem?_range h',y.2];rfl⟩,fun i H' g h=>show n<=i by simpa using h⟩
theorem jP{J:It}{xs:List V}{ix:List (Option Nat)}{tc:TT}{te:TE}{σ:St}{H1:Hp}{Q:VK}(I:ItS J xs H1)(hz:xs.length<=sizeLine){rest:St}(hst:cst ix σ=none::rest)(p:V->Bool)(F:V->V)
  (ht:∀H' x,Same H1 H'->x∈xs->∀k:Bool->Hp->Prop,k (p x) H'->tc (some x::rest) H' k)
  (he:∀H' x,Same H1 H'->x∈xs->p x=true->∀k:VK,k (F x) H'->te (some x::rest) H' k)
  (hQ:∀D,H1 D=none->Q (.ref D) (upd H1 D (.lst ((xs.filter p).map F)))):
  nU ix (mU 0) tc te σ Q J H1:=by
 constructor;intro D hD;refine⟨fun i m σ' H'=>m=xs.length-i/\i<=xs.length/\(∃o,σ'=o::rest)/\H'=upd H1 D (.lst (((xs.take i).filter p).map F)),⟨xs.length,by simp,Nat.zero_le _,⟨none,hst⟩,by simp⟩,?_⟩;rintro i m σ' H' ⟨rfl,hi,⟨o,rfl⟩,rfl⟩;have g:Same H1 (upd H1 D (.lst (((xs.take i).filter p).map F))):=Same.new hD _;by_cases hlt:i<xs.length
 ·refine .inr ⟨I.go i _ g hlt,fun x H2 y=>?_⟩;obtain⟨rfl,hx⟩:=I.yld i _ x H2 g y;have hx:=hx hlt;have hm:x∈xs:=List.mem_of_getElem? hx;have et:xs.take (i+1)=xs.take i++[x]:=by
   rw[List.take_add_one,hx];rfl
  show tc (some x::rest) _ _;refine ht _ x g hm _ ?_;cases hp:p x with
  |true=>
   rw[if_pos rfl];refine he _ x g hm hp _ ⟨_,aA,?_,xs.length-(i+1),by omega,rfl,hlt,⟨_,rfl⟩,?_⟩
   ·have h1:(((xs.take i).filter p).map F).length<=i:=by
     rw[List.length_map];exact Nat.le_trans (List.length_filter_le _ _) (by rw[List.length_take];omega)
    omega
   ·rw[LR,et,List.filter_append,List.map_append];simp[hp]
  |false=>
   rw[if_neg Bool.false_ne_true];refine⟨xs.length-(i+1),by omega,rfl,hlt,⟨_,rfl⟩,?_⟩;rw[et,List.filter_append];simp[hp]
 ·have e:i=xs.length:=by omega
  subst e;refine .inl ⟨I.stop _ _ g (Nat.le_refl _),?_⟩;rw[List.take_length];exact hQ D hD
theorem Aj{J:It}{xs:List V}{g:TG}{tb:TS}{D:Ends}{σ:St}{H:Hp}(I:ItS J xs H)(Pv:Nat->St->Hp->Prop)(h0:Pv 0 σ H)(hsame:∀i σ' H',Pv i σ' H'->Same H H')
  (hs:∀i x σ' H',xs[i]?=some x->Pv i σ' H'->g x σ' H' fun σ2 H2=>tb { D with nx:=Pv (i+1),ct:=Pv (i+1),bk:=D.nx } σ2 H2) (hd:∀σ' H',Pv xs.length σ' H'->D.nx σ' H'):
  ∃W:Nat->Nat->St->Hp->Prop,(∃m,W 0 m σ H)/\∀i m σ H,W i m σ H->
   (J.stop i H/\D.nx σ H)∨(J.go i H/\∃N:St->Hp->Prop,(∀σ' H',N σ' H'->∃m',m'<m/\W (i+1) m' σ' H')/\∀x H',J.yld i H x H'->g x σ H' fun σ2 H2=>tb { D with nx:=N,ct:=N,bk:=D.nx } σ2 H2):=by
 refine⟨fun i m σ' H'=>m=xs.length-i/\i<=xs.length/\Pv i σ' H',⟨xs.length,by simp,Nat.zero_le _,h0⟩,?_⟩;rintro i m σ' H' ⟨rfl,hi,p⟩;have gs:=hsame i σ' H' p;by_cases hlt:i<xs.length
 ·refine .inr ⟨I.go i _ gs hlt,Pv (i+1),fun σ2 H2 p'=>⟨xs.length-(i+1),by omega,rfl,hlt,p'⟩,fun x H2 y=>?_⟩;obtain⟨rfl,hx⟩:=I.yld i _ x H2 gs y;exact hs i x σ' _ (hx hlt) p
 ·have e:i=xs.length:=by omega
  subst e;exact .inl ⟨I.stop _ _ gs (Nat.le_refl _),hd σ' H' p⟩
structure Bar(t:TE)(σ:St)(H:Hp)(Q:VK):Prop where
 go:t σ H Q
def Z5(t:TE):TE:=fun σ H Q=>Bar t σ H Q
theorem Bar.by{t:TE}{σ:St}{H:Hp}{Q:VK}(R:V->Hp->Prop)(h:∀k:VK,(∀v H1,R v H1->k v H1)->t σ H k)(q:∀v H1,R v H1->Q v H1):Bar t σ H Q:=⟨h Q q⟩
theorem D8{X:Cx}{e:Expr}{t:TE}(h:PE X e t):PE X e (Z5 t):=fun pins s σ H Q I q=>h pins s σ H Q I q.go
structure Nt(t:TS)(D:Ends)(σ:St)(H:Hp):Prop where
 go:t D σ H
def Vv(t:TS):TS:=fun D σ H=>Nt t D σ H
theorem FT{X:Cx}{st:Stmt}{t:TS}(h:PS X st t):PS X st (Vv t):=fun pins s σ H D I q=>h pins s σ H D I q.go
theorem Nt.by{t:TS}{D:Ends}{σ:St}{H:Hp}(R:St->Hp->Prop)(h:∀N:St->Hp->Prop,(∀σ' H',R σ' H'->N σ' H')->t { D with nx:=N } σ H)(q:∀σ' H',R σ' H'->D.nx σ' H'):Nt t D σ H:=by
 constructor;exact h D.nx q
end L2
namespace HT
open PySem PyProof.Rows
section
variable {prog:Program} {w:World} {A:Around} {E:Value->Shared->Prop} {s:Shared}
theorem qp{t sl:Addr}{items:Array Value}{vl vu:Value}{lo hi:Option Int}{Q:Value->Shared->Prop}(ht:IsTup s.heap t items)(hs:s.heap.IsSliceOf sl vl vu .none)(pl:IsPart vl lo)(pu:IsPart vu hi)
  (hw:sIx items.size 0 lo=0/\sIx items.size items.size hi=items.size) (h:Q (.ref t) s):wpAny (model prog w) A (getItem (.ref t) (.ref sl)) Q E s:=by
 obtain⟨os,hos,hcs,hds⟩:=id hs;have hTs:s.TypeIs (.ref sl) "slice" := ⟨os,hos,hcs⟩;unfold getItem;try with_reducible refine wpAny_holding ?_
 first|refine wpAny_bind (wpAny_pure ?_)|skip
 refine wpAny_bind (wpAny_sequenceKey ht.typeIs (by decide) ?_);refine wpAny_bind (wpAny_callSpecial?_slot (name:=Str.ofString "__getitem__") ht.typeIs PyProof.Rows.slot_tuple_getitem
  (wpAny_call_entry PyProof.Rows.slot_tuple_getitem ht.typeIs entry_tuple_getitem ?_ (args_tuple_getitem _ _)))
 show wpAny _ _ (Builtin.Tuple.tupleItemsOf (.ref t)>>=_) _ _ s;refine wpAny_bind (tupleItemsOf_ ht ?_);refine wpAny_bind (wpAny_typeOf hTs ?_);rw[if_pos (by decide)];refine wpAny_bind (j9 hs pl pu ?_);have hyes:(((sIx items.size 0 lo:Nat):Int)==0&&(1:Int)==1&&(sIx items.size items.size hi-sIx items.size 0 lo)==items.size)=true:=by
  rw[hw.1,hw.2];simp
 show wpAny _ _ (if(((sIx items.size 0 lo:Nat):Int)==0&&(1:Int)==1&&(sIx items.size items.size hi-sIx items.size 0 lo)==items.size)=true then _ else _) _ _ s;rw[if_pos hyes];unfold Builtin.Tuple.tupleIsExact;refine wpAny_bind (wpAny_bind (wpAny_typeOf ht.typeIs (wpAny_pure ?_)));rw[if_pos (by decide)];exact wpAny_bind (wpAny_rule (wpAny_pure ⟨_,rfl,wpAny_pure h⟩))
end
end HT
namespace L2
open PySem PySem.Spec PyProof.Rows
section
variable {X:Cx}
theorem DQ:SlR X (fun x lo hi H Q=>∃a xs,x = .ref a/\SqT X.K H a xs/\(HT.sIx xs.length 0 lo=0/\HT.sIx xs.length xs.length hi=xs.length)/\Q (.ref a) H):=by
 intro pins s σ H x v vl vu lo hi sl Q I rx hs pl pu h;obtain⟨a,xs,rfl,hx,hw,q⟩:=h;cases rx;obtain⟨its,r,ht,hz⟩:=I.tuple hx;have hlen:its.toArray.size=xs.length:=by rw[List.size_toArray];exact r.length.symm
 refine⟨"tuple",_,PyProof.Rows.slot_tuple_getitem.lookup,ht.typeIs,?_⟩;exact HT.qp ht hs pl pu (by rw[hlen];exact hw) ⟨.ref a,H,I,rfl,q⟩
end
theorem boot_min:bootBuiltins "min" = some (.builtin "min"):=by decide +kernel
section
variable {X:Cx} (K:W.Frag)
theorem SlR.imp{r r':V->Option Int->Option Int->Hp->VK->Prop}(h:SlR X r)(i:∀x lo hi H Q,r' x lo hi H Q->r x lo hi H Q):SlR X r':=fun pins s σ H x v vl vu lo hi sl Q I rx hs pl pu q=>h pins s σ H x v vl vu lo hi sl Q I rx hs pl pu (i _ _ _ _ _ q)
theorem iW(hK:X.K=K:=by rfl):OpR X (binaryOp .Add) (Iw K):=by subst hK;exact v_add
theorem xix(hK:X.K=K:=by rfl):IxR X (Ru K):=by subst hK;exact aaH
theorem xeq{k:Nat}(hr:mR k X.A)(hK:X.K=K:=by rfl):OpR X (compareOp .Eq) (Gg K id):=by subst hK;exact v_eq hr
theorem xne{k:Nat}(hr:mR k X.A)(hK:X.K=K:=by rfl):OpR X (compareOp .NotEq) (Gg K not):=by subst hK;exact ZS hr
theorem jL(hK:X.K=K:=by rfl):mQ X (.builtin "len") (fun xs H Q=>∃x n,xs=[x]/\YX K x H n/\Q (.int n) H):=by subst hK;exact Hj
theorem WQ(hc:X.calm=true)(hK:X.K=K:=by rfl):mQ X (.builtin "sum") (fun xs H Q=>∃(l:Addr) (ns:List Int),xs=[.ref l]/\SqL K H l (ns.map V.int)/\Q (.int ns.sum) H):=by subst hK;exact v_sum hc
theorem xlist(hK:X.K=K:=by rfl):mQ X (.type "list") (fun xs H Q=>∃p ys,xs=[.ref p]/\(SqL K H p ys∨SqT K H p ys)/\∀l,H l=none->Q (.ref l) (upd H l (.lst ys))):=by subst hK;exact xR
theorem jF(hK:X.K=K:=by rfl):mQ X (.type "tuple") (fun xs H Q=>∃p ys,xs=[.ref p]/\((SqL K H p ys/\∀l,H l=none->Q (.ref l) (upd H l (.tup ys)))∨(SqT K H p ys/\Q (.ref p) H))):=by subst hK;exact vC
def YV(K:W.Frag):V->Option Int->Option Int->Hp->VK->Prop:=fun x lo hi H Q=>match x with
 |.ref a=>(∃xs,SqL K H a xs/\∀p,H p=none->Q (.ref p) (upd H p (.lst (vI xs lo hi))))∨
   (∃xs,SqT K H a xs/\¬(HT.sIx xs.length 0 lo=0/\HT.sIx xs.length xs.length hi=xs.length)/\∀p,H p=none->Q (.ref p) (upd H p (.tup (vI xs lo hi))))∨
   (∃xs,SqT K H a xs/\(HT.sIx xs.length 0 lo=0/\HT.sIx xs.length xs.length hi=xs.length)/\Q (.ref a) H)
 |_=>False
theorem xsl(hK:X.K=K:=by rfl):SlR X (YV K):=by
 subst hK;refine(Lh.or (Q6.or DQ)).imp fun x lo hi H Q h=>?_;unfold YV at h;split at h
 ·rcases h with⟨xs,h⟩|⟨xs,h⟩|⟨xs,h⟩
  ·exact .inl ⟨_,xs,rfl,h⟩
  ·exact .inr (.inl ⟨_,xs,rfl,h⟩)
  ·exact .inr (.inr ⟨_,xs,rfl,h⟩)
 ·exact h.elim
theorem Ho{tg l:Expr}{tl:TE}(hl:PE X l tl)(hK:X.K=K:=by rfl):PI X tg l (Yr K tl):=by subst hK;exact QK hl
theorem MQ{es:List Expr}{k:Nat}{t:TGs}{n:Nat}{pos:Pos}(hc:X.calm=true)(h:PGs X es t)(hK:X.K=K:=by rfl)
  (hn:(assignEach es X.env).length=n:=by rfl) (hst:(assignEach es X.env).findIdx? (·.1)=none:=by rfl):PG X (.Tuple es k pos) (YD K n t):=by subst hK;exact Og hc h hn hst
theorem sH{o e:Expr}{to:TE}{te:TE}{apos cpos:Pos}(ho:PE X o to)(he:PE X e te)(hK:X.K=K:=by rfl)
  (hbase:attributeBase o "append" X.env (eval o X.env)=eval o X.env:=by rfl)
  (hfew:((backTo cpos (starEach [e] X.env)).all (fun x=>!x.1)&&(backToKw cpos (keywordEach [] X.env)).all (fun x=>x.1.isSome)
   && decide ([e].length+([]:List Keyword).length+(if([]:List Keyword).isEmpty then 0 else 1)<30))=true:=by rfl)
  (hline:(apos.endLine==cpos.line)=true:=by rfl) (hs:starEach [e] X.env=(false,eval e X.env)::starEach [] X.env:=by rfl):
  PE X (.Call (.Attribute o "append" apos) [e] [] cpos) (tBM K "list" Ge to (xV te XM)):=by
 subst hK;exact R5 PySem.F.plainAttrs_list PySem.F.slot_list_append PySem.F.type_list_append tW ho (aG he ak hs) hbase hfew hline hs rfl
end
section
variable {X:Cx} {es:List Expr} {te:TE} {t:TA}
theorem fK{c:Const}{j}{p:Pos}(h:PE X (.Constant c j p) te)(hr:PA X es t):PA X ((.Constant c j p)::es) (xV te t):=aG h hr rfl
theorem aM{x:Str}{p:Pos}(h:PE X (.Name x p) te)(hr:PA X es t):PA X ((.Name x p)::es) (xV te t):=aG h hr rfl
theorem Ik{as:List Expr}{j}{p:Pos}(h:PE X (.Tuple as j p) te)(hr:PA X es t):PA X ((.Tuple as j p)::es) (xV te t):=aG h hr rfl
theorem mO{a:Expr}{o:Operator}{b:Expr}{p:Pos}(h:PE X (.BinOp a o b p) te)(hr:PA X es t):PA X ((.BinOp a o b p)::es) (xV te t):=aG h hr rfl
theorem NW{o:UnaryOp}{a:Expr}{p:Pos}(h:PE X (.UnaryOp o a p) te)(hr:PA X es t):PA X ((.UnaryOp o a p)::es) (xV te t):=aG h hr rfl
end
def MF(a C:Addr):HO:= .ext fun h=>∃o vs,h.get? a=some o/\o.cls = .ref C/\o.data = .fields vs
theorem Lx{P:Program}{w:World}{H:Hp}{h:Heap}{a C:Addr}{o:Obj}{vs:Array Value}(e:h.get? a=some o)(hc:o.cls = .ref C)(hd:o.data = .fields vs):iu P w H h a (MF a C):=
 ⟨⟨o,vs,e,hc,hd⟩,⟨o,e⟩,fun _ _ ⟨o,vs,e,r⟩ k=>⟨o,vs,k o e,r⟩⟩
theorem iu.there{P:Program}{w:World}{H:Hp}{h:Heap}{a:Addr}{o:HO}(x:iu P w H h a o):∃u,h.get? a=some u:=by
 cases o with
 |lst xs=>obtain⟨_,_,_,_,e⟩:=x;exact⟨_,e⟩
 |tup xs=>obtain⟨_,_,_,o,e,_⟩:=x;exact⟨_,e⟩
 |dK kvs=>obtain⟨_,_,_,_,o,_,_,e,_⟩:=x;exact⟨_,e⟩
 |dT kvs=>obtain⟨_,_,_,_,o,_,_,e,_⟩:=x;exact⟨_,e⟩
 |set S n=>obtain⟨o,_,_,_,e,_⟩:=x;exact⟨_,e⟩
 |ins C dx fs=>obtain⟨_,_,_,e,_⟩:=x;exact⟨_,e⟩
 |own y=>exact x
 |xd fs=>obtain⟨_,⟨_,_,_,e,_⟩,_⟩:=x;exact⟨_,e⟩
 |rng lo hi=>obtain⟨_,_,_,e⟩:=x;exact⟨_,e⟩
 |frz ob u=>obtain⟨e,_⟩:=x;exact⟨_,e⟩
 |tbl ps=>exact⟨_,(show h.get? a=some _ from x)⟩
 |met f y=>exact⟨_,(show h.get? a=some _ from x)⟩
 |ext φ=>exact x.2.1
structure ExS(base:Heap)(C R:Addr):Prop where
 cls:∃nm q N bs bm hdct sn sub ab col dd k0 k1 k2 k3 k5 newId,base.get? C=some (excClassObj nm q C N bs bm hdct sn sub ab col dd k0 k1 k2 k3 k5 newId)/\(Value.ref C::bm).contains (.ref R)=true
 top:∃nm q N bs bm hdct sn sub ab col dd k0 k1 k2 k3 k5 newId,base.get? R=some (excClassObj nm q R N bs bm hdct sn sub ab col dd k0 k1 k2 k3 k5 newId)/\bm.contains (.type "BaseException")=true
theorem uD{M:Model}{A:Around}{E:Value->Shared->Prop}{h:Heap}{g:Array GenState}{d:Drawn}{t:Nat}{os:OsState}{e C R:Addr}{oe:Obj}{Q:Bool->Shared->Prop}{base:Heap}(S:ExS base C R)(kb:∀b o,base.get? b=some o->h.get? b=some o)
  (he:h.get? e=some oe) (hcls:oe.cls = .ref C) (hq:Q true ⟨h,g,d,t,os⟩):wpAny M A (excMatches (.ref e) (.ref R)) Q E ⟨h,g,d,t,os⟩:=by
 obtain⟨nm,q,N,bs,bm,hdct,sn,sub,ab,col,dd,k0,k1,k2,k3,k5,newId,hC,hs⟩:=S.cls;obtain⟨nm',q',N',bs',bm',aaz,sn',sub',ab',col',dd',k0',k1',k2',k3',k5',newId',hR,hB⟩:=S.top;have hC:=kb _ _ hC;have hR:=kb _ _ hR;have hcB:(Value.ref R::bm').contains (.type "BaseException")=true:=by rw[List.contains_cons,hB,Bool.or_true]
 have f:=tc_notTuple;unfold excMatches
 repeat (first|(with_reducible refine wpAny_loadPart_at he ?_;rw[hcls])|with_reducible refine wpAny_loadPart_at hR ?_|(with_reducible refine wpAny_isSubtype_exc hR ?_;rw[hcB])|(with_reducible refine wpAny_isSubtype_exc hC ?_;rw[hs])|wp_step)
 exact hq
section
variable {X:Cx} {pins:List (Addr×Obj)} {σ:St} {H:Hp} {s:Shared}
theorem Inv.track{a:Addr}{o:HO}(I:Inv X pins σ H s)(hn:H a=none)(h0:∀u,X.s₀.heap.get? a≠some u)(hL:a≠X.env.locals)(hc:∀x c,X.env.cells.lookup x=some c->c≠a)(hp:∀p∈X.pn++pins,p.1≠a)
  (new:iu X.prog X.w (upd H a o) s.heap a o):Inv X pins σ (upd H a o) s:=by
 have ne:∀b u,H b=some u->b≠a:=fun b u e=>dX e hn;refine⟨I.ok,I.os,I.bare,⟨I.base.keep,I.base.slot,fun b u e n hx=>?_,I.base.there,fun b xs e=>?_,fun b u xs e=>?_,fun b ps e=>?_⟩,I.loc,I.cell,?_,fun x c e=>?_,fun p q=>?_,fun b u e=>?_,I.len⟩
 ·rw[cB (fun z=>h0 u (by rw[<-z];exact e))];exact I.base.free b u e n hx
 ·have:=I.base.tups b xs e;rw[cB (ne b _ this)];exact this
 ·have:=I.base.yE b u xs e;rw[cB (ne b _ this)];exact this
 ·obtain⟨m,this⟩:=I.base.Ak b ps e;exact⟨m,by rw[cB (ne b _ this)];exact this⟩
 ·rw[cB (Ne.symm hL)];exact I.free
 ·rw[cB (hc x c e)];exact I.nH x c e
 ·obtain⟨e1,e2,e3⟩:=I.pin p q;exact⟨e1,by rw[cB (hp p q)];exact e2,e3⟩
 ·by_cases hb:b=a
  ·subst hb;rw[aA]at e;cases e;exact new
  ·rw[cB hb]at e;exact(I.hok b u e).stay (fun _ _ _ q=>q) (fun c q=>by rw[cB (ne c _ q)];exact q) fun c xs q=>by rw[cB (ne c _ q)];exact q
theorem Inv.unset{h':Heap}{t':Nat}{j:Nat}{n:Str}{v:Option Value}{m:Str->Option Value}(I:Inv X pins σ H s)(hN:X.N.Nodup)(hj:X.N[j]?=some n)(hm:s.heap.Ns X.env.locals m)
  (hn:h'.Ns X.env.locals fun y=>if y=n then v else m y) (hs:Heap.SameBut X.env.locals s.heap h'):Inv X pins (σ.set j none) H { s with heap:=h',toks:=t' }:=by
 obtain⟨m2,hn2,hl⟩:=id I.loc;obtain⟨oL,_,_,hoL,_⟩:=id hm;have em:m2=m:=by
  obtain⟨o1,es1,ep1,ho1,hd1,hk1,hf1⟩:=hn2;obtain⟨o2,es2,ep2,ho2,hd2,hk2,hf2⟩:=hm;rw[ho1]at ho2;cases ho2;rw[hd1]at hd2;cases hd2
  funext y;rw[<-hf1 y,<-hf2 y]
 subst em;refine⟨I.ok,I.os,I.bare,⟨fun b o e nn hb hx=>?_,fun b o e nn hb hx=>?_,I.base.free,fun b o e hx=>?_,I.base.tups,I.base.yE,I.base.Ak⟩,⟨_,hn,fun i y u e1 e2 e3=>?_⟩,fun y c e=>?_,I.free,I.nH,fun p hp=>?_,fun b u e=>?_,by simpa using I.len⟩
 ·exact(hs.2 b (Nat.ne_of_lt (Nat.lt_of_lt_of_le (Heap.lt_size e) I.ok.above))).trans (I.base.keep b o e nn hb hx)
 ·obtain⟨sl,e1⟩:=I.base.slot b o e nn hb hx;exact⟨sl,(hs.2 b (Nat.ne_of_lt (Nat.lt_of_lt_of_le (Heap.lt_size e) I.ok.above))).trans e1⟩
 ·obtain⟨o',e1⟩:=I.base.there b o e hx;exact⟨o',(hs.2 b (Nat.ne_of_lt (Nat.lt_of_lt_of_le (Heap.lt_size e) I.ok.above))).trans e1⟩
 ·by_cases hji:i=j
  ·subst hji;by_cases hlt:i < σ.length
   ·rw[List.getElem?_set_self hlt]at e2;cases e2
   ·rw[List.getElem?_eq_none (by simp;omega)]at e2;cases e2
  ·rw[List.getElem?_set_ne (Ne.symm hji)]at e2;obtain⟨u',r',q⟩:=hl i y u e1 e2 e3;refine⟨u',r',?_⟩;rcases q with⟨k,e⟩|⟨k,c,e,z⟩
   ·refine .inl ⟨k,?_⟩;have:y≠n:=fun z=>hji (wB hN e1 (z▸hj));simp[this,e]
   ·exact .inr ⟨k,c,e,z.sameBut hs (I.cne y c e)⟩
 ·obtain⟨w',z⟩:=I.cell y c e;exact⟨w',z.sameBut hs (I.cne y c e)⟩
 ·obtain⟨e,nn,ne,nf,d⟩:=I.pin p hp;exact⟨(hs.2 p.1 ne).trans e,nn,ne,nf,d⟩
 ·refine(I.hok b u e).stay (fun c w' hc q=>(hs.2 c ?_).trans q) (fun _ q=>q) fun _ _ q=>q;rintro rfl;rcases hc with z|hc
  ·rw[<-z,I.free]at e;cases e
  ·rw[I.free]at hc;cases hc
end
def cxS(X:Cx)(a:Addr):Cx:={ X with A:=X.A.mark (some (.ref a)),calm:=false,xe:=fun _ _=>False }
theorem Inv.suite{X:Cx}{pins:List (Addr×Obj)}{σ:St}{H:Hp}{s:Shared}(I:Inv X pins σ H s)(a:Addr):Inv (cxS X a) pins σ H s:=
 ⟨⟨I.ok.mod,I.ok.kind,I.ok.glob,I.ok.blt,I.ok.above,I.ok.inj,I.ok.has,I.ok.cab,(fun z=>by cases z),I.ok.frames,I.ok.stk,I.ok.exf,I.ok.bs,I.ok.bsz,I.ok.Mq,I.ok.Nb,I.ok.C4,I.ok.frf⟩,
  I.os,I.bare,I.base,I.loc,I.cell,I.free,I.nH,I.pin,I.hok,I.len⟩
theorem Inv.Ma{X:Cx}{pins:List (Addr×Obj)}{σ:St}{H:Hp}{s:Shared}{a:Addr}(ok:X.Ok)(I:Inv (cxS X a) pins σ H s):Inv X pins σ H s:=
 ⟨ok,I.os,I.bare,I.base,I.loc,I.cell,I.free,I.nH,I.pin,I.hok,I.len⟩
structure ExI(K:W.Frag)(C:Addr):Prop where
 ga:W.findIn K (.ref C) "__getattribute__" = some (some (.builtin "BaseException.__getattribute__"))
 gt:W.findIn K (.ref C) "__getattr__" = some none
 cl:W.findIn K (.ref C) "__class__" = some (some (.builtin "object.__class__"))
 mb:W.mroIn K C (.type "BaseException")=some true
 mo:W.mroIn K C (.type "object")=some true
 is:(W.clsIn K C).isSome=true
section
variable {prog:Program} {w:World} {A:Around} {E:Value->Shared->Prop} {h:Heap} {g:Array GenState} {d:Drawn} {t:Nat} {os:OsState} {a C:Addr} {o:Obj} {K:W.Frag}
theorem Qq{R:Result->Shared->Prop}(S:ExI K C)(X:K.In h)(hx:h.get? a=some o)(hc:o.cls = .ref C)(hq:R (.ok (.ret (.ref C))) ⟨h,g,d,t,os⟩):
  codeAny (model prog w) A (.call (.builtin "getset_descriptor.__get__") ⟨[.builtin "object.__class__",.ref a,.ref C],[]⟩) R ⟨h,g,d,t,os⟩:=by
 have hT5:(⟨h,g,d,t,os⟩:Shared).TypeIs (.builtin "object.__class__") "getset_descriptor" := F.typeOf_object_class;have L1:=W.looks_mroIn (M:=model prog w) X S.mo;rw[<-F.owner_object_class]at L1;refine codeAny_call_builtin F.slot_gs_get.plain F.entry_gs_get (F.slot_gs_get.check _ _ _ _ _ _ _ _ hT5 (F.args_gs_get _ _ _) ?_)
 repeat (any_goals (first|assumption|(with_reducible refine wpAny_loadPart_at hx ?_;rw[hc])|with_reducible refine L1.at ?_|wp_step))
 refine⟨Code.quiet_builtin _ (by decide +kernel),codeAny_builtin F.entry_object_class ?_⟩
 repeat (any_goals (first|assumption|(with_reducible refine wpAny_loadPart_at hx ?_;rw[hc])|wp_step))
theorem Jr{tk:Tok}{Q:Fin->Shared->Prop}(S:ExI K C)(X:K.In h)(hx:h.get? a=some o)(hc:o.cls = .ref C)(hq:Q (.done (.ret (.ref C))) ⟨h,g,d,t,os⟩):
  wpAny (model prog w) A (Builtin.«object.__getattribute__» ⟨[.ref a,.str "__class__" tk],[]⟩) Q E ⟨h,g,d,t,os⟩:=by
 have hT5:(⟨h,g,d,t,os⟩:Shared).TypeIs (.builtin "object.__class__") "getset_descriptor" := F.typeOf_object_class;have L1:=W.looks_findIn (M:=model prog w) X S.cl;have f5:=F.typeOf_object_class;have f6:=F.slot_gs_get.lookup;have f7:=F.slot_gs_set.lookup
 repeat (any_goals (first|assumption|(with_reducible refine wpAny_loadPart_at hx ?_;rw[hc])|with_reducible refine L1.at ?_|wp_step))
 refine Qq S X hx hc ?_
 repeat (any_goals (first|assumption|wp_step))
theorem Hu{nameV:Value}{Q:Unit->Shared->Prop}(S:ExI K C)(X:K.In h)(hx:h.get? a=some o)(hc:o.cls = .ref C)(hq:Q () ⟨h,g,d,t,os⟩):
  wpAny (model prog w) A (checkBuiltinCall "BaseException.__getattribute__" ⟨[.ref a,nameV],[]⟩) Q E ⟨h,g,d,t,os⟩:=by
 have hk:builtinKind "BaseException.__getattribute__" = some .slot:=by decide +kernel
 have hs:splitId "BaseException.__getattribute__" = some ("BaseException","__getattribute__"):=by decide +kernel
 have L1:=W.looks_mroIn (M:=model prog w) X S.mb;have ha:=F.args_bexc_ga (.ref a) nameV;simp only[checkBuiltinCall,hk,hs];refine wpAny_bind ?_;unfold isInstance
 repeat (first|(with_reducible refine wpAny_loadPart_at hx ?_;rw[hc])|with_reducible refine L1.at ?_|wp_step)
 exact hq
theorem RG{tk:Tok}{Q:Value->Shared->Prop}(S:ExI K C)(X:K.In h)(hx:h.get? a=some o)(hc:o.cls = .ref C)(hq:Q (.ref C) ⟨h,g,d,t,os⟩):
  wpAny (model prog w) A (getAttrBy (.ref a) (.str "__class__" tk) false) Q E ⟨h,g,d,t,os⟩:=by
 have f3:=F.excAttr_ValueError.ga.bind (.ref a);have L1:=W.looks_findIn (M:=model prog w) X S.ga;have L2:=W.looks_findIn (M:=model prog w) X S.gt;have hx2:(Value.builtin "BaseException.__getattribute__" == Value.builtin "object.__getattribute__")=false:=by decide +kernel
 have hx1:(onTheHeap (Value.ref C)&&Value.builtin "BaseException.__getattribute__" == Value.builtin "object.__getattribute__")=false:=by rw[hx2];rfl
 repeat (any_goals (first|assumption|(with_reducible refine wpAny_loadPart_at hx ?_;rw[hc])|with_reducible refine L1.at ?_|with_reducible refine L2.at ?_|wp_step))
 refine codeAny_call_builtin F.excAttr_ValueError.ga.plain F.entry_bexc_ga (Hu S X hx hc (Jr S X hx hc ?_))
 repeat (any_goals (first|assumption|wp_step))
theorem Mp{Q:Option Value->Shared->Prop}(S:ExI K C)(X:K.In h)(hx:h.get? a=some o)(hc:o.cls = .ref C)(hq:Q (some (.ref C)) ⟨h,g,d,t+1,os⟩):
  wpAny (model prog w) A (getAttr? (.ref a) "__class__") Q E ⟨h,g,d,t,os⟩:=by
 unfold getAttr? getAttrBy?
 repeat (any_goals (first|assumption|with_reducible apply RG S X hx hc|wp_step))
end
theorem wD{K:W.Frag}{a C:Addr}(S:ExI K C):W.KitX K (.ref a) (.ref C) (fun h=>∃o vs,h.get? a=some o/\o.cls = .ref C/\o.data = .fields vs) where
 ty:=fun M h _ p=>by
  obtain⟨o,_,h1,h2,_⟩:=p;exact h2▸(W.Looks.ld h1).andThen .now
 it:=fun _ _ X _=>by
  have hi:=S.is;unfold W.clsIn at hi;split at hi
  ·rename_i c' d' cd' sl' ho
   intro A' Q' E' s' k q;unfold isType loadHead;exact wpAny_bind (wpAny_loadPart (k _ _ (X _ _ ho)) (wpAny_pure q))
  ·cases hi
 ne:=fun h tp dd its n sl X htp=>by
  have hi:=S.is;refine Bool.eq_false_iff.mpr fun q=>?_;have e:C=tp:=Value.ref.inj (beq_iff_eq.mp q);subst e;unfold W.clsIn at hi;split at hi
  ·rename_i c' d' cd' sl' ho
   have z:=(X _ _ ho).symm.trans htp;cases z
  ·cases hi
 ca:=fun {prog w A E Q s} X p k=>by
  obtain⟨o,vs,h1,h2,_⟩:=p;obtain⟨h0,g,d,t,os⟩:=s;exact Mp S X h1 h2 k
theorem Fl:∀{Ds:List Addr} {us:List Value},Vals (Ds.map V.ref) us->us=Ds.map Value.ref
 |[],_,.nil=>rfl
 |D::Ds,_,.cons r t=>by
  have e:=Fl (Ds:=Ds) t;cases (show _=Value.ref D from r);rw[e];rfl
def N5(K:W.Frag):List V->Hp->VK->Prop:=fun xs H Q=>∃a C y b,xs=[.ref a,y]/\H a=some (MF a C)/\ExI K C/\
 ((∃D,y = .ref D/\W.kitOne K (.ref C) (.ref D)=some b)∨(∃T,y = .ty T/\W.kitOne K (.ref C) (.type T)=some b)∨(∃(p:Addr) (Ds:List Addr),y = .ref p/\H p=some (.tup (Ds.map V.ref))/\W.kitAny K (.ref C) (Ds.map Value.ref)=some b))/\Q (.bl b) H
theorem Ph{X:Cx}:mQ X (.builtin "isinstance") (N5 X.K):=by
 intro pins s σ H xs us Q I r h;obtain⟨a,C,y,b,rfl,ha,S,h1,q⟩:=h;obtain⟨u,v,rfl,ru,rv⟩:=r.two;cases ru;have p:∃o vs,s.heap.get? a=some o/\o.cls = .ref C/\o.data = .fields vs:=(I.hok a _ ha).1;have fin:∀tk,EP X pins σ Q (.bool b) { s with toks:=tk }:=fun tk=>⟨.bl b,H,I.tok tk,rfl,q⟩;rcases h1 with⟨D,rfl,e⟩|⟨T,rfl,e⟩|⟨tp,Ds,rfl,ht,e⟩
 ·cases rv;exact W.kia_one (wD S) I.kIn p e (fun z=>nomatch z) fin
 ·cases rv;exact W.kia_one (wD S) I.kIn p e (fun z=>nomatch z) fin
 ·cases rv;obtain⟨its,r2,p2,_⟩:=I.tuple (SqT.of ht);have ei:=Fl r2;subst ei;obtain⟨⟨cls,dd,data,sl⟩,ho,hc,n,hd⟩:=id p2;simp only at hc hd;subst hc hd;exact W.kia_tup (wD S) I.kIn p ho e (fun z=>nomatch z) fin
theorem MH{X:Cx}(K:W.Frag)(hK:X.K=K:=by rfl):mQ X (.builtin "isinstance") (N5 K):=by subst hK;exact Ph
theorem qH{X:Cx}{x:Str}{C:Addr}{pos:Pos}(hg:Gl X x)(hm:X.mg x=some (.ref C))(hd:(x==("__debug__" : Str))=false:=by decide):PE X (.Name x pos) (tC (.ref C)):=E9 hg hm rfl hd
theorem OB{K:W.Frag}{h:Heap}{mg:Str->Option Value}{x:Str}{C:Addr}{newId inN Bn:String}{bmN:List Value}(X:K.In h)(G:h.Ns mainGlobals mg)(e:W.nsIn K mainGlobals x=some (some (.ref C)))
  (q:W.excIn K C [.type "ValueError",.type "Exception",.type "BaseException",.type "object"] newId=true) (Fn:ExcBaseFacts Bn newId inN bmN)
  (hBn:[Value.type "ValueError",.type "Exception",.type "BaseException",.type "object"].contains (.type Bn)=true):ExC mg h x C:=by
 refine⟨_,newId,⟨W.mg_of X G e,?_⟩,Bn,inN,bmN,_,_,_,Fn,hBn,F.excBase_ValueError⟩;unfold W.excIn at q;split at q
 ·rename_i dd cd sl ho
  split at q
  ·rename_i C' bm k0 k1 k2 k3 n k5 hm hs
   simp only[Bool.and_eq_true,beq_iff_eq,Bool.not_eq_true']at q;obtain⟨⟨⟨⟨⟨rfl,rfl⟩,hdel⟩,ht⟩,hok⟩,hni⟩:=q;obtain⟨nm,bs,mro,ns,qn,hdc,sn,sub,ab,col,del⟩:=cd;dsimp only at hm hdel hok hni;subst hm;subst hdel;have hsl:sl=#[k0,k1,k2,k3,some (.builtin n),k5]:=by
    obtain⟨l⟩:=sl;simp only at hs;rw[hs]
   subst hsl;exact⟨bm,ns,nm,qn,bs,hdc,sn,sub,ab,col,dd,k0,k1,k2,k3,k5,_,X _ _ ho,.of_isNs (W.isNs_of_in X hok),W.nsMap_none_of_in X hok hni,W.tail_of_in X ht⟩
  ·cases q
 ·cases q
def Dk(K:W.Frag)(C R:Addr):Bool:=match K.lookup C with
 |some ⟨.type "type",_,.cls cd,sl⟩=>(match cd.mro,sl.toList with
  |.ref C'::bm,[_,_,_,_,some (.builtin _),_]=>C'==C&&!cd.hasDel&&(Value.ref C'::bm).contains (.ref R)
  |_,_=>false)
 |_=>false
theorem Nz{K:W.Frag}{h:Heap}{C R:Addr}(X:K.In h)(q:Dk K C R=true)(qr:W.ktsIn K R "BaseException" = true):ExS h C R:=by
 refine⟨?_,?_⟩
 ·unfold Dk at q;split at q
  ·rename_i dd cd sl ho
   split at q
   ·rename_i C' bm k0 k1 k2 k3 n k5 hm hs
    simp only[Bool.and_eq_true,beq_iff_eq,Bool.not_eq_true']at q;obtain⟨⟨rfl,hdel⟩,ht⟩:=q;obtain⟨nm,bs,mro,ns,qn,hdc,sn,sub,ab,col,del⟩:=cd;dsimp only at hm hdel;subst hm;subst hdel;have hsl:sl=#[k0,k1,k2,k3,some (.builtin n),k5]:=by
     obtain⟨l⟩:=sl;simp only at hs;rw[hs]
    subst hsl;exact⟨nm,qn,ns,bs,bm,hdc,sn,sub,ab,col,dd,k0,k1,k2,k3,k5,n,X _ _ ho,ht⟩
   ·cases q
  ·cases q
 ·obtain⟨nm,qn,N,bs,bm,hdct,sn,sub,ab,col,dd,k0,k1,k2,k3,k5,newId,hR,hb,_⟩:=W.kts_cls X qr;exact⟨nm,qn,N,bs,bm,hdct,sn,sub,ab,col,dd,k0,k1,k2,k3,k5,newId,hR,hb⟩
theorem sW:bootBuiltins "ValueError" = some (.type "ValueError"):=by decide +kernel
section
variable {X:Cx} {a:Expr} {ta:TE}
end
end L2
namespace L2
open PySem
theorem m8:∀ns:List Int,PyData.canLayAll0 (ns.map PyData.int)=true
 |[]=>rfl
 |n::r=>by
  have:=m8 r;simp[PyData.canLayAll0,PyData.canLay0,this]
theorem pL:∀ns:List Int,PyData.depthAll (ns.map PyData.int)<=1
 |[]=>by simp[PyData.depthAll]
 |n::r=>by
  have:=pL r;simp[PyData.depthAll,PyData.depth];omega
theorem rF(ns:List Int):SeqAt.shaped (.list (ns.map .int))=true:=by
 have h1:=m8 ns;have h2:=pL ns;simp only[SeqAt.shaped,PyData.canLay0,PyData.depth,h1,Bool.true_and];exact decide_eq_true (by omega)
theorem uV(ns:List Int):SeqAt.shaped (.tuple (ns.map .int))=true:=by
 have h1:=m8 ns;have h2:=pL ns;simp only[SeqAt.shaped,PyData.canLay0,PyData.depth,h1,Bool.true_and];exact decide_eq_true (by omega)
theorem Jj(ns ms:List Int):PyData.eqv (.list (ns.map .int)) (.list (ms.map .int))=decide (ns=ms):=by
 rw[PyData.eqv];exact W.ked_eqvAll ns ms
theorem LY(ns ms:List Int):PyData.eqv (.tuple (ns.map .int)) (.tuple (ms.map .int))=decide (ns=ms):=by
 rw[PyData.eqv];exact W.ked_eqvAll ns ms
theorem Wk{K:W.Frag}{g:Bool->Bool}{H:Hp}{a b:Addr}{ns ms:List Int}{Q:VK}(ha:SqL K H a (ns.map V.int))(hb:SqL K H b (ms.map V.int))(q:Q (.bl (g (decide (ns=ms)))) H):Gg K g (.ref a) (.ref b) H Q:=
 .inl ⟨_,_,.lst ha (Ca.ints ns),.lst hb (Ca.ints ms),rF ns,rF ms,by rw[Jj];exact q⟩
theorem Y7{K:W.Frag}{g:Bool->Bool}{H:Hp}{a b:Addr}{ns ms:List Int}{Q:VK}(ha:SqT K H a (ns.map V.int))(hb:SqT K H b (ms.map V.int))(q:Q (.bl (g (decide (ns=ms)))) H):Gg K g (.ref a) (.ref b) H Q:=
 .inl ⟨_,_,.tup ha (Ca.ints ns),.tup hb (Ca.ints ms),uV ns,uV ms,by rw[LY];exact q⟩
end L2
set_option maxHeartbeats 4000000
namespace L2
open PySem PySem.Spec PyProof.Rows
def Itd(lo:Int)(n:Nat):It:=⟨fun i _=>i<n,fun i H x H'=>H'=H/\x = .int (lo-i),fun i _=>n<=i⟩
theorem jK{P:Program}{w:World}{K:W.Frag}{tg:Expr}(it:Addr)(lo:Int)(n:Nat):Turn P w K tg (Itd lo n) [it] it (fun i h=>IsRangeIter h it (lo+(i:Nat)*(-1)) ((n:Int)-(i:Nat)) (-1)) where
 mem:=by simp
 obj:=fun i h st b hb=>by
  have e:b=it:=by simpa using hb
  subst e;exact⟨_,st,fun v z=>by
   have z':Data.fields _=Data.cell v:=z;cases z'⟩
 keep:=fun i h h' st k=>k it (by simp) _ st
 item:=by
  intro X hP hw hK hc i pins s σ H E I hf st hg;subst hP hw hK;obtain⟨f0,f1,f2,f3,f4,f5⟩:=hf it (by simp);have W:=Walks.range (prog:=X.prog) (w:=X.w) (I.ok.hd hc) it lo (-1) n;refine W.item i s _ _ hg st fun v h' tk hv st' kk=>?_;obtain⟨t,rfl⟩:=hv;have I1:Inv X pins σ H { s with heap:=h',toks:=tk }:=I.turned (fun b o hb e=>kk b o (by simpa using hb) e) f0 f1 f3 f4 f5;refine⟨_,rfl,Ja (s:={ s with heap:=h',toks:=tk }) (n:= "range_iterator") st' rfl rfl (by decide) ⟨.int (lo-i),H,I1,⟨t,?_⟩,⟨rfl,rfl⟩,st',fun b hb=>(hf b hb).1⟩⟩;rw[Int.mul_neg_one];rfl
 done:=by
  intro X hP hw hK hc i pins s σ H E I hf st hg;subst hP hw hK;obtain⟨f0,f1,f2,f3,f4,f5⟩:=hf it (by simp);exact wpAny_pyNext_range_end (I.ok.hd hc) st (by have:n<=i:=hg;omega) fun h' eb=>⟨rfl,I.turned (t':=s.toks) (fun b o hb e=>eb b o hb e) f0 f1 f3 f4 f5⟩
 self:=fun _ _ _ _ _ st h=>wpAny_pyIter_rangeiter st h
theorem rangeSize_down(a b:Int):Builtin.Range.rangeSize a b (-1)=if b<a then a-b else 0:=by
 unfold Builtin.Range.rangeSize;simp only[show ¬(-1:Int)>0 by decide,if_false,Int.neg_neg,Int.ediv_one];split<;>omega
theorem small_down{a b:Int}(ha:-(2^62)<=a)(ha':a<2^62)(hb:-(2^62)<=b)(hb':b<2^62):Builtin.Range.small a b (-1)=true:=by
 unfold Builtin.Range.small;rw[rangeSize_down];simp only[Builtin.Range.rangeFitsLong,Bool.and_eq_true,Bool.or_eq_true,decide_eq_true_eq,beq_iff_eq,show ¬(-1:Int)>0 by decide,if_false];split<;>omega
section
variable {X:Cx} {tg:Expr}
theorem Ni{pins:List (Addr×Obj)}{σ:St}{H:Hp}{s:Shared}{R:It->Hp->Prop}{E:Value->Shared->Prop}{lo hi:Int}{t u v:Tok}{tk:Nat}(I:Inv X pins σ H s)(h1:-(2^62)<=lo)(h2:lo<2^62)(h3:-(2^62)<=hi)(h4:hi<2^62)
  (q:R (Itd lo (lo-hi).toNat) H):wpAny (model X.prog X.w) X.A (pyIter (.ref s.heap.objs.size)) (PIE X pins σ tg R) E { s with heap:=s.heap.push { cls:= .type "range",data:= .fields #[.int lo t,.int hi u,.int (-1) v] },toks:=tk }:=by
 refine wpAny_pyIter_range (IsRange.new ..) (small_down h1 h2 h3 h4) ?_;have I1:Inv X pins σ H { s with heap:=s.heap.push { cls:= .type "range",data:= .fields #[.int lo t,.int hi u,.int (-1) v] },toks:=tk }:=I.kept fun b o e=>Heap.get?_push_of_some _ e;refine⟨(s.heap.push { cls:= .type "range",data:= .fields #[.int lo t,.int hi u,.int (-1) v] }).objs.size,[(s.heap.push { cls:= .type "range",data:= .fields #[.int lo t,.int hi u,.int (-1) v] }).objs.size],_,_,H,rfl,
  I1.kept (t':=tk) fun b o e=>Heap.get?_push_of_some _ e,jK _ lo (lo-hi).toNat,?_,fun b hb=>?_,q⟩
 ·have e1:lo+((0:Nat):Int)*(-1)=lo:=by simp
  have e2:(((lo-hi).toNat:Nat):Int)-((0:Nat):Int)=Builtin.Range.rangeSize lo hi (-1):=by rw[rangeSize_down];split<;>omega
  show IsRangeIter _ _ (lo+((0:Nat):Int)*(-1)) ((((lo-hi).toNat:Nat):Int)-((0:Nat):Int)) (-1);rw[e1,e2];exact Heap.get?_push_size _ rfl
 ·have e:b=(s.heap.push { cls:= .type "range",data:= .fields #[.int lo t,.int hi u,.int (-1) v] }).objs.size:=by simpa using hb
  subst e;exact I1.Nm (Nat.le_refl _) (I1.hok.fresh (Nat.le_refl _))
def SM(ta:TA):TI:=fun σ H R=>ta σ H fun vs H1=>∃i j:Int,vs=[.int i,.int j,.int (-1)]/\(-(2^62)<=i/\i<2^62/\-(2^62)<=j/\j<2^62)/\R (Itd i (i-j).toNat) H1
theorem Dc{a b c:Expr}{ta:TA}{p pos:Pos}(hg:Gl X "range")(hm:X.mg "range" = none)(ha:PA X [a,b,c] ta)(hs:starEach [a,b,c] X.env=(false,eval a X.env)::starEach [b,c] X.env:=by rfl)(hs2:(backTo pos (starEach [b,c] X.env)).any (·.1)=false:=by rfl):
  PI X tg (.Call (.Name "range" p) [a,b,c] [] pos) (SM ta):=by
 intro pins s σ H R I h;refine Call_ (uL I hg hm boot_range (PyProof.Rows.callWith_type1 (thn (ha pos pins s σ H _ I h) fun us s1 ⟨vs,H1,I1,r1,q1⟩=>?_) hs hs2));obtain⟨i,j,e,⟨q1,q2,q3,q4⟩,q⟩:=q1;subst e;cases r1 with
 |cons r rr=>
  cases rr with
  |cons r' rr=>
   cases rr with
   |cons r'' rr=>
    cases rr;obtain⟨t,rfl⟩:=r;obtain⟨t',rfl⟩:=r';obtain⟨t'',rfl⟩:=r'';exact call_range_3 (by decide) (Ni (tk:=s1.toks) I1 q1 q2 q3 q4 q) (.inl (PyProof.noPylong_small (by omega)))
end
theorem Io{lo:Int}{n:Nat}{g:TG}{tb:TS}{D:Ends}{σ:St}{H:Hp}(Pv:Nat->St->Hp->Prop)(h0:Pv 0 σ H)
  (hs:∀i σ H,i<n->Pv i σ H->g (.int (lo-i)) σ H fun σ2 H2=>tb { D with nx:=Pv (i+1),ct:=Pv (i+1),bk:=D.nx } σ2 H2) (hd:∀σ H,Pv n σ H->D.nx σ H):
  ∃W:Nat->Nat->St->Hp->Prop,(∃m,W 0 m σ H)/\∀i m σ H,W i m σ H->
   ((Itd lo n).stop i H/\D.nx σ H)∨((Itd lo n).go i H/\∃N:St->Hp->Prop,(∀σ' H',N σ' H'->∃m',m'<m/\W (i+1) m' σ' H')/\∀x H',(Itd lo n).yld i H x H'->g x σ H' fun σ2 H2=>tb { D with nx:=N,ct:=N,bk:=D.nx } σ2 H2):=by
 refine⟨fun i m σ H=>m=n-i/\i<=n/\Pv i σ H,⟨n,by simp,Nat.zero_le _,h0⟩,?_⟩;rintro i m σ H ⟨rfl,hi,p⟩;by_cases hlt:i<n
 ·refine .inr ⟨hlt,Pv (i+1),fun σ' H' p'=>⟨n-(i+1),by omega,rfl,hlt,p'⟩,fun x H' y=>?_⟩;obtain⟨e,y⟩:=y;subst e y;exact hs i σ _ hlt p
 ·have e:i=n:=by omega
  subst e;exact .inl ⟨Nat.le_refl _,hd σ H p⟩
section
variable {X:Cx}
end
theorem Je{X:Cx}:OpR X (binaryOp .FloorDiv) (rI (fun _ j=>j≠0/\j.natAbs.log2<9000) fun i j=> .int (i.fdiv j)):=opI fun _ _ _ _ _ _ _ hc q=>floordiv_int hc.1 q (.inl (PyProof.noPylong_of_log2 hc.2))
section
variable {X:Cx}
end
theorem cW:∀(names:List (Str×NameKind)) (n:Nat) (acc:List (Str×Addr)),cellsFrom n names acc=cellsFrom n names []++acc
 |[],_,_=>rfl
 |(x,k)::r,n,acc=>by
  unfold cellsFrom;split
  ·rw[cW r (n+1) ((x,n)::acc),cW r (n+1) [(x,n)],List.append_assoc];rfl
  ·exact cW r n acc
theorem cellsFrom_names:∀(names:List (Str×NameKind)) (n:Nat) {x:Str} {c:Addr},(x,c)∈cellsFrom n names []->(x,NameKind.cell)∈names
 |[],_,_,_,h=>by cases h
 |(y,k)::r,n,x,c,h=>by
  unfold cellsFrom at h;split at h
  ·rename_i hk
   rw[cW]at h;rcases List.mem_append.mp h with h|h
   ·exact List.mem_cons_of_mem _ (cellsFrom_names r (n+1) h)
   ·have e:=List.mem_singleton.mp h;cases e;have:k = .cell:=eq_of_beq hk;rw[this];exact List.mem_cons_self
  ·exact List.mem_cons_of_mem _ (cellsFrom_names r n h)
theorem jh{x:Str}{c:Addr}:∀{l:List (Str×Addr)},(x,c)∈l->∃d,l.lookup x=some d
 |(y,d)::l,h=>by
  by_cases e:x=y
  ·subst e;exact⟨d,by simp[List.lookup]⟩
  ·rcases List.mem_cons.mp h with h|h
   ·cases h;exact absurd rfl e
   ·obtain⟨d',hd⟩:=jh h;exact⟨d',by rw[List.lookup_cons,show(x==y)=false by simpa using e];exact hd⟩
theorem j4:∀(names:List (Str×NameKind)) (n:Nat) {x:Str},(x,NameKind.cell)∈names->∃c,(x,c)∈cellsFrom n names []
 |(y,k)::r,n,x,h=>by
  unfold cellsFrom;rcases List.mem_cons.mp h with h|h
  ·cases h;rw[if_pos (by decide),cW];exact⟨n,List.mem_append_right _ (List.mem_singleton.mpr rfl)⟩
  ·split
   ·obtain⟨c,hc⟩:=j4 r (n+1) h;rw[cW];exact⟨c,List.mem_append_left _ hc⟩
   ·exact j4 r n h
theorem u5(names:List (Str×NameKind))(n:Nat){x:Str}(h:(x,NameKind.cell)∈names):∃c,(cellsFrom n names []).lookup x=some c:=by
 obtain⟨c,hc⟩:=j4 names n h;exact jh hc
theorem Mz{l:List (Str×Addr)}(h:l.Pairwise fun x y=>x.2≠y.2){a b:Str×Addr}(ha:a∈l)(hb:b∈l)(hab:a≠b):a.2≠b.2:=by
 induction h with
 |nil=>cases ha
 |cons h1 _ ih=>
  rcases List.mem_cons.mp ha with e1|e1<;>rcases List.mem_cons.mp hb with e2|e2
  ·exact absurd (e1.trans e2.symm) hab
  ·rw[e1];exact h1 b e2
  ·rw[e2];exact fun z=>h1 a e1 z.symm
  ·exact ih e1 e2
theorem Mi{M:Model}{A:Around}{E:Value->Shared->Prop}{s:Shared}{scope:Scope}{globals:Addr}{cl:List (Str×Addr)}{qual:Str}{env:Env}{Q:Env->Shared->Prop}
  (h:Q (newEnv scope s.heap.objs.size globals (cellsFrom (s.heap.objs.size+1) scope.names []++cl) qual none .none (some env) builtinsNs) { s with heap:=pushCells (s.heap.push { cls:= .type "dict",data:= .dict #[] }) scope.names }):
  wpAny M A (newFunctionEnv scope globals cl [] qual none .none (some env)) Q E s:=by
 simp only[newFunctionEnv,Option.isSome_some,if_true];refine wpAny_bind (wpAny_alloc ?_);refine wpAny_bind (wpAny_layCells _ (fun name kind cells=>by cases hkc:kind==NameKind.cell<;>simp[hkc]) _ _ _ _ ?_);rw[show({ s with heap:=s.heap.push { cls:= .type "dict",data:= .dict #[] } }:Shared).heap.objs.size=s.heap.objs.size+1 from Heap.size_push ..,cW];refine wpAny_bind ?_;rw[List.forIn_nil];exact wpAny_pure (wpAny_pure h)
def Bq(X:Cx)(sc:Scope)(N:List Str)(ow:List Str)(cl:List (Str×Addr))(C:Addr)(s₀:Shared)(H₀:Hp)(ex:List Addr):Cx:={ cCx X sc N cl C s₀ H₀ ex with fn:=fun x=>ow.contains x }
structure yH(X:Cx)(scope sc:Scope)(N:List Str)(ix:List (Option Nat))(ow:List Str):Prop where
 rel:relabel scope X.env=sc
 kind:scope.kind = .function
 own:∀x,(x,NameKind.cell)∈scope.names↔ow.contains x=true
 apart:∀x,(x,NameKind.free)∈scope.names->ow.contains x=false
 names:∀x∈scope.names,x.2 = .local->scope.names.lookup x.1=some .local
 free:∀y∈scope.names,y.2 = .free->X.env.kindOf y.1=some .cell∨X.env.kindOf y.1=some .free
 len:N.length=ix.length
 ix:∀(j:Nat) (x:Str) (i:Nat),N[j]?=some x->ix[j]?=some (some i)->X.N[i]?=some x/\(x,NameKind.free)∈scope.names/\(sc.names.lookup x=some .cell∨sc.names.lookup x=some .free)
 has:∀x,(sc.names.lookup x=some .cell∨sc.names.lookup x=some .free)->(x,NameKind.free)∈scope.names∨ow.contains x=true
theorem C1{X:Cx}{tg iter elt:Expr}{ifs:List Expr}{scope sc:Scope}{pos ip:Pos}{wi:TI}{g:TG}{tc:TT}{te:TE}{N:List Str}{ix:List (Option Nat)}{ow:List Str}(O:yH X scope sc N ix ow)(hc:X.calm=true)(hi:PI X tg iter wi)
  (hb:∀cl C s₀ H₀ ex,PG (Bq X sc N ow cl C s₀ H₀ ex) tg g/\PIf (Bq X sc N ow cl C s₀ H₀ ex) ifs tc/\PE (Bq X sc N ow cl C s₀ H₀ ex) elt te) (hs:∀x,foldedSetIterable iter X.env x=pure x)
  {use:Option (Value->Sem Unit)} {QQ:Value->Shared->Prop} {pins:List (Addr×Obj)} {s:Shared} {σ:St} {H:Hp} {Q:VK} (I:Inv X pins σ H s) (h:Es ix wi g tc te σ H Q)
  (fin:∀(D C:Addr) (s6:Shared) (H5:Hp) (m:Str->Option Value),Inv X pins σ H5 s6->s6.heap.Ns C m->C5 X pins H5 C->Q (.ref D) H5->compPost (model X.prog X.w) X.A X.xe use QQ (.ref D) C (.ok .next) s6):
  wpAny (model X.prog X.w) X.A (comprehension (.ListComp elt [⟨tg,iter,ifs,0⟩] scope pos) scope X.env ip (newList []) false (eval iter X.env) use) QQ X.xe s:=by
 have hcl:∃cl,closureFor scope X.env=pure cl/\(∀x c,cl.lookup x=some c->X.env.cells.lookup x=some c)/\∀y∈scope.names,y.2 = .free->∃c,cl.lookup y.1=some c:=
  uX fun y hy hf=>I.ok.has y.1 (O.free y hy hf)
 obtain⟨cl,ecl,zF,Ot⟩:=hcl;refine wpAny_comprehension_free (use:=use) rfl hs ecl O.kind O.names (thn (hi pins s σ H _ I h) fun v s1 h1=>thn h1 fun itv s2 h2=>?_);obtain⟨it,fp,tn,J,H2,e,I2,T,st2,f2,q2⟩:=h2;subst e;obtain⟨W,⟨m0,w0⟩,turn⟩:=q2.go s2.heap.objs.size I2.fresh;refine wpAny_newObj_type ?_;have I3:=I2.Rn (its:=[]) (t':=s2.toks) (ys:=[]) .nil (Nat.zero_le _);generalize eH3:upd H2 s2.heap.objs.size (.lst [])=H3 at I3 w0;have eD:H3 s2.heap.objs.size=some (.lst []):=by rw[<-eH3];exact aA
 have Xb:∀b∈fp,b≠s2.heap.objs.size:=fun b hb z=>by
  obtain⟨o,ho,_⟩:=T.obj _ _ st2 b hb;exact absurd (Heap.lt_size ho) (by rw[z];exact Nat.lt_irrefl _)
 have st3:tn 0 (s2.heap.push { cls:= .type "list",dict:=none,data:= .seq ([]:List Value).toArray }):=T.keep _ _ _ st2 fun b _ o e=>Heap.get?_push_of_some _ e;have f3:∀b∈fp,C5 X pins H3 b:=fun b hb=>⟨by rw[<-eH3,cB (Xb b hb)];exact(f2 b hb).1,(f2 b hb).2⟩;generalize es3:({ s2 with heap:=s2.heap.push { cls:= .type "list",dict:=none,data:= .seq ([]:List Value).toArray },toks:=s2.toks }:Shared)=s3 at I3;have Nv:tn 0 s3.heap:=by rw[<-es3];exact st3
 have Y4:∀x c,cl.lookup x=some c->c<s3.heap.objs.size:=fun x c e=>by
  obtain⟨v,hv⟩:=I3.cell x c (zF x c e);exact hv.lt
 refine Mi ?_;generalize eO:cellsFrom (s3.heap.objs.size+1) scope.names []=own;have okO:=cellsFrom_ok scope.names (s3.heap.push { cls:= .type "dict",data:= .dict #[] }) (s3.heap.objs.size+1) [] ⟨fun _ _ hm=>(nomatch hm),List.Pairwise.nil⟩ (by rw[Heap.size_push];exact Nat.le_refl _);rw[Heap.size_push,eO]at okO;have Zm:∀x c,own.lookup x=some c->(x,NameKind.cell)∈scope.names:=fun x c e=>by
  have:=PySem.mem_of_lookup e;rw[<-eO]at this;exact cellsFrom_names _ _ this
 have Yw:∀x,(x,NameKind.cell)∈scope.names->∃c,own.lookup x=some c:=fun x hx=>by
  rw[<-eO];exact u5 _ _ hx
 have wM:∀b o,s3.heap.get? b=some o->(pushCells (s3.heap.push { cls:= .type "dict",data:= .dict #[] }) scope.names).get? b=some o:=fun b o e=>pushCells_keeps _ _ b o (Heap.get?_push_of_some _ e);have QV:(pushCells (s3.heap.push { cls:= .type "dict",data:= .dict #[] }) scope.names).Ns s3.heap.objs.size fun _=>none:=(Heap.Ns.new s3.heap (.type "dict")).keeps fun b o e=>pushCells_keeps _ _ b o e;generalize pushCells (s3.heap.push { cls:= .type "dict",data:= .dict #[] }) scope.names=h4 at okO wM QV;have I4:Inv X pins σ H3 { s3 with heap:=h4 }:=I3.kept (t':=s3.toks) wM;have Ur:({ newEnv scope s3.heap.objs.size X.env.globals (own++cl) X.env.qual none .none (some X.env) builtinsNs with scope:=relabel scope X.env }:Env)=Qd sc (own++cl) s3.heap.objs.size X.env:=by rw[O.rel];rfl
 rw[Ur];show codeAny _ _ _ (compPost (model X.prog X.w) X.A X.xe use QQ (.ref s2.heap.objs.size) s3.heap.objs.size) _;have E3:∀x c,(own++cl).lookup x=some c->own.lookup x=some c∨(own.lookup x=none/\cl.lookup x=some c):=fun x c e=>by
  rw[List.lookup_append]at e;cases q:own.lookup x with
  |some d=>rw[q]at e;exact .inl e
  |none=>rw[q]at e;exact .inr ⟨rfl,e⟩
 have MX:∀x c,own.lookup x=some c->h4.IsCell c none/\s3.heap.objs.size+1<=c:=fun x c e=>okO.empty x c (PySem.mem_of_lookup e);have Qs:∀x c,(x,NameKind.free)∈scope.names->cl.lookup x=some c->(own++cl).lookup x=some c:=fun x c hf e=>by
  rw[List.lookup_append];cases q:own.lookup x with
  |some d=>
   have:=(O.own x).mp (Zm x d q);rw[O.apart x hf]at this;cases this
  |none=>exact e
 generalize eC:s3.heap.objs.size=C at QV MX;generalize es4:({ s3 with heap:=h4 }:Shared)=s4 at I4;have h4s:s4.heap=h4:=by rw[<-es4]
 have o4s:s4.os=s3.os:=by rw[<-es4]
 have fC:∀b∈fp,b≠C:=fun b hb z=>by
  obtain⟨o,ho,_⟩:=T.obj _ _ Nv b hb;exact absurd (Heap.lt_size ho) (by rw[z,eC];exact Nat.lt_irrefl _)
 have fO:∀b∈fp,∀x c,own.lookup x=some c->c≠b:=fun b hb x c e z=>by
  obtain⟨o,ho,_⟩:=T.obj _ _ Nv b hb;have h1:b<C:=by rw[<-eC];exact Heap.lt_size ho
  have h2:=(MX x c e).2;rw[z]at h2;exact Nat.lt_irrefl _ (Nat.lt_trans h1 h2)
 have fA:∀b∈fp,∀x c,(own++cl).lookup x=some c->c≠b:=fun b hb x c e=>by
  rcases E3 x c e with q|⟨_,q⟩
  ·exact fO b hb x c q
  ·exact(f3 b hb).2.2.2.2.1 x c (zF x c q)
 have okC:(Bq X sc N ow (own++cl) C s3 H3 fp).Ok:=by
  refine⟨I3.ok.mod,?_,I3.ok.glob,I3.ok.blt,Nat.le_of_eq eC,fun x y c h1 h2=>?_,fun x hx=>?_,fun x c z e=>?_,I3.ok.hd,I3.ok.frames,.inl rfl,fun b hb=>⟨fC b hb,fA b hb⟩,
   I3.bs,Nat.le_trans I3.ok.bsz I3.sz,fun b o e hb=>?_,fun b hb z=>?_,I3.stack,I3.vK⟩
  ·show sc.kind = .function;rw[<-O.rel];exact O.kind
  ·-- no two names with one cell
   rcases E3 x c h1 with q1|⟨_,q1⟩<;>rcases E3 y c h2 with q2|⟨_,q2⟩
   ·have m1:=PySem.mem_of_lookup q1;have m2:=PySem.mem_of_lookup q2;by_cases e:x=y
    ·exact e
    ·have q:=Mz okO.apart m1 m2 (fun z=>e (congrArg Prod.fst z));exact absurd rfl q
   ·have a1:=(MX x c q1).2;have a2:=Y4 y c q2;rw[eC]at a2;exact absurd (Nat.lt_trans a2 a1) (Nat.lt_irrefl _)
   ·have a1:=(MX y c q2).2;have a2:=Y4 x c q1;rw[eC]at a2;exact absurd (Nat.lt_trans a2 a1) (Nat.lt_irrefl _)
   ·exact I3.ok.inj x y c (zF x c q1) (zF y c q2)
  ·rcases O.has x hx with z|z
   ·obtain⟨c,hc'⟩:=Ot (x,.free) z rfl;exact⟨c,Qs x c z hc'⟩
   ·obtain⟨c,hc'⟩:=Yw x ((O.own x).mpr z);exact⟨c,by show(own++cl).lookup x=some c;rw[List.lookup_append,hc'];rfl⟩
  ·have z':ow.contains x=true:=z;obtain⟨d,hd⟩:=Yw x ((O.own x).mpr z');have e':(own++cl).lookup x=some c:=e;rw[List.lookup_append,hd]at e';cases e';have:=(MX x c hd).2;show s3.heap.objs.size<=c;omega
  ·rcases(f3 b hb).2.2.2.1 with z|z
   ·exact I3.ok.Mq b o e z
   ·exact absurd (Nat.lt_of_lt_of_le (Heap.lt_size e) (Nat.le_trans I3.ok.bsz z)) (Nat.lt_irrefl _)
  ·rcases List.mem_cons.mp (I3.xu b z)with z|z
   ·exact(f3 b hb).2.1 z
   ·exact(f3 b hb).2.2.1 z
 have IC:Inv (Bq X sc N ow (own++cl) C s3 H3 fp) [] (cst ix σ) H3 s4:=by
  refine⟨okC,o4s,I4.bare,?_,?_,fun x c e=>?_,?_,fun x c e=>?_,fun p hp=>(nomatch hp),I4.hok,?_⟩
  ·rw[h4s];exact Un.kept wM
  ·refine⟨_,by rw[h4s];exact QV,fun j x v e1 e2 e3=>?_⟩;have e2':(cst ix σ)[j]?=some (some v):=e2;unfold cst at e2';rw[List.getElem?_map]at e2';cases q:ix[j]? with
   |none=>rw[q]at e2';cases e2'
   |some o=>
    rw[q]at e2';cases o with
    |none=>cases e2'
    |some i=>
     obtain⟨hx,hm,hsc⟩:=O.ix j x i e1 q;cases q2:σ[i]? with
     |none=>simp[q2]at e2'
     |some w'=>
      simp[q2]at e2';subst e2';obtain⟨m,hn,hl⟩:=I4.loc;have kf:=O.free (x,.free) hm rfl;have vis:Vis X.env.scope x:=by
       rcases kf with k|k
       ·exact .inr (.inl k)
       ·exact .inr (.inr k)
      obtain⟨u,r,l⟩:=hl i x v hx q2 vis;refine⟨u,r,?_⟩;rcases l with⟨k,_⟩|⟨_,c,e,z⟩
      ·rcases kf with k'|k'
       ·rw[k]at k';cases k'
       ·rw[k]at k';cases k'
      ·obtain⟨c',e'⟩:=Ot (x,.free) hm rfl;have:=zF x c' e';rw[e]at this;cases this;exact .inr ⟨hsc,c,Qs x c hm e',z⟩
  ·rcases E3 x c e with q|⟨_,q⟩
   ·exact⟨none,by rw[h4s];exact(MX x c q).1⟩
   ·exact I4.cell x c (zF x c q)
  ·rw[<-eC];exact I3.fresh
  ·rcases E3 x c e with q|⟨_,q⟩
   ·have:=(MX x c q).2;exact I3.hok.fresh (by omega)
   ·exact I4.nH x c (zF x c q)
  ·show(cst ix σ).length=N.length;rw[O.len];simp[cst]
 have st4:tn 0 s4.heap:=T.keep _ _ _ Nv fun b _ o e=>by rw[h4s];exact wM b o e
 have stat:∀{H':Hp},(∀b∈fp,H' b=none)->∀b∈fp,C5 (Bq X sc N ow (own++cl) C s3 H3 fp) [] H' b:=fun hn b hb=>
  ⟨hn b hb,fC b hb,okC.Nb b hb,.inl hb,fA b hb,fun p hp=>(nomatch hp)⟩
 obtain⟨hg,ht,he⟩:=hb (own++cl) C s3 H3 fp;have loop:codeAny (model X.prog X.w) X.A (.compLoop (.ListComp elt [⟨tg,iter,ifs,0⟩] scope pos) 0 (.ref it) (.ref s2.heap.objs.size) (Qd sc (own++cl) C X.env))
   (compPost (model X.prog X.w) X.A X.xe use QQ (.ref s2.heap.objs.size) C) s4:=by
  refine gR (fun n s'=>∃i σ' H',Inv (Bq X sc N ow (own++cl) C s3 H3 fp) [] σ' H' s'/\tn i s'.heap/\(∀b∈fp,H' b=none)/\W i n σ' H') ?_ m0 ⟨0,cst ix σ,H3,IC,st4,fun b hb=>(f3 b hb).1,w0⟩;rintro n s5 ⟨i,σ5,H5,I5,st5,fr5,w5⟩;rcases turn i n σ5 H5 w5 with⟨stop,qn⟩|⟨go,step⟩
  ·refine thn (T.done (Bq X sc N ow (own++cl) C s3 H3 fp) rfl rfl rfl hc i [] s5 σ5 H5 (fun _ _=>False) I5 (stat fr5) st5 stop) fun r s6 ⟨hr,I6⟩=>?_;subst hr;obtain⟨m,hn,_⟩:=id I6.loc;have I7:Inv X pins σ H5 s6:=I3.MR (ch:=fp) I6.os I6.base I6.hok I6.bare fun b hb=>⟨(f3 b hb).2.2.2.1,(f3 b hb).2.1,(f3 b hb).2.2.2.2.1,(f3 b hb).2.2.2.2.2⟩;exact fin _ C s6 H5 m I7 hn (I3.Nm (Nat.le_of_eq eC) I6.free) qn
  ·refine thn (T.item (Bq X sc N ow (own++cl) C s3 H3 fp) rfl rfl rfl hc i [] s5 σ5 H5 (fun _ _=>False) I5 (stat fr5) st5 go) fun r s6 ⟨u,hr,h6⟩=>?_;subst hr;refine thn h6 fun _ s7 ⟨x,H7,I7,r7,y7,st7,fr7⟩=>?_;have I7':=I7.pinned (stat fr7) (T.obj _ _ st7);have again:∀{σ9:St} {H9:Hp} {s9:Shared} {m':Nat},Inv (Bq X sc N ow (own++cl) C s3 H3 fp) ([]++uZ fp s7.heap) σ9 H9 s9->m'<n->W (i+1) m' σ9 H9->
     ∃m,m<n/\∃i σ' H',Inv (Bq X sc N ow (own++cl) C s3 H3 fp) [] σ' H' s9/\tn i s9.heap/\(∀b∈fp,H' b=none)/\W i m σ' H':=fun {σ9 H9 s9 m'} I9 hm w9=>by
    refine⟨m',hm,i+1,σ9,H9,I9.mz,T.keep _ _ _ st7 fun b hb o e=>(I9.pin (b,o) (List.mem_append_right _ (List.mem_append_right _ (gj hb e)))).1,fun b hb=>?_,w9⟩;obtain⟨o,e,d⟩:=T.obj _ _ st7 b hb;exact(I9.pin (b,o) (List.mem_append_right _ (List.mem_append_right _ (gj hb e)))).2.1
   refine thn (hg _ s7 σ5 H7 x u _ I7' r7 (step x H7 y7)) fun _ s8 ⟨σ8,H8,I8,q8⟩=>?_;refine thn (ht _ s8 σ8 H8 _ I8 q8) fun b s9 ⟨H9,I9,q9⟩=>?_;cases b with
   |false=>
    rw[if_neg Bool.false_ne_true]at q9;obtain⟨m',hm,w9⟩:=q9;rw[if_neg Bool.false_ne_true];exact again I9 hm w9
   |true=>
    rw[if_pos rfl]at q9;rw[if_pos rfl];refine thn (he _ s9 σ8 H9 _ I9 q9) fun y s10 ⟨yv,H10,I10,r10,ys,e10,z10,m',hm,w10⟩=>?_;refine thn (tW _ s10 σ8 H10 (.ref s2.heap.objs.size) [yv] (.ref s2.heap.objs.size) [y] (fun _ H'=>W (i+1) m' σ8 H') I10 rfl (.cons r10 .nil) ⟨_,ys,yv,rfl,rfl,e10,z10,w10⟩) fun _ s11 ⟨_,H11,I11,_,w11⟩=>?_;exact again I11 hm w11
 exact codeAny_compStart_list loop (T.self _ _ _ _ _ st4 loop)
theorem HD{X:Cx}{tg iter elt:Expr}{ifs:List Expr}{scope sc:Scope}{pos:Pos}{wi:TI}{g:TG}{tc:TT}{te:TE}{N:List Str}{ix:List (Option Nat)}{ow:List Str}(O:yH X scope sc N ix ow)(hc:X.calm=true)(hi:PI X tg iter wi)
  (hb:∀cl C s₀ H₀ ex,PG (Bq X sc N ow cl C s₀ H₀ ex) tg g/\PIf (Bq X sc N ow cl C s₀ H₀ ex) ifs tc/\PE (Bq X sc N ow cl C s₀ H₀ ex) elt te)
  (hs:∀x,foldedSetIterable iter X.env x=pure x:=by intro _;rfl):PE X (.ListComp elt [⟨tg,iter,ifs,0⟩] scope pos) (Es ix wi g tc te):=by
 intro pins s σ H Q I h;rw[eval_ListComp];exact C1 (use:=none) (QQ:=EP X pins σ Q) O hc hi hb hs I h fun D C s6 H5 m I7 hn f q=>⟨m,hn,fun h' hs'=>⟨.ref D,H5,I7.turned (it:=C) (t':=s6.toks) (fun b o hb e=>(hs'.2 b hb).trans e) f.1 f.2.1 f.2.2.2.1 f.2.2.2.2.1 f.2.2.2.2.2,rfl,q⟩⟩
theorem IL{X:Cx}{scope sc:Scope}{N:List Str}{ix:List (Option Nat)}{ow:List Str}(sc':relabel scope X.env=sc:=by kernel_rfl)(kind:scope.kind = .function:=by kernel_rfl)
  (own1:scope.names.all (fun y=>y.2 != .cell||ow.contains y.1)=true:=by kernel_rfl) (Zv:ow.all (fun x=>scope.names.any (fun y=>y.1==x&&y.2== .cell))=true:=by kernel_rfl) (apart:scope.names.all (fun y=>y.2 != .free || !ow.contains y.1)=true:=by kernel_rfl)
  (names:scope.names.all (fun x=>x.2 != .local||scope.names.lookup x.1==some .local)=true:=by kernel_rfl)
  (free:scope.names.all (fun y=>y.2 != .free||(X.env.scope.names.lookup y.1==some .cell||X.env.scope.names.lookup y.1==some .free))=true:=by kernel_rfl)
  (len:N.length=ix.length:=by kernel_rfl)
  (hix:(N.zip ix).all (fun p=>match p.2 with
   |none=>true
   |some i=>X.N[i]?==some p.1&&scope.names.any (fun y=>y.1==p.1&&y.2== .free)&&(sc.names.lookup p.1==some .cell||sc.names.lookup p.1==some .free))=true:=by kernel_rfl)
  (has:sc.names.all (fun y=>(y.2 != .cell&&y.2 != .free)||(scope.names.any (fun z=>z.1==y.1&&z.2== .free)||ow.contains y.1))=true:=by kernel_rfl):yH X scope sc N ix ow:=by
 have mem:∀(k:NameKind) (x:Str),scope.names.any (fun y=>y.1==x&&y.2==k)=true->(x,k)∈scope.names:=fun k x h=>by
  obtain⟨y,hy,e⟩:=List.any_eq_true.mp h;rw[Bool.and_eq_true]at e;obtain⟨a,b⟩:=y;have e1:a=x:=eq_of_beq e.1;have e2:b=k:=eq_of_beq e.2;subst e1;subst e2;exact hy
 refine⟨sc',kind,fun x=>⟨fun hx=>?_,fun hx=>?_⟩,fun x hx=>?_,fun x hx e=>?_,fun y hy e=>?_,len,fun j x i h1 h2=>?_,fun x hx=>?_⟩
 ·have:=List.all_eq_true.mp own1 _ hx;simpa using this
 ·have hm:x∈ow:=by simpa using hx
  exact mem .cell x (List.all_eq_true.mp Zv x hm)
 ·have:=List.all_eq_true.mp apart _ hx;simpa using this
 ·have:=List.all_eq_true.mp names x hx;rw[e]at this;simpa using this
 ·have:=List.all_eq_true.mp free y hy;rw[e]at this;simpa[Env.kindOf]using this
 ·have hm:(x,some i)∈N.zip ix:=by
   have:(N.zip ix)[j]?=some (x,some i):=by
    rw[List.getElem?_zip_eq_some];exact⟨h1,h2⟩
   exact List.mem_of_getElem? this
  have:=List.all_eq_true.mp hix _ hm;simp only[Bool.and_eq_true]at this;obtain⟨⟨a1,a2⟩,a3⟩:=this;refine⟨eq_of_beq a1,mem .free x a2,?_⟩;rw[Bool.or_eq_true]at a3;rcases a3 with z|z
  ·exact .inl (eq_of_beq z)
  ·exact .inr (eq_of_beq z)
 ·have hm:∃k,(x,k)∈sc.names/\(k = .cell∨k = .free):=by
   rcases hx with z|z
   ·exact⟨_,PySem.mem_of_lookup z,.inl rfl⟩
   ·exact⟨_,PySem.mem_of_lookup z,.inr rfl⟩
  obtain⟨k,hk,e⟩:=hm;have:=List.all_eq_true.mp has _ hk;rw[Bool.or_eq_true]at this;rcases this with z|z
  ·rcases e with e|e<;>(subst e;simp at z)
  ·rw[Bool.or_eq_true]at z;rcases z with z|z
   ·exact .inl (mem .free x z)
   ·exact .inr z
end L2
namespace Att
open PySem PySem.W PySem.Calls PyProof.Rows
theorem zx{ns:List Int}(h:WData.layableAll [WData.list (ns.map WData.int)]=true):∀x∈ns,Builtin.Int.intBits x<=1048576:=by
 intro x hx;obtain⟨h1,_,h3⟩:=layableW_iff.mp (layW_cons h).1;simp only[WData.canLay]at h1;simp only[WData.weight]at h3;have hm:WData.int x∈ns.map WData.int:=List.mem_map.mpr ⟨x,hx,rfl⟩;have hc:WData.canLayAll (ns.map WData.int)=true:=by simpa using h1
 obtain⟨_,_,c⟩:=items_part hm hc;have e:WData.weight (.int x)=Builtin.Int.intBits x:=rfl;rw[e]at c;have:(2:Nat)^20=1048576:=by decide
 omega
theorem xr{l:OpenLaw}{n:Nat}{q:Program}{loose:List Str}{XP:(Str->Option Value)->Heap->Prop}{YP:World->Heap->Prop}{d:DefRec}
  (hn:l.most=some n) (hdf:d.params.defaults=[])
  (call:∀(w:World) (s₀ s₁:Shared) (mg mb:Str->Option Value) (fa:Addr) (o:Obj) (pm cd doc:Value) (a:Addr) (vs:List Value) (ns:List Int),
   Ground q loose [] XP w s₀ mg mb s₁.heap->YP w s₁.heap->
   s₁.heap.get? fa=some o->o.data = .func (docDef d.name d.params d.body d.scope pm cd doc)->s₁.heap.CodeRec cd d.name->mg d.name=some (.ref fa)->
   s₁.heap.get? a=some { cls:= .type "list",data:= .seq vs.toArray }->IntsAre vs ns->ns.length<=n->(∀x∈ns,Builtin.Int.intBits x<=1048576)->s₁.gens=#[]->
   codeAny (model l.prog w) callerA (.call (.ref fa) ⟨[.ref a],[]⟩) (fun r s'=>r = .ok (.ret (.bool true))/\OldK s₁.heap s'.heap/\s'.os=s₁.os/\AllBare s'.gens) s₁):
  WalkO q loose XP YP l.row.toRowW d [] (fun f vs=>PySem.call f vs):=by
 intro w s₀ s₁ mg mb G Y fa o pm cd doc dV kV ho hd hcd hD hmg hg args vals as hpre hlay hrd hwl hlo;obtain rfl:dV = .none:=Dflts.none hD hdf;obtain rfl:kV = .none:=Dflts.noKw hD;obtain⟨a,vs,ns,rfl,rfl,hobj,hints,hlen⟩:=Ez hn hpre hwl;refine enter_call (codeAny_mono (call w s₀ s₁ mg mb fa o pm cd doc a vs ns G Y ho (fd_plain hd) hcd hmg hobj hints hlen (zx hlay) hg) fun r s' hq=>?_);obtain⟨rfl,h2,h3,h4⟩:=hq;exact⟨.inl ⟨.bool true,.bool true,[],rfl,fun _=>rfl,.bool true,Fv l _,fun _=>⟨List.Pairwise.nil,fun _ hm=>(nomatch hm)⟩⟩,h2,h3,h4⟩
end Att
namespace L2
open PySem PySem.Spec PyProof.Rows
theorem Jo{l:W.OpenLaw}{n k:Nat}{q:Program}{loose:List Str}{XP:(Str->Option Value)->Heap->Prop}{YP:World->Heap->Prop}{d:DefRec}{K:Params->W.Frag}{CX:World->CXT}{sp:World->Sp}{x:Str}
  (hn:l.most=some n) (hn2:n<=sizeLine) (hdf:d.params.defaults=[]) (hr:mR k callerA)
  (hY:∀(w:World) (h:Heap),YP w h->(K w.params).In h)
  (F:∀(w:World) (mg:Str->Option Value) (fa:Addr) (h:Heap),(K w.params).In h->h.Ns mainGlobals mg->mg d.name=some (.ref fa)->
   ∃fd:FuncData,(∀(s:Shared) (u:Value),BindsTo s fd ⟨[u],[]⟩ [(x,u)])/\
    ∀base:Heap,(K w.params).In base->base.Ns mainGlobals mg->G8 l.prog w (K w.params) mg base (CX w) k fa fd [x] (sp w))
  (hsp:∀(w:World) (H:Hp) (a:Addr) (ns:List Int),ns.length<=n->(∀x∈ns,Builtin.Int.intBits x<=1048576)->Only H->SqL (K w.params) H a (ns.map V.int)->sp w [.ref a] H (fun v _=>v = .bl true) fun _ _ _=>False)
  (hCX:∀(w:World) (H:Hp) (s:Shared) (e:Value) (s':Shared),CX w [] H s (fun _ _ _=>False) e s'->False):
  W.WalkO q loose XP YP l.row.toRowW d [] (fun f vs=>PySem.call f vs):=by
 refine Att.xr hn hdf fun w s₀ s₁ mg mb fa o pm cd doc a vs ns G Y ho hd hcd hmg hobj hints hlen SY hg=>?_;have KX:=hY w _ Y;obtain⟨fd,hb,hF⟩:=F w mg fa _ KX G.T.g hmg;exact Jl KX G.T.g G.T.b G.T.builtins G.T.nolimit G.T.nodigits hg hobj hints (Nat.le_trans hlen hn2) hr hF hb (fun H hO hS=>hsp w H a ns hlen SY hO hS) fun H e s'=>hCX w H s₁ e s'
section
variable {X:Cx}
end
def JT(base:Heap)(R:Addr)(j:Nat)(ts:Addr->TS)(D:Ends)(σ:St):XK:=fun cls _ H2=>∃C,cls = .ref C/\ExS base C R/\∀a,H2 a=none->
  ts a { nx:=fun σ' H'=>D.nx (σ'.set j none) H',rt:=D.rt,bk:=fun σ' H'=>D.bk (σ'.set j none) H',ct:=fun σ' H'=>D.ct (σ'.set j none) H' } (σ.set j (some (.ref a))) (upd H2 a (MF a C))
theorem El{X:Cx}{n x:Str}{j:Nat}{R:Addr}{xp hpos:Pos}{b₀:Stmt}{suite:List Stmt}{ts:Addr->TS}{pins:List (Addr×Obj)}{σ:St}{H H1:Hp}{s s1 s2:Shared}{D:Ends}{ev:Value}
  (Q7:X.stack=X.env::X.outer) (hfr:X.env.frame=some X.env.locals) (hex:X.ex=[]) (hN:X.N.Nodup)
  (hj:X.N[j]?=some n) (hn:X.env.scope.names.lookup n=some .local) (hx:Gl X x) (hR:X.mg x=some (.ref R)) (hs:∀a,PSs (cxS X a) (b₀::suite) (ts a))
  (hdx:(x==("__debug__" : Str))=false) (I:Inv X pins σ H s) (I1:Inv X pins σ H1 s1) (hq:qM X.prog X.w X.stack H1 s1 (JT X.base R j ts D σ) ev s2):
  wpAny (model X.prog X.w) X.A (noteFrame ev X.env) (fun _ s₂=>wpAny (model X.prog X.w) X.A (setFlight ev none) (fun _ s₃=>wpAny (model X.prog X.w) X.A (handleBy ev X.env [.ExceptHandler (some (.Name x xp)) (some n) (b₀::suite) hpos]) (SP X pins D) X.xe s₃) X.xe s₂) X.xe s2:=by
 have nx:∀b:Addr,b∉X.ex:=fun b=>by rw[hex];simp
 obtain⟨ea,Cc,a0,B,H2,rfl,os,bare,fl,hok,un,old,C',eC,S,q2⟩:=qM.ex hq;cases eC;rw[Q7]at fl;have Dl:frs X.stack=(X.env::X.outer).filterMap (·.frame):=by rw[Q7];rfl
 have oe:=fl.first;have newE:∀u,s1.heap.get? ea≠some u:=fun u z=>by
  rcases old ea u z with hb|⟨o',hb⟩
  ·rw[Dl]at hb;obtain⟨_,o,ho,hd⟩:=fl.2.2.1.mem hb;obtain⟨o2,vs2,e1,_,e2,_⟩:=oe;rw[e1]at ho;cases ho;exact hd _ e2
  ·rw[fl.2.1]at hb;cases hb
 have to:∀h6,Heap.FlyingW B (X.env::X.outer) ea (.ref Cc) a0 h6->s2.heap.UpToSlots h6->Inv X pins σ H2 { s2 with heap:=h6 }:=fun h6 fl6 up=>by
  refine I1.MR (ch:=[]) os ⟨fun b o e1 n1 hb _=>?_,fun b o e1 n1 hb _=>?_,fun b o e1 n1 _=>un.free b o e1 n1 (by simp),fun b o e1 _=>?_,un.tups,un.yE,un.Ak⟩ (hok.kept fl6.1) bare (fun _ z=>nomatch z)
  ·rcases old b o e1 with z|⟨o',z⟩
   ·exact absurd z hb
   ·have e2:=un.keep b o e1 n1 hb (by simp);have e3:=fl.1 b o' z;rw[e2]at e3;cases e3;exact fl6.1 b _ z
  ·obtain⟨sl,e2⟩:=un.slot b o e1 n1 hb (by simp);rw[Dl]at hb;obtain⟨_,o2,ho,hd⟩:=fl.2.2.1.mem hb;rw[e2]at ho;cases ho;obtain⟨sl',e3⟩:=up b _ e2 hd;exact⟨sl',e3⟩
  ·rcases old b o e1 with z|⟨o',z⟩
   ·rw[Dl]at z;obtain⟨_,o2,ho,hd⟩:=fl.2.2.1.mem z;obtain⟨sl',e3⟩:=up b _ ho hd;exact⟨_,e3⟩
   ·exact⟨o',fl6.1 b o' z⟩
 have Za:X.A.frames=some (X.env::X.outer):=by rw[I.ok.frames,Q7]
 refine wpAny_looks_onW Za hfr fl fun h4 UJ up4=>?_;refine wpAny_landsW UJ fun h5 fl5 up5=>?_;have I5:=to h5 fl5 (up4.trans up5);obtain⟨ob,hob,hobc⟩:=fl5.there;refine wpAny_handleBy_cons (codeAny_handlers_test (tV (X:=cxS X ea) (I5.suite ea) hx hR ?_ hdx)) (by intro z;cases z);refine uD S I5.bk hob hobc (codeAny_handlers_suite_as ?_);refine lands_againW fl5 fun h6 fl6 up6=>?_;have I6:=to h6 fl6 ((up4.trans up5).trans up6);obtain⟨oe6,vs6,e6,c6,d6,_⟩:=fl6.first;have hn2:H2 ea=none:=by
  cases z:H2 ea with
  |none=>rfl
  |some u=>
   exfalso
   obtain⟨o',z'⟩:=(hok ea u z).there;rw[fl.2.1]at z';cases z'
 have I7:Inv X pins σ (upd H2 ea (MF ea Cc)) { s2 with heap:=h6 }:=by
  refine I6.track hn2 (fun u z=>?_) (fun z=>?_) (fun y c e z=>?_) (fun p hp z=>?_) (Lx e6 c6 d6)
  ·obtain⟨o',e1⟩:=I1.base.there ea u z (nx ea);exact newE o' e1
  ·obtain⟨m,⟨o,_,_,ho,_⟩,_⟩:=I1.loc;exact newE o (by rw[z];exact ho)
  ·obtain⟨v',o,ho,_⟩:=I1.cell y c e;exact newE o (by rw[<-z];exact ho)
  ·exact newE p.2 (by rw[<-z];exact(I1.pin p hp).1)
 refine qT (X:=cxS X ea) (I7.suite ea) hN hj (.inl hn) (show RelV (.ref ea) (Value.ref ea)from rfl) (fun s8 I8=>?_) (.inr hn);have q3:=q2 ea hn2;have gone:∀{σ9:St} {H9:Hp} {s9:Shared} {Q':Unit->Shared->Prop},Inv (cxS X ea) pins σ9 H9 s9->(∀s10,Inv X pins (σ9.set j none) H9 s10->Q' () s10)->wpAny (model X.prog X.w) X.A (do bindName X.env n .none;unbindBehindTheSuite X.env n hpos) Q' X.xe s9:=
  fun {σ9 H9 s9 Q'} I9 k=>by
   have I9':Inv X pins σ9 H9 s9:=I9.Ma I.ok;obtain⟨m,hm9,_⟩:=id I9'.loc;exact wpAny_nameGoes_keeps hn hm9 (by rw[I.ok.kind];rfl) fun h' v' n' sb=>k _ (I9'.unset hN hj hm9 n' sb)
 refine wpAny_mono (hs ea pins s8 _ _ _ I8 q3) (fun fl9 s9 q9=>?_) fun _ _ z=>z.elim;cases fl9 with
 |next=>
  obtain⟨σ9,H9,I9,q9⟩:=q9;exact gone I9 fun s10 I10=>⟨_,H9,I10,q9⟩
 |brk=>
  obtain⟨σ9,H9,I9,q9⟩:=q9;exact gone I9 fun s10 I10=>⟨_,H9,I10,q9⟩
 |cont=>
  obtain⟨σ9,H9,I9,q9⟩:=q9;exact gone I9 fun s10 I10=>⟨_,H9,I10,q9⟩
 |ret u=>
  obtain⟨y,σ9,H9,I9,r9,q9⟩:=q9;exact gone I9 fun s10 I10=>⟨y,_,H9,I10,r9,q9⟩
def HZ(base:Heap)(R:Addr)(sp:Sp)(j:Nat)(t:TA)(ts:Addr->TS):TS:=fun D σ H=>t σ H fun vs H1=>sp vs H1 (fun _ H2=>D.nx σ H2) (JT base R j ts D σ)
theorem Cm{X:Cx}{n x f:Str}{j k k':Nat}{ps:List Str}{sp:Sp}{R:Addr}{fp cpos epos xp hpos pos:Pos}{e:Expr}{es:List Expr}{b₀:Stmt}{suite:List Stmt}{t:TA}{ts:Addr->TS}
  (C:Cal X.prog X.w X.K X.mg X.base f k ps sp) (hr:mR k' X.A) (Q7:X.stack=X.env::X.outer) (hfr:X.env.frame=some X.env.locals) (hex:X.ex=[]) (hg:Gl X f) (ha:PA X.nox (e::es) t) (hN:X.N.Nodup)
  (hj:X.N[j]?=some n) (hn:X.env.scope.names.lookup n=some .local) (hx:Gl X x) (hR:X.mg x=some (.ref R)) (hs:∀a,PSs (cxS X a) (b₀::suite) (ts a)) (hk:k<=k':=by decide)
  (hdf:(f==("__debug__" : Str))=false:=by decide) (hdx:(x==("__debug__" : Str))=false:=by decide)
  (he:starEach (e::es) X.env=(false,eval e X.env)::starEach es X.env:=by rfl) (hpl:(backTo cpos (starEach es X.env)).any (·.1)=false:=by rfl)
  (hsw:swapsWith (.Call (.Name f fp) (e::es) [] cpos) none epos.line X.env=pure false:=by rfl):
  PS X (.Try [.Expr (.Call (.Name f fp) (e::es) [] cpos) epos] [.ExceptHandler (some (.Name x xp)) (some n) (b₀::suite) hpos] [] [] pos) (HZ X.base R sp j t ts):=by
 intro pins s σ H D I h;obtain⟨gf,gd,hm,hkp,hb,F⟩:=C.ex;refine wpAny_Try_except (wpAny_execs_cons (wpAny_Expr_any (wpAny_Call_Name_kw (tV I hg hm ?_ hdf)) I.quiet hsw));refine W.callWith_K (h₀:=X.base) I.ok.mod.kin hkp (wpAny_mono (ha cpos pins s σ H _ (I.wish _) h) (fun us s1 ⟨vs,H1,I1',r,q⟩=>⟨I1'.kIn,?_⟩) fun _ _ z=>z.elim) he hpl;have I1:Inv X pins σ H1 s1:=I1'.n6;have hl:(us++[]).length=ps.length:=by
  rw[List.append_nil,<-r.length];exact F.len _ _ _ _ q
 refine wpAny_call (codeAny_mono (F.run X.A X.stack s1 H1 ⟨us,[]⟩ (us++[]) vs _ _ (hr.mono hk) I1.env0 (hb s1 us I1.kIn hl) (by rw[List.append_nil];exact r) q) fun rs s2 hq=>?_);cases rs with
 |ok fl=>
  cases fl with
  |ret u=>
   obtain⟨y,H2,I2,ry,q2⟩:=I1.after hq;exact wpAny_execs_nil (wpAny_execs_nil ⟨_,H2,I2,q2⟩)
  |next=>exact False.elim hq
  |brk=>exact False.elim hq
  |cont=>exact False.elim hq
 |error ev=>exact El Q7 hfr hex hN hj hn hx hR hs hdx I I1 hq
end L2
namespace Rm
def tk(b n:Int):Int:=if b=0 then n else n%b
theorem aW(n:Int):tk 0 n=n:=if_pos rfl
theorem fu{b:Int}(h:b≠0)(n:Int):tk b n=n%b:=if_neg h
theorem jO(b n:Int):tk b (tk b n)=tk b n:=by
 unfold tk;split
 ·rfl
 ·exact Int.emod_emod_of_dvd _ (Int.dvd_refl b)
theorem cC(b x y:Int):tk b (tk b x+y)=tk b (x+y):=by
 unfold tk;split
 ·rfl
 ·exact Int.emod_add_emod ..
theorem gZ(b x y:Int):tk b (x+tk b y)=tk b (x+y):=by
 rw[Int.add_comm,cC,Int.add_comm]
theorem aZ(b x y:Int):tk b (x*tk b y)=tk b (x*y):=by
 unfold tk;split
 ·rfl
 ·rw[Int.mul_emod,Int.emod_emod_of_dvd _ (Int.dvd_refl b),<-Int.mul_emod]
theorem cH(b x y:Int):tk b (tk b x*y)=tk b (x*y):=by
 rw[Int.mul_comm,aZ,Int.mul_comm]
theorem aR{b x x' y y':Int}(h:tk b x=tk b x')(h':tk b y=tk b y'):tk b (x+y)=tk b (x'+y'):=by
 rw[<-cC,<-gZ,h,h',gZ,cC]
def S(rule:List Int)(f:Nat->Int)(n:Nat):Nat->Int
 |0=>0
 |m+1=>S rule f n m+rule.getD m 0*f (n-1-m)
theorem Al{rule:List Int}{f g:Nat->Int}{n:Nat}:∀{m:Nat},(∀k,k<m->f (n-1-k)=g (n-1-k))->S rule f n m=S rule g n m
 |0,_=>rfl
 |m+1,h=>by
  unfold S;rw[Al fun k hk=>h k (by omega),h m (by omega)]
theorem getD_map{f:Int->Int}(h0:f 0=0):∀(l:List Int) (k:Nat),(l.map f).getD k 0=f (l.getD k 0)
 |[],k=>by simp[h0]
 |x::r,0=>by simp
 |x::r,k+1=>by
  have:=getD_map h0 r k;simpa using this
theorem Qa(p:Int){rule:List Int}{f:Nat->Int}{n:Nat}:∀m:Nat,tk p (S (rule.map (tk p)) (fun i=>tk p (f i)) n m)=tk p (S rule f n m)
 |0=>rfl
 |m+1=>by
  unfold S;refine aR (Qa p m) ?_;rw[getD_map (by unfold tk;split<;>simp),aZ,cH]
def row(b:Int)(rule starts:List Int):Nat->List Int
 |0=>[]
 |n+1=>row b rule starts n++[if n<starts.length then starts.getD n 0 else tk b (S rule (fun i=>(row b rule starts n).getD i 0) n rule.length)]
theorem dU(b:Int)(rule starts:List Int):∀n,(row b rule starts n).length=n
 |0=>rfl
 |n+1=>by simp[row,dU b rule starts n]
def at_(b:Int)(rule starts:List Int)(n:Nat):Int:=(row b rule starts (n+1)).getD n 0
theorem vO(b:Int)(rule starts:List Int):∀{n i:Nat},i<n->(row b rule starts n).getD i 0=at_ b rule starts i
 |n+1,i,h=>by
  by_cases e:i=n
  ·subst e;rfl
  ·have hi:i<n:=by omega
   have hl:=dU b rule starts n;have:=vO b rule starts (n:=n) (i:=i) hi;rw[<-this];show(row b rule starts n++_).getD i 0=_;rw[List.getD_eq_getElem?_getD,List.getElem?_append_left (by omega),<-List.getD_eq_getElem?_getD]
theorem Bf(b:Int)(rule starts:List Int)(n:Nat):at_ b rule starts n=if n<starts.length then starts.getD n 0 else tk b (S rule (fun i=>(row b rule starts n).getD i 0) n rule.length):=by
 unfold at_;have hl:=dU b rule starts n;show(row b rule starts n++_).getD n 0=_;rw[List.getD_eq_getElem?_getD,List.getElem?_append_right (by omega),hl];simp
theorem tX{b:Int}{rule starts:List Int}{n:Nat}(h:n<starts.length):at_ b rule starts n=starts.getD n 0:=by
 rw[Bf,if_pos h]
theorem uw{b:Int}{rule starts:List Int}{n:Nat}(hl:rule.length=starts.length)(h:starts.length<=n):at_ b rule starts n=tk b (S rule (at_ b rule starts) n rule.length):=by
 rw[Bf,if_neg (by omega)];congr 1;refine Al fun k hk=>vO b rule starts (by omega)
theorem FZ(b:Int)(rule starts:List Int):∀n,row b rule starts n=(List.range n).map (at_ b rule starts)
 |0=>rfl
 |n+1=>by
  rw[List.range_succ,List.map_append,<-FZ b rule starts n];show _++[_]=_++[at_ b rule starts n];rw[Bf]
theorem IX(b:Int)(rule starts:List Int)(n:Nat):row b rule starts (n+1)=row b rule starts n++[at_ b rule starts n]:=by
 rw[Bf];rfl
theorem vU{b:Int}{rule starts:List Int}(hl:rule.length=starts.length){g:Nat->Int}(h1:∀i,i<starts.length->g i=starts.getD i 0)
  (h2:∀i,starts.length<=i->g i=tk b (S rule g i rule.length)):∀n,at_ b rule starts n=g n:=by
 intro n;induction n using Nat.strongRecOn with
 |ind n ih=>
  by_cases h:n<starts.length
  ·rw[tX h,h1 n h]
  ·rw[uw hl (by omega),h2 n (by omega)];congr 1;exact Al fun k hk=>ih _ (by omega)
theorem jM{b:Int}{rule starts:List Int}:∀{n:Nat},n<=starts.length->row b rule starts n=starts.take n
 |0,_=>by simp[row]
 |n+1,h=>by
  rw[IX,jM (by omega),tX (by omega),List.take_add_one,List.getD_eq_getElem?_getD,List.getElem?_eq_getElem (by omega)];rfl
theorem Ra{p:Int}{rule starts:List Int}(hp:p≠0)(hl:rule.length=starts.length)(n:Nat):at_ p (rule.map (tk p)) (starts.map (tk p)) n=tk p (at_ 0 rule starts n):=by
 refine vU (by simpa using hl) (g:=fun i=>tk p (at_ 0 rule starts i)) (fun i hi=>?_) (fun i hi=>?_) n
 ·rw[tX (by simpa using hi),getD_map (by unfold tk;split<;>simp)]
 ·rw[List.length_map]at hi;show tk p (at_ 0 rule starts i)=_;rw[uw hl hi,aW,List.length_map];exact(Qa p _).symm
def Bd(n:Nat)(x:Int):Prop:=x.natAbs<2^n
theorem Bd.mono{m n:Nat}{x:Int}(h:Bd m x)(hmn:m<=n):Bd n x:=Nat.lt_of_lt_of_le h (Nat.pow_le_pow_right (by decide) hmn)
theorem Bd.mul{m n:Nat}{x y:Int}(h:Bd m x)(h':Bd n y):Bd (m+n) (x*y):=by
 unfold Bd at *;rw[Int.natAbs_mul,Nat.pow_add];exact Nat.mul_lt_mul'' h h'
theorem Bd.add{n:Nat}{x y:Int}(h:Bd n x)(h':Bd n y):Bd (n+1) (x+y):=by
 unfold Bd at *;have:=Int.natAbs_add_le x y;rw[Nat.pow_succ];omega
theorem Bd.zero(n:Nat):Bd n 0:=Nat.pow_pos (by decide)
theorem Bd.of{n:Nat}{x:Int}(h1:-(2^n)<x)(h2:x<2^n):Bd n x:=by
 unfold Bd;have e:((2^n:Nat):Int)=(2:Int)^n:=by simp
 omega
theorem Bd.emod{n:Nat}{x b:Int}(hb:0<b)(h:Bd n b):Bd n (x%b):=by
 unfold Bd at *;have:=Int.emod_nonneg x (show b≠0 by omega);have:=Int.emod_lt_of_pos x hb;omega
theorem Bd.S{rule:List Int}{f:Nat->Int}{n a c:Nat}(hr:∀k,Bd a (rule.getD k 0)):∀m:Nat,(∀k,k<m->Bd c (f (n-1-k)))->Bd (a+c+m) (Rm.S rule f n m)
 |0,_=>Bd.zero _
 |m+1,h=>by
  unfold Rm.S;refine Bd.add (n:=a+c+m) (Bd.S hr m fun k hk=>h k (by omega)) (((hr m).mul (h m (by omega))).mono (by omega))
theorem Ac(l:List Int)(k:Nat):l.getD k 0=0∨l.getD k 0∈l:=by
 by_cases h:k<l.length
 ·right;rw[List.getD_eq_getElem?_getD,List.getElem?_eq_getElem h];exact List.getElem_mem h
 ·left;rw[List.getD_eq_getElem?_getD,List.getElem?_eq_none (by omega)];rfl
theorem Bd.getD{l:List Int}{n:Nat}(h:∀x∈l,Bd n x)(k:Nat):Bd n (l.getD k 0):=by
 rcases Ac l k with e|e
 ·rw[e];exact .zero n
 ·exact h _ e
theorem xO{b x:Int}{n:Nat}(hb:0<=b)(hb':Bd n b)(h:Bd n x):Bd n (tk b x):=by
 unfold tk;split
 ·exact h
 ·exact Bd.emod (by omega) hb'
theorem Gh{b:Int}{rule starts:List Int}{a c:Nat}(hl:rule.length=starts.length)(hb:0<=b)(hb':Bd c b)(hr:∀x∈rule,Bd a x)(hs:∀x∈starts,Bd c x):
  ∀n,Bd (c+n*(a+rule.length)) (at_ b rule starts n):=by
 intro n;induction n using Nat.strongRecOn with
 |ind n ih=>
  by_cases h:n<starts.length
  ·rw[tX h];exact(Bd.getD hs n).mono (by omega)
  ·rw[uw hl (by omega)];by_cases h0:rule.length=0
   ·rw[h0];exact xO hb (hb'.mono (by omega)) (.zero _)
   ·have hn:0<n:=by omega
    have q:=Bd.S (rule:=rule) (f:=at_ b rule starts) (n:=n) (a:=a) (c:=c+(n-1)*(a+rule.length)) (fun k=>Bd.getD hr k) rule.length fun k hk=>by
     refine(ih (n-1-k) (by omega)).mono ?_;have:(n-1-k)*(a+rule.length)<=(n-1)*(a+rule.length):=Nat.mul_le_mul_right _ (by omega);omega
    have e:n*(a+rule.length)=(n-1)*(a+rule.length)+(a+rule.length):=by
     obtain⟨m,rfl⟩:∃m,n=m+1:=⟨n-1,by omega⟩;rw[Nat.add_sub_cancel,Nat.succ_mul]
    exact xO hb (hb'.mono (by omega)) (q.mono (by omega))
theorem Bp{b:Int}{rule starts:List Int}(hl:rule.length=starts.length)(hb:0<b)(hs:∀x∈starts,0<=x/\x<b)(n:Nat):0<=at_ b rule starts n/\at_ b rule starts n<b:=by
 by_cases h:n<starts.length
 ·rw[tX h,List.getD_eq_getElem?_getD,List.getElem?_eq_getElem h];exact hs _ (List.getElem_mem h)
 ·rw[uw hl (by omega),fu (by omega)];exact⟨Int.emod_nonneg _ (by omega),Int.emod_lt_of_pos _ hb⟩
end Rm
namespace Om
def iM:List Nat:=[2,3,5,7,11,13,17,19,23,29,31,37,41,43,47,53,59,61,67,71,73,79,83,89,97,101,103,107,109,113,127,131,137,139,149,151,157,163,167,173,179,181,191,193,197,199,211,223,227,229,233,239,241,251,257,263,269,271,277,281,283,293,307,311,313,317,331,337,347,349,353,359,367,373,379,383,389,397,401,409,419,421,431,433,439,443,449,457,461,463,467,479,487,491,499,503,509,521,523,541,547,557,563,569,571,577,587,593,599,601,607,613,617,619,631,641,643,647,653,659,661,673,677,683,691,701,709,719,727,733,739,743,751,757,761,769,773,787,797,809,811,821,823,827,829,839,853,857,859,863,877,881,883,887,907,911,919,929,937,941,947,953,967,971,977,983,991,997]
def chk(p:Nat):Nat->Bool
 |0=>true
 |a+1=>(Nat.beq a 0||Nat.beq ((Nat.pow a (p-1))%p) 1)&&chk p a
set_option maxRecDepth 100000 in
theorem Cq:(iM.all fun p=>chk p p)=true:=by decide +kernel
theorem JL{p:Nat}:∀{n:Nat},chk p n=true->∀a,a<n->a≠0->a^(p-1)%p=1
 |n+1,h,a,ha,h0=>by
  unfold chk at h;rw[Bool.and_eq_true]at h;by_cases e:a=n
  ·subst e;have h1:=h.1;rw[Bool.or_eq_true]at h1;rcases h1 with h1|h1
   ·exact absurd (Nat.eq_of_beq_eq_true h1) h0
   ·exact Nat.eq_of_beq_eq_true h1
  ·exact JL h.2 a (by omega) h0
theorem Lf{p a:Nat}(hp:p∈iM)(h0:a≠0)(h:a<p):a^(p-1)%p=1:=
 JL (List.all_eq_true.mp Cq p hp) a h h0
theorem tO{p a:Int}{P:Nat}(hP:p=(P:Int))(hp:P∈iM)(h0:0<a)(h:a<p):a^(P-1)%p=1:=by
 obtain⟨n,rfl⟩:∃n:Nat,a=(n:Int):=⟨a.toNat,by omega⟩;subst hP;have:=Lf hp (a:=n) (by omega) (by omega);have e:((n:Int)^(P-1))=((n^(P-1):Nat):Int):=by simp
 rw[e,<-Int.natCast_emod,this];rfl
theorem mod_mul{x y x' y' p:Int}(h:x%p=x'%p)(h':y%p=y'%p):(x*y)%p=(x'*y')%p:=by
 rw[Int.mul_emod,h,h',<-Int.mul_emod]
theorem zE{x x' p:Int}(h:x%p=x'%p):∀n:Nat,(x^n)%p=(x'^n)%p
 |0=>by simp
 |n+1=>by rw[Int.pow_succ,Int.pow_succ];exact mod_mul (zE h n) h
def Keeps(p a:Int)(e:Nat)(power square:Int)(left:Nat):Prop:=(power*square^left)%p=(a^e)%p
theorem zc(p a:Int)(e:Nat):Keeps p a e 1 a e:=by unfold Keeps;rw[Int.one_mul]
theorem ni(x:Int):∀n:Nat,(x*x)^n=x^(2*n)
 |0=>by simp
 |n+1=>by
  rw[Int.pow_succ,ni x n,show 2*(n+1)=2*n+1+1 by omega,Int.pow_succ,Int.pow_succ,Int.mul_assoc]
theorem C6{p a:Int}{e:Nat}{power square:Int}{left:Nat}(h:Keeps p a e power square left)(ho:left%2=1):Keeps p a e (power*square%p) (square*square%p) (left/2):=by
 unfold Keeps at *;have h1:(power*square%p)%p=(power*square)%p:=Int.emod_emod_of_dvd _ (Int.dvd_refl p);have h2:=zE (p:=p) (x:=square*square%p) (x':=square*square) (Int.emod_emod_of_dvd _ (Int.dvd_refl p)) (left/2);rw[mod_mul h1 h2,<-h,ni,Int.mul_assoc];have e2:left=2*(left/2)+1:=by omega
 conv=>rhs;rw[e2,Int.pow_succ]
 rw[Int.mul_comm square]
theorem Ck{p a:Int}{e:Nat}{power square:Int}{left:Nat}(h:Keeps p a e power square left)(ho:¬left%2=1):Keeps p a e power (square*square%p) (left/2):=by
 unfold Keeps at *;have h2:=zE (p:=p) (x:=square*square%p) (x':=square*square) (Int.emod_emod_of_dvd _ (Int.dvd_refl p)) (left/2);rw[mod_mul rfl h2,<-h,ni];have e2:left=2*(left/2):=by omega
 conv=>rhs;rw[e2]
theorem Ei{p a:Int}{e:Nat}{power square:Int}(h:Keeps p a e power square 0):power%p=a^e%p:=by
 unfold Keeps at h
 rwa [Int.pow_zero,Int.mul_one]at h
end Om
namespace Pm
open Rm
def sm:Nat->(Nat->Int)->Int
 |0,_=>0
 |n+1,f=>sm n f+f n
theorem au{f g:Nat->Int}:∀{n:Nat},(∀k,k<n->f k=g k)->sm n f=sm n g
 |0,_=>rfl
 |n+1,h=>by rw[sm,sm,au fun k hk=>h k (by omega),h n (by omega)]
theorem fM:∀n:Nat,sm n (fun _=>0)=0
 |0=>rfl
 |n+1=>by rw[sm,fM n];rfl
theorem iH{f:Nat->Int}{n:Nat}(h:∀k,k<n->f k=0):sm n f=0:=by rw[au h,fM]
theorem dw(f:Nat->Int):∀n:Nat,sm (n+1) f=f 0+sm n (fun i=>f (i+1))
 |0=>by simp[sm]
 |n+1=>by
  rw[sm,dw f n,sm,Int.add_assoc]
theorem cP(f g:Nat->Int):∀n:Nat,sm n (fun k=>f k+g k)=sm n f+sm n g
 |0=>rfl
 |n+1=>by rw[sm,sm,sm,cP f g n];omega
theorem bf(c:Int)(f:Nat->Int):∀n:Nat,sm n (fun k=>c*f k)=c*sm n f
 |0=>by simp[sm]
 |n+1=>by rw[sm,sm,bf c f n,Int.mul_add]
theorem fU{f:Nat->Int}{m:Nat}:∀{n:Nat},m<=n->(∀k,m<=k->k<n->f k=0)->sm n f=sm m f
 |0,h,_=>by rw[show m=0 by omega]
 |n+1,h,h0=>by
  by_cases e:m=n+1
  ·rw[e]
  ·rw[sm,fU (n:=n) (by omega) (fun k h1 h2=>h0 k h1 (by omega)),h0 n (by omega) (by omega),Int.add_zero]
theorem tk0(b:Int):tk b 0=0:=by unfold tk;split<;>simp
theorem jq{b:Int}{f g:Nat->Int}:∀{n:Nat},(∀k,k<n->tk b (f k)=tk b (g k))->tk b (sm n f)=tk b (sm n g)
 |0,_=>rfl
 |n+1,h=>by
  rw[sm,sm];exact aR (jq fun k hk=>h k (by omega)) (h n (by omega))
theorem vg(f:Nat->Int):∀n:Nat,((List.range n).map f).sum=sm n f
 |0=>rfl
 |n+1=>by rw[List.range_succ,List.map_append,List.sum_append,vg f n];simp[sm]
def cv:(Nat->Int)->(Nat->Int)->Nat->Int
 |f,g,0=>f 0*g 0
 |f,g,k+1=>f 0*g (k+1)+cv (fun i=>f (i+1)) g k
theorem gO:∀(f g:Nat->Int) (k:Nat),cv f g k=sm (k+1) (fun j=>f j*g (k-j))
 |f,g,0=>by simp[cv,sm]
 |f,g,k+1=>by
  rw[cv,gO _ g k,dw (fun j=>f j*g (k+1-j))];refine congrArg (_ + ·) (au fun j hj=>?_);rw[show k+1-(j+1)=k-j by omega]
theorem Ah:∀(f g:Nat->Int) (k:Nat),cv f g (k+1)=cv f (fun i=>g (i+1)) k+f (k+1)*g 0
 |f,g,0=>rfl
 |f,g,k+1=>by
  rw[cv,Ah (fun i=>f (i+1)) g k,cv,Int.add_assoc]
theorem d8:∀(f g:Nat->Int) (k:Nat),cv f g k=cv g f k
 |f,g,0=>Int.mul_comm _ _
 |f,g,k+1=>by
  rw[cv,Ah,d8 (fun i=>f (i+1)) g k,Int.add_comm,Int.mul_comm]
theorem fQ{f f' g g':Nat->Int}{k:Nat}(h:∀i,i<=k->f i=f' i)(h':∀i,i<=k->g i=g' i):cv f g k=cv f' g' k:=by
 rw[gO,gO];exact au fun j hj=>by rw[h j (by omega),h' _ (by omega)]
theorem iY{b:Int}{f f' g g':Nat->Int}{k:Nat}(h:∀i,i<=k->tk b (f i)=tk b (f' i))(h':∀i,i<=k->tk b (g i)=tk b (g' i)):tk b (cv f g k)=tk b (cv f' g' k):=by
 rw[gO,gO];exact jq fun j hj=>by rw[<-cH,<-aZ,h j (by omega),h' _ (by omega),aZ,cH]
theorem fV(f f' g:Nat->Int)(k:Nat):cv (fun i=>f i+f' i) g k=cv f g k+cv f' g k:=by
 rw[gO,gO,gO,<-cP];exact au fun j _=>Int.add_mul ..
theorem zZ(f g g':Nat->Int)(k:Nat):cv f (fun i=>g i+g' i) k=cv f g k+cv f g' k:=by
 rw[d8,fV,d8,d8 g']
theorem gw(c:Int)(f g:Nat->Int)(k:Nat):cv (fun i=>c*f i) g k=c*cv f g k:=by
 rw[gO,gO,<-bf];exact au fun j _=>Int.mul_assoc ..
theorem bG:∀(f g h:Nat->Int) (k:Nat),cv (cv f g) h k=cv f (cv g h) k
 |f,g,h,0=>by simp[cv,Int.mul_assoc]
 |f,g,h,k+1=>by
  have e:(fun i=>cv f g (i+1))=fun i=>f 0*(fun i=>g (i+1)) i+cv (fun i=>f (i+1)) g i:=rfl;rw[cv,e,fV (fun i=>f 0*(fun i=>g (i+1)) i),gw,bG (fun i=>f (i+1)) g h k,cv,cv,cv];rw[Int.mul_add,Int.mul_assoc];omega
theorem fR{f g:Nat->Int}{k:Nat}(h:∀i,i<=k->f i=0∨g (k-i)=0):cv f g k=0:=by
 rw[gO];exact iH fun j hj=>by rcases h j (by omega)with e|e<;>rw[e]<;>simp
def co(p:List Int)(k:Nat):Int:=p.getD k 0
theorem dY(k:Nat):co [] k=0:=by simp[co]
theorem cU(x:Int)(r:List Int):co (x::r) 0=x:=by simp[co]
theorem jk(x:Int)(r:List Int)(k:Nat):co (x::r) (k+1)=co r k:=by simp[co]
theorem bD{p:List Int}{k:Nat}(h:p.length<=k):co p k=0:=by
 rw[co,List.getD_eq_getElem?_getD,List.getElem?_eq_none h];rfl
theorem ux{p:List Int}{k:Nat}(h:k<p.length):co p k=p[k]:=by
 rw[co,List.getD_eq_getElem?_getD,List.getElem?_eq_getElem h];rfl
theorem yu{p:List Int}{k:Nat}(h:k<p.length):co p k∈p:=by rw[ux h];exact List.getElem_mem h
def ofF(n:Nat)(f:Nat->Int):List Int:=(List.range n).map f
theorem aP(n:Nat)(f:Nat->Int):(ofF n f).length=n:=by simp[ofF]
theorem bV(n:Nat)(f:Nat->Int)(k:Nat):co (ofF n f) k=if k<n then f k else 0:=by
 by_cases h:k<n
 ·rw[if_pos h,co,ofF,List.getD_eq_getElem?_getD,List.getElem?_map,List.getElem?_range h];rfl
 ·rw[if_neg h,bD (by rw[aP];omega)]
theorem Bo(n:Nat)(f:Nat->Int):ofF (n+1) f=ofF n f++[f n]:=by
 rw[ofF,List.range_succ,List.map_append];rfl
theorem JQ(p:List Int):ofF p.length (co p)=p:=by
 apply List.ext_getElem (by rw[aP]);intro i h1 h2;simp only[ofF,List.getElem_map,List.getElem_range];exact ux h2
theorem oA{p q:List Int}(hl:p.length=q.length)(h:∀k,co p k=co q k):p=q:=by
 rw[<-JQ p,<-JQ q,hl];exact List.map_congr_left fun k _=>h k
theorem sS(p:List Int)(i:Nat)(x:Int)(k:Nat)(hi:i<p.length):co (p.set i x) k=if k=i then x else co p k:=by
 unfold co;rw[List.getD_eq_getElem?_getD,List.getElem?_set,List.getD_eq_getElem?_getD];by_cases e:i=k
 ·subst e;simp[hi]
 ·rw[if_neg e,if_neg (fun z=>e z.symm)]
theorem qG{f:Int->Int}(h:f 0=0)(p:List Int)(k:Nat):co (p.map f) k=f (co p k):=getD_map h p k
theorem bZ(p q:List Int)(k:Nat):co (p++q) k=if k<p.length then co p k else co q (k-p.length):=by
 unfold co;by_cases h:k<p.length
 ·rw[if_pos h,List.getD_eq_getElem?_getD,List.getElem?_append_left h,<-List.getD_eq_getElem?_getD]
 ·rw[if_neg h,List.getD_eq_getElem?_getD,List.getElem?_append_right (by omega),<-List.getD_eq_getElem?_getD]
def trim:List Int->List Int
 |[]=>[]
 |x::r=>if x=0/\trim r=[]then[]else x::trim r
theorem jo:∀(p:List Int) (k:Nat),co (trim p) k=co p k
 |[],k=>rfl
 |x::r,k=>by
  rw[trim];have ih:=jo r;by_cases h:x=0/\trim r=[]
  ·rw[if_pos h];rw[h.2]at ih;cases k with
   |zero=>rw[dY,cU,h.1]
   |succ k=>rw[jk,<-ih k,dY,dY]
  ·rw[if_neg h];cases k with
   |zero=>rw[cU,cU]
   |succ k=>rw[jk,jk,ih k]
theorem qP{p:List Int}:trim p=[]↔∀k,co p k=0:=by
 constructor
 ·intro h k;rw[<-jo,h,dY]
 ·intro h;induction p with
  |nil=>rfl
  |cons x r ih=>
   rw[trim,if_pos ⟨by have:=h 0;rwa [cU]at this,ih fun k=>by have:=h (k+1);rwa [jk]at this⟩]
theorem qQ:∀{p q:List Int},(∀k,co p k=co q k)->trim p=trim q
 |[],q,h=>by rw[show trim q=[]from qP.mpr fun k=>by rw[<-h k,dY]];rfl
 |x::r,[],h=>by rw[show trim (x::r)=[]from qP.mpr fun k=>by rw[h k,dY]];rfl
 |x::r,y::s,h=>by
  have e1:=h 0;rw[cU,cU]at e1;have e2:trim r=trim s:=qQ fun k=>by have:=h (k+1);rwa [jk,jk]at this
  rw[trim,trim,e1,e2]
theorem Gz(p:List Int):trim (trim p)=trim p:=qQ (jo p)
theorem eX:∀p:List Int,(trim p).length<=p.length
 |[]=>Nat.le_refl _
 |x::r=>by
  have:=eX r;rw[trim];split
  ·simp
  ·simp;omega
theorem sG:∀{p:List Int} {n:Nat},(∀k,n<=k->co p k=0)->(trim p).length<=n
 |[],n,_=>Nat.zero_le _
 |x::r,0,h=>by rw[qP.mpr fun k=>h k (Nat.zero_le _)];exact Nat.le_refl 0
 |x::r,n+1,h=>by
  have:=sG (p:=r) (n:=n) fun k hk=>by have:=h (k+1) (by omega);rwa [jk]at this
  rw[trim];split
  ·simp
  ·simp;omega
theorem wX(p:List Int):trim (p++[0])=trim p:=qQ fun k=>by
 rw[bZ];by_cases h:k<p.length
 ·rw[if_pos h]
 ·rw[if_neg h,bD (p:=p) (by omega)];cases k-p.length with
  |zero=>rfl
  |succ j=>rw[jk,dY]
theorem qW:∀(p:List Int) {x:Int},x≠0->trim (p++[x])=p++[x]
 |[],x,h=>by simp[trim,h]
 |y::r,x,h=>by
  show trim (y::(r++[x]))=_;rw[trim,qW r h,if_neg (by simp)];rfl
theorem AK{p:List Int}{x:Int}(h:x∈trim p):x∈p:=by
 induction p with
 |nil=>exact h
 |cons y r ih=>
  rw[trim]at h;split at h
  ·cases h
  ·rcases List.mem_cons.mp h with rfl|h
   ·exact List.mem_cons_self
   ·exact List.mem_cons_of_mem _ (ih h)
structure Py(b:Int)(p:List Int):Prop where
 tr:trim p=p
 nu:∀x∈p,tk b x=x
theorem Py.co{b:Int}{p:List Int}(h:Py b p)(k:Nat):tk b (co p k)=co p k:=by
 by_cases hk:k<p.length
 ·exact h.nu _ (yu hk)
 ·rw[bD (by omega),tk0]
theorem Py.ext{b:Int}{p q:List Int}(h:Py b p)(h':Py b q)(e:∀k,tk b (Pm.co p k)=tk b (Pm.co q k)):p=q:=by
 rw[<-h.tr,<-h'.tr];exact qQ fun k=>by rw[<-h.co k,<-h'.co k];exact e k
theorem Py.of{b:Int}{p:List Int}(h:∀x∈p,tk b x=x):Py b (trim p):=⟨Gz p,fun x hx=>h x (AK hx)⟩
theorem Py.nil(b:Int):Py b []:=⟨rfl,fun _ h=>nomatch h⟩
theorem lK{n:Nat}{f:Nat->Int}{x:Int}(h:x∈ofF n f):∃k,k<n/\x=f k:=by
 obtain⟨k,hk,e⟩:=List.mem_map.mp h;exact⟨k,List.mem_range.mp hk,e.symm⟩
theorem Py.ofF(b:Int)(n:Nat)(f:Nat->Int):Py b (trim (Pm.ofF n fun k=>tk b (f k))):=Py.of fun x hx=>by
 obtain⟨k,_,rfl⟩:=lK hx;exact jO ..
def add(b:Int)(p q:List Int):List Int:=trim (ofF (max p.length q.length) fun k=>tk b (co p k+co q k))
def mul(b:Int)(p q:List Int):List Int:=trim (ofF (p.length+q.length) fun k=>tk b (cv (co p) (co q) k))
theorem AH(b:Int)(p q:List Int)(k:Nat):co (add b p q) k=tk b (co p k+co q k):=by
 rw[add,jo,bV];split
 ·rfl
 ·rw[bD (p:=p) (by omega),bD (p:=q) (by omega),Int.add_zero,tk0]
theorem yw(b:Int)(p q:List Int)(k:Nat):co (mul b p q) k=tk b (cv (co p) (co q) k):=by
 rw[mul,jo,bV];split
 ·rfl
 ·rw[fR,tk0];intro i hi;by_cases h:i<p.length
  ·exact .inr (bD (by omega))
  ·exact .inl (bD (by omega))
def W(f g:Nat->Int)(i k c:Nat):Int:=sm i (fun j=>if j<=c then f j*g (c-j)else 0)+(if i<=c/\c-i<k then f i*g (c-i)else 0)
theorem TY{f g:Nat->Int}{m c:Nat}(hf:∀k,m<=k->f k=0):W f g m 0 c=cv f g c:=by
 unfold W;rw[if_neg (by omega),Int.add_zero,gO];by_cases h:m<=c+1
 ·rw[fU (n:=c+1) h fun k h1 _=>by rw[hf k h1,Int.zero_mul]];exact au fun j hj=>if_pos (by omega)
 ·rw[fU (m:=c+1) (n:=m) (by omega) fun k h1 _=>if_neg (by omega)];exact au fun j hj=>if_pos (by omega)
end Pm
namespace Pm
open Rm
theorem lH(F:Nat->Nat->Int)(m:Nat):∀n:Nat,sm m (fun k=>sm n (fun j=>F k j))=sm n (fun j=>sm m (fun k=>F k j))
 |0=>by simp only[sm];exact fM m
 |n+1=>by
  simp only[sm];rw[cP,lH F m n]
theorem C7(rule:List Int)(f:Nat->Int)(n:Nat):∀m:Nat,S rule f n m=sm m (fun k=>co rule k*f (n-1-k))
 |0=>rfl
 |m+1=>by rw[S,sm,C7 rule f n m];rfl
def ks(p:List Int)(a:Nat->Int)(n:Nat):Int:=sm p.length (fun k=>co p k*a (n+k))
theorem Pj{b:Int}{rule p:List Int}{a:Nat->Int}(ha:∀n,rule.length<=n->tk b (a n)=tk b (S rule a n rule.length)){n:Nat}(hn:rule.length<=n):
  tk b (ks p a n)=tk b (S rule (ks p a) n rule.length):=by
 have e1:tk b (ks p a n)=tk b (sm p.length (fun k=>co p k*sm rule.length (fun j=>co rule j*a (n+k-1-j)))):=by
  refine jq fun k _=>?_;rw[<-aZ,ha (n+k) (by omega),aZ,C7]
 rw[e1,C7];congr 1;have e2:(fun k=>co p k*sm rule.length (fun j=>co rule j*a (n+k-1-j)))=fun k=>sm rule.length (fun j=>co rule j*(co p k*a (n+k-1-j))):=by
  funext k
  rw[<-bf];exact au fun j _=>Int.mul_left_comm ..
 rw[e2,lH];refine au fun j hj=>?_;rw[bf];congr 1;refine au fun k _=>?_;rw[show n-1-j+k=n+k-1-j by omega]
theorem DP{b:Int}{rule p:List Int}{a:Nat->Int}(ha:∀n,rule.length<=n->tk b (a n)=tk b (S rule a n rule.length))(h0:∀n,n<rule.length->tk b (ks p a n)=0):
  ∀n,tk b (ks p a n)=0:=by
 intro n;induction n using Nat.strongRecOn with
 |ind n ih=>
  by_cases h:n<rule.length
  ·exact h0 n h
  ·rw[Pj ha (by omega),C7];have:tk b (sm rule.length fun k=>co rule k*ks p a (n-1-k))=tk b (sm rule.length fun _=>0):=jq fun k hk=>by
    rw[<-aZ,ih (n-1-k) (by omega),Int.mul_zero]
   rw[this,fM,tk0]
def aN(b:Int)(c:List Int):List Int:=ofF c.length (fun k=>tk b (0-co c (c.length-1-k)))++[1]
def gU(b:Int)(p:List Int):List Int:=ofF (p.length-1) (fun k=>tk b (0-co p (p.length-1-1-k)))
theorem bB(b:Int)(c:List Int):(aN b c).length=c.length+1:=by simp[aN,aP]
theorem uT(b x:Int):tk b (0-tk b (0-x))=tk b x:=by
 have h:tk b (tk b (0-x)+(0-tk b (0-x)))=tk b ((0-x)+(0-tk b (0-x))):=cC ..;have e1:tk b (0-x)+(0-tk b (0-x))=0:=by omega
 rw[e1]at h;have h2:tk b (tk b (0-tk b (0-x))+(0-x))=tk b 0:=by rw[cC,Int.add_comm];exact h.symm
 have h3:tk b (tk b (0-tk b (0-x)))=tk b x:=by
  have:=aR h2 (rfl:tk b x=tk b x);rw[show tk b (0-tk b (0-x))+(0-x)+x=tk b (0-tk b (0-x))by omega,Int.zero_add]at this;exact this
 rwa [jO]at h3
theorem Kd{b:Int}{rule starts:List Int}(hl:rule.length=starts.length):∀n,rule.length<=n->tk b (at_ b rule starts n)=tk b (S rule (at_ b rule starts) n rule.length):=fun n hn=>by
 rw[uw hl (by omega),jO]
theorem HS{f:Nat->Int}{c:Nat}:∀n:Nat,(∀k,k<n->Bd c (f k))->Bd (c+n) (sm n f)
 |0,_=>Bd.zero _
 |n+1,h=>by
  rw[sm];exact Bd.add (n:=c+n) (HS n fun k hk=>h k (by omega)) ((h n (by omega)).mono (by omega))
theorem pD{p:List Int}{u:Nat}(h:∀x∈p,Bd u x)(k:Nat):Bd u (co p k):=Bd.getD h k
theorem oM{b:Int}{c:List Int}{u:Nat}(hb:0<=b)(hb1:b<1000)(hu:10<=u)(h:∀x∈c,Bd u x):∀x∈aN b c,Bd u x:=by
 intro x hx;rcases List.mem_append.mp hx with hx|hx
 ·obtain⟨k,_,rfl⟩:=lK hx;refine xO hb ((Bd.of (n:=10) (by omega) (by omega)).mono (by omega)) ?_;have:=pD h (c.length-1-k);unfold Bd at this⊢;rw[Int.zero_sub,Int.natAbs_neg];exact this
 ·rw[List.mem_singleton.mp hx];exact(Bd.of (n:=10) (by decide) (by decide)).mono hu
end Pm
namespace Pm
open Rm
theorem cL(x:Int)(j:Nat):∀n:Nat,sm n (fun i=>if i=j then x else 0)=if j<n then x else 0
 |0=>by simp[sm]
 |n+1=>by
  rw[sm,cL x j n];by_cases h:n=j
  ·rw[if_pos h,if_neg (by omega),if_pos (by omega)];omega
  ·rw[if_neg h];by_cases h2:j<n
   ·rw[if_pos h2,if_pos (by omega)];omega
   ·rw[if_neg h2,if_neg (by omega)];omega
theorem dN{b x y:Int}:tk b (x-y)=0↔tk b x=tk b y:=by
 constructor
 ·intro h;have:=aR (b:=b) (x:=x-y) (x':=0) (y:=y) (y':=y) (by rw[h,tk0]) rfl
  rwa [show x-y+y=x by omega,Int.zero_add]at this
 ·intro h;have:=aR (b:=b) (x:=x) (x':=y) (y:=-y) (y':=-y) h rfl;rw[show x + -y=x-y by omega,show y + -y=0 by omega,tk0]at this;exact this
theorem nY(f:Int)(s:Nat)(g:Nat->Int)(k:Nat):cv (fun i=>if i=s then f else 0) g k=if s<=k then f*g (k-s)else 0:=by
 rw[gO];have e:sm (k+1) (fun j=>(if j=s then f else 0)*g (k-j))=sm (k+1) (fun j=>if j=s then f*g (k-s)else 0):=au fun j _=>by
  by_cases h:j=s
  ·rw[if_pos h,if_pos h,h]
  ·rw[if_neg h,if_neg h,Int.zero_mul]
 rw[e,cL];by_cases h:s<=k
 ·rw[if_pos h,if_pos (by omega)]
 ·rw[if_neg h,if_neg (by omega)]
structure Mon(m:List Int):Prop where
 pos:0<m.length
 one:co m (m.length-1)=1
structure Div(b:Int)(p m q r:List Int):Prop where
 qy:Py b q
 ry:Py b r
 short:r.length<m.length
 eq:∀k,tk b (cv (co q) (co m) k+co r k)=tk b (co p k)
theorem Div.uniq{b:Int}{p m q r q' r':List Int}(hm:Mon m)(h:Div b p m q r)(h':Div b p m q' r'):q=q'/\r=r':=by
 have hp:=hm.pos;have e1:∀k,tk b (cv (fun i=>co q i-co q' i) (co m) k+(co r k-co r' k))=0:=by
  intro k;have e2:cv (fun i=>co q i-co q' i) (co m) k=cv (co q) (co m) k-cv (co q') (co m) k:=by
   have:=fV (co q) (fun i=>-1*co q' i) (co m) k;rw[gw]at this;have e3:(fun i=>co q i + -1*co q' i)=fun i=>co q i-co q' i:=by funext i;omega
   rw[e3]at this;omega
  rw[e2,show cv (co q) (co m) k-cv (co q') (co m) k+(co r k-co r' k)=(cv (co q) (co m) k+co r k)-(cv (co q') (co m) k+co r' k)by omega,dN,h.eq,h'.eq]
 have e4:∀d j,q.length+q'.length<=j+d->tk b (co q j-co q' j)=0:=by
  intro d;induction d with
  |zero=>intro j hj;rw[bD (by omega),bD (by omega)];exact tk0 b
  |succ d ih=>
   intro j hj;have e5:=e1 (j+(m.length-1));have hs:=h.short;have hs':=h'.short;rw[bD (p:=r) (by omega),bD (p:=r') (by omega),Int.sub_zero,Int.add_zero,gO]at e5;rw[<-e5];have e6:tk b (sm (j+(m.length-1)+1) fun i=>(co q i-co q' i)*co m (j+(m.length-1)-i))=tk b (sm (j+(m.length-1)+1) fun i=>if i=j then co q j-co q' j else 0):=jq fun i hi=>by
    by_cases c:i=j
    ·rw[if_pos c,c,show j+(m.length-1)-j=m.length-1 by omega,hm.one,Int.mul_one]
    ·rw[if_neg c];by_cases c2:i<j
     ·rw[bD (p:=m) (by omega),Int.mul_zero]
     ·rw[<-cH,ih i (by omega),Int.zero_mul]
   rw[e6,cL,if_pos (by omega)]
 have eq:q=q':=h.qy.ext h'.qy fun k=>dN.mp (e4 (q.length+q'.length) k (by omega));refine⟨eq,h.ry.ext h'.ry fun k=>?_⟩;have e7:=e1 k;rw[eq]at e7;have e8:(fun i=>co q' i-co q' i)=fun _=>0:=by funext i;omega
 rw[e8,fR (fun _ _=> .inl rfl),Int.zero_add]at e7;exact dN.mp e7
structure G3(b:Int)(p m:List Int)(s:Nat)(o l:List Int):Prop where
 eq:∀k,tk b (cv (co o) (co m) k+co l k)=tk b (co p k)
 zero:∀k,s+(m.length-1)<=k->co l k=0
 low:∀k,k<s->co o k=0
 ol:o.length=p.length-(m.length-1)
 ll:l.length=p.length
 on:∀k,tk b (co o k)=co o k
 ln:∀k,tk b (co l k)=co l k
theorem G3.start{b:Int}{p m:List Int}(hp:∀k,tk b (co p k)=co p k):G3 b p m (p.length-(m.length-1)) (ofF (p.length-(m.length-1)) fun _=>0) p:=by
 have z:∀k,co (ofF (p.length-(m.length-1)) fun _=>0) k=0:=fun k=>by rw[bV];split<;>rfl
 exact⟨fun k=>by rw[fR fun i _=> .inl (z i),Int.zero_add],fun k hk=>bD (by omega),fun k _=>z k,aP _ _,rfl,fun k=>by rw[z,tk0],hp⟩
def lf(b f:Int)(s t:Nat)(l m:List Int)(k:Nat):Int:=if s<=k/\k<s+t then tk b (co l k-f*co m (k-s))else co l k
theorem K2(b f:Int)(s:Nat)(l m:List Int)(k:Nat):lf b f s 0 l m k=co l k:=if_neg (by omega)
theorem Lp(b f:Int)(s t:Nat)(l m:List Int)(k:Nat):lf b f s (t+1) l m k=if k=s+t then tk b (lf b f s t l m k-f*co m t)else lf b f s t l m k:=by
 unfold lf;by_cases h:k=s+t
 ·rw[if_pos h,if_pos (by omega),if_neg (by omega),show k-s=t by omega]
 ·rw[if_neg h];by_cases h2:s<=k/\k<s+t
  ·rw[if_pos h2,if_pos (by omega)]
  ·rw[if_neg h2,if_neg (by omega)]
theorem Ql{b f:Int}{s:Nat}{l m:List Int}(hl:∀k,tk b (co l k)=co l k)(k:Nat):lf b f s m.length l m k=tk b (co l k-(if s<=k then f*co m (k-s)else 0)):=by
 unfold lf;by_cases h:s<=k
 ·rw[if_pos h];by_cases h2:k<s+m.length
  ·rw[if_pos ⟨h,h2⟩]
  ·rw[if_neg (by omega),bD (p:=m) (by omega),Int.mul_zero,Int.sub_zero,hl]
 ·rw[if_neg (by omega),if_neg h,Int.sub_zero,hl]
theorem G3.step{b:Int}{p m o l l':List Int}{s:Nat}(hm:Mon m)(h:G3 b p m (s+1) o l)(hs:s<p.length-(m.length-1))(hl:l'.length=l.length)(e:∀k,co l' k=lf b (co l (s+(m.length-1))) s m.length l m k):
  G3 b p m s (o.set s (co l (s+(m.length-1)))) l':=by
 have hp:=hm.pos;have ho:=h.ol;have eo:co (o.set s (co l (s+(m.length-1))))=fun k=>co o k+(if k=s then co l (s+(m.length-1))else 0):=by
  funext k
  rw[sS _ _ _ _ (by omega)];by_cases c:k=s
  ·rw[if_pos c,if_pos c,c,h.low s (by omega),Int.zero_add]
  ·rw[if_neg c,if_neg c,Int.add_zero]
 have el:∀k,co l' k=tk b (co l k-(if s<=k then co l (s+(m.length-1))*co m (k-s)else 0)):=fun k=>by rw[e,Ql h.ln]
 refine⟨fun k=>?_,fun k hk=>?_,fun k hk=>?_,by rw[List.length_set,ho],by rw[hl,h.ll],fun k=>?_,fun k=>by rw[el,jO]⟩
 ·rw[eo,fV (co o),nY,el,gZ,<-h.eq k];congr 1;omega
 ·rw[el,if_pos (by omega)];by_cases c:k=s+(m.length-1)
  ·rw[c,show s+(m.length-1)-s=m.length-1 by omega,hm.one,Int.mul_one,Int.sub_self,tk0]
  ·rw[h.zero k (by omega),bD (p:=m) (by omega),Int.mul_zero,Int.sub_zero,tk0]
 ·rw[eo];simp only;rw[h.low k (by omega),if_neg (by omega),Int.add_zero]
 ·rw[sS _ _ _ _ (by omega)];split
  ·exact h.ln _
  ·exact h.on _
theorem G3.stop{b:Int}{p m o l:List Int}(hm:Mon m)(h:G3 b p m 0 o l):Div b p m (trim o) (trim l):=by
 have hp:=hm.pos;have y:∀{x:List Int},(∀k,tk b (co x k)=co x k)->Py b (trim x):=fun hx=>Py.of fun z hz=>by
  obtain⟨k,hk,e⟩:=List.mem_iff_getElem.mp hz;rw[<-e,<-ux hk];exact hx k
 refine⟨y h.on,y h.ln,?_,fun k=>?_⟩
 ·have:=sG (p:=l) (n:=m.length-1) fun k hk=>h.zero k (by omega);omega
 ·rw[jo,<-h.eq k];congr 2;exact fQ (fun i _=>jo _ _) (fun _ _=>rfl)
end Pm
namespace Pm
open Rm
theorem vP(g:Nat->Int)(j:Nat):∀m:Nat,sm (j+m) (fun k=>if j<=k then g (k-j)else 0)=sm m g
 |0=>by
  rw[Nat.add_zero];exact iH fun k hk=>if_neg (by omega)
 |m+1=>by
  rw[<-Nat.add_assoc,sm,sm,vP g j m,if_pos (by omega),Nat.add_sub_cancel_left]
theorem lY(p:List Int)(a:Nat->Int)(n:Nat){N:Nat}(h:p.length<=N):sm N (fun k=>co p k*a (n+k))=ks p a n:=
 fU h fun k h1 _=>by rw[bD h1,Int.zero_mul]
theorem QW{b:Int}{p q:List Int}{a:Nat->Int}(h:∀k,tk b (co p k)=tk b (co q k))(n:Nat):tk b (ks p a n)=tk b (ks q a n):=by
 rw[<-lY p a n (Nat.le_max_left p.length q.length),<-lY q a n (Nat.le_max_right p.length q.length)];exact jq fun k _=>by rw[<-cH,h k,cH]
theorem JY{b:Int}(p q:List Int)(a:Nat->Int)(n:Nat):tk b (ks (add b p q) a n)=tk b (ks p a n+ks q a n):=by
 have hl:(add b p q).length<=max p.length q.length:=by
  have:=eX (ofF (max p.length q.length) fun k=>tk b (co p k+co q k))
  rwa [aP]at this
 rw[<-lY _ a n hl,<-lY p a n (Nat.le_max_left p.length q.length),<-lY q a n (Nat.le_max_right p.length q.length),<-cP];exact jq fun k _=>by rw[AH,cH,Int.add_mul]
theorem OV{b:Int}(p q:List Int)(a:Nat->Int)(n:Nat):tk b (ks (mul b p q) a n)=tk b (ks p (ks q a) n):=by
 have hl:(mul b p q).length<=p.length+q.length:=by
  have:=eX (ofF (p.length+q.length) fun k=>tk b (cv (co p) (co q) k))
  rwa [aP]at this
 rw[<-lY _ a n hl];have e1:tk b (sm (p.length+q.length) fun k=>co (mul b p q) k*a (n+k))=tk b (sm (p.length+q.length) fun k=>sm p.length fun j=>co p j*(if j<=k then co q (k-j)*a (n+k)else 0)):=jq fun k _=>by
  rw[yw,cH,<-TY (m:=p.length) fun j hj=>bD hj,W,if_neg (by omega),Int.add_zero,Int.mul_comm,<-bf];congr 1;refine au fun j _=>?_;by_cases h:j<=k
  ·rw[if_pos h,if_pos h,Int.mul_comm,Int.mul_assoc]
  ·rw[if_neg h,if_neg h,Int.mul_zero,Int.mul_zero]
 rw[e1,lH];congr 1;refine au fun j hj=>?_;rw[bf];congr 1;have e2:(fun k=>if j<=k then co q (k-j)*a (n+k)else 0)=fun k=>if j<=k then(fun i=>co q i*a (n+j+i)) (k-j)else 0:=by
  funext k
  by_cases h:j<=k
  ·rw[if_pos h,if_pos h];show _=co q (k-j)*a (n+j+(k-j));rw[show n+j+(k-j)=n+k by omega]
  ·rw[if_neg h,if_neg h]
 rw[e2,show p.length+q.length=j+(p.length-j+q.length)by omega];refine(vP (fun i=>co q i*a (n+j+i)) j _).trans ?_;exact lY q a (n+j) (by omega)
theorem KH{b:Int}{p:List Int}{a:Nat->Int}(h:∀n,tk b (a n)=0)(n:Nat):tk b (ks p a n)=0:=by
 have:tk b (ks p a n)=tk b (sm p.length fun _=>0):=jq fun k _=>by rw[<-aZ,h,Int.mul_zero]
 rw[this,fM,tk0]
def Kp(b:Int)(p:List Int)(a:Nat->Int):Prop:=∀n,tk b (ks p a n)=0
theorem Kp.SJ{b:Int}{q:List Int}{a:Nat->Int}(h:Kp b q a)(p:List Int):Kp b (mul b p q) a:=fun n=>by rw[OV];exact KH h n
theorem Kp.add{b:Int}{p q:List Int}{a:Nat->Int}(h:Kp b p a)(h':Kp b q a):Kp b (add b p q) a:=fun n=>by
 rw[JY,<-cC,h n,<-gZ,h' n];exact tk0 b
theorem Kp.congr{b:Int}{p q:List Int}{a:Nat->Int}(e:∀k,tk b (co p k)=tk b (co q k))(h:Kp b p a):Kp b q a:=fun n=>by rw[<-QW e];exact h n
theorem Kp.aN{b:Int}{rule:List Int}{a:Nat->Int}(ha:∀n,rule.length<=n->tk b (a n)=tk b (S rule a n rule.length)):Kp b (aN b rule) a:=fun n=>by
 unfold ks;rw[bB,sm];have e1:co (Pm.aN b rule) rule.length=1:=by
  rw[Pm.aN,bZ,aP,if_neg (by omega),Nat.sub_self];rfl
 have e2:tk b (sm rule.length fun k=>co (Pm.aN b rule) k*a (n+k))=tk b (sm rule.length fun k=>-1*(co rule (rule.length-1-k)*a (n+k))):=jq fun k hk=>by
  rw[Pm.aN,bZ,aP,if_pos hk,bV,if_pos hk,cH,Int.zero_sub,Int.neg_mul,Int.neg_one_mul]
 have e3:S rule a (n+rule.length) rule.length=sm rule.length fun k=>co rule (rule.length-1-k)*a (n+k):=by
  rw[C7];have rev:∀(m:Nat) (f:Nat->Int),sm m f=sm m fun k=>f (m-1-k):=by
   intro m;induction m with
   |zero=>intro f;rfl
   |succ m ih=>
    intro f;rw[dw,sm,ih fun i=>f (i+1),Int.add_comm];have:m+1-1-m=0:=by omega
    rw[this];congr 1;exact au fun k hk=>by rw[show m-1-k+1=m+1-1-k by omega]
  rw[rev];exact au fun k hk=>by rw[show n+rule.length-1-(rule.length-1-k)=n+k by omega]
 rw[e1,Int.one_mul,<-cC,e2,cC,bf,<-e3,<-gZ,ha (n+rule.length) (by omega),gZ,Int.neg_one_mul,Int.add_left_neg,tk0]
theorem Div.kp{b:Int}{p m q r:List Int}{a:Nat->Int}(h:Div b p m q r)(hm:Kp b m a):Kp b p a↔Kp b r a:=by
 have e:∀n,tk b (ks p a n)=tk b (ks r a n):=fun n=>by
  have e1:∀k,tk b (co (Pm.add b (mul b q m) r) k)=tk b (co p k):=fun k=>by rw[AH,yw,jO,cC];exact h.eq k
  rw[<-QW e1,JY,<-cC,hm.SJ q n,Int.zero_add]
 exact⟨fun z n=>by rw[<-e];exact z n,fun z n=>by rw[e];exact z n⟩
def In2(b:Int)(p q x:List Int):Prop:=∃u v,∀k,tk b (co x k)=tk b (cv (co u) (co p) k+cv (co v) (co q) k)
theorem Lj(p q:List Int)(k:Nat):co (add 0 p q) k=co p k+co q k:=by rw[AH,aW]
theorem Gw(p q:List Int)(k:Nat):co (mul 0 p q) k=cv (co p) (co q) k:=by rw[yw,aW]
theorem In2.left(b:Int)(p q:List Int):In2 b p q p:=⟨[1],[],fun k=>by
 rw[fR (f:=co []) fun i _=> .inl (dY _),Int.add_zero,gO,fU (m:=1) (by omega) fun j h1 _=>by rw[show co [1] j=0 from bD (by simpa using h1),Int.zero_mul]];simp[sm,cU]⟩
theorem In2.swap{b:Int}{p q x:List Int}(h:In2 b p q x):In2 b q p x:=by
 obtain⟨u,v,e⟩:=h;exact⟨v,u,fun k=>by rw[e,Int.add_comm]⟩
theorem In2.trans{b:Int}{p q g s x:List Int}(hg:In2 b p q g)(hs:In2 b p q s)(h:In2 b g s x):In2 b p q x:=by
 obtain⟨a,c,eg⟩:=hg;obtain⟨a',c',es⟩:=hs;obtain⟨u,v,e⟩:=h;refine⟨add 0 (mul 0 u a) (mul 0 v a'),add 0 (mul 0 u c) (mul 0 v c'),fun k=>?_⟩;have e1:tk b (cv (co u) (co g) k)=tk b (cv (co u) (fun i=>cv (co a) (co p) i+cv (co c) (co q) i) k):=iY (fun _ _=>rfl) fun i _=>eg i;have e2:tk b (cv (co v) (co s) k)=tk b (cv (co v) (fun i=>cv (co a') (co p) i+cv (co c') (co q) i) k):=iY (fun _ _=>rfl) fun i _=>es i;rw[e,aR e1 e2];congr 1;have f1:∀y z:List Int,co (add 0 (mul 0 u y) (mul 0 v z))=fun i=>cv (co u) (co y) i+cv (co v) (co z) i:=fun y z=>by
  funext i;rw[Lj,Gw,Gw]
 rw[f1,f1,fV (cv (co u) (co a)),fV (cv (co u) (co c)),zZ,zZ,bG,bG,bG,bG];omega
theorem In2.kp{b:Int}{p q x:List Int}{a:Nat->Int}(h:In2 b p q x)(hp:Kp b p a)(hq:Kp b q a):Kp b x a:=by
 obtain⟨u,v,e⟩:=h;refine((hp.SJ u).add (hq.SJ v)).congr fun k=>?_;rw[AH,yw,yw,jO,cC,gZ,e]
theorem Div.in1{b:Int}{p m q r:List Int}(h:Div b p m q r):In2 b m r p:=by
 refine⟨q,[1],fun k=>?_⟩;obtain⟨u,v,e⟩:=In2.left b r [];rw[<-h.eq k];have:cv (co [1]) (co r) k=co r k:=by
  rw[gO,fU (m:=1) (by omega) fun j h1 _=>by rw[show co [1] j=0 from bD (by simpa using h1),Int.zero_mul]];simp[sm,cU]
 rw[this]
theorem Div.in2{b:Int}{p m q r:List Int}(h:Div b p m q r):In2 b p m r:=by
 refine⟨[1],q.map (-1 * ·),fun k=>?_⟩;have e1:cv (co [1]) (co p) k=co p k:=by
  rw[gO,fU (m:=1) (by omega) fun j h1 _=>by rw[show co [1] j=0 from bD (by simpa using h1),Int.zero_mul]];simp[sm,cU]
 have e2:co (q.map (-1 * ·))=fun i=>-1*co q i:=by funext i;rw[qG (by simp)]
 rw[e1,e2,gw];have:=aR (h.eq k) (rfl:tk b (-1*cv (co q) (co m) k)=tk b (-1*cv (co q) (co m) k));rw[<-this];congr 1;omega
structure Gcd(b:Int)(p q g:List Int):Prop where
 py:Py b g
 mon:Mon g
 sum:In2 b p q g
 one:In2 b g [] p
 two:In2 b g [] q
theorem In2.dv{b:Int}{g p:List Int}(h:In2 b g [] p):∃u,∀k,tk b (co p k)=tk b (cv (co u) (co g) k):=by
 obtain⟨u,v,e⟩:=h;exact⟨u,fun k=>by rw[e,fR (g:=co []) fun i _=> .inr (dY _),Int.add_zero]⟩
end Pm
namespace Pm
open Rm
theorem uK{p:List Int}(h:p≠[]):p=p.dropLast++[co p (p.length-1)]:=by
 have hp:0<p.length:=List.length_pos_iff.mpr h
 conv=>lhs;rw[<-List.dropLast_concat_getLast h]
 congr 2;rw[ux (by omega),List.getLast_eq_getElem]
theorem gH{p:List Int}(h:p≠[])(h0:co p (p.length-1)≠0):trim p=p:=by
 have e:=uK h;rw[e,qW _ h0]
theorem rO{p:List Int}(h:p≠[])(ht:trim p=p):co p (p.length-1)≠0:=by
 intro z;have e:=uK h;rw[z]at e;have e2:trim p=trim p.dropLast:=by
  conv=>lhs;rw[e]
  exact wX _
 have:=eX p.dropLast;rw[<-e2,ht,List.length_dropLast]at this;have hp:0<p.length:=List.length_pos_iff.mpr h;omega
structure u9(b:Int)(p m:List Int):Prop where
 py:Py b m
 len:m.length=p.length
 mon:p≠[]->Mon m
 to:∃c,∀k,tk b (co m k)=tk b (c*co p k)
 of:∃c,∀k,tk b (co p k)=tk b (c*co m k)
theorem In2.scale{b:Int}{p m:List Int}(h:∃c,∀k,tk b (co m k)=tk b (c*co p k))(q:List Int):In2 b p q m:=by
 obtain⟨c,e⟩:=h;refine⟨[c],[],fun k=>?_⟩;rw[fR (f:=co []) fun i _=> .inl (dY _),Int.add_zero,e,gO,fU (m:=1) (by omega) fun j h1 _=>by rw[show co [c] j=0 from bD (by simpa using h1),Int.zero_mul]];simp[sm,cU]
theorem u9.nil(b:Int):u9 b [] []:=⟨Py.nil b,rfl,fun h=>absurd rfl h,⟨0,fun k=>by rw[dY,Int.zero_mul]⟩,⟨0,fun k=>by rw[dY,Int.zero_mul]⟩⟩
def gG(P:Nat)(p:List Int):List Int:=p.map fun x=>x*(co p (p.length-1))^(P-2)%(P:Int)
theorem FJ{P:Nat}(hP:P∈Om.iM)(h2:2<=P){p:List Int}(hp:Py P p)(hn:p≠[]):u9 P p (gG P p):=by
 have hpos:0<p.length:=List.length_pos_iff.mpr hn;have hP0:(P:Int)≠0:=by omega
 have tkP:∀n,tk (P:Int) n=n%(P:Int):=fun n=>fu hP0 n;have l0:=rO hn hp.tr;have l1:=hp.co (p.length-1);rw[tkP]at l1;have r0:0<=co p (p.length-1):=by rw[<-l1];exact Int.emod_nonneg _ hP0
 have r1:co p (p.length-1)<(P:Int):=by rw[<-l1];exact Int.emod_lt_of_pos _ (by omega)
 generalize hl:co p (p.length-1)=a at l0 r0 r1;have hinv:(a^(P-2)*a)%(P:Int)=1:=by
  rw[<-Int.pow_succ,show(P-2).succ=P-1 by omega];exact Om.tO rfl hP (by omega) r1
 have e:∀k,co (gG P p) k=co p k*a^(P-2)%(P:Int):=fun k=>by
  rw[gG,qG (by simp),hl]
 have len:(gG P p).length=p.length:=by rw[gG,List.length_map]
 have top:co (gG P p) ((gG P p).length-1)=1:=by
  rw[len,e,hl,Int.mul_comm];exact hinv
 have hm:gG P p≠[]:=fun z=>by rw[z]at len;simp at len;omega
 refine⟨⟨gH hm (by rw[top];decide),fun x hx=>?_⟩,len,fun _=>⟨by omega,top⟩,⟨a^(P-2),fun k=>?_⟩,⟨a,fun k=>?_⟩⟩
 ·obtain⟨y,_,rfl⟩:=List.mem_map.mp hx;rw[tkP];exact Int.emod_emod_of_dvd _ (Int.dvd_refl _)
 ·rw[e,tkP,tkP,Int.emod_emod_of_dvd _ (Int.dvd_refl _),Int.mul_comm]
 ·rw[e,tkP,tkP,Int.mul_emod a,Int.emod_emod_of_dvd _ (Int.dvd_refl _),<-Int.mul_emod,Int.mul_left_comm a,Int.mul_comm a,Int.mul_emod,hinv];rw[Int.mul_one,Int.emod_emod_of_dvd _ (Int.dvd_refl _)]
structure JD(b:Int)(p q g s:List Int):Prop where
 gy:Py b g
 sy:Py b s
 gm:g≠[]->Mon g
 sm_:s≠[]->Mon s
 some:s=[]->g≠[]
 gi:In2 b p q g
 si:In2 b p q s
 pi:In2 b g s p
 qi:In2 b g s q
theorem JD.start{b:Int}{p q g s:List Int}(hg:u9 b p g)(hs:u9 b q s)(h:q=[]->p≠[]):JD b p q g s:=by
 have lg:=hg.len;have ls:=hs.len;have pn:g≠[]->p≠[]:=fun z e=>z (List.eq_nil_of_length_eq_zero (by rw[lg,e];rfl));have qn:s≠[]->q≠[]:=fun z e=>z (List.eq_nil_of_length_eq_zero (by rw[ls,e];rfl));refine⟨hg.py,hs.py,fun z=>hg.mon (pn z),fun z=>hs.mon (qn z),fun z e=>?_,In2.scale hg.to q,(In2.scale hs.to p).swap,In2.scale hg.of s,(In2.scale hs.of g).swap⟩;have q0:q=[]:=List.eq_nil_of_length_eq_zero (by rw[<-ls,z];rfl);exact h q0 (List.eq_nil_of_length_eq_zero (by rw[<-lg,e];rfl))
theorem JD.step{b:Int}{p q g s o l m:List Int}(h:JD b p q g s)(hs:s≠[])(d:Div b g s o l)(hm:u9 b l m):JD b p q s m:=by
 have lm:=hm.len;have ln:m≠[]->l≠[]:=fun z e=>z (List.eq_nil_of_length_eq_zero (by rw[lm,e];rfl));have li:In2 b p q l:=h.gi.trans h.si d.in2;have gs:In2 b s m g:=(In2.left b s m).trans (In2.scale hm.of s).swap d.in1;refine⟨h.sy,hm.py,h.sm_,fun z=>hm.mon (ln z),fun _=>hs,h.si,li.trans li (In2.scale hm.to l),?_,?_⟩
 ·exact gs.trans (In2.left b s m) h.pi
 ·exact gs.trans (In2.left b s m) h.qi
theorem JD.stop{b:Int}{p q g s:List Int}(h:JD b p q g s)(hs:s=[]):Gcd b p q g:=by
 subst hs;exact⟨h.gy,h.gm (h.some rfl),h.gi,h.pi,h.qi⟩
end Pm
namespace Pm
open Rm
theorem yp{p:List Int}{k:Nat}(h:co p k≠0):k<p.length:=by
 by_cases c:k<p.length
 ·exact c
 ·exact absurd (bD (by omega)) h
theorem eY(b:Int)(c:List Int):Mon (aN b c):=⟨by rw[bB];omega,by
 rw[bB,aN,bZ,aP,if_neg (by omega),show c.length+1-1-c.length=0 by omega];rfl⟩
theorem fj(b:Int)(p:List Int):(gU b p).length=p.length-1:=by rw[gU,aP]
theorem nQ{b:Int}{w:List Int}(hw:∀k,tk b (co w k)=co w k)(hm:Mon w):aN b (gU b w)=w:=by
 have hp:=hm.pos;refine oA (by rw[bB,fj];omega) fun k=>?_;rw[aN,bZ,aP,fj];by_cases h:k<w.length-1
 ·rw[if_pos h,bV,if_pos h,gU,bV,if_pos (by omega),uT,show w.length-1-1-(w.length-1-1-k)=k by omega,hw]
 ·rw[if_neg h];by_cases c:k=w.length-1
  ·rw[c,Nat.sub_self,hm.one];rfl
  ·rw[bD (p:=w) (by omega),bD];simp;omega
theorem Ek{b:Int}{rule:List Int}{a:Nat->Int}(n:Nat):tk b (ks (aN b rule) a n)=tk b (a (n+rule.length)-S rule a (n+rule.length) rule.length):=by
 unfold ks;rw[bB,sm];have e1:co (aN b rule) rule.length=1:=by
  rw[aN,bZ,aP,if_neg (by omega),Nat.sub_self];rfl
 have e2:tk b (sm rule.length fun k=>co (aN b rule) k*a (n+k))=tk b (sm rule.length fun k=>-1*(co rule (rule.length-1-k)*a (n+k))):=jq fun k hk=>by
  rw[aN,bZ,aP,if_pos hk,bV,if_pos hk,cH,Int.zero_sub,Int.neg_mul,Int.neg_one_mul]
 have e3:S rule a (n+rule.length) rule.length=sm rule.length fun k=>co rule (rule.length-1-k)*a (n+k):=by
  rw[C7];have rev:∀(m:Nat) (f:Nat->Int),sm m f=sm m fun k=>f (m-1-k):=by
   intro m;induction m with
   |zero=>intro f;rfl
   |succ m ih=>
    intro f;rw[dw,sm,ih fun i=>f (i+1),Int.add_comm];have:m+1-1-m=0:=by omega
    rw[this];congr 1;exact au fun k hk=>by rw[show m-1-k+1=m+1-1-k by omega]
  rw[rev];exact au fun k hk=>by rw[show n+rule.length-1-(rule.length-1-k)=n+k by omega]
 rw[e1,Int.one_mul,<-cC,e2,cC,bf,<-e3];congr 1;omega
theorem Kp.rec{b:Int}{rule:List Int}{a:Nat->Int}(h:Kp b (Pm.aN b rule) a):∀n,rule.length<=n->tk b (a n)=tk b (S rule a n rule.length):=fun n hn=>by
 have:=h (n-rule.length);rw[Ek,show n-rule.length+rule.length=n by omega]at this;exact dN.mp this
theorem Gv{b:Int}{w:List Int}{a:Nat->Int}(hw:∀k,tk b (co w k)=co w k)(hm:Mon w)(hk:Kp b w a)(ha:∀n,tk b (a n)=a n){starts:List Int}(hl:starts.length=w.length-1)(hs:∀i,i<starts.length->starts.getD i 0=a i)(n:Nat):
  at_ b (gU b w) starts n=a n:=by
 have lr:=fj b w;rw[<-nQ hw hm]at hk;refine vU (by omega) (g:=a) (fun i hi=>(hs i hi).symm) (fun i hi=>?_) n;rw[<-ha i];exact hk.rec i (by omega)
end Pm
namespace Dm
open Pm
def sg(m:Nat):Int:=if m%2=0 then 1 else -1
theorem pF(m:Nat):sg (m+1)=-sg m:=by
 unfold sg;by_cases h:m%2=0
 ·rw[if_pos h,if_neg (by omega)]
 ·rw[if_neg h,if_pos (by omega)];rfl
theorem Gs(m n:Nat):sg (m+n)=sg m*sg n:=by
 induction n with
 |zero=>simp[sg]
 |succ n ih=>rw[<-Nat.add_assoc,pF,pF,ih,Int.mul_neg]
theorem Oh(m:Nat):sg m*sg m=1:=by
 unfold sg;split<;>rfl
def sk(c k:Nat):Nat:=if k<c then k else k+1
theorem Xr(c k:Nat):sk c k≠c:=by unfold sk;split<;>omega
def det:Nat->(Nat->Nat->Int)->Int
 |0,_=>1
 |n+1,f=>sm (n+1) fun c=>sg (n+c)*f n c*det n fun i k=>f i (sk c k)
theorem bK:∀{n:Nat} {f g:Nat->Nat->Int},(∀i k,i<n->k<n->f i k=g i k)->det n f=det n g
 |0,_,_,_=>rfl
 |n+1,f,g,h=>by
  unfold det;refine au fun c hc=>?_;rw[h n c (by omega) hc,bK fun i k hi hk=>h i (sk c k) (by omega) (by unfold sk;split<;>omega)]
def jE(f:Nat->Nat->Int)(j:Nat)(u:Nat->Int):Nat->Nat->Int:=fun i k=>if k=j then u i else f i k
def nF(f:Nat->Nat->Int)(j:Nat)(u:Nat->Int):Nat->Nat->Int:=fun i k=>if i=j then u k else f i k
theorem dI(f:Nat->Nat->Int)(j:Nat)(u:Nat->Int)(i:Nat):jE f j u i j=u i:=if_pos rfl
theorem iJ{f:Nat->Nat->Int}{j k:Nat}{u:Nat->Int}{i:Nat}(h:k≠j):jE f j u i k=f i k:=if_neg h
theorem Mw{c j:Nat}(h:c≠j):∃j',sk c j'=j/\(∀k,sk c k=j->k=j'):=by
 refine⟨if j<c then j else j-1,?_,fun k hk=>?_⟩
 ·unfold sk;split<;>(try split)<;>omega
 ·unfold sk at hk;split at hk<;>split<;>omega
theorem uy{n c j:Nat}(f:Nat->Nat->Int)(u:Nat->Int)(h:c≠j)(hc:c<n+1)(hj:j<n+1):∃j',j'<n/\∀u,(fun i k=>jE f j u i (sk c k))=jE (fun i k=>f i (sk c k)) j' u:=by
 obtain⟨j',e1,e2⟩:=Mw h;refine⟨j',?_,fun u=>?_⟩
 ·unfold sk at e1;split at e1<;>omega
 ·funext i k
  unfold jE;by_cases z:k=j'
  ·rw[if_pos z,if_pos (by rw[z,e1])]
  ·rw[if_neg z,if_neg fun w=>z (e2 k w)]
theorem iz:∀{n:Nat} (f:Nat->Nat->Int) {j:Nat} (_:j<n) (a:Int) (u v:Nat->Int),det n (jE f j fun i=>a*u i+v i)=a*det n (jE f j u)+det n (jE f j v)
 |0,_,_,h,_,_,_=>absurd h (Nat.not_lt_zero _)
 |n+1,f,j,hj,a,u,v=>by
  unfold det;rw[<-bf,<-cP];refine au fun c hc=>?_;by_cases e:c=j
  ·subst e;have m:∀w,(fun i k=>jE f c w i (sk c k))=fun i k=>f i (sk c k):=fun w=>by funext i k;exact iJ (Xr c k)
   rw[m,m,m,dI,dI,dI];rw[Int.mul_add,Int.add_mul];congr 1;rw[show sg (n+c)*(a*u n)=a*(sg (n+c)*u n)from Int.mul_left_comm ..,Int.mul_assoc a]
  ·obtain⟨j',hj',m⟩:=uy f u e hc hj;rw[m,m,m,iz _ hj',iJ e,iJ e,iJ e,Int.mul_add];congr 1;exact Int.mul_left_comm ..
theorem mL:∀{n:Nat} {f:Nat->Nat->Int} {j:Nat},j+1<n->(∀i,i<n->f i j=f i (j+1))->det n f=0
 |0,_,_,h,_=>absurd h (Nat.not_lt_zero _)
 |n+1,f,j,hj,h=>by
  unfold det;have e:sm (n+1) (fun c=>sg (n+c)*f n c*det n fun i k=>f i (sk c k))=sm (n+1) (fun c=>(if c=j then sg (n+j)*f n j*det n (fun i k=>f i (sk j k))else 0)+(if c=j+1 then -(sg (n+j)*f n j*det n (fun i k=>f i (sk j k)))else 0)):=au fun c hc=>by
   by_cases e1:c=j
   ·rw[if_pos e1,if_neg (by omega),e1,Int.add_zero]
   ·by_cases e2:c=j+1
    ·rw[if_neg e1,if_pos e2,e2,Int.zero_add,<-h n (by omega),show n+(j+1)=n+j+1 by omega,pF];have:det n (fun i k=>f i (sk (j+1) k))=det n (fun i k=>f i (sk j k)):=bK fun i k hi hk=>by
      by_cases z:k=j
      ·subst z;rw[show sk (k+1) k=k by unfold sk;rw[if_pos (by omega)],show sk k k=k+1 by unfold sk;rw[if_neg (by omega)],h i (by omega)]
      ·rw[show sk (j+1) k=sk j k by unfold sk;split<;>split<;>omega]
     rw[this,Int.neg_mul,Int.neg_mul]
    ·rw[if_neg e1,if_neg e2,Int.add_zero];have:det n (fun i k=>f i (sk c k))=0:=by
      by_cases z:j+1<c
      ·exact mL (j:=j) (by omega) fun i hi=>by rw[show sk c j=j by unfold sk;rw[if_pos (by omega)],show sk c (j+1)=j+1 by unfold sk;rw[if_pos (by omega)]];exact h i (by omega)
      ·exact mL (j:=j-1) (by omega) fun i hi=>by rw[show sk c (j-1)=j by unfold sk;rw[if_neg (by omega)];omega,show sk c (j-1+1)=j+1 by unfold sk;rw[if_neg (by omega)];omega];exact h i (by omega)
     rw[this,Int.mul_zero]
  rw[e,cP];have s1:∀(x:Int) (t N:Nat),t<N->sm N (fun c=>if c=t then x else 0)=x:=fun x t N ht=>by rw[cL,if_pos ht]
  rw[s1 _ _ _ (by omega),s1 _ _ _ hj];omega
def sw(j i:Nat):Nat:=if i=j then j+1 else if i=j+1 then j else i
theorem kW(f:Nat->Nat->Int)(j:Nat):jE f j (fun i=>f i j)=f:=by
 funext i k;unfold jE;split
 ·rename_i h;rw[h]
 ·rfl
theorem Ad{n:Nat}(f:Nat->Nat->Int){j:Nat}(hj:j+1<n):det n (fun i k=>f i (sw j k))=-det n f:=by
 let D:=fun(x y:Nat->Int)=>det n (jE (jE f j x) (j+1) y)
 have z:∀x,D x x=0:=fun x=>mL hj fun i _=>by
  rw[iJ (by omega),dI,dI]
 have l2:∀x y y',D x (fun i=>1*y i+y' i)=1*D x y+D x y':=fun x y y'=>iz _ hj 1 y y';have cm:∀x y,jE (jE f j x) (j+1) y=jE (jE f (j+1) y) j x:=fun x y=>by
  funext i k;unfold jE;split<;>(try split)<;>first|rfl|omega
 have l1:∀x x' y,D (fun i=>1*x i+x' i) y=1*D x y+D x' y:=fun x x' y=>by
  show det n _=1*det n _+det n _;rw[cm,cm,cm];exact iz _ (by omega) 1 x x'
 have a:=z fun i=>1*f i j+f i (j+1);rw[l1,l2,l2,z,z]at a;have e1:D (fun i=>f i j) (fun i=>f i (j+1))=det n f:=by
  show det n _=_;rw[kW f j,kW]
 have e2:D (fun i=>f i (j+1)) (fun i=>f i j)=det n (fun i k=>f i (sw j k)):=bK fun i k _ _=>by
  unfold jE sw;by_cases c1:k=j+1
  ·rw[if_pos c1,if_neg (by omega),if_pos c1]
  ·rw[if_neg c1];by_cases c2:k=j
   ·rw[if_pos c2,if_pos c2]
   ·rw[if_neg c2,if_neg c2,if_neg c1]
 rw[e1,e2]at a;omega
def mv(h m k:Nat):Nat:=if k<h then k else if k<m then k+1 else if k=m then h else k
theorem DC{h m:Nat}(hm:h<m)(k:Nat):mv h m k=sw h (mv (h+1) m k):=by
 unfold mv sw
 repeat' split
 all_goals omega
theorem nG{n:Nat}:∀(d:Nat) (f:Nat->Nat->Int) {h m:Nat},m=h+d->m<n->det n (fun i k=>f i (mv h m k))=sg d*det n f
 |0,f,h,m,e,hm=>by
  have:det n (fun i k=>f i (mv h m k))=det n f:=bK fun i k _ _=>by
   rw[show mv h m k=k by unfold mv;split<;>(try split)<;>(try split)<;>omega]
  rw[this];simp[sg]
 |d+1,f,h,m,e,hm=>by
  have e1:(fun i k=>f i (mv h m k))=fun i k=>(fun i k=>f i (sw h k)) i (mv (h+1) m k):=by
   funext i k;rw[DC (by omega)]
  rw[e1,nG d (fun i k=>f i (sw h k)) (by omega) hm,Ad f (by omega),pF,Int.mul_neg,Int.neg_mul]
theorem iK{n:Nat}{f:Nat->Nat->Int}{a b:Nat}(hab:a<b)(hb:b<n)(h:∀i,i<n->f i a=f i b):det n f=0:=by
 have e:=nG (n:=n) (b-1-a) f (h:=a) (m:=b-1) (by omega) (by omega);have z:det n (fun i k=>f i (mv a (b-1) k))=0:=mL (j:=b-1) (by omega) fun i hi=>by
  rw[show mv a (b-1) (b-1)=a by unfold mv;rw[if_neg (by omega),if_neg (by omega),if_pos rfl],show mv a (b-1) (b-1+1)=b by unfold mv;rw[if_neg (by omega),if_neg (by omega),if_neg (by omega)];omega];exact h i hi
 rw[z]at e;have s:=Oh (b-1-a);have:sg (b-1-a)*(sg (b-1-a)*det n f)=det n f:=by rw[<-Int.mul_assoc,s,Int.one_mul]
 rw[<-e,Int.mul_zero]at this;exact this.symm
theorem jH:∀{n:Nat} (f:Nat->Nat->Int) {j:Nat} (_:j<n) (a:Int) (u v:Nat->Int),det n (nF f j fun i=>a*u i+v i)=a*det n (nF f j u)+det n (nF f j v)
 |0,_,_,h,_,_,_=>absurd h (Nat.not_lt_zero _)
 |n+1,f,j,hj,a,u,v=>by
  unfold det;rw[<-bf,<-cP];refine au fun c hc=>?_;by_cases e:j=n
  ·subst e;have m:∀w,det j (fun i k=>nF f j w i (sk c k))=det j (fun i k=>f i (sk c k)):=fun w=>bK fun i k hi _=>if_neg (by omega);rw[m,m,m];show sg (j+c)*(if j=j then _ else _)*_=a*(sg (j+c)*(if j=j then _ else _)*_)+sg (j+c)*(if j=j then _ else _)*_;rw[if_pos rfl,if_pos rfl,if_pos rfl,Int.mul_add,Int.add_mul];congr 1;rw[show sg (j+c)*(a*u c)=a*(sg (j+c)*u c)from Int.mul_left_comm ..,Int.mul_assoc a]
  ·have m:∀w:Nat->Int,(fun i k=>nF f j w i (sk c k))=nF (fun i k=>f i (sk c k)) j fun k=>w (sk c k):=fun w=>by funext i k;rfl
   have r:∀w:Nat->Int,nF f j w n c=f n c:=fun w=>if_neg (fun z=>e z.symm);rw[m,m,m,r,r,r,jH (fun i k=>f i (sk c k)) (by omega) a (fun k=>u (sk c k)) (fun k=>v (sk c k)),Int.mul_add];congr 1;exact Int.mul_left_comm ..
theorem tri(T:Nat->Nat->Int):∀N:Nat,sm (N+1) (fun c=>sm N (fun c'=>T c c'))=sm (N+1) (fun b=>sm b (fun a=>T b a+T a (b-1)))
 |0=>by simp[sm]
 |N+1=>by
  have ih:=tri T N;rw[sm,show(fun c=>sm (N+1) fun c'=>T c c')=fun c=>sm N (fun c'=>T c c')+T c N from rfl,cP,ih]
  conv=>rhs;rw[sm]
  rw[cP,Nat.add_sub_cancel];have e:(fun c'=>T (N+1) c')=T (N+1):=rfl;rw[e];omega
theorem Uu{a b:Nat}(h:a<b)(k:Nat):sk b (sk a k)=sk a (sk (b-1) k):=by
 unfold sk
 repeat' split
 all_goals omega
theorem pq:∀{n:Nat} {f:Nat->Nat->Int} {j:Nat},j+1<n->(∀k,k<n->f j k=f (j+1) k)->det n f=0
 |0,_,_,h,_=>absurd h (Nat.not_lt_zero _)
 |1,_,_,h,_=>absurd h (by omega)
 |n+2,f,j,hj,h=>by
  by_cases e:j=n
  ·subst e;have e1:det (j+2) f=sm (j+1+1) fun c=>sm (j+1) fun c'=>sg (j+1+c)*f (j+1) c*(sg (j+c')*f j (sk c c')*det j fun i k=>f i (sk c (sk c' k))):=by
    show sm (j+1+1) _=_;refine au fun c _=>?_;rw[show det (j+1) (fun i k=>f i (sk c k))=sm (j+1) fun c'=>sg (j+c')*f j (sk c c')*det j fun i k=>f i (sk c (sk c' k))from rfl,<-bf]
   rw[e1,tri];refine iH fun b hb=>iH fun a ha=>?_;have f1:sk b a=a:=by unfold sk;rw[if_pos ha]
   have f2:sk a (b-1)=b:=by unfold sk;rw[if_neg (by omega)];omega
   have f3:(fun i k=>f i (sk b (sk a k)))=fun i k=>f i (sk a (sk (b-1) k)):=by funext i k;rw[Uu ha]
   rw[f1,f2,f3,<-h b (by omega),<-h a (by omega)];have s1:sg (j+1+b)*sg (j+a)=-(sg (j+1+a)*sg (j+(b-1))):=by
    rw[<-Gs,<-Gs,<-pF];unfold sg;rw[show(j+1+b+(j+a))%2=(j+1+a+(j+(b-1))+1)%2 by omega]
   generalize det j (fun i k=>f i (sk a (sk (b-1) k)))=M;have t1:sg (j+1+b)*f j b*(sg (j+a)*f j a*M)=(sg (j+1+b)*sg (j+a))*(f j b*f j a*M):=by
    simp only[Int.mul_assoc,Int.mul_left_comm]
   have t2:sg (j+1+a)*f j a*(sg (j+(b-1))*f j b*M)=(sg (j+1+a)*sg (j+(b-1)))*(f j b*f j a*M):=by
    simp only[Int.mul_assoc,Int.mul_left_comm]
   rw[t1,t2,s1,Int.neg_mul];omega
  ·unfold det;refine iH fun c hc=>?_;rw[pq (n:=n+1) (j:=j) (by omega) fun k hk=>h (sk c k) (by unfold sk;split<;>omega),Int.mul_zero]
theorem nW(f:Nat->Nat->Int)(j:Nat):nF f j (f j)=f:=by
 funext i k;unfold nF;split
 ·rename_i h;rw[h]
 ·rfl
theorem zu{n:Nat}(f:Nat->Nat->Int){j:Nat}(hj:j+1<n):det n (fun i k=>f (sw j i) k)=-det n f:=by
 let D:=fun(x y:Nat->Int)=>det n (nF (nF f j x) (j+1) y)
 have z:∀x,D x x=0:=fun x=>pq hj fun k _=>by
  show(if j=j+1 then x k else if j=j then x k else f j k)=(if j+1=j+1 then x k else _);rw[if_neg (by omega),if_pos rfl,if_pos rfl]
 have l2:∀x y y',D x (fun i=>1*y i+y' i)=1*D x y+D x y':=fun x y y'=>jH _ hj 1 y y';have cm:∀x y,nF (nF f j x) (j+1) y=nF (nF f (j+1) y) j x:=fun x y=>by
  funext i k;unfold nF;split<;>(try split)<;>first|rfl|omega
 have l1:∀x x' y,D (fun i=>1*x i+x' i) y=1*D x y+D x' y:=fun x x' y=>by
  show det n _=1*det n _+det n _;rw[cm,cm,cm];exact jH _ (by omega) 1 x x'
 have a:=z fun i=>1*f j i+f (j+1) i;rw[l1,l2,l2,z,z]at a;have e1:D (fun i=>f j i) (fun i=>f (j+1) i)=det n f:=by
  show det n _=_;rw[nW f j,nW]
 have e2:D (fun i=>f (j+1) i) (fun i=>f j i)=det n (fun i k=>f (sw j i) k):=bK fun i k _ _=>by
  unfold nF sw;by_cases c1:i=j+1
  ·rw[if_pos c1,if_neg (by omega),if_pos c1]
  ·rw[if_neg c1];by_cases c2:i=j
   ·rw[if_pos c2,if_pos c2]
   ·rw[if_neg c2,if_neg c2,if_neg c1]
 rw[e1,e2]at a;omega
theorem rY{n:Nat}:∀(d:Nat) (f:Nat->Nat->Int) {h m:Nat},m=h+d->m<n->det n (fun i k=>f (mv h m i) k)=sg d*det n f
 |0,f,h,m,e,hm=>by
  have:det n (fun i k=>f (mv h m i) k)=det n f:=bK fun i k _ _=>by
   rw[show mv h m i=i by unfold mv;split<;>(try split)<;>(try split)<;>omega]
  rw[this];simp[sg]
 |d+1,f,h,m,e,hm=>by
  have e1:(fun i k=>f (mv h m i) k)=fun i k=>(fun i k=>f (sw h i) k) (mv (h+1) m i) k:=by
   funext i k;rw[DC (by omega)]
  rw[e1,rY d (fun i k=>f (sw h i) k) (by omega) hm,zu f (by omega),pF,Int.mul_neg,Int.neg_mul]
theorem xM{n:Nat}{f:Nat->Nat->Int}{a b:Nat}(hab:a<b)(hb:b<n)(h:∀k,k<n->f a k=f b k):det n f=0:=by
 have e:=rY (n:=n) (b-1-a) f (h:=a) (m:=b-1) (by omega) (by omega);have z:det n (fun i k=>f (mv a (b-1) i) k)=0:=pq (j:=b-1) (by omega) fun k hk=>by
  rw[show mv a (b-1) (b-1)=a by unfold mv;rw[if_neg (by omega),if_neg (by omega),if_pos rfl],show mv a (b-1) (b-1+1)=b by unfold mv;rw[if_neg (by omega),if_neg (by omega),if_neg (by omega)];omega];exact h k hk
 rw[z]at e;have s:=Oh (b-1-a);have:sg (b-1-a)*(sg (b-1-a)*det n f)=det n f:=by rw[<-Int.mul_assoc,s,Int.one_mul]
 rw[<-e,Int.mul_zero]at this;exact this.symm
theorem zq{n:Nat}(f:Nat->Nat->Int){a b:Nat}(hab:a<b)(hb:b<n):det n (nF (nF f a (f b)) b fun k=>-1*f a k+0)=det n f:=by
 let D:=fun(x y:Nat->Int)=>det n (nF (nF f a x) b y)
 have z:∀x,D x x=0:=fun x=>xM hab hb fun k _=>by
  show(if a=b then x k else if a=a then x k else f a k)=(if b=b then x k else _);rw[if_neg (by omega),if_pos rfl,if_pos rfl]
 have l2:∀(c:Int) x y y',D x (fun i=>c*y i+y' i)=c*D x y+D x y':=fun c x y y'=>jH _ hb c y y';have cm:∀x y,nF (nF f a x) b y=nF (nF f b y) a x:=fun x y=>by
  funext i k;unfold nF;split<;>(try split)<;>first|rfl|omega
 have l1:∀x x' y,D (fun i=>1*x i+x' i) y=1*D x y+D x' y:=fun x x' y=>by
  show det n _=1*det n _+det n _;rw[cm,cm,cm];exact jH _ (by omega) 1 x x'
 have q:=z fun i=>1*f a i+f b i;rw[l1,l2,l2,z,z]at q;have e1:D (f a) (f b)=det n f:=by
  show det n _=_;rw[nW f a,nW]
 have e3:D (f b) (fun k=>-1*f a k+0)=-1*D (f b) (f a)+D (f b) (fun _=>0):=l2 (-1) (f b) (f a) (fun _=>0);have e4:D (f b) (fun _=>0)=0:=by
  have:=l2 0 (f b) (fun _=>0) (fun _=>0);have e5:=l2 (-1) (f b) (fun _=>0) (fun _=>0);simp only[Int.mul_zero,Int.add_zero]at e5;omega
 show D (f b) (fun k=>-1*f a k+0)=_;rw[e3,e4];have e6:D (fun i=>f a i) (fun i=>f b i)=det n f:=e1;have e7:D (fun i=>f b i) (fun i=>f a i)=D (f b) (f a):=rfl;rw[e6,e7]at q;omega
end Dm
namespace Dm
open Pm
theorem jR{n:Nat}(f:Nat->Nat->Int){j:Nat}(hj:j<n):det n (jE f j fun _=>0)=0:=by
 have e:=iz f hj (-1) (fun _=>0) (fun _=>0);simp only[Int.mul_zero,Int.add_zero]at e;omega
theorem mF{n:Nat}(f:Nat->Nat->Int){j:Nat}(hj:j<n)(x:Nat->Int)(u:Nat->Nat->Int):∀m:Nat,det n (jE f j fun i=>sm m fun h=>x h*u h i)=sm m fun h=>x h*det n (jE f j (u h))
 |0=>jR f hj
 |m+1=>by
  rw[sm,<-mF f hj x u m];have e:=iz f hj (x m) (u m) (fun i=>sm m fun h=>x h*u h i);rw[Int.add_comm,<-e];congr 2
  funext i
  rw[sm,Int.add_comm]
theorem K9{n:Nat}{f:Nat->Nat->Int}{x:Nat->Int}(h:∀i,i<n->sm n (fun k=>f i k*x k)=0){j:Nat}(hj:j<n):x j*det n f=0:=by
 have e1:det n (jE f j fun i=>sm n fun k=>x k*f i k)=0:=by
  rw[<-jR f hj];refine bK fun i k hi _=>?_;unfold jE;split
  ·rw[<-h i hi];exact au fun k _=>Int.mul_comm ..
  ·rfl
 rw[mF f hj x (fun k i=>f i k)]at e1;have e2:sm n (fun k=>x k*det n (jE f j fun i=>f i k))=sm n (fun k=>if k=j then x j*det n f else 0):=au fun k hk=>by
  by_cases c:k=j
  ·rw[if_pos c,c,kW]
  ·rw[if_neg c];have z:det n (jE f j fun i=>f i k)=0:=by
    rcases Nat.lt_or_gt_of_ne c with l|l
    ·exact iK l hj fun i _=>by rw[dI,iJ (by omega)]
    ·exact iK l hk fun i _=>by rw[dI,iJ (by omega)]
   rw[z,Int.mul_zero]
 rw[e2,cL,if_pos hj]at e1;exact e1
def Bk(A:Nat->Nat->Int)(hd:Nat->Nat):Nat->Nat->Int:=fun i h=>A i (hd h)
def dt(A:Nat->Nat->Int)(hd:Nat->Nat)(r:Nat):Int:=det r (Bk A hd)
def cr(A:Nat->Nat->Int)(hd:Nat->Nat)(r h k:Nat):Int:=det r (jE (Bk A hd) h fun i=>A i k)
def bd(A:Nat->Nat->Int)(hd:Nat->Nat)(r i k:Nat):Int:=det (r+1) fun i' k'=>A (if i'=r then i else i') (if k'=r then k else hd k')
theorem ou(A:Nat->Nat->Int)(hd:Nat->Nat)(r i k:Nat):bd A hd r i k=A i k*dt A hd r-sm r fun h=>A i (hd h)*cr A hd r h k:=by
 unfold bd;rw[det,sm];have e1:sg (r+r)*A (if r=r then i else r) (if r=r then k else hd r)*det r (fun i' k'=>A (if i'=r then i else i') (if sk r k'=r then k else hd (sk r k')))=A i k*dt A hd r:=by
  rw[if_pos rfl,if_pos rfl,show sg (r+r)=1 by unfold sg;rw[if_pos (by omega)],Int.one_mul];congr 1;exact bK fun i' k' hi hk=>by
   rw[if_neg (by omega),show sk r k'=k' by unfold sk;rw[if_pos hk],if_neg (by omega)];rfl
 rw[e1];have e2:sm r (fun c=>sg (r+c)*A (if r=r then i else r) (if c=r then k else hd c)*det r (fun i' k'=>A (if i'=r then i else i') (if sk c k'=r then k else hd (sk c k'))))=sm r fun h=>-1*(A i (hd h)*cr A hd r h k):=au fun c hc=>by
  rw[if_pos rfl,if_neg (by omega)];have m:det r (fun i' k'=>A (if i'=r then i else i') (if sk c k'=r then k else hd (sk c k')))=sg (r-1-c)*cr A hd r c k:=by
   rw[cr,<-nG (n:=r) (r-1-c) (jE (Bk A hd) c fun i=>A i k) (h:=c) (m:=r-1) (by omega) (by omega)];refine bK fun i' k' hi hk=>?_;rw[if_neg (by omega)];unfold sk mv jE Bk;by_cases c1:k'<c
   ·rw[if_pos c1,if_pos c1,if_neg (by omega),if_neg (by omega)]
   ·rw[if_neg c1,if_neg c1];by_cases c2:k'<r-1
    ·rw[if_pos c2,if_neg (by omega),if_neg (by omega)]
    ·rw[if_neg c2,if_pos (show k'+1=r by omega),if_pos (show k'=r-1 by omega),if_pos rfl]
  rw[m];have s:sg (r+c)*sg (r-1-c)=-1:=by
   rw[<-Gs];unfold sg;rw[if_neg (by omega)]
  have t:sg (r+c)*A i (hd c)*(sg (r-1-c)*cr A hd r c k)=(sg (r+c)*sg (r-1-c))*(A i (hd c)*cr A hd r c k):=by simp only[Int.mul_assoc,Int.mul_left_comm]
  rw[t,s]
 rw[e2,bf];omega
theorem Gx{A:Nat->Nat->Int}{hd:Nat->Nat}{r i:Nat}(k:Nat)(h:i<r):bd A hd r i k=0:=xM h (Nat.lt_succ_self r) fun k' _=>by
 rw[if_neg (by omega),if_pos rfl]
theorem JX{A:Nat->Nat->Int}{hd:Nat->Nat}{r i:Nat}(k:Nat)(h:i<r):sm r (fun h=>A i (hd h)*cr A hd r h k)=A i k*dt A hd r:=by
 have:=ou A hd r i k;rw[Gx k h]at this;omega
theorem GK(A:Nat->Nat->Int)(hd:Nat->Nat)(r i k:Nat):sm r (fun h=>A i (hd h)*cr A hd r h k)=A i k*dt A hd r-bd A hd r i k:=by
 have:=ou A hd r i k;omega
def more(hd:Nat->Nat)(r c:Nat):Nat->Nat:=fun h=>if h=r then c else hd h
theorem v8(A:Nat->Nat->Int)(hd:Nat->Nat)(r c:Nat):dt A (more hd r c) (r+1)=bd A hd r r c:=bK fun i k _ _=>by
 unfold Bk more;by_cases h:i=r
 ·rw[if_pos h,h]
 ·rw[if_neg h]
theorem K8(A:Nat->Nat->Int)(hd:Nat->Nat)(r c k:Nat):cr A (more hd r c) (r+1) r k=bd A hd r r k:=bK fun i k' _ _=>by
 unfold jE Bk more;by_cases h:i=r
 ·rw[if_pos h,h];by_cases h2:k'=r
  ·rw[if_pos h2,if_pos h2]
  ·rw[if_neg h2,if_neg h2,if_neg h2]
 ·rw[if_neg h];by_cases h2:k'=r
  ·rw[if_pos h2,if_pos h2]
  ·rw[if_neg h2,if_neg h2,if_neg h2]
theorem Bw(A:Nat->Nat->Int)(hd:Nat->Nat)(r c i k:Nat):
  sm r (fun h=>A i (hd h)*(bd A hd r r c*cr A hd r h k-cr A hd r h c*bd A hd r r k))+A i c*(dt A hd r*bd A hd r r k)=bd A hd r r c*(A i k*dt A hd r-bd A hd r i k)+bd A hd r r k*bd A hd r i c:=by
 have e1:sm r (fun h=>A i (hd h)*(bd A hd r r c*cr A hd r h k-cr A hd r h c*bd A hd r r k))=bd A hd r r c*sm r (fun h=>A i (hd h)*cr A hd r h k) + -(bd A hd r r k)*sm r (fun h=>A i (hd h)*cr A hd r h c):=by
  rw[<-bf,<-bf,<-cP];refine au fun h _=>?_;rw[Int.mul_sub,Int.neg_mul,Int.mul_left_comm,<-Int.mul_assoc (A i (hd h)),Int.mul_comm (A i (hd h)*cr A hd r h c)];omega
 rw[e1,GK,GK,Int.mul_sub (-bd A hd r r k),Int.neg_mul,Int.neg_mul];have e2:A i c*(dt A hd r*bd A hd r r k)=bd A hd r r k*(A i c*dt A hd r):=by simp only[Int.mul_assoc,Int.mul_left_comm,Int.mul_comm]
 rw[e2];omega
theorem DB{A:Nat->Nat->Int}{hd:Nat->Nat}{r c:Nat}(hp:bd A hd r r c≠0){h:Nat}(hh:h<r)(k:Nat):dt A hd r*cr A (more hd r c) (r+1) h k=bd A hd r r c*cr A hd r h k-cr A hd r h c*bd A hd r r k:=by
 let x:=fun h=>dt A hd r*cr A (more hd r c) (r+1) h k-(if h=r then dt A hd r*bd A hd r r k else bd A hd r r c*cr A hd r h k-cr A hd r h c*bd A hd r r k)
 have key:=K9 (n:=r+1) (f:=Bk A (more hd r c)) (x:=x) (fun i hi=>?_) (j:=h) (by omega)
 ·have e:det (r+1) (Bk A (more hd r c))=bd A hd r r c:=v8 A hd r c;rw[e]at key;rcases Int.mul_eq_zero.mp key with z|z
  ·have z':dt A hd r*cr A (more hd r c) (r+1) h k-(if h=r then dt A hd r*bd A hd r r k else bd A hd r r c*cr A hd r h k-cr A hd r h c*bd A hd r r k)=0:=z;rw[if_neg (by omega)]at z';omega
  ·exact absurd z hp
 ·have e1:sm (r+1) (fun h=>Bk A (more hd r c) i h*x h)=dt A hd r*sm (r+1) (fun h=>A i (more hd r c h)*cr A (more hd r c) (r+1) h k) + -1*sm (r+1) (fun h=>A i (more hd r c h)*(if h=r then dt A hd r*bd A hd r r k else bd A hd r r c*cr A hd r h k-cr A hd r h c*bd A hd r r k)):=by
   rw[<-bf,<-bf,<-cP];refine au fun h _=>?_;show A i (more hd r c h)*(dt A hd r*cr A (more hd r c) (r+1) h k-_)=_;rw[Int.mul_sub,Int.mul_left_comm];omega
  rw[e1,JX k hi,v8,sm,if_pos rfl,show more hd r c r=c from if_pos rfl];have e2:sm r (fun h=>A i (more hd r c h)*(if h=r then dt A hd r*bd A hd r r k else bd A hd r r c*cr A hd r h k-cr A hd r h c*bd A hd r r k))=sm r (fun h=>A i (hd h)*(bd A hd r r c*cr A hd r h k-cr A hd r h c*bd A hd r r k)):=au fun h hh=>by
   rw[if_neg (by omega),show more hd r c h=hd h from if_neg (by omega)]
  rw[e2,Bw];have e3:dt A hd r*(A i k*bd A hd r r c)=bd A hd r r c*(A i k*dt A hd r):=by simp only[Int.mul_assoc,Int.mul_left_comm,Int.mul_comm]
  rw[e3,Int.mul_sub];have e4:bd A hd r r c*bd A hd r i k=bd A hd r r k*bd A hd r i c:=by
   by_cases z:i<r
   ·rw[Gx k z,Gx c z,Int.mul_zero,Int.mul_zero]
   ·rw[show i=r by omega,Int.mul_comm]
  rw[e4];omega
theorem KL{A:Nat->Nat->Int}{hd:Nat->Nat}{r c:Nat}(hp:bd A hd r r c≠0)(i k:Nat):dt A hd r*bd A (more hd r c) (r+1) i k=bd A hd r r c*bd A hd r i k-bd A hd r i c*bd A hd r r k:=by
 rw[ou A (more hd r c) (r+1),v8,Int.mul_sub,<-bf,sm,K8,show more hd r c r=c from if_pos rfl];have e2:sm r (fun h=>dt A hd r*(A i (more hd r c h)*cr A (more hd r c) (r+1) h k))=sm r (fun h=>A i (hd h)*(bd A hd r r c*cr A hd r h k-cr A hd r h c*bd A hd r r k)):=au fun h hh=>by
  rw[Int.mul_left_comm,DB hp hh,show more hd r c h=hd h from if_neg (by omega)]
 have e5:=Bw A hd r c i k;rw[e2,show dt A hd r*(A i c*bd A hd r r k)=A i c*(dt A hd r*bd A hd r r k)from Int.mul_left_comm ..,e5,Int.mul_sub];have e3:dt A hd r*(A i k*bd A hd r r c)=bd A hd r r c*(A i k*dt A hd r):=by simp only[Int.mul_assoc,Int.mul_left_comm,Int.mul_comm]
 rw[e3,Int.mul_comm (bd A hd r i c)];omega
def En(A:Nat->Nat->Int)(hd:Nat->Nat)(r i k:Nat):Int:=if i<r then cr A hd r i k else bd A hd r i k
theorem KN(A:Nat->Nat->Int)(hd:Nat->Nat)(i k:Nat):En A hd 0 i k=A i k:=by
 unfold En;rw[if_neg (by omega),ou];simp[sm,dt,det]
theorem Dn{A:Nat->Nat->Int}{hd:Nat->Nat}{r c:Nat}(hp:En A hd r r c≠0){i:Nat}(hi:i≠r)(k:Nat):dt A hd r*En A (more hd r c) (r+1) i k=En A hd r r c*En A hd r i k-En A hd r i c*En A hd r r k:=by
 have er:∀k,En A hd r r k=bd A hd r r k:=fun k=>if_neg (by omega);rw[er]at hp⊢;rw[er];unfold En;by_cases h:i<r
 ·rw[if_pos (by omega),if_pos h,if_pos h];exact DB hp h k
 ·rw[if_neg (by omega),if_neg h,if_neg h];exact KL hp i k
theorem Em(A:Nat->Nat->Int)(hd:Nat->Nat)(r c:Nat):dt A (more hd r c) (r+1)=En A hd r r c:=by
 rw[v8];exact(if_neg (by omega)).symm
theorem GB(A:Nat->Nat->Int)(hd:Nat->Nat):dt A hd 0=1:=rfl
theorem Nk{A:Nat->Nat->Int}{hd:Nat->Nat}{r i h:Nat}(hh:h<r):En A hd r i (hd h)=if i=h then dt A hd r else 0:=by
 unfold En;by_cases c:i<r
 ·rw[if_pos c];by_cases e:i=h
  ·rw[if_pos e,e];show det r (jE (Bk A hd) h fun i=>Bk A hd i h)=_;rw[kW];rfl
  ·rw[if_neg e];show det r (jE (Bk A hd) i fun i'=>A i' (hd h))=0;rcases Nat.lt_or_gt_of_ne e with l|l
   ·exact iK l hh fun i' _=>by rw[dI,iJ (by omega)];rfl
   ·exact iK l c fun i' _=>by rw[dI,iJ (by omega)];rfl
 ·rw[if_neg c,if_neg (by omega)];exact iK (a:=h) (b:=r) hh (Nat.lt_succ_self r) fun i' _=>by rw[if_neg (show ¬h=r by omega),if_pos (show r=r from rfl)]
theorem PX(A:Nat->Nat->Int)(hd:Nat->Nat)(r i k:Nat):A i k*dt A hd r=sm r (fun h=>A i (hd h)*En A hd r h k)+(if i<r then 0 else En A hd r i k):=by
 have e:sm r (fun h=>A i (hd h)*En A hd r h k)=sm r (fun h=>A i (hd h)*cr A hd r h k):=au fun h hh=>by
  unfold En;rw[if_pos hh]
 rw[e];by_cases c:i<r
 ·rw[if_pos c,JX k c,Int.add_zero]
 ·rw[if_neg c,GK];unfold En;rw[if_neg c];omega
end Dm
namespace Dm
open Pm Rm
def Dom(b:Int):Prop:=∀x y,tk b x≠0->tk b (x*y)=0->tk b y=0
theorem Dom.zero:Dom 0:=fun x y hx h=>by
 rw[aW]at *;rcases Int.mul_eq_zero.mp h with z|z
 ·exact absurd z hx
 ·exact z
theorem Dom.prime{P:Nat}(hP:P∈Om.iM)(h2:2<=P):Dom (P:Int):=fun x y hx h=>by
 have hP0:(P:Int)≠0:=by omega
 have tkP:∀n,tk (P:Int) n=n%(P:Int):=fun n=>fu hP0 n;rw[tkP]at *;have r0:=Int.emod_nonneg x hP0;have r1:=Int.emod_lt_of_pos x (show(0:Int)<P by omega);have hinv:((x%P)^(P-2)*(x%P))%(P:Int)=1:=by
  rw[<-Int.pow_succ,show(P-2).succ=P-1 by omega];exact Om.tO rfl hP (by omega) r1
 have e1:((x%P)^(P-2)*(x*y))%(P:Int)=0:=by rw[Int.mul_emod,h,Int.mul_zero];exact Int.zero_emod _
 have e2:((x%P)^(P-2)*(x*y))%(P:Int)=y%(P:Int):=by
  have e3:((x%P)^(P-2)*x)%(P:Int)=1:=by rw[Int.mul_emod,<-hinv,Int.mul_emod ((x%P)^(P-2)) (x%P),Int.emod_emod_of_dvd _ (Int.dvd_refl _)]
  rw[<-Int.mul_assoc,Int.mul_emod,e3,Int.one_mul,Int.emod_emod_of_dvd _ (Int.dvd_refl _)]
 rw[<-e2,e1]
theorem eV{b x:Int}:tk b x=0↔∃e,x=b*e:=by
 unfold tk;split
 ·rename_i h
  constructor
  ·intro z;exact⟨0,by rw[z,Int.mul_zero]⟩
  ·rintro⟨e,he⟩;rw[he,h,Int.zero_mul]
 ·constructor
  ·intro z;exact⟨x/b,(Int.mul_ediv_cancel' (Int.dvd_of_emod_eq_zero z)).symm⟩
  ·rintro⟨e,he⟩;rw[he];exact Int.mul_emod_right b e
def turn(A:Nat->Nat->Int)(a c:Nat):Nat->Nat->Int:=nF (nF A a (A c)) c fun k=>-1*A a k+0
inductive Swp(n:Nat)(A0:Nat->Nat->Int):(Nat->Nat->Int)->Prop
 |refl:Swp n A0 A0
 |step {A:Nat->Nat->Int} {a c:Nat}:Swp n A0 A->a<c->c<n->Swp n A0 (turn A a c)
theorem Swp.det{n:Nat}{A0 A:Nat->Nat->Int}(h:Swp n A0 A):Dm.det n A=Dm.det n A0:=by
 induction h with
 |refl=>rfl
 |step _ h1 h2 ih=>rw[<-ih];exact zq _ h1 h2
theorem jU{A:Nat->Nat->Int}{a c i:Nat}(h1:i≠a)(h2:i≠c)(k:Nat):turn A a c i k=A i k:=by
 unfold turn nF;rw[if_neg h2,if_neg h1]
theorem vJ{A:Nat->Nat->Int}{a c:Nat}(h:a≠c)(k:Nat):turn A a c a k=A c k:=by
 unfold turn nF;rw[if_neg h,if_pos rfl]
theorem jK(A:Nat->Nat->Int)(a c k:Nat):turn A a c c k=-A a k:=by
 unfold turn nF;rw[if_pos rfl];show -1*A a k+0=-A a k;omega
theorem Ft{A:Nat->Nat->Int}{hd:Nat->Nat}{r a c:Nat}(ha:r<=a)(hc:r<=c):dt (turn A a c) hd r=dt A hd r:=bK fun i k hi _=>jU (by omega) (by omega) _
theorem GZ{A:Nat->Nat->Int}{hd:Nat->Nat}{r a c:Nat}(ha:r<=a)(hc:r<=c)(h k:Nat):cr (turn A a c) hd r h k=cr A hd r h k:=bK fun i k' hi _=>by
 show(if k'=h then turn A a c i k else turn A a c i (hd k'))=if k'=h then A i k else A i (hd k');rw[jU (by omega) (by omega),jU (by omega) (by omega)]
theorem DN{A:Nat->Nat->Int}{hd:Nat->Nat}{r a c:Nat}(ha:r<=a)(hac:a<c)(i k:Nat):En (turn A a c) hd r i k=if i=a then En A hd r c k else if i=c then -En A hd r a k else En A hd r i k:=by
 have hc:r<=c:=by omega
 unfold En;by_cases h:i<r
 ·rw[if_pos h,if_neg (by omega),if_neg (by omega),if_pos h];exact GZ ha hc i k
 ·rw[if_neg h,ou,Ft ha hc];have e:∀j,sm r (fun h=>turn A a c j (hd h)*cr (turn A a c) hd r h k)=sm r (fun h=>turn A a c j (hd h)*cr A hd r h k):=fun j=>au fun h _=>by rw[GZ ha hc]
  rw[e];by_cases h1:i=a
  ·rw[if_pos h1,if_neg (by omega),ou,h1,vJ (by omega)];congr 1;exact au fun h _=>by rw[vJ (by omega)]
  ·rw[if_neg h1];by_cases h2:i=c
   ·rw[if_pos h2,if_neg (by omega),ou,h2,jK];have:sm r (fun h=>turn A a c c (hd h)*cr A hd r h k)=-1*sm r (fun h=>A a (hd h)*cr A hd r h k):=by
     rw[<-bf];exact au fun h _=>by rw[jK,Int.neg_mul];omega
    rw[this,Int.neg_mul];omega
   ·rw[if_neg h2,if_neg h,ou,jU h1 h2];congr 1;exact au fun h _=>by rw[jU h1 h2]
def ln(L:List (List Int))(i:Nat):List Int:=L.getD i []
structure ClI(b:Int)(n W u:Nat)(A0:Nat->Nat->Int)(c:Nat)(A:Nat->Nat->Int)(hd:Nat->Nat)(r:Nat)(L:List (List Int))(last:Int):Prop where
 sw:Swp n A0 A
 len:L.length=n
 wd:∀i,i<n->(ln L i).length=W
 en:∀i k,i<n->k<W->co (ln L i) k=tk b (En A hd r i k)
 la:last=tk b (dt A hd r)
 nz:tk b (dt A hd r)≠0
 rn:r<=n
 hc:∀h,h<r->hd h<c
 up:∀h h',h<h'->h'<r->hd h<hd h'
 zero:∀k,k<c->(∀h,h<r->hd h≠k)->∀i,r<=i->i<n->tk b (En A hd r i k)=0
 full:c<=n->(r=c/\∀h,h<r->hd h=h)∨tk b (det n A)=0
 bdd:∀i k,Bd u (A i k)
 ge:∀h,h<r->∀k,k<hd h->(∀h',h'<r->hd h'≠k)->tk b (En A hd r h k)=0
theorem BF{u:Nat}:∀{n:Nat} {f:Nat->Nat->Int},(∀i k,i<n->k<n->Bd u (f i k))->Bd (n*(u+n)+1) (det n f)
 |0,_,_=>by
  show Bd (0*(u+0)+1) 1;rw[Nat.zero_mul];exact Bd.of (by decide) (by decide)
 |n+1,f,h=>by
  unfold det;have e:Bd (u+(n*(u+n)+1)+(n+1)) (sm (n+1) fun c=>sg (n+c)*f n c*det n fun i k=>f i (sk c k)):=HS _ fun c hc=>by
   have b1:=h n c (by omega) hc;have b2:=BF (u:=u) (n:=n) (f:=fun i k=>f i (sk c k)) fun i k hi hk=>h i (sk c k) (by omega) (by unfold sk;split<;>omega);have b3:=b1.mul b2;unfold Bd at b3⊢;rw[Int.mul_assoc,Int.natAbs_mul];have:(sg (n+c)).natAbs=1:=by unfold sg;split<;>rfl
   rw[this,Nat.one_mul];exact b3
  refine e.mono ?_;have:(n+1)*(u+(n+1))=n*(u+n)+n+u+(n+1):=by
   rw[Nat.succ_mul,show u+(n+1)=u+n+1 by omega,Nat.mul_add n (u+n) 1];omega
  omega
end Dm
namespace Dm
open Rm Pm
theorem m7{b x:Int}(h:tk b x=0):tk b (-x)=0:=by
 have:=aZ b (-1) x;rw[h,Int.mul_zero,tk0]at this;rw[show -x=-1*x by omega,<-this]
theorem vq{b x:Int}(y:Int)(h:tk b x=0):tk b (y*x)=0:=by rw[<-aZ,h,Int.mul_zero,tk0]
theorem LV{b x y:Int}(h:tk b x=0)(h':tk b y=0):tk b (x+y)=0:=by rw[<-cC,h,Int.zero_add,h']
theorem Fz{b x y:Int}(h:tk b x=0)(h':tk b y=0):tk b (x-y)=0:=by rw[Int.sub_eq_add_neg];exact LV h (m7 h')
theorem Kc(f:Nat->Int)(n:Nat):sm n (fun k=>-f k)=-sm n f:=by
 have e:(fun k=>-f k)=fun k=>-1*f k:=funext fun k=>by omega
 rw[e,bf];omega
theorem JZ(f g:Nat->Int)(n:Nat):sm n (fun k=>f k-g k)=sm n f-sm n g:=by
 have e:(fun k=>f k-g k)=fun k=>f k + -g k:=funext fun k=>by omega
 rw[e,cP,Kc];omega
theorem Pr{b:Int}{f:Nat->Int}{n:Nat}(h:∀k,k<n->tk b (f k)=0):tk b (sm n f)=0:=by
 have:=jq (b:=b) (f:=f) (g:=fun _=>0) (n:=n) fun k hk=>by rw[h k hk,tk0]
 rw[this,fM,tk0]
def Rel(b:Int)(n m:Nat)(A:Nat->Nat->Int)(x:Nat->Int):Prop:=∀i,i<n->tk b (sm m fun k=>A i k*x k)=0
theorem E5(A:Nat->Nat->Int)(x:Nat->Int)(i m:Nat):sm m (fun k=>-A i k*x k)=-sm m fun k=>A i k*x k:=by
 rw[<-Kc];exact au fun k _=>Int.neg_mul ..
theorem Rel.turn{b:Int}{n m:Nat}{A:Nat->Nat->Int}{x:Nat->Int}{a c:Nat}(hac:a<c)(hc:c<n):Rel b n m A x↔Rel b n m (turn A a c) x:=by
 have ha:a<n:=by omega
 constructor
 ·intro h i hi;by_cases c1:i=c
  ·rw[c1,au (g:=fun k=>-A a k*x k) fun k _=>by rw[jK],E5];exact m7 (h a ha)
  ·by_cases c2:i=a
   ·rw[c2,au (g:=fun k=>A c k*x k) fun k _=>by rw[vJ (by omega)]];exact h c hc
   ·rw[au (g:=fun k=>A i k*x k) fun k _=>by rw[jU c2 c1]];exact h i hi
 ·intro h i hi;by_cases c1:i=c
  ·have:=h a ha;rw[au (g:=fun k=>A c k*x k) fun k _=>by rw[vJ (by omega)]]at this;rw[c1];exact this
  ·by_cases c2:i=a
   ·have:=h c hc;rw[au (g:=fun k=>-A a k*x k) fun k _=>by rw[jK],E5]at this;rw[c2];have:=m7 this
    rwa [Int.neg_neg]at this
   ·have:=h i hi;rw[au (g:=fun k=>A i k*x k) fun k _=>by rw[jU c2 c1]]at this;exact this
theorem Swp.rel{b:Int}{n m:Nat}{A0 A:Nat->Nat->Int}{x:Nat->Int}(h:Swp n A0 A):Rel b n m A0 x↔Rel b n m A x:=by
 induction h with
 |refl=>exact Iff.rfl
 |step _ h1 h2 ih=>exact ih.trans (Rel.turn h1 h2)
theorem Ej{b:Int}:∀{n:Nat} {f g:Nat->Nat->Int},(∀i k,i<n->k<n->tk b (f i k)=tk b (g i k))->tk b (det n f)=tk b (det n g)
 |0,_,_,_=>rfl
 |n+1,f,g,h=>by
  unfold det;refine jq fun c hc=>?_;have e1:tk b (det n fun i k=>f i (sk c k))=tk b (det n fun i k=>g i (sk c k)):=Ej fun i k hi hk=>h i _ (by omega) (by unfold sk;split<;>omega);rw[<-aZ,e1,aZ,Int.mul_assoc,<-aZ,<-cH b (f n c),h n c (by omega) hc,cH,aZ,Int.mul_assoc]
theorem Rel.en{b:Int}{n m:Nat}{A:Nat->Nat->Int}{x:Nat->Int}(hx:Rel b n m A x)(hd:Nat->Nat){r:Nat}(hr:r<=n):Rel b n m (En A hd r) x:=by
 have low:∀i,i<r->tk b (sm m fun k=>cr A hd r i k*x k)=0:=fun i hi=>by
  have e:=mF (n:=r) (Bk A hd) hi x (fun k i'=>A i' k) m;have e2:sm m (fun k=>cr A hd r i k*x k)=sm m fun k=>x k*det r (jE (Bk A hd) i fun i'=>A i' k):=au fun k _=>Int.mul_comm ..;rw[e2,<-e,Ej (g:=jE (Bk A hd) i fun _=>0) (fun i' k' hi' _=>?_),jR _ hi,tk0];unfold jE;split
  ·have:=hx i' (by omega);rw[tk0,<-this];exact congrArg (tk b) (au fun k _=>Int.mul_comm ..)
  ·rfl
 intro i hi;by_cases c:i<r
 ·rw[au (g:=fun k=>cr A hd r i k*x k) fun k _=>by unfold En;rw[if_pos c]];exact low i c
 ·have e:sm m (fun k=>En A hd r i k*x k)=dt A hd r*sm m (fun k=>A i k*x k)-sm r fun h=>A i (hd h)*sm m fun k=>cr A hd r h k*x k:=by
   rw[<-bf];have e2:sm r (fun h=>A i (hd h)*sm m fun k=>cr A hd r h k*x k)=sm m fun k=>sm r fun h=>A i (hd h)*(cr A hd r h k*x k):=by
    rw[lH];exact au fun h _=>(bf ..).symm
   rw[e2,<-JZ];refine au fun k _=>?_;unfold En;rw[if_neg c,ou,Int.sub_mul];congr 1
   ·rw[Int.mul_comm (A i k),Int.mul_assoc]
   ·rw[Int.mul_comm,<-bf];exact au fun h _=>by rw[Int.mul_comm,Int.mul_assoc]
  rw[e];exact Fz (vq _ (hx i hi)) (Pr fun h hh=>vq _ (low h hh))
def Ind(b:Int)(n m:Nat)(A:Nat->Nat->Int):Prop:=∀x,Rel b n m A x->∀k,k<m->tk b (x k)=0
theorem Bb{A:Nat->Nat->Int}{hd:Nat->Nat}{r m k:Nat}{b:Int}{n:Nat}(hm:∀h,h<r->hd h<m)(hk:k<m)(hz:∀i,r<=i->i<n->tk b (En A hd r i k)=0):
  Rel b n m A fun j=>sm r (fun h=>if j=hd h then En A hd r h k else 0)-if j=k then dt A hd r else 0:=fun i hi=>by
 have e:sm m (fun j=>A i j*(sm r (fun h=>if j=hd h then En A hd r h k else 0)-if j=k then dt A hd r else 0))=sm r (fun h=>A i (hd h)*En A hd r h k)-A i k*dt A hd r:=by
  rw[au (g:=fun j=>sm r (fun h=>if j=hd h then A i (hd h)*En A hd r h k else 0)-if j=k then A i k*dt A hd r else 0) fun j _=>?_,JZ,cL,if_pos hk,lH]
  ·congr 1;exact au fun h hh=>by rw[cL,if_pos (hm h hh)]
  ·rw[Int.mul_sub,<-bf];congr 1
   ·refine au fun h _=>?_;by_cases c:j=hd h
    ·rw[if_pos c,if_pos c,c]
    ·rw[if_neg c,if_neg c,Int.mul_zero]
   ·by_cases c:j=k
    ·rw[if_pos c,if_pos c,c]
    ·rw[if_neg c,if_neg c,Int.mul_zero]
 rw[e];have q:=PX A hd r i k;by_cases c:i<r
 ·rw[if_pos c,Int.add_zero]at q;rw[q,Int.sub_self,tk0]
 ·rw[if_neg c]at q;rw[q,show sm r (fun h=>A i (hd h)*En A hd r h k)-(sm r (fun h=>A i (hd h)*En A hd r h k)+En A hd r i k)=-En A hd r i k by omega];exact m7 (hz i (by omega) hi)
theorem Jm{b:Int}{n n' m:Nat}{A:Nat->Nat->Int}(hn:n<=n')(h:Ind b n m A):Ind b n' m A:=fun x hx=>h x fun i hi=>hx i (by omega)
end Dm
namespace Pm
open Rm
def Fs(f:Nat->Int)(n:Nat):Prop:=∀k,n<=k->f k=0
theorem Fs.co(p:List Int):Fs (co p) p.length:=fun _ h=>bD h
theorem Fs.mono{f:Nat->Int}{m n:Nat}(h:Fs f m)(hmn:m<=n):Fs f n:=fun k hk=>h k (by omega)
theorem Fs.add{f g:Nat->Int}{n:Nat}(h:Fs f n)(h':Fs g n):Fs (fun k=>f k+g k) n:=fun k hk=>by show f k+g k=0;rw[h k hk,h' k hk];rfl
theorem Fs.mul{f:Nat->Int}{n:Nat}(c:Int)(h:Fs f n):Fs (fun k=>c*f k) n:=fun k hk=>by show c*f k=0;rw[h k hk,Int.mul_zero]
theorem Fs.cv{f g:Nat->Int}{m n:Nat}(h:Fs f m)(h':Fs g n):Fs (Pm.cv f g) (m+n):=fun k hk=>fR fun i _=>by
 by_cases c:m<=i
 ·exact .inl (h i c)
 ·exact .inr (h' _ (by omega))
theorem vX{b x:Int}(y:Int)(h:tk b x=0):tk b (y*x)=0:=by rw[<-aZ,h,Int.mul_zero,tk0]
theorem mH{b:Int}{m:List Int}(hm:Mon m){f:Nat->Int}{n:Nat}(hf:Fs f n)(h:∀k,m.length-1<=k->tk b (cv f (co m) k)=0):∀k,tk b (f k)=0:=by
 have q:∀d j,n<=j+d->tk b (f j)=0:=fun d=>by
  induction d with
  |zero=>intro j hj;rw[hf j hj,tk0]
  |succ d ih=>
   intro j hj;have e:=h (j+(m.length-1)) (by omega);rw[gO]at e;have e2:tk b (sm (j+(m.length-1)+1) fun i=>f i*co m (j+(m.length-1)-i))=tk b (sm (j+(m.length-1)+1) fun i=>if i=j then f j else 0):=jq fun i hi=>by
    by_cases c:i=j
    ·rw[if_pos c,c,Nat.add_sub_cancel_left,hm.one,Int.mul_one]
    ·rw[if_neg c,tk0];by_cases d2:i<j
     ·rw[bD (by have:=hm.pos;omega),Int.mul_zero,tk0]
     ·rw[Int.mul_comm];exact vX _ (ih i (by omega))
   rw[e2,cL,if_pos (by omega)]at e;exact e
 exact fun k=>q n k (by omega)
def Dv(b:Int)(m:List Int)(f:Nat->Int):Prop:=∃s n,Fs s n/\∀k,tk b (f k)=tk b (cv s (co m) k)
theorem Dv.congr{b:Int}{m:List Int}{f g:Nat->Int}(e:∀k,tk b (f k)=tk b (g k))(h:Dv b m f):Dv b m g:=by
 obtain⟨s,n,hs,h⟩:=h;exact⟨s,n,hs,fun k=>by rw[<-e,h]⟩
theorem Dv.zero(b:Int)(m:List Int):Dv b m fun _=>0:=⟨fun _=>0,0,fun _ _=>rfl,fun k=>by rw[fR fun i _=> .inl rfl]⟩
theorem Dv.add{b:Int}{m:List Int}{f g:Nat->Int}(h:Dv b m f)(h':Dv b m g):Dv b m fun k=>f k+g k:=by
 obtain⟨s,n,hs,h⟩:=h;obtain⟨s',n',hs',h'⟩:=h';exact⟨fun k=>s k+s' k,n+n',(hs.mono (by omega)).add (hs'.mono (by omega)),fun k=>by rw[fV];exact aR (h k) (h' k)⟩
theorem Dv.smul{b:Int}{m:List Int}{f:Nat->Int}(c:Int)(h:Dv b m f):Dv b m fun k=>c*f k:=by
 obtain⟨s,n,hs,h⟩:=h;exact⟨fun k=>c*s k,n,hs.mul c,fun k=>by rw[gw,<-aZ,h,aZ]⟩
theorem Dv.sub{b:Int}{m:List Int}{f g:Nat->Int}(h:Dv b m f)(h':Dv b m g):Dv b m fun k=>f k-g k:=
 (h.add (h'.smul (-1))).congr fun k=>by rw[show f k + -1*g k=f k-g k by omega]
theorem Dv.mul{b:Int}{m:List Int}{f g:Nat->Int}{n:Nat}(hg:Fs g n)(h:Dv b m f):Dv b m (cv g f):=by
 obtain⟨s,n',hs,h⟩:=h;exact⟨cv g s,n+n',hg.cv hs,fun k=>by rw[bG];exact iY (fun i _=>rfl) fun i _=>h i⟩
theorem Dv.self{b:Int}{m:List Int}{g:Nat->Int}{n:Nat}(hg:Fs g n):Dv b m (cv g (co m)):=⟨g,n,hg,fun _=>rfl⟩
theorem Dv.short{b:Int}{m:List Int}(hm:Mon m){f:Nat->Int}(hf:Fs f (m.length-1))(h:Dv b m f):∀k,tk b (f k)=0:=by
 obtain⟨s,n,hs,h⟩:=h;have z:=mH (b:=b) hm hs fun k hk=>by rw[<-h,hf k hk,tk0]
 intro k;rw[h,<-tk0 b,<-fR (f:=fun _=>(0:Int)) (g:=co m) (k:=k) fun i _=> .inl rfl];exact iY (fun i _=>by rw[z,tk0]) fun i _=>rfl
def tp(P:List Int)(a:Nat->Int)(k:Nat):Int:=sm (P.length-1-k) fun i=>co P (k+1+i)*a i
theorem B3(P:List Int)(a:Nat->Int):Fs (tp P a) (P.length-1):=fun k hk=>by unfold tp;rw[show P.length-1-k=0 by omega];rfl
theorem Qn{b:Int}{P:List Int}{a a':Nat->Int}(h:∀n,tk b (a n)=tk b (a' n))(k:Nat):tk b (tp P a k)=tk b (tp P a' k):=jq fun i _=>by rw[<-aZ,h,aZ]
theorem Pn(P:List Int)(c:Int)(a a':Nat->Int)(k:Nat):tp P (fun n=>c*a n+a' n) k=c*tp P a k+tp P a' k:=by
 unfold tp;rw[<-bf,<-cP];refine au fun i _=>?_;rw[Int.mul_add,Int.mul_left_comm]
theorem Il{b:Int}{P:List Int}(hP:0<P.length){a:Nat->Int}(h0:tk b (ks P a 0)=0)(k:Nat):tk b (if k=0 then 0 else tp P a (k-1))=tk b (tp P (fun n=>a (n+1)) k+a 0*co P k):=by
 by_cases c:k=0
 ·rw[if_pos c,c,tk0,<-h0];refine congrArg (tk b) ?_;unfold ks tp;obtain⟨N,hN⟩:∃N,P.length=N+1:=⟨P.length-1,by omega⟩;rw[hN,dw,Nat.add_sub_cancel,Nat.sub_zero,Int.add_comm,Int.mul_comm (co P 0)];congr 1;exact au fun i _=>by rw[Nat.zero_add,Nat.zero_add,Nat.add_comm 1 i]
 ·rw[if_neg c];by_cases d:k<P.length
  ·refine congrArg (tk b) ?_;unfold tp;rw[show P.length-1-(k-1)=(P.length-1-k)+1 by omega,dw,Int.add_comm];congr 1
   ·exact au fun i _=>by rw[show k-1+1+(i+1)=k+1+i by omega]
   ·rw[show k-1+1+0=k by omega,Int.mul_comm]
  ·rw[B3 P a (k-1) (by omega),B3 P _ k (by omega),bD (by omega),Int.mul_zero];rfl
theorem Dr(x:Int)(q:List Int)(f:Nat->Int)(k:Nat):cv (co (x::q)) f k=x*f k+(if k=0 then 0 else cv (co q) f (k-1)):=by
 cases k with
 |zero=>rw[cv,cU,if_pos rfl,Int.add_zero]
 |succ k=>
  rw[cv,cU,if_neg (by omega),Nat.add_sub_cancel];congr 1
theorem aal(q f:Nat->Int)(k:Nat):(if k=0 then 0 else cv q f (k-1))=cv q (fun i=>if i=0 then 0 else f (i-1)) k:=by
 cases k with
 |zero=>rw[if_pos rfl,cv,if_pos rfl,Int.mul_zero]
 |succ k=>rw[if_neg (by omega),Nat.add_sub_cancel,Ah,if_pos rfl,Int.mul_zero,Int.add_zero];rfl
theorem Li(x:Int)(q:List Int)(a:Nat->Int)(n:Nat):ks (x::q) a n=x*a n+ks q (fun n=>a (n+1)) n:=by
 unfold ks;rw[List.length_cons,dw,cU,Nat.add_zero];congr 1
theorem wz{b:Int}{P:List Int}(hP:0<P.length):∀(q:List Int) {a:Nat->Int},Kp b P a->Dv b P fun k=>cv (co q) (tp P a) k-tp P (ks q a) k
 |[],a,_=>(Dv.zero b P).congr fun k=>by
  rw[fR fun i _=> .inl (dY i)];have:tp P (ks [] a) k=0:=iH fun i _=>by show co P (k+1+i)*0=0;exact Int.mul_zero _
  rw[this];rfl
 |x::q,a,h=>by
  have h1:Kp b P fun n=>a (n+1):=fun n=>by
   have e:ks P (fun n=>a (n+1)) n=ks P a (n+1):=au fun k _=>by show _*a (n+k+1)=_*a (n+1+k);rw[show n+k+1=n+1+k by omega]
   rw[e];exact h (n+1)
  have ih:=wz hP q h1;have d:=Dv.self (b:=b) (m:=P) ((Fs.co q).mul (a 0));refine(ih.add d).congr fun k=>?_;have e1:tk b (if k=0 then 0 else cv (co q) (tp P a) (k-1))=tk b (cv (co q) (tp P fun n=>a (n+1)) k+a 0*cv (co q) (co P) k):=by
   rw[aal,<-gw,iY (fun i _=>rfl) fun i _=>Il hP (h 0) i,zZ];congr 2;rw[d8,gw,gw,d8]
  have e2:tp P (ks (x::q) a) k=x*tp P a k+tp P (ks q fun n=>a (n+1)) k:=by
   rw[<-Pn];unfold tp;exact au fun i _=>by rw[Li]
  rw[Dr,e2,gw];have e3:=aR e1 (rfl:tk b (-(tp P (ks q fun n=>a (n+1)) k))=_);rw[show x*tp P a k+(if k=0 then 0 else cv (co q) (tp P a) (k-1))-(x*tp P a k+tp P (ks q fun n=>a (n+1)) k)=(if k=0 then 0 else cv (co q) (tp P a) (k-1)) + -(tp P (ks q fun n=>a (n+1)) k)by omega,e3];refine congrArg (tk b) ?_;omega
theorem Bg{b:Int}{P:List Int}(hm:Mon P){e:Nat->Int}(h:∀k,tk b (tp P e k)=0):∀n,n<P.length-1->tk b (e n)=0:=fun n=>by
 induction n using Nat.strongRecOn with
 |ind n ih=>
  intro hn;have q:=h (P.length-1-1-n);unfold tp at q;rw[show P.length-1-(P.length-1-1-n)=n+1 by omega,sm]at q;have z:tk b (sm n fun i=>co P (P.length-1-1-n+1+i)*e i)=0:=by
   have:=jq (b:=b) (n:=n) (f:=fun i=>co P (P.length-1-1-n+1+i)*e i) (g:=fun _=>0) fun i hi=>by rw[tk0];exact vX _ (ih i hi (by omega))
   rw[this,fM,tk0]
  rw[<-cC,z,Int.zero_add,show P.length-1-1-n+1+n=P.length-1 by omega,hm.one,Int.one_mul]at q;exact q
theorem GC{b:Int}{rule:List Int}{a:Nat->Int}(ha:∀n,rule.length<=n->tk b (a n)=tk b (S rule a n rule.length))(q:List Int):
  Kp b q a↔Dv b (aN b rule) (cv (co q) (tp (aN b rule) a)):=by
 have hm:=eY b rule;have hK:Kp b (aN b rule) a:=Kp.aN ha;have A:=wz hm.pos q hK;constructor
 ·intro h;have z:Dv b (aN b rule) (tp (aN b rule) (ks q a)):=(Dv.zero b _).congr fun k=>by
   have:=Qn (b:=b) (P:=aN b rule) (a:=ks q a) (a':=fun _=>0) (fun n=>by rw[h n,tk0]) k;rw[this];exact(congrArg (tk b) (show tp (aN b rule) (fun _=>0) k=0 from iH fun i _=>Int.mul_zero _)).symm
  exact(A.add z).congr fun k=>by rw[Int.sub_add_cancel]
 ·intro h;have z:Dv b (aN b rule) (tp (aN b rule) (ks q a)):=(h.sub A).congr fun k=>by
   rw[show cv (co q) (tp (aN b rule) a) k-(cv (co q) (tp (aN b rule) a) k-tp (aN b rule) (ks q a) k)=tp (aN b rule) (ks q a) k by omega]
  have n0:=Bg hm (z.short hm (B3 _ _));rw[bB,Nat.add_sub_cancel]at n0;exact DP ha n0
structure Wf(b:Int)(p:List Int)(t:Nat->Int)(g:List Int):Prop where
 mon:Mon g
 one:Dv b g (co p)
 two:Dv b g t
 sum:∃(N:Int) (u v:Nat->Int) (n:Nat),tk b N≠0/\Fs u n/\Fs v n/\∀k,tk b (N*co g k)=tk b (cv u (co p) k+cv v t k)
theorem AF{b:Int}{m:List Int}(hm:Mon m){p:List Int}(hp:∀k,tk b (co p k)=co p k):∃q r,Div b p m q r:=by
 have go:∀d,d<=p.length-(m.length-1)->∃o l,G3 b p m (p.length-(m.length-1)-d) o l:=fun d=>by
  induction d with
  |zero=>intro _;exact⟨_,_,G3.start hp⟩
  |succ d ih=>
   intro hd;obtain⟨o,l,I⟩:=ih (by omega);obtain⟨s,hs⟩:∃s,p.length-(m.length-1)-d=s+1:=⟨p.length-(m.length-1)-d-1,by omega⟩;rw[hs]at I;refine⟨o.set s (co l (s+(m.length-1))),ofF l.length fun k=>lf b (co l (s+(m.length-1))) s m.length l m k,?_⟩;rw[show p.length-(m.length-1)-(d+1)=s by omega];refine I.step hm (by omega) (aP ..) fun k=>?_;rw[bV];by_cases c:k<l.length
   ·rw[if_pos c]
   ·rw[if_neg c];have hl:=I.ll;have hmp:=hm.pos;unfold lf;rw[if_neg (by omega),bD (by omega)]
 obtain⟨o,l,I⟩:=go _ (Nat.le_refl _);rw[Nat.sub_self]at I;exact⟨_,_,I.stop hm⟩
theorem yI{b:Int}(hD:∀x y,tk b x≠0->tk b (x*y)=0->tk b y=0){L:List Int}(hL:Mon L){N:Int}(hN:tk b N≠0){f:Nat->Int}{n:Nat}(hf:Fs f n)(h:Dv b L fun k=>N*f k):Dv b L f:=by
 obtain⟨o,r,D⟩:=AF (b:=b) hL (p:=ofF n fun k=>tk b (f k)) fun k=>by
  rw[bV];split
  ·exact jO ..
  ·exact tk0 b
 have ef:∀k,tk b (co (ofF n fun k=>tk b (f k)) k)=tk b (f k):=fun k=>by
  rw[bV];by_cases c:k<n
  ·rw[if_pos c,jO]
  ·rw[if_neg c,hf k (by omega)]
 have e:∀k,tk b (f k)=tk b (cv (co o) (co L) k+co r k):=fun k=>by rw[D.eq,ef]
 have z:Dv b L fun k=>N*co r k:=(h.sub ((Dv.self (b:=b) (m:=L) (Fs.co o)).smul N)).congr fun k=>by
  rw[show N*f k-N*cv (co o) (co L) k=N*(f k-cv (co o) (co L) k)by rw[Int.mul_sub],<-aZ,<-aZ b N (co r k)];congr 2;have:=e k;have q:=aR this (rfl:tk b (-cv (co o) (co L) k)=_);rw[show f k-cv (co o) (co L) k=f k + -cv (co o) (co L) k by omega,q];exact congrArg (tk b) (by omega)
 have hr:Fs (fun k=>N*co r k) (L.length-1):=((Fs.co r).mono (by have:=D.short;omega)).mul N;have z0:=z.short hL hr;refine⟨co o,o.length,Fs.co o,fun k=>?_⟩;rw[e,<-gZ,hD N _ hN (z0 k),Int.add_zero]
theorem Wf.keeps{b:Int}(hD:∀x y,tk b x≠0->tk b (x*y)=0->tk b y=0){rule:List Int}{a:Nat->Int}(ha:∀n,rule.length<=n->tk b (a n)=tk b (S rule a n rule.length)){g L:List Int}(h:Wf b (aN b rule) (tp (aN b rule) a) g)(hL:Mon L)
  (hP:∀k,tk b (co (aN b rule) k)=tk b (cv (co L) (co g) k)) (q:List Int):Kp b q a↔Dv b L (co q):=by
 rw[GC ha q];generalize aN b rule=P at h hP;obtain⟨t,nt,ht,hT⟩:=h.two;obtain⟨N,u,v,n,hN,hu,hv,hs⟩:=h.sum;generalize tp P a=T at h hT hs;have bez:∀k,tk b ((if k=0 then N else 0)-(cv u (co L) k+cv v t k))=0:=by
  refine mH (b:=b) h.mon (n:=1+(n+L.length)+(n+nt)) (fun k hk=>?_) fun k _=>?_
  ·show(if k=0 then N else 0)-(cv u (co L) k+cv v t k)=0;rw[if_neg (by omega),hu.cv (Fs.co L) k (by omega),hv.cv ht k (by omega)];rfl
  ·have e:cv (fun k=>(if k=0 then N else 0)-(cv u (co L) k+cv v t k)) (co g) k=N*co g k + -1*(cv u (cv (co L) (co g)) k+cv v (cv t (co g)) k):=by
    rw[<-bG,<-bG,<-fV,<-gw];have e2:N*co g k=cv (fun k=>if k=0 then N else 0) (co g) k:=by rw[nY,if_pos (Nat.zero_le _),Nat.sub_zero]
    rw[e2,<-fV];refine fQ (fun i _=>?_) fun i _=>rfl;omega
   rw[e,<-cC,hs,cC];have e3:tk b (cv u (co P) k+cv v T k)=tk b (cv u (cv (co L) (co g)) k+cv v (cv t (co g)) k):=aR (iY (fun i _=>rfl) fun i _=>hP i) (iY (fun i _=>rfl) fun i _=>hT i);have e4:=aR e3 (rfl:tk b (-1*(cv u (cv (co L) (co g)) k+cv v (cv t (co g)) k))=_);rw[e4,show ∀x:Int,x + -1*x=0 from fun x=>by omega,tk0]
 constructor
 ·rintro⟨s,ns,hs',e⟩;have qt:∀k,tk b (cv (co q) t k-cv s (co L) k)=0:=by
   refine mH (b:=b) h.mon (n:=(q.length+nt)+(ns+L.length)) (fun k hk=>?_) fun k _=>?_
   ·show cv (co q) t k-cv s (co L) k=0;rw[(Fs.co q).cv ht k (by omega),hs'.cv (Fs.co L) k (by omega)];rfl
   ·have e1:cv (fun k=>cv (co q) t k-cv s (co L) k) (co g) k=cv (co q) (cv t (co g)) k + -1*cv s (cv (co L) (co g)) k:=by
     rw[<-bG,<-bG,<-gw,<-fV];exact fQ (fun i _=>by omega) fun i _=>rfl
    have e2:tk b (cv (co q) (cv t (co g)) k)=tk b (cv s (cv (co L) (co g)) k):=by
     rw[<-iY (fun i _=>rfl) (fun i _=>hT i),e,iY (fun i _=>rfl) fun i _=>hP i]
    have e3:=aR e2 (rfl:tk b (-1*cv s (cv (co L) (co g)) k)=_);rw[e1,e3,show ∀x:Int,x + -1*x=0 from fun x=>by omega,tk0]
  refine yI hD hL hN (Fs.co q) ?_;refine⟨fun k=>cv (co q) u k+cv v s k,(q.length+n)+(n+ns),((((Fs.co q).cv hu)).mono (by omega)).add ((hv.cv hs').mono (by omega)),fun k=>?_⟩;have e1:tk b (N*co q k)=tk b (cv (fun k=>cv u (co L) k+cv v t k) (co q) k):=by
   have e2:N*co q k=cv (fun k=>if k=0 then N else 0) (co q) k:=by rw[nY,if_pos (Nat.zero_le _),Nat.sub_zero]
   rw[e2];exact iY (fun i _=>dN.mp (bez i)) fun i _=>rfl
  rw[e1,fV,fV];refine aR ?_ ?_
  ·exact congrArg (tk b) ((d8 ..).trans (bG ..).symm)
  ·rw[bG,bG];refine iY (fun i _=>rfl) fun i _=>?_;rw[d8];exact dN.mp (qt i)
 ·rintro⟨s,ns,hs',e⟩;refine⟨cv s t,ns+nt,hs'.cv ht,fun k=>?_⟩;rw[iY (fun i _=>e i) (fun i _=>hT i),iY (f:=cv s t) (fun i _=>rfl) (fun i _=>hP i)];refine congrArg (tk b) ?_;rw[bG,bG];refine fQ (fun i _=>rfl) fun i _=>?_;rw[<-bG,<-bG];exact fQ (fun j _=>d8 ..) fun j _=>rfl
end Pm
namespace Om
def bU(p:Nat):Prop:=2<=p/\∀d,d∣p->d=1∨d=p
theorem bU.cop{p x:Nat}(h:bU p)(hx:¬p∣x):Nat.Coprime p x:=by
 rcases h.2 _ (Nat.gcd_dvd_left p x)with e|e
 ·exact e
 ·exact absurd (e▸Nat.gcd_dvd_right p x) hx
theorem bU.dvd{p x y:Nat}(h:bU p)(hd:p∣x*y):p∣x∨p∣y:=by
 by_cases c:p∣x
 ·exact .inl c
 ·exact .inr ((h.cop c).dvd_of_dvd_mul_left hd)
def ch:Nat->Nat->Nat
 |_,0=>1
 |0,_+1=>0
 |n+1,k+1=>ch n k+ch n (k+1)
theorem sI(n:Nat):ch n 0=1:=by cases n<;>rfl
theorem uG:∀(n k:Nat),n<k->ch n k=0
 |0,k+1,_=>rfl
 |n+1,k+1,h=>by rw[ch,uG n k (by omega),uG n (k+1) (by omega)]
theorem DK:∀n,ch n n=1
 |0=>rfl
 |n+1=>by rw[ch,DK n,uG n (n+1) (by omega)]
theorem oH:∀n k:Nat,(k+1)*ch (n+1) (k+1)=(n+1)*ch n k
 |0,0=>rfl
 |0,k+1=>by
  have e:ch (0+1) (k+1+1)=ch 0 (k+1)+ch 0 (k+1+1):=rfl;rw[e,uG 0 (k+1) (by omega),uG 0 (k+1+1) (by omega)];simp
 |n+1,0=>by
  have:=oH n 0;have e:ch (n+1+1) (0+1)=ch (n+1) 0+ch (n+1) (0+1):=rfl;simp only[sI]at e⊢;rw[e];rw[sI]at this;omega
 |n+1,k+1=>by
  have h1:=oH n k;have h2:=oH n (k+1);rw[ch,Nat.mul_add];have e1:(k+1+1)*ch (n+1) (k+1)=(n+1)*ch n k+ch (n+1) (k+1):=by rw[Nat.succ_mul,h1]
  rw[e1,h2];have e2:ch (n+1) (k+1)=ch n k+ch n (k+1):=rfl;rw[e2,Nat.succ_mul (n+1),Nat.mul_add];omega
theorem bU.dch{p k:Nat}(h:bU p)(h0:0<k)(hk:k<p):p∣ch p k:=by
 obtain⟨n,rfl⟩:∃n,p=n+1:=⟨p-1,by have:=h.1;omega⟩;obtain⟨j,rfl⟩:∃j,k=j+1:=⟨k-1,by omega⟩;have e:=oH n j;rcases h.dvd (x:=j+1) (y:=Om.ch (n+1) (j+1)) (by rw[e];exact Nat.dvd_mul_right ..)with d|d
 ·exact absurd (Nat.le_of_dvd (by omega) d) (by omega)
 ·exact d
def sN(f:Nat->Nat):Nat->Nat
 |0=>0
 |n+1=>sN f n+f n
theorem Bm{f g:Nat->Nat}:∀{n:Nat},(∀k,k<n->f k=g k)->sN f n=sN g n
 |0,_=>rfl
 |n+1,h=>by rw[sN,sN,Bm fun k hk=>h k (by omega),h n (by omega)]
theorem Km(f g:Nat->Nat):∀n,sN (fun k=>f k+g k) n=sN f n+sN g n
 |0=>rfl
 |n+1=>by rw[sN,sN,sN,Km f g n];omega
theorem Kv(c:Nat)(f:Nat->Nat):∀n,sN (fun k=>c*f k) n=c*sN f n
 |0=>rfl
 |n+1=>by rw[sN,sN,Kv c f n,Nat.mul_add]
theorem vH(f:Nat->Nat):∀n,sN f (n+1)=f 0+sN (fun k=>f (k+1)) n
 |0=>by rw[sN,sN,sN];omega
 |n+1=>by rw[sN,vH f n,sN];omega
theorem Ke{p:Nat}{f:Nat->Nat}:∀{n:Nat},(∀k,k<n->p∣f k)->p∣sN f n
 |0,_=>Nat.dvd_zero _
 |n+1,h=>Nat.dvd_add (Ke fun k hk=>h k (by omega)) (h n (by omega))
theorem NS(a:Nat):∀n,(a+1)^n=sN (fun k=>ch n k*a^k) (n+1)
 |0=>by simp[sN,ch]
 |n+1=>by
  rw[Nat.pow_succ,NS a n,vH (fun k=>ch (n+1) k*a^k) (n+1)];have e1:sN (fun k=>ch (n+1) (k+1)*a^(k+1)) (n+1)=sN (fun k=>a*(ch n k*a^k)) (n+1)+sN (fun k=>ch n (k+1)*a^(k+1)) (n+1):=by
   rw[<-Km];refine Bm fun k _=>?_;rw[ch,Nat.add_mul,Nat.pow_succ];congr 1;rw[Nat.mul_comm a,Nat.mul_assoc]
  have e2:sN (fun k=>ch n k*a^k) (n+1)=1+sN (fun k=>ch n (k+1)*a^(k+1)) (n+1):=by
   have e3:sN (fun k=>ch n k*a^k) (n+1+1)=sN (fun k=>ch n k*a^k) (n+1):=by rw[sN,uG n (n+1) (by omega),Nat.zero_mul,Nat.add_zero]
   rw[<-e3,vH];rw[sI,Nat.pow_zero]
  rw[e1,Kv,sI,Nat.pow_zero,Nat.mul_add,Nat.mul_one,Nat.mul_comm];omega
theorem bU.pow{p:Nat}(h:bU p):∀a:Nat,a^p%p=a%p
 |0=>by rw[Nat.zero_pow (by have:=h.1;omega)]
 |a+1=>by
  obtain⟨n,rfl⟩:∃n,p=n+1:=⟨p-1,by have:=h.1;omega⟩;have e:(a+1)^(n+1)=1+sN (fun k=>ch (n+1) (k+1)*a^(k+1)) n+a^(n+1):=by
   rw[NS,sN,vH,sI,Nat.pow_zero,DK,Nat.one_mul,Nat.one_mul]
  obtain⟨c,hc⟩:(n+1)∣sN (fun k=>ch (n+1) (k+1)*a^(k+1)) n:=Ke fun k hk=>Nat.dvd_trans (h.dch (by omega) (by omega)) (Nat.dvd_mul_right ..);rw[e,hc,show 1+(n+1)*c+a^(n+1)=(a^(n+1)+1)+(n+1)*c by omega,Nat.add_mul_mod_self_left,Nat.add_mod,bU.pow h a,<-Nat.add_mod]
theorem bU.Pz{p a:Nat}(h:bU p)(h0:a≠0)(ha:a<p):a^(p-1)%p=1:=by
 have hp:=h.1;have e:=h.pow a;obtain⟨n,rfl⟩:∃n,p=n+1:=⟨p-1,by omega⟩;rw[Nat.add_sub_cancel];have one:1<=a^n:=Nat.pow_pos (by omega);have d:(n+1)∣a*(a^n-1):=by
  have e2:a*(a^n-1)=a^(n+1)-a:=by rw[Nat.mul_sub,Nat.mul_one,Nat.pow_succ,Nat.mul_comm]
  rw[e2];exact Nat.dvd_of_mod_eq_zero (Nat.sub_mod_eq_zero_of_mod_eq e)
 rcases h.dvd d with d|⟨c,hc⟩
 ·exact absurd (Nat.le_of_dvd (by omega) d) (by omega)
 ·rw[show a^n=1+(n+1)*c by omega,Nat.add_mul_mod_self_left];exact Nat.mod_eq_of_lt (by omega)
end Om
namespace Pm
open Rm
def Kf(f:Nat->Int)(n:Nat)(a:Nat->Int):Prop:=∀m,sm n (fun k=>f k*a (m+k))=0
theorem Kf.less{f:Nat->Int}{n m:Nat}{a:Nat->Int}(h:Kf f m a)(hf:Fs f n)(hm:n<=m):Kf f n a:=fun i=>by
 rw[<-fU (n:=m) hm fun k h1 _=>by rw[hf k h1,Int.zero_mul]];exact h i
theorem Kf.lin{f g:Nat->Int}{n:Nat}{a:Nat->Int}(c d:Int)(h:Kf f n a)(h':Kf g n a):Kf (fun k=>c*f k+d*g k) n a:=fun i=>by
 have e:sm n (fun k=>(c*f k+d*g k)*a (i+k))=c*sm n (fun k=>f k*a (i+k))+d*sm n (fun k=>g k*a (i+k)):=by
  rw[<-bf,<-bf,<-cP];exact au fun k _=>by rw[Int.add_mul,Int.mul_assoc,Int.mul_assoc]
 rw[e,h i,h' i];simp
theorem Kf.shift{f:Nat->Int}{n:Nat}{a:Nat->Int}(s:Nat)(h:Kf f n a):Kf (fun k=>if s<=k then f (k-s)else 0) (s+n) a:=fun i=>by
 have e:∀s,sm (s+n) (fun k=>(if s<=k then f (k-s)else 0)*a (i+k))=sm n (fun k=>f k*a (i+s+k)):=fun s=>by
  induction s generalizing i with
  |zero=>rw[Nat.zero_add];exact au fun k _=>by rw[if_pos (Nat.zero_le _)];rfl
  |succ s ih=>
   rw[show s+1+n=(s+n)+1 by omega,dw,if_neg (by omega),Int.zero_mul,Int.zero_add];rw[show i+(s+1)=(i+1)+s by omega,<-ih (i+1)];refine au fun k _=>?_;rw[show i+(k+1)=i+1+k by omega];by_cases c:s<=k
   ·rw[if_pos c,if_pos (by omega),show k+1-(s+1)=k-s by omega]
   ·rw[if_neg c,if_neg (by omega)]
 rw[e];exact h _
theorem Kf.div{f:Nat->Int}{n:Nat}{a:Nat->Int}{c:Int}(hc:c≠0)(h:Kf (fun k=>c*f k) n a):Kf f n a:=fun i=>by
 have e:=h i;rw[show(fun k=>c*f k*a (i+k))=fun k=>c*(f k*a (i+k))from funext fun k=>Int.mul_assoc ..,bf]at e;exact(Int.mul_eq_zero.mp e).resolve_left hc
theorem Kf.of{p:List Int}{a:Nat->Int}(h:Kp 0 p a):Kf (co p) p.length a:=fun i=>by
 have:=h i;rw[aW]at this;exact this
theorem Hq:∀n:Nat,2<=n->∃p,Om.bU p/\p∣n:=fun n=>by
 induction n using Nat.strongRecOn with
 |ind n ih=>
  intro hn;by_cases h:∀d,d∣n->d=1∨d=n
  ·exact⟨n,⟨hn,h⟩,Nat.dvd_refl n⟩
  ·obtain⟨d,hd⟩:=Classical.not_forall.mp h;obtain⟨hd,hn1⟩:=Classical.not_imp.mp hd;have h0:d≠0:=fun e=>by rw[e]at hd;have:=Nat.eq_zero_of_zero_dvd hd;omega
   have hl:=Nat.le_of_dvd (by omega) hd;have h1:d≠1:=fun e=>hn1 (.inl e);have h2:d≠n:=fun e=>hn1 (.inr e);obtain⟨p,hp,hq⟩:=ih d (by omega) (by omega);exact⟨p,hp,Nat.dvd_trans hq hd⟩
theorem least_of{Q:Nat->Prop}(h:∃n,Q n):∃n,Q n/\∀m,Q m->n<=m:=by
 obtain⟨n,hn⟩:=h;induction n using Nat.strongRecOn with
 |ind n ih=>
  by_cases c:∃m,m<n/\Q m
  ·obtain⟨m,h1,h2⟩:=c;exact ih m h1 h2
  ·exact⟨n,hn,fun m hm=>by
    by_cases d:m<n
    ·exact absurd ⟨m,d,hm⟩ c
    ·omega⟩
theorem rB{p:Nat}{x:Int}:(p:Int)∣x↔p∣x.natAbs:=Int.ofNat_dvd_left
theorem oF{p:Nat}(hp:Om.bU p){x y:Int}(h:(p:Int)∣x*y):(p:Int)∣x∨(p:Int)∣y:=by
 rw[rB,Int.natAbs_mul]at h;rcases hp.dvd h with h|h
 ·exact .inl (rB.mpr h)
 ·exact .inr (rB.mpr h)
theorem JW{d:Int}{f:Nat->Int}:∀{n:Nat},(∀k,k<n->d∣f k)->d∣sm n f
 |0,_=>⟨0,by rw[Int.mul_zero];rfl⟩
 |n+1,h=>Int.dvd_add (JW fun k hk=>h k (by omega)) (h n (by omega))
theorem JG{d:Int}{f:Nat->Int}{n j:Nat}(hj:j<n)(h:d∣sm n f)(ho:∀k,k<n->k≠j->d∣f k):d∣f j:=by
 have e:sm n f=sm n (fun k=>if k=j then f j else 0)+sm n (fun k=>if k=j then 0 else f k):=by
  rw[<-cP];refine au fun k _=>?_;by_cases c:k=j
  ·rw[if_pos c,if_pos c,c,Int.add_zero]
  ·rw[if_neg c,if_neg c,Int.zero_add]
 rw[cL,if_pos hj]at e;have h2:d∣sm n (fun k=>if k=j then 0 else f k):=JW fun k hk=>by
  by_cases c:k=j
  ·rw[if_pos c];exact⟨0,by rw[Int.mul_zero]⟩
  ·rw[if_neg c];exact ho k hk c
 have:f j=sm n f-sm n (fun k=>if k=j then 0 else f k):=by omega
 rw[this];exact Int.dvd_sub h h2
theorem Vy{p:Nat}(hp:Om.bU p){f g:Nat->Int}(h:∀k,(p:Int)∣cv f g k):(∀k,(p:Int)∣f k)∨∀k,(p:Int)∣g k:=by
 by_cases hf:∀k,(p:Int)∣f k
 ·exact .inl hf
 by_cases hg:∀k,(p:Int)∣g k
 ·exact .inr hg
 obtain⟨i,hi,hi'⟩:=least_of (Classical.not_forall.mp hf);obtain⟨j,hj,hj'⟩:=least_of (Classical.not_forall.mp hg);have e:=h (i+j);rw[gO]at e;have t:=JG (j:=i) (by omega) e fun k hk hne=>by
  by_cases c:k<i
  ·have:(p:Int)∣f k:=Classical.byContradiction fun z=>by have:=hi' k z;omega
   exact Int.dvd_trans this (Int.dvd_mul_right ..)
  ·have:(p:Int)∣g (i+j-k):=Classical.byContradiction fun z=>by have:=hj' _ z;omega
   exact Int.dvd_trans this (Int.dvd_mul_left ..)
 rw[Nat.add_sub_cancel_left]at t;rcases oF hp t with t|t
 ·exact absurd t hi
 ·exact absurd t hj
theorem Fs.top{f:Nat->Int}:∀{n:Nat},Fs f n->(∀k,f k=0)∨∃d,d<n/\f d≠0/\Fs f (d+1)
 |0,h=> .inl fun k=>h k (Nat.zero_le _)
 |n+1,h=>by
  by_cases c:f n=0
  ·have h':Fs f n:=fun k hk=>by
    by_cases e:k=n
    ·rw[e];exact c
    ·exact h k (by omega)
   rcases Fs.top h' with z|⟨d,h1,h2,h3⟩
   ·exact .inl z
   ·exact .inr ⟨d,by omega,h2,h3⟩
  ·exact .inr ⟨n,by omega,c,h⟩
structure Lk(a:Nat->Int)(d:Nat)(f:Nat->Int):Prop where
 fs:Fs f (d+1)
 ne:f d≠0
 kf:Kf f (d+1) a
theorem yV{a f:Nat->Int}{d:Nat}(hf:Lk a d f)(hd:∀e g,Lk a e g->d<=e):∀(n:Nat) (q:Nat->Int),Fs q n->Kf q n a->∃(m:Int) (G:Nat->Int) (N:Nat),m≠0/\Fs G N/\∀k,m*q k=cv G f k:=fun n=>by
 induction n using Nat.strongRecOn with
 |ind n ih=>
  intro q hq hk;rcases hq.top with z|⟨e,hen,hne,hfe⟩
  ·exact⟨1,fun _=>0,0,by decide,fun _ _=>rfl,fun k=>by rw[z k,fR fun i _=> .inl rfl];rfl⟩
  ·have hke:Kf q (e+1) a:=hk.less hfe (by omega);have hde:=hd e q ⟨hfe,hne,hke⟩;have ks:=hf.kf.shift (e-d);rw[show e-d+(d+1)=e+1 by omega]at ks;have kl:=hke.lin (f d) (-(q e)) ks;have fl:Fs (fun k=>f d*q k + -(q e)*(if e-d<=k then f (k-(e-d))else 0)) e:=fun k hk=>by
    show f d*q k + -(q e)*(if e-d<=k then f (k-(e-d))else 0)=0;rw[if_pos (by omega)];by_cases c:k=e
    ·rw[c,show e-(e-d)=d by omega,Int.neg_mul,Int.mul_comm (q e),Int.add_right_neg]
    ·rw[hfe k (by omega),hf.fs (k-(e-d)) (by omega),Int.mul_zero,Int.mul_zero];rfl
   obtain⟨m,G,N,hm,hG,hE⟩:=ih e hen _ fl (kl.less fl (by omega));refine⟨m*f d,fun k=>G k+m*q e*(if k=e-d then 1 else 0),N+(e-d+1),Int.mul_ne_zero hm hf.ne,fun k hk=>?_,fun k=>?_⟩
   ·show G k+m*q e*(if k=e-d then 1 else 0)=0;rw[hG k (by omega),if_neg (by omega),Int.mul_zero];rfl
   ·rw[fV,gw,nY,<-hE k];by_cases c:e-d<=k
    ·rw[if_pos c,if_pos c,Int.mul_add,Int.one_mul,Int.neg_mul,Int.mul_neg,Int.mul_assoc,Int.mul_assoc,Int.neg_add_cancel_right]
    ·rw[if_neg c,if_neg c,Int.mul_add];simp[Int.mul_assoc]
theorem WC{a:Nat->Int}{P:List Int}(hP:Mon P)(hk:Kp 0 P a):∃L,Mon L/\Py 0 L/\Kp 0 L a/\L.length<=P.length/\(∀q,Kp 0 q a->Dv 0 L (co q))/\∀e g,Lk a e g->L.length-1<=e:=by
 have hp:=hP.pos;have p0:Lk a (P.length-1) (co P):=⟨by rw[show P.length-1+1=P.length by omega];exact Fs.co P,by rw[hP.one];decide,by rw[show P.length-1+1=P.length by omega];exact Kf.of hk⟩;obtain⟨d,⟨f0,hf0⟩,hd⟩:=least_of (Q:=fun d=>∃f,Lk a d f) ⟨_,_,p0⟩;have hd':∀e g,Lk a e g->d<=e:=fun e g h=>hd e ⟨g,h⟩;obtain⟨c,⟨f,hf,hc⟩,hc'⟩:=least_of (Q:=fun c=>∃f,Lk a d f/\(f d).natAbs=c) ⟨_,f0,hf0,rfl⟩;obtain⟨m0,G0,N0,hm0,hG0,hE0⟩:=yV hf hd' P.length (co P) (Fs.co P) (Kf.of hk);obtain⟨n,⟨m,G,N,hm,hG,hE,hn⟩,hn'⟩:=least_of (Q:=fun n=>∃(m:Int) (G:Nat->Int) (N:Nat),m≠0/\Fs G N/\(∀k,m*co P k=cv G f k)/\m.natAbs=n) ⟨_,m0,G0,N0,hm0,hG0,hE0,rfl⟩;have h1:m.natAbs=1:=by
  by_cases c2:m.natAbs=1
  ·exact c2
  ·have h0:m.natAbs≠0:=by omega
   obtain⟨p,hp,hd⟩:=Hq m.natAbs (by omega);have hpp:=hp.1;have hp0:(p:Int)≠0:=by omega
   obtain⟨m',em⟩:=rB.mpr hd;have hm':m'≠0:=fun z=>hm (by rw[em,z,Int.mul_zero]);rcases Vy hp (f:=G) (g:=f) fun k=>by rw[<-hE k,em,Int.mul_assoc];exact Int.dvd_mul_right .. with z|z
   ·exfalso
    obtain⟨G',hg⟩:=Classical.skolem.mp z;refine absurd (hn' m'.natAbs ⟨m',G',N,hm',fun k hk=>?_,fun k=>?_,rfl⟩) ?_
    ·have:=hg k;rw[hG k hk]at this;exact(Int.mul_eq_zero.mp this.symm).resolve_left hp0
    ·refine Int.eq_of_mul_eq_mul_left hp0 ?_;rw[<-gw,<-Int.mul_assoc,<-em,hE k];exact fQ (fun i _=>hg i) fun _ _=>rfl
    ·rw[<-hn,em,Int.natAbs_mul,Int.natAbs_natCast];have:0<m'.natAbs:=by omega
     have:2*m'.natAbs<=p*m'.natAbs:=Nat.mul_le_mul_right _ hpp;omega
   ·exfalso
    obtain⟨f',hg⟩:=Classical.skolem.mp z;have e:f=fun k=>p*f' k:=funext fun k=>hg k;have q:Lk a d f':=⟨fun k hk=>by
     have:=hg k;rw[hf.fs k hk]at this;exact(Int.mul_eq_zero.mp this.symm).resolve_left hp0,fun z=>hf.ne (by rw[hg d,z,Int.mul_zero]),by
     have:=hf.kf;rw[e]at this;exact this.div hp0⟩
    refine absurd (hc' _ ⟨_,q,rfl⟩) ?_;have e2:=congrArg Int.natAbs (hg d);rw[Int.natAbs_mul,Int.natAbs_natCast,hc]at e2;have hne:=q.ne;have:0<(f' d).natAbs:=by omega
    have:2*(f' d).natAbs<=p*(f' d).natAbs:=Nat.mul_le_mul_right _ hpp;rw[e2];show ¬p*(f' d).natAbs<=(f' d).natAbs;omega
 have hu:(f d).natAbs=1:=by
  rcases hG.top with z|⟨e,_,hne,hfe⟩
  ·exfalso
   have:=hE (P.length-1);rw[hP.one,Int.mul_one,fR fun i _=> .inl (z i)]at this;exact hm this
  ·have t:cv G f (e+d)=G e*f d:=by
    rw[gO,au (g:=fun i=>if i=e then G e*f d else 0) fun i _=>by
     by_cases c3:i=e
     ·rw[if_pos c3,c3,Nat.add_sub_cancel_left]
     ·rw[if_neg c3];by_cases c4:i<e
      ·rw[hf.fs _ (by omega),Int.mul_zero]
      ·rw[hfe i (by omega),Int.zero_mul],cL,if_pos (by omega)]
   have hx:G e*f d≠0:=Int.mul_ne_zero hne hf.ne;have e1:=hE (e+d);rw[t]at e1;have hl:e+d=P.length-1:=by
    by_cases c3:P.length<=e+d
    ·rw[bD c3,Int.mul_zero]at e1;exact absurd e1.symm hx
    ·by_cases c4:e+d=P.length-1
     ·exact c4
     ·exfalso
      have e2:=hE (P.length-1);rw[hP.one,Int.mul_one,fR fun i hi=>by
       by_cases c5:e+1<=i
       ·exact .inl (hfe i c5)
       ·exact .inr (hf.fs _ (by omega))]at e2
      exact hm e2
   rw[hl,hP.one,Int.mul_one]at e1;have e3:=congrArg Int.natAbs e1;rw[Int.natAbs_mul,h1]at e3;exact Nat.eq_one_of_mul_eq_one_left e3.symm
 have hs:f d*f d=1:=by
  rcases Int.natAbs_eq (f d)with h|h<;>rw[h,hu]<;>rfl
 have hLc:∀k,co (ofF (d+1) fun k=>f d*f k) k=f d*f k:=fun k=>by
  rw[bV];by_cases c3:k<d+1
  ·rw[if_pos c3]
  ·rw[if_neg c3,hf.fs k (by omega),Int.mul_zero]
 have hM:Mon (ofF (d+1) fun k=>f d*f k):=⟨by rw[aP];omega,by rw[aP,Nat.add_sub_cancel,hLc,hs]⟩;have hK:Kp 0 (ofF (d+1) fun k=>f d*f k) a:=fun i=>by
  rw[aW];unfold ks;rw[aP,au (g:=fun k=>f d*(f k*a (i+k))) fun k _=>by rw[hLc,Int.mul_assoc],bf,hf.kf i,Int.mul_zero]
 refine⟨ofF (d+1) fun k=>f d*f k,hM,⟨?_,fun x _=>aW x⟩,hK,?_,fun q hq=>?_,fun e g h=>by rw[aP];exact hd' e g h⟩
 ·refine gH (fun z=>?_) (by rw[hM.one];decide);have:=hM.pos;rw[z]at this;exact absurd this (by decide)
 ·rw[aP];have:=hd' _ _ p0;omega
 ·obtain⟨o,r,D⟩:=AF (b:=0) hM (p:=q) fun k=>aW _;have kr:=(D.kp hK).mp hq;have rn:r=[]:=by
   by_cases c3:r=[]
   ·exact c3
   ·exfalso
    have hl:0<r.length:=List.length_pos_iff.mpr c3;have hne:=rO c3 D.ry.tr;have:=hd' (r.length-1) (co r) ⟨by rw[show r.length-1+1=r.length by omega];exact Fs.co r,hne,by rw[show r.length-1+1=r.length by omega];exact Kf.of kr⟩;have hsh:=D.short;rw[aP]at hsh;omega
  refine⟨co o,o.length,Fs.co o,fun k=>?_⟩;rw[<-D.eq k,rn,dY,Int.add_zero]
end Pm
namespace Dm
open Pm Rm
theorem Cu{n:Nat}(f:Nat->Nat->Int)(x:Nat->Int){j:Nat}(hj:j<n):det n (jE f j fun i=>sm n fun k=>f i k*x k)=x j*det n f:=by
 have e0:(fun i=>sm n fun k=>f i k*x k)=fun i=>sm n fun k=>x k*f i k:=funext fun i=>au fun k _=>Int.mul_comm ..;rw[e0,mF f hj x (fun k i=>f i k)];have e2:sm n (fun k=>x k*det n (jE f j fun i=>f i k))=sm n (fun k=>if k=j then x j*det n f else 0):=au fun k hk=>by
  by_cases c:k=j
  ·rw[if_pos c,c,kW]
  ·rw[if_neg c];have z:det n (jE f j fun i=>f i k)=0:=by
    rcases Nat.lt_or_gt_of_ne c with l|l
    ·exact iK l hj fun i _=>by rw[dI,iJ (by omega)]
    ·exact iK l hk fun i _=>by rw[dI,iJ (by omega)]
   rw[z,Int.mul_zero]
 rw[e2,cL,if_pos hj]
theorem QN{b:Int}{n:Nat}{f:Nat->Nat->Int}{x:Nat->Int}(h:Rel b n n f x){j:Nat}(hj:j<n):tk b (x j*det n f)=0:=by
 have hx:∀i,∃e,i<n->(sm n fun k=>f i k*x k)=b*e:=fun i=>by
  by_cases c:i<n
  ·obtain⟨e,he⟩:=eV.mp (h i c);exact⟨e,fun _=>he⟩
  ·exact⟨0,fun z=>absurd z c⟩
 obtain⟨e,he⟩:=Classical.skolem.mp hx;rw[<-Cu f x hj];have e1:det n (jE f j fun i=>sm n fun k=>f i k*x k)=det n (jE f j fun i=>b*e i+0):=bK fun i k hi _=>by
  unfold jE;split
  ·show(sm n fun k=>f i k*x k)=b*e i+0;rw[he i hi,Int.add_zero]
  ·rfl
 rw[e1,iz f hj b e (fun _=>0),jR f hj,Int.add_zero];exact eV.mpr ⟨_,rfl⟩
theorem uR{b:Int}{n:Nat}{f:Nat->Nat->Int}(hD:Dom b)(h:tk b (det n f)≠0):Ind b n n f:=fun x hx k hk=>
 hD (det n f) (x k) h (by rw[Int.mul_comm];exact QN hx hk)
structure Cp(b:Int)(n:Nat)(A0:Nat->Nat->Int)(c:Nat)(A:Nat->Nat->Int)(hd:Nat->Nat)(r:Nat):Prop where
 sw:Swp n A0 A
 nz:tk b (dt A hd r)≠0
 rn:r<=n
 hc:∀h,h<r->hd h<c
 up:∀h h',h<h'->h'<r->hd h<hd h'
 zero:∀k,k<c->(∀h,h<r->hd h≠k)->∀i,r<=i->i<n->tk b (En A hd r i k)=0
theorem Cp.bring{b:Int}{n:Nat}{A0:Nat->Nat->Int}{c:Nat}{A:Nat->Nat->Int}{hd:Nat->Nat}{r:Nat}(h:Cp b n A0 c A hd r){a:Nat}(hra:r<a)(han:a<n):Cp b n A0 c (turn A r a) hd r:=
 ⟨.step h.sw hra han,by rw[Ft (Nat.le_refl _) (by omega)];exact h.nz,h.rn,h.hc,h.up,fun k hk hn i h1 h2=>by
  rw[DN (Nat.le_refl _) hra];split
  ·exact h.zero k hk hn a (by omega) han
  ·split
   ·exact m7 (h.zero k hk hn r (Nat.le_refl _) (by omega))
   ·exact h.zero k hk hn i h1 h2⟩
theorem Cp.free{b:Int}{n:Nat}{A0:Nat->Nat->Int}{c:Nat}{A:Nat->Nat->Int}{hd:Nat->Nat}{r:Nat}(h:Cp b n A0 c A hd r)(hD:Dom b)(hrn:r<n)(hp:tk b (En A hd r r c)≠0):Cp b n A0 (c+1) A (more hd r c) (r+1):=by
 have hpi:En A hd r r c≠0:=fun z=>hp (by rw[z];exact tk0 b);have ml:∀j,j<r->more hd r c j=hd j:=fun j hj=>if_neg (by omega);have me:more hd r c r=c:=if_pos rfl;refine⟨h.sw,by rw[Em];exact hp,by omega,fun j hj=>?_,fun j j' h1 h2=>?_,fun k hk hn i h1 h2=>?_⟩
 ·by_cases e:j=r
  ·rw[e,me];omega
  ·rw[ml j (by omega)];have:=h.hc j (by omega);omega
 ·by_cases e:j'=r
  ·rw[e,me,ml j (by omega)];exact h.hc j (by omega)
  ·rw[ml j' (by omega),ml j (by omega)];exact h.up j j' h1 (by omega)
 ·have hkc:k≠c:=fun e=>hn r (by omega) (by rw[me,e]);have hn':∀j,j<r->hd j≠k:=fun j hj=>by rw[<-ml j hj];exact hn j (by omega)
  refine hD _ _ h.nz ?_;rw[Dn hpi (by omega)];exact Fz (vq _ (h.zero k (by omega) hn' i (by omega) h2)) (vq _ (h.zero k (by omega) hn' r (Nat.le_refl _) hrn))
theorem Cp.step{b:Int}{n:Nat}{A0:Nat->Nat->Int}{c:Nat}{A:Nat->Nat->Int}{hd:Nat->Nat}{r:Nat}(h:Cp b n A0 c A hd r)(hD:Dom b):∃A hd r,Cp b n A0 (c+1) A hd r:=by
 by_cases z:∀i,r<=i->i<n->tk b (En A hd r i c)=0
 ·refine⟨A,hd,r,h.sw,h.nz,h.rn,fun j hj=>by have:=h.hc j hj;omega,h.up,fun k hk hn i h1 h2=>?_⟩;by_cases e:k=c
  ·rw[e];exact z i h1 h2
  ·exact h.zero k (by omega) hn i h1 h2
 ·obtain⟨i,hi⟩:=Classical.not_forall.mp z;obtain⟨h1,hi⟩:=Classical.not_imp.mp hi;obtain⟨h2,hi⟩:=Classical.not_imp.mp hi;by_cases e:i=r
  ·rw[e]at hi;exact⟨_,_,_,h.free hD (by omega) hi⟩
  ·refine⟨_,_,_,(h.bring (a:=i) (by omega) h2).free hD (by omega) ?_⟩;rw[DN (Nat.le_refl _) (by omega),if_pos rfl];exact hi
theorem Cp.ex{b:Int}(hD:Dom b)(h1:tk b 1≠0)(n:Nat)(A0:Nat->Nat->Int):∀c,∃A hd r,Cp b n A0 c A hd r
 |0=>⟨A0,fun _=>0,0,.refl,by rw[GB];exact h1,Nat.zero_le _,fun h hh=>absurd hh (Nat.not_lt_zero _),fun _ _ _ h=>absurd h (Nat.not_lt_zero _),fun k hk=>absurd hk (Nat.not_lt_zero _)⟩
 |c+1=>by
  obtain⟨A,hd,r,h⟩:=Cp.ex hD h1 n A0 c;exact h.step hD
theorem GF{hd:Nat->Nat}{r m:Nat}(hc:∀h,h<r->hd h<m)(up:∀h h',h<h'->h'<r->hd h<hd h')(sur:∀k,k<m->∃j,j<r/\hd j=k):r=m/\∀k,k<m->hd k=k:=by
 have ge:∀j,j<r->j<=hd j:=fun j=>by
  induction j with
  |zero=>intro _;exact Nat.zero_le _
  |succ j ih=>
   intro hj;have:=ih (by omega);have:=up j (j+1) (by omega) hj;omega
 have all:∀k,k<m->k<r/\hd k=k:=fun k=>by
  induction k using Nat.strongRecOn with
  |ind k ih=>
   intro hk;obtain⟨j,hj,e⟩:=sur k hk;have g:=ge j hj;by_cases c:j=k
   ·rw[<-c];exact⟨hj,by rw[e,c]⟩
   ·have:=(ih j (by omega) (by omega)).2;omega
 refine⟨?_,fun k hk=>(all k hk).2⟩;by_cases c:r<=m
 ·by_cases c2:r=m
  ·exact c2
  ·have:=(all r (by omega)).1;omega
 ·have:=hc m (by omega);have:=ge m (by omega);omega
theorem Cg{b:Int}{n:Nat}{A0:Nat->Nat->Int}(hD:Dom b)(h1:tk b 1≠0)(hI:Ind b n n A0):tk b (det n A0)≠0:=by
 obtain⟨A,hd,r,h⟩:=Cp.ex hD h1 n A0 n;have H:=GF h.hc h.up fun k hk=>by
  by_cases c:∃j,j<r/\hd j=k
  ·exact c
  ·exfalso
   have hn:∀j,j<r->hd j≠k:=fun j hj e=>c ⟨j,hj,e⟩;have R:=Bb (A:=A) (hd:=hd) (r:=r) (m:=n) (k:=k) (b:=b) (n:=n) h.hc hk (h.zero k hk hn);have z:=hI _ (h.sw.rel.mpr R) k hk;rw[if_pos rfl,iH (fun j hj=>by rw[if_neg (fun e=>hn j hj e.symm)]),Int.zero_sub]at z;have:=m7 z;rw[Int.neg_neg]at this;exact h.nz this
 obtain⟨e,H⟩:=H;subst e;rw[<-h.sw.det];have:=h.nz;have q:dt A hd r=det r A:=bK fun i k _ hk=>by unfold Bk;rw[H k hk]
 rwa [q]at this
end Dm
namespace Dm
open Pm Rm
def hk(a:Nat->Int):Nat->Nat->Int:=fun i j=>a (i+j)
theorem Qu(x a:Nat->Int)(l i:Nat):sm l (fun k=>hk a i k*x k)=ks (ofF l x) a i:=by
 unfold ks;rw[aP];refine au fun k hk'=>?_;rw[bV,if_pos hk',Int.mul_comm];rfl
theorem Ed{b:Int}(hD:Dom b)(h1:tk b 1≠0){L:List Int}{a:Nat->Int}(hL:Mon L)(hw:∀k,tk b (co L k)=co L k)(hK:Kp b L a)(hm:∀q,Kp b q a->Dv b L (co q)):tk b (det (L.length-1) (hk a))≠0:=by
 refine Cg hD h1 fun x hx k hk'=>?_;have e:=nQ hw hL;have ha:∀n,(gU b L).length<=n->tk b (a n)=tk b (S (gU b L) a n (gU b L).length):=Kp.rec (by rw[e];exact hK);have hq:Kp b (ofF (L.length-1) x) a:=DP ha fun n hn=>by
  rw[fj]at hn;rw[<-Qu];exact hx n hn
 have z:=(hm _ hq).short hL (by have:=Fs.co (ofF (L.length-1) x);rwa [aP]at this) k
 rwa [bV,if_pos hk']at z
theorem B7{b:Int}(hD:Dom b){l:Nat}{a:Nat->Int}(h:tk b (det l (hk a))≠0){q:List Int}(hq:q.length<=l)(hK:Kp b q a):∀k,tk b (co q k)=0:=fun k=>by
 have hI:=uR hD h (co q) fun i hi=>by
  rw[Qu];have e:ks (ofF l (co q)) a i=ks q a i:=by
   rw[<-lY q a i hq];unfold ks;rw[aP];exact au fun k hk'=>by rw[bV,if_pos hk']
  rw[e];exact hK i
 by_cases c:k<l
 ·exact hI k c
 ·rw[bD (by omega),tk0]
theorem Dom.pr{p:Nat}(hp:Om.bU p):Dom (p:Int):=fun x y hx h=>by
 have h2:=hp.1;obtain⟨e,he⟩:=eV.mp h;rcases oF hp (x:=x) (y:=y) ⟨e,he⟩with⟨z,hz⟩|⟨z,hz⟩
 ·exact absurd (eV.mpr ⟨z,hz⟩) hx
 ·exact eV.mpr ⟨z,hz⟩
end Dm
namespace Pm
open Rm Dm
structure GcZ(P:List Int)(T:Nat->Int)(g:List Int)(N:Int):Prop where
 mon:Mon g
 py:Py 0 g
 ne:N≠0
 one:Dv 0 g (co P)
 two:Dv 0 g T
 all:∀h:List Int,Mon h->Dv 0 h (co P)->Dv 0 h T->Dv 0 h (co g)
 good:∀(p:Nat) (s:List Int),Om.bU p->¬(p:Int)∣N->Mon s->Dv p s (co P)->Dv p s T->s.length<=g.length
theorem Dv.by{b:Int}{m:List Int}{f:Nat->Int}(h:Dv 0 m f):Dv b m f:=by
 obtain⟨s,n,hs,h⟩:=h;exact⟨s,n,hs,fun k=>by have:=h k;rw[aW,aW]at this;rw[this]⟩
theorem Dv.len{b:Int}(h1:tk b 1=1){m p:List Int}(hm:Mon m)(hp:Mon p)(h:Dv b m (co p)):m.length<=p.length:=by
 by_cases c:m.length<=p.length
 ·exact c
 ·exfalso
  have:=h.short hm ((Fs.co p).mono (by omega)) (p.length-1);rw[hp.one,h1]at this;exact absurd this (by decide)
theorem oJ{b:Int}(h1:tk b 1=1){P g:List Int}(hP:Mon P)(hg:Mon g)(h:Dv b g (co P)):∃L:List Int,Mon L/\(∀k,tk b (co L k)=co L k)/\L.length+g.length=P.length+1/\∀k,tk b (co P k)=tk b (cv (co L) (co g) k):=by
 have hl:=h.len h1 hg hP;have hp:=hP.pos;have hgp:=hg.pos;obtain⟨s,n,hs,h⟩:=h;have key:∀d j,n<=j+d->P.length-g.length<j->tk b (s j)=0:=fun d=>by
  induction d with
  |zero=>intro j hj _;rw[hs j hj,tk0]
  |succ d ih=>
   intro j hj hj2;have e:=h (j+(g.length-1));rw[bD (by omega),tk0,gO]at e;have e2:tk b (sm (j+(g.length-1)+1) fun i=>s i*co g (j+(g.length-1)-i))=tk b (sm (j+(g.length-1)+1) fun i=>if i=j then s j else 0):=jq fun i hi=>by
    by_cases c:i=j
    ·rw[if_pos c,c,Nat.add_sub_cancel_left,hg.one,Int.mul_one]
    ·rw[if_neg c,tk0];by_cases d2:i<j
     ·rw[bD (by omega),Int.mul_zero,tk0]
     ·rw[Int.mul_comm];exact vX _ (ih i (by omega) (by omega))
   rw[e2,cL,if_pos (by omega)]at e;exact e.symm
 have z:∀k,P.length-g.length<k->tk b (s k)=0:=fun k hk=>key n k (by omega) hk;have t1:tk b (s (P.length-g.length))=1:=by
  have e:=h (P.length-1);rw[hP.one,h1,gO]at e;have e2:tk b (sm (P.length-1+1) fun i=>s i*co g (P.length-1-i))=tk b (sm (P.length-1+1) fun i=>if i=P.length-g.length then s (P.length-g.length)else 0):=jq fun i hi=>by
   by_cases c:i=P.length-g.length
   ·rw[if_pos c,c,show P.length-1-(P.length-g.length)=g.length-1 by omega,hg.one,Int.mul_one]
   ·rw[if_neg c,tk0];by_cases d2:i<P.length-g.length
    ·rw[bD (by omega),Int.mul_zero,tk0]
    ·rw[Int.mul_comm];exact vX _ (z i (by omega))
  rw[e2,cL,if_pos (by omega)]at e;exact e.symm
 have hc:∀k,co (ofF (P.length-g.length+1) fun k=>tk b (s k)) k=tk b (s k):=fun k=>by
  rw[bV];by_cases c:k<P.length-g.length+1
  ·rw[if_pos c]
  ·rw[if_neg c,z k (by omega)]
 refine⟨ofF (P.length-g.length+1) fun k=>tk b (s k),⟨by rw[aP];omega,?_⟩,fun k=>?_,by rw[aP];omega,fun k=>?_⟩
 ·rw[aP,Nat.add_sub_cancel,hc,t1]
 ·rw[hc,jO]
 ·rw[h k];exact iY (fun i _=>by rw[hc,jO]) fun i _=>rfl
theorem qK{b:Int}{P:List Int}(hP:Mon P)(k:Nat):tk b (co P k)=tk b (co (aN b (gU b P)) k):=by
 have hp:=hP.pos;rw[aN,bZ,aP,fj];by_cases c:k<P.length-1
 ·rw[if_pos c,bV,if_pos c,gU,bV,if_pos (by omega),uT,jO];rw[show P.length-1-1-(P.length-1-1-k)=k by omega]
 ·rw[if_neg c];by_cases d:k=P.length-1
  ·rw[d,hP.one,Nat.sub_self];rfl
  ·rw[bD (by omega),bD (by simp;omega)]
theorem keepsP{b:Int}{P:List Int}{a:Nat->Int}(hm:Mon P)(hK:Kp b P a)(q:List Int):Kp b q a↔Dv b P (cv (co q) (tp P a)):=by
 have A:=wz hm.pos q hK;constructor
 ·intro h;have z:Dv b P (tp P (ks q a)):=(Dv.zero b _).congr fun k=>by
   have:=Qn (b:=b) (P:=P) (a:=ks q a) (a':=fun _=>0) (fun n=>by rw[h n,tk0]) k;rw[this];exact(congrArg (tk b) (show tp P (fun _=>0) k=0 from iH fun i _=>Int.mul_zero _)).symm
  exact(A.add z).congr fun k=>by rw[Int.sub_add_cancel]
 ·intro h;have z:Dv b P (tp P (ks q a)):=(h.sub A).congr fun k=>by
   rw[show cv (co q) (tp P a) k-(cv (co q) (tp P a) k-tp P (ks q a) k)=tp P (ks q a) k by omega]
  have n0:=Bg hm (z.short hm (B3 _ _));have ha:∀n,(gU b P).length<=n->tk b (a n)=tk b (S (gU b P) a n (gU b P).length):=Kp.rec (hK.congr (qK hm));exact DP ha fun n hn=>n0 n (by rw[fj]at hn;exact hn)
theorem Bu{b:Int}{m:List Int}(hm:Mon m){f g:Nat->Int}{n n':Nat}(hf:Fs f n)(hg:Fs g n')(h:∀k,tk b (cv f (co m) k)=tk b (cv g (co m) k)):∀k,tk b (f k)=tk b (g k):=fun k=>by
 refine dN.mp (mH (b:=b) hm (f:=fun k=>f k-g k) (n:=n+n') (fun k hk=>?_) (fun k _=>?_) k)
 ·show f k-g k=0;rw[hf k (by omega),hg k (by omega)];rfl
 ·have e:cv (fun k=>f k-g k) (co m) k=cv f (co m) k + -1*cv g (co m) k:=by
   rw[<-gw,<-fV];exact fQ (fun i _=>by omega) fun i _=>rfl
  rw[e,aR (h k) rfl,show ∀x:Int,x + -1*x=0 from fun x=>by omega,tk0]
theorem Gy{P:List Int}{a:Nat->Int}(hP:Mon P)(hK:Kp 0 P a):∃g L,Mon L/\Py 0 L/\Kp 0 L a/\(∀q,Kp 0 q a->Dv 0 L (co q))/\L.length+g.length=P.length+1/\(∀k,co P k=cv (co L) (co g) k)/\GcZ P (tp P a) g (det (L.length-1) (hk a)):=by
 obtain⟨L,hL,hLy,hKL,hLP,hall,_⟩:=WC hP hK;obtain⟨g,hg,hgy,hlen,hE⟩:=oJ (b:=0) rfl hP hL (hall P hK);have hE':∀k,co P k=cv (co g) (co L) k:=fun k=>by have:=hE k;rwa [aW,aW]at this
 have hgP:Py 0 g:=⟨gH (fun z=>by have:=hg.pos;rw[z]at this;exact absurd this (by decide)) (by rw[hg.one];decide),fun x _=>aW x⟩;have hLp:=hL.pos;have hgp:=hg.pos;refine⟨g,L,hL,hLy,hKL,hall,by omega,fun k=>by rw[hE',d8],hg,hgP,?_,⟨co L,L.length,Fs.co L,fun k=>by rw[hE',d8]⟩,?_,fun h hh h1 h2=>?_,fun p s hp hN hs h1 h2=>?_⟩
 ·have:=Ed Dom.zero (by decide) hL (fun k=>aW _) hKL hall
  rwa [aW]at this
 ·obtain⟨s,n,hs,e⟩:=(keepsP hP hK L).mp hKL;refine⟨s,n,hs,Bu hL (B3 P a) (hs.cv (Fs.co g)) fun k=>?_⟩;rw[d8,e k,bG];exact congrArg (tk 0) (fQ (fun _ _=>rfl) fun i _=>hE' i)
 ·obtain⟨A,hA,hAy,hAl,hAe⟩:=oJ (b:=0) rfl hP hh h1;obtain⟨B,nB,hB,hBe⟩:=h2;have hKA:Kp 0 A a:=(keepsP hP hK A).mpr ⟨B,nB,hB,fun k=>by
   have e1:tk 0 (cv (co A) (tp P a) k)=tk 0 (cv (co A) (cv B (co h)) k):=iY (fun _ _=>rfl) fun i _=>hBe i;have e2:tk 0 (cv B (co P) k)=tk 0 (cv B (cv (co A) (co h)) k):=iY (fun _ _=>rfl) fun i _=>hAe i;rw[e1,e2,<-bG,<-bG];exact congrArg (tk 0) (fQ (fun i _=>d8 ..) fun _ _=>rfl)⟩
  obtain⟨C,nC,hC,hCe⟩:=hall A hKA;refine⟨C,nC,hC,Bu hL (Fs.co g) (hC.cv (Fs.co h)) fun k=>?_⟩;rw[<-hE',hAe k,iY (fun i _=>hCe i) fun _ _=>rfl,bG,bG];exact congrArg (tk 0) (fQ (fun _ _=>rfl) fun i _=>d8 ..)
 ·have hp2:=hp.1;have hp1:tk (p:Int) 1=1:=by rw[fu (by omega)];exact Int.emod_eq_of_lt (by decide) (by omega)
  obtain⟨A,hA,hAy,hAl,hAe⟩:=oJ (b:=p) hp1 hP hs h1;obtain⟨B,nB,hB,hBe⟩:=h2;have hKp:Kp p P a:=fun n=>by have:=hK n;rw[aW]at this;rw[this,tk0]
  have hKA:Kp p A a:=(keepsP hP hKp A).mpr ⟨B,nB,hB,fun k=>by
   have e1:tk p (cv (co A) (tp P a) k)=tk p (cv (co A) (cv B (co s)) k):=iY (fun _ _=>rfl) fun i _=>hBe i;have e2:tk p (cv B (co P) k)=tk p (cv B (cv (co A) (co s)) k):=iY (fun _ _=>rfl) fun i _=>hAe i;rw[e1,e2,<-bG,<-bG];exact congrArg (tk p) (fQ (fun i _=>d8 ..) fun _ _=>rfl)⟩
  by_cases c:A.length<=L.length-1
  ·exfalso
   have z:=B7 (Dom.pr hp) (fun z=>hN (eV.mp z)) c hKA (A.length-1);rw[hA.one,hp1]at z;exact absurd z (by decide)
  ·omega
end Pm
namespace Dm
open Rm Pm
end Dm
namespace Dm
open Rm Pm
def xch(A:Nat->Nat->Int)(a c:Nat):Nat->Nat->Int:=fun i k=>A (if i=a then c else if i=c then a else i) k
theorem Rel.xch{b:Int}{n m:Nat}{A:Nat->Nat->Int}{x:Nat->Int}{a c:Nat}(ha:a<n)(hc:c<n):Rel b n m A x↔Rel b n m (Dm.xch A a c) x:=by
 constructor
 ·intro h i hi;refine h (if i=a then c else if i=c then a else i) ?_;split
  ·exact hc
  ·split
   ·exact ha
   ·exact hi
 ·intro h i hi;have q:=h (if i=a then c else if i=c then a else i) (by
   split
   ·exact hc
   ·split
    ·exact ha
    ·exact hi)
  have e:∀k,Dm.xch A a c (if i=a then c else if i=c then a else i) k=A i k:=fun k=>by
   unfold Dm.xch;by_cases h1:i=a
   ·subst h1;rw[if_pos rfl];by_cases h2:c=i
    ·rw[if_pos h2,h2]
    ·rw[if_neg h2,if_pos rfl]
   ·rw[if_neg h1];by_cases h2:i=c
    ·rw[if_pos h2,if_pos rfl,h2]
    ·rw[if_neg h2,if_neg h1,if_neg h2]
  rw[au fun k _=>by rw[e k]]at q;exact q
theorem O4{A:Nat->Nat->Int}{hd:Nat->Nat}{r a c:Nat}(ha:r<=a)(hc:r<=c):dt (xch A a c) hd r=dt A hd r:=bK fun i k hi _=>by
 show A (if i=a then c else if i=c then a else i) _=_;rw[if_neg (by omega),if_neg (by omega)];rfl
theorem Kh{A:Nat->Nat->Int}{hd:Nat->Nat}{r a c i:Nat}(ha:r<=a)(hc:r<=c)(hi:r<=i)(k:Nat):En (xch A a c) hd r i k=En A hd r (if i=a then c else if i=c then a else i) k:=by
 have hs:r<=if i=a then c else if i=c then a else i:=by
  split
  ·exact hc
  ·split<;>assumption
 unfold En;rw[if_neg (by omega),if_neg (by omega)];refine bK fun i' k' h1 h2=>?_;show A (if(if i'=r then i else i')=a then c else if(if i'=r then i else i')=c then a else(if i'=r then i else i')) _=A (if i'=r then _ else i') _;by_cases e:i'=r
 ·rw[if_pos e,if_pos e]
 ·rw[if_neg e,if_neg e,if_neg (by omega),if_neg (by omega)]
theorem FY(c:Nat):more id c c=id:=funext fun h=>by
 unfold more;by_cases e:h=c
 ·rw[if_pos e,e];rfl
 ·rw[if_neg e]
theorem Wx{A:Nat->Nat->Int}{hd:Nat->Nat}{r i k u:Nat}(hi:r<=i)(h:∀i k,Bd u (A i k)):Bd ((r+1)*(u+(r+1))+1) (En A hd r i k):=by
 unfold En;rw[if_neg (by omega)];exact BF fun _ _ _ _=>h _ _
def sh(b x last:Int):Int:=if b=0 then x.fdiv last else x%b
structure RkI(b:Int)(n c:Nat)(A0 A:Nat->Nat->Int)(t:List (List Int))(last:Int)(ua:Nat):Prop where
 rel:∀m x,Rel b n m A0 x↔Rel b n m A x
 len:t.length=n
 wd:∀i,i<n->(ln t i).length=n
 en:∃u,tk b u≠0/\(b=0->u=1)/\∀i k,c<=i->i<n->k<n->co (ln t i) k=tk b (u*En A id c i k)
 la:b=0->last=dt A id c
 nz:tk b (dt A id c)≠0
 bdd:∀i k,Bd ua (A i k)
theorem RkI.start{b:Int}{n ua:Nat}{A0:Nat->Nat->Int}{t:List (List Int)}(h1:tk b 1=1)(hl:t.length=n)(hw:∀i,i<n->(ln t i).length=n)(he:∀i k,i<n->k<n->co (ln t i) k=tk b (A0 i k))(hb:∀i k,Bd ua (A0 i k)):RkI b n 0 A0 A0 t 1 ua:=
 ⟨fun _ _=>Iff.rfl,hl,hw,⟨1,by rw[h1];decide,fun _=>rfl,fun i k _ hi hk=>by rw[KN,Int.one_mul];exact he i k hi hk⟩,fun _=>rfl,by rw[GB,h1];decide,hb⟩
theorem RkI.zero{b:Int}{n c:Nat}{A0 A:Nat->Nat->Int}{t:List (List Int)}{last:Int}{ua:Nat}(h:RkI b n c A0 A t last ua)(hD:Dom b){i k:Nat}(hc:c<=i)(hi:i<n)(hk:k<n):co (ln t i) k=0↔tk b (En A id c i k)=0:=by
 obtain⟨u,hu,_,e⟩:=h.en;rw[e i k hc hi hk];exact⟨fun z=>hD _ _ hu z,fun z=>by rw[<-aZ,z,Int.mul_zero,tk0]⟩
theorem RkI.some{b:Int}{n c l:Nat}{A0 A:Nat->Nat->Int}{t:List (List Int)}{last:Int}{ua:Nat}(h:RkI b n c A0 A t last ua)(hD:Dom b)(hI:Ind b n l A0)(hc:c<l)(hl:l<=n):∃i,c<=i/\i<n/\co (ln t i) c≠0:=by
 refine Classical.byContradiction fun z=>?_;have hz:∀i,c<=i->i<n->tk b (En A id c i c)=0:=fun i h1 h2=>(h.zero hD h1 h2 (by omega)).mp (Classical.byContradiction fun y=>z ⟨i,h1,h2,y⟩);have q:=Bb (hd:=id) (m:=l) (fun j hj=>by show j<l;omega) hc hz;have q2:=hI _ ((h.rel l _).mpr q) c hc;have e:sm c (fun j=>if c=id j then En A id c j c else 0)=0:=by
  refine(au (g:=fun _=>0) fun j hj=>if_neg (by show ¬c=j;omega)).trans ?_;exact fM c
 rw[e,if_pos rfl,Int.zero_sub]at q2;have:=m7 q2;rw[Int.neg_neg]at this;exact h.nz this
theorem RkI.none{b:Int}{n l:Nat}{A0 A:Nat->Nat->Int}{t:List (List Int)}{last:Int}{ua:Nat}(h:RkI b n l A0 A t last ua)(hD:Dom b)(hl:l<=n)
  (hL:∀j,l<=j->j<n->∃x,Rel b n n A0 x/\tk b (x j)≠0/\∀k,j<k->x k=0):∀k,k<n->∀i,l<=i->i<n->co (ln t i) k=0:=fun k=>by
 induction k using Nat.strongRecOn with
 |ind k ih=>
  intro hk i h1 h2;refine(h.zero hD h1 h2 hk).mpr ?_;by_cases c:k<l
  ·have:=Nk (A:=A) (hd:=id) (r:=l) (i:=i) (h:=k) c;rw[if_neg (by omega)]at this;show tk b (En A id l i (id k))=0;rw[this,tk0]
  ·obtain⟨x,hx,hxk,hx0⟩:=hL k (by omega) hk;have q:=(((h.rel n x).mp hx).en id hl) i h2;have e:tk b (sm n fun j=>En A id l i j*x j)=tk b (sm n fun j=>if j=k then En A id l i k*x k else 0):=jq fun j hj=>by
    by_cases g:j=k
    ·rw[if_pos g,g]
    ·rw[if_neg g];by_cases g2:k<j
     ·rw[hx0 j g2,Int.mul_zero]
     ·have:=(h.zero hD h1 h2 hj).mp (ih j (by omega) hj i h1 h2);rw[<-cH,this,Int.zero_mul]
   rw[e,cL,if_pos hk]at q;exact hD _ _ hxk (by rw[Int.mul_comm];exact q)
theorem RkI.bd{b:Int}{n c:Nat}{A0 A:Nat->Nat->Int}{t:List (List Int)}{last:Int}{ua:Nat}(h:RkI b n c A0 A t last ua)(hb0:0<=b)(hb1:b<1000){i k:Nat}(hc:c<=i)(hi:i<n)(hn:n<=12)(hk:k<n):Bd (14*(ua+14)+11) (co (ln t i) k):=by
 obtain⟨u,hu,hu1,e⟩:=h.en;rw[e i k hc hi hk];by_cases z:b=0
 ·rw[z,aW,hu1 z,Int.one_mul];refine(Wx hc h.bdd).mono ?_;have:(c+1)*(ua+(c+1))<=14*(ua+14):=Nat.mul_le_mul (by omega) (by omega);omega
 ·rw[fu z];exact(Bd.emod (n:=10) (by omega) (Bd.of (by omega) (by omega))).mono (by omega)
theorem RkI.step{b:Int}{n c a:Nat}{A0 A:Nat->Nat->Int}{t t':List (List Int)}{last:Int}{ua:Nat}(h:RkI b n c A0 A t last ua)(hD:Dom b)(ha:c<=a)(han:a<n)(hne:co (ln t a) c≠0)(hl:t'.length=n)(hw:∀i,i<n->(ln t' i).length=n)
  (he:∀k,c<k->k<n->∀j,j<n->co (ln t' k) j=sh b (co (ln t a) c*co (ln t (if k=a then c else k)) j-co (ln t (if k=a then c else k)) c*co (ln t a) j) last):RkI b n (c+1) A0 (xch A c a) t' (co (ln t a) c) ua:=by
 have hcn:c<n:=by omega
 obtain⟨u,hu,hu1,e⟩:=h.en;have hp0:tk b (En A id c a c)≠0:=fun z=>hne ((h.zero hD ha han hcn).mpr z);have eC:∀k,En (xch A c a) id c c k=En A id c a k:=fun k=>by rw[Kh (Nat.le_refl _) ha (Nat.le_refl _),if_pos rfl]
 have hp:En (xch A c a) id c c c≠0:=fun z=>hp0 (by rw[<-eC c,z,tk0]);have edt:dt (xch A c a) id (c+1)=En A id c a c:=by
  have:=Em (xch A c a) id c c;rw[FY,eC]at this;exact this
 refine⟨fun m x=>(h.rel m x).trans (Rel.xch hcn han),hl,hw,⟨if b=0 then 1 else u*u*dt A id c,?_,fun z=>if_pos z,fun k j hk hkn hj=>?_⟩,fun z=>?_,by rw[edt];exact hp0,fun i k=>h.bdd _ _⟩
 ·by_cases z:b=0
  ·rw[if_pos z,z,aW];decide
  ·rw[if_neg z];intro y;exact h.nz (hD _ _ hu (hD _ _ hu (by rw[<-Int.mul_assoc];exact y)))
 ·have hs:c<=if k=a then c else k:=by split<;>omega
  have hsn:(if k=a then c else k)<n:=by split<;>omega
  have eK:∀j,En (xch A c a) id c k j=En A id c (if k=a then c else k) j:=fun j=>by
   rw[Kh (Nat.le_refl _) ha (by omega),if_neg (by omega)]
  have q:=Dn (A:=xch A c a) (hd:=id) (r:=c) (c:=c) hp (i:=k) (by omega) j;rw[FY,O4 (Nat.le_refl _) ha,eC,eC,eK,eK]at q;rw[he k (by omega) hkn j hj,e a c ha han hcn,e a j ha han hj,e _ j hs hsn hj,e _ c hs hsn hcn];unfold sh;by_cases z:b=0
  ·rw[if_pos z,if_pos z,hu1 z,z];simp only[aW,Int.one_mul];rw[<-q,h.la z];have hd0:dt A id c≠0:=fun y=>h.nz (by rw[y,tk0]);rw[Int.mul_comm,Int.mul_fdiv_cancel _ hd0]
  ·rw[if_neg z,if_neg z,<-fu z];have e1:tk b (tk b (u*En A id c a c)*tk b (u*En A id c (if k=a then c else k) j)-tk b (u*En A id c (if k=a then c else k) c)*tk b (u*En A id c a j))=tk b (u*En A id c a c*(u*En A id c (if k=a then c else k) j)-u*En A id c (if k=a then c else k) c*(u*En A id c a j)):=by
    rw[Int.sub_eq_add_neg,Int.sub_eq_add_neg];refine aR ?_ ?_
    ·rw[cH,aZ]
    ·have neg:∀x y:Int,tk b x=tk b y->tk b (-x)=tk b (-y):=fun x y h=>by rw[show -x=-1*x by omega,show -y=-1*y by omega,<-aZ,h,aZ]
     refine neg _ _ ?_;rw[cH,aZ]
   rw[e1];congr 1;have e2:u*u*dt A id c*En (xch A c a) id (c+1) k j=u*u*(dt A id c*En (xch A c a) id (c+1) k j):=by rw[Int.mul_assoc]
   rw[e2,q,Int.mul_sub];congr 1
   ·simp only[Int.mul_assoc,Int.mul_comm,Int.mul_left_comm]
   ·simp only[Int.mul_assoc,Int.mul_comm,Int.mul_left_comm]
 ·rw[edt,e a c ha han hcn,z,aW,hu1 z,Int.one_mul]
theorem Ii{b:Int}(h1:tk b 1≠0){a:Nat->Int}{M:List Int}(hM:Mon M)(hK:Kp b M a){n j:Nat}(hj:M.length-1<=j)(hjn:j<n):∃x,Rel b n n (hk a) x/\tk b (x j)≠0/\∀k,j<k->x k=0:=by
 have hp:=hM.pos;refine⟨fun k=>if j-(M.length-1)<=k then co M (k-(j-(M.length-1)))else 0,fun i hi=>?_,?_,fun k hk=>?_⟩
 ·have q:=hK (i+(j-(M.length-1)));rw[ks]at q;refine Eq.trans ?_ q;obtain⟨s,hs⟩:∃s,j-(M.length-1)=s:=⟨_,rfl⟩;dsimp only;rw[hs];have e1:(sm n fun j=>hk a i j*(if s<=j then co M (j-s)else 0))=(sm n fun j=>if s<=j then(fun k=>co M k*a (i+s+k)) (j-s)else 0):=au fun j hj=>by
   by_cases c:s<=j
   ·rw[if_pos c,if_pos c,Int.mul_comm];show _=co M (j-s)*a (i+s+(j-s));rw[show i+s+(j-s)=i+j by omega];rfl
   ·rw[if_neg c,if_neg c,Int.mul_zero]
  have e2:(sm n fun j=>if s<=j then(fun k=>co M k*a (i+s+k)) (j-s)else 0)=sm (n-s) fun k=>co M k*a (i+s+k):=by
   have:=vP (fun k=>co M k*a (i+s+k)) s (n-s);rw[show s+(n-s)=n by omega]at this;exact this
  rw[e1,e2,fU (m:=M.length) (by omega) fun k h2 _=>by rw[bD h2,Int.zero_mul]]
 ·dsimp only;rw[if_pos (by omega),show j-(j-(M.length-1))=M.length-1 by omega,hM.one];exact h1
 ·dsimp only;rw[if_pos (by omega),bD (by omega)]
end Dm
namespace Pm
open Rm Dm
theorem QC{p:Int}(hp:p≠0){x y:Int}:tk p x=tk p y↔p∣x-y:=by
 rw[<-dN,eV];exact⟨fun⟨e,h⟩=>⟨e,h⟩,fun⟨e,h⟩=>⟨e,h⟩⟩
theorem Eu{p:Nat}(hp:Om.bU p):tk (p:Int) 1=1:=by
 have:=hp.1;rw[fu (by omega)];exact Int.emod_eq_of_lt (by decide) (by omega)
theorem Dv.same{b:Int}(h1:tk b 1=1){m p:List Int}(hm:Mon m)(hp:Mon p)(h:Dv b m (co p))(hl:m.length=p.length)(k:Nat):tk b (co p k)=tk b (co m k):=by
 obtain⟨L,hL,_,hlen,e⟩:=oJ h1 hp hm h;have hm0:=hm.pos;have h2:L.length=1:=by omega
 have e0:co L 0=1:=by have:=hL.one;rwa [h2]at this
 rw[e k];refine congrArg (tk b) ?_;rw[gO,fU (m:=1) (by omega) fun j h3 _=>by rw[bD (p:=L) (by omega),Int.zero_mul]];simp[sm,e0]
structure Seen(g:List Int)(N:Int)(p:Nat)(s:List Int):Prop where
 mon:Mon s
 nu:∀k,tk (p:Int) (co s k)=co s k
 ge:g.length<=s.length
 eq:s.length=g.length->∀k,(p:Int)∣co s k-co g k
 good:¬(p:Int)∣N->s.length=g.length
theorem In2.to{b:Int}{g p q:List Int}(h:In2 b g [] p)(e:∀k,tk b (co p k)=tk b (co q k)):Dv b g (co q):=by
 obtain⟨u,h⟩:=h.dv;exact⟨co u,u.length,Fs.co u,fun k=>by rw[<-e,h]⟩
theorem GcZ.seen{P t g:List Int}{N:Int}(h:GcZ P (co t) g N){p:Nat}(hp:Om.bU p){P' t' s:List Int}(eP:∀k,tk (p:Int) (co P' k)=tk p (co P k))(et:∀k,tk (p:Int) (co t' k)=tk p (co t k))(hs:Gcd p P' t' s):Seen g N p s:=by
 have h2:=hp.1;have h1:=Eu hp;have d1:Dv p s (co P):=hs.one.to eP;have d2:Dv p s (co t):=hs.two.to et;have d3:Dv p g (co s):=by
  obtain⟨u,v,e⟩:=hs.sum;refine((((h.one.by (b:=p))).mul (Fs.co u)).add ((h.two.by (b:=p)).mul (Fs.co v))).congr fun k=>?_;rw[e];exact aR (iY (fun _ _=>rfl) fun i _=>(eP i).symm) (iY (fun _ _=>rfl) fun i _=>(et i).symm)
 have hge:=d3.len h1 h.mon hs.mon;exact⟨hs.mon,hs.py.co,hge,fun e k=>(QC (by omega)).mp (d3.same h1 h.mon hs.mon e.symm k),fun z=>by
  have:=h.good p s hp z hs.mon d1 d2;omega⟩
theorem GcZ.told{P t g h:List Int}{N:Int}(H:GcZ P (co t) g N)(hh:Mon h)(h1:Dv 0 h (co P))(h2:Dv 0 h (co t))(hl:g.length<=h.length):h=g:=by
 have d:=H.all h hh h1 h2;have:=d.len rfl hh H.mon;exact oA (by omega) fun k=>by have:=d.same rfl hh H.mon (by omega) k;rw[aW,aW]at this;exact this.symm
def nr(M x:Int):Int:=if 2*(x%M)>M then x%M-M else x%M
def Nr(M x:Int):Prop:=-M<2*x/\2*x<=M
theorem BH(M x:Int):M∣nr M x-x:=by
 have e:=Int.emod_add_mul_ediv x M;unfold nr;split
 ·exact⟨-(x/M)-1,by rw[Int.mul_sub,Int.mul_neg];omega⟩
 ·exact⟨-(x/M),by rw[Int.mul_neg];omega⟩
theorem yM{M:Int}(hM:0<M)(x:Int):Nr M (nr M x):=by
 have h0:=Int.emod_nonneg x (show M≠0 by omega);have h1:=Int.emod_lt_of_pos x hM;unfold nr Nr;split<;>omega
theorem Nr.eq{M x y:Int}(hM:0<M)(hx:Nr M x)(hy:Nr M y)(h:M∣x-y):x=y:=by
 obtain⟨c,hc⟩:=h;unfold Nr at hx hy;by_cases c0:c=0
 ·rw[c0,Int.mul_zero]at hc;omega
 ·exfalso
  rcases Int.lt_or_gt_of_ne c0 with l|l
  ·have:M*c<=M*(-1):=Int.mul_le_mul_of_nonneg_left (by omega) (by omega);omega
  ·have:M*1<=M*c:=Int.mul_le_mul_of_nonneg_left (by omega) (by omega);omega
theorem Ov{M:Int}(hM:2<=M){x:Int}(h:M∣x-1):nr M x=1:=Nr.eq (M:=M) (by omega) (yM (by omega) x) (by unfold Nr;omega) (by
 have:=Int.dvd_add (BH M x) h
 rwa [show nr M x-x+(x-1)=nr M x-1 by omega]at this)
theorem vB{M:Int}{p:Nat}(hp:Om.bU p)(hM:¬(p:Int)∣M){x:Int}(h1:M∣x)(h2:(p:Int)∣x):M*p∣x:=by
 obtain⟨y,rfl⟩:=h1;rcases oF hp h2 with z|⟨e,he⟩
 ·exact absurd z hM
 ·exact⟨e,by rw[he,Int.mul_assoc]⟩
structure WgI(P g:List Int)(N:Int)(told:List Int)(M:Int)(prime:Nat)(ripe:Bool)(bad good:Nat):Prop where
 mon:Mon told
 ge:g.length<=told.length
 le:told.length<=P.length
 pos:0<M
 div:∀q:Nat,Om.bU q->(q:Int)∣M->q<=prime
 Ua:told.length=g.length->∀k,M∣co told k-co g k
 near:M≠1->∀k,Nr M (co told k)
 Nq:∃X:Nat,(X:Int)∣N/\2^(19*bad)<=X/\∀q:Nat,Om.bU q->q∣X->q<=prime
 Dt:0<good->told.length=g.length/\2^(19*good)<=M
 Pu:2<=good->(∀k,2*(co g k).natAbs<2^(19*(good-1)))->ripe=true/\told=g
 hi:M<=2^(21*(bad+good))
 first:M=1->told=P
theorem WgI.start{P g:List Int}{N:Int}(hP:Mon P)(hl:g.length<=P.length)(prime:Nat):WgI P g N P 1 prime true 0 0:=
 ⟨hP,hl,Nat.le_refl _,by decide,fun q hq h=>by
  have:=hq.1;have h3:=Int.le_of_dvd (by decide) h;omega,fun _ k=>⟨_,(Int.one_mul _).symm⟩,fun h=>absurd rfl h,⟨1,⟨N,(Int.one_mul N).symm⟩,by decide,fun q hq h=>by
  have:=hq.1;have h3:=Nat.le_of_dvd (by decide) h;omega⟩,fun h=>absurd h (by decide),fun h=>absurd h (by decide),by decide,fun _=>rfl⟩
theorem rP{N:Int}{prime p bad:Nat}(hp:Om.bU p)(hlt:prime<p)(hbig:2^19<=p)(hN:(p:Int)∣N)(h:∃X:Nat,(X:Int)∣N/\2^(19*bad)<=X/\∀q:Nat,Om.bU q->q∣X->q<=prime):
  ∃X:Nat,(X:Int)∣N/\2^(19*(bad+1))<=X/\∀q:Nat,Om.bU q->q∣X->q<=p:=by
 obtain⟨X,h1,h2,h3⟩:=h;refine⟨X*p,?_,?_,fun q hq hd=>?_⟩
 ·have:=vB (M:=(X:Int)) hp (fun z=>by have:=h3 p hp (Int.ofNat_dvd.mp z);omega) h1 hN
  rwa [Int.natCast_mul]
 ·rw[Nat.mul_add,Nat.pow_add];exact Nat.mul_le_mul h2 hbig
 ·rcases hq.dvd hd with z|z
  ·have:=h3 q hq z;omega
  ·exact Nat.le_of_dvd (by omega) z
theorem WgI.stay{P g told s:List Int}{N M:Int}{prime p bad good:Nat}{ripe:Bool}(h:WgI P g N told M prime ripe bad good)(hp:Om.bU p)(hlt:prime<p)(hbig:2^19<=p)(hs:Seen g N p s)(hl:told.length<s.length):WgI P g N told M p ripe (bad+1) good:=by
 have hN:(p:Int)∣N:=Classical.byContradiction fun z=>by have:=hs.good z;have:=h.ge;omega
 exact⟨h.mon,h.ge,h.le,h.pos,fun q hq hd=>by have:=h.div q hq hd;omega,h.Ua,h.near,rP hp hlt hbig hN h.Nq,h.Dt,h.Pu,Int.le_trans h.hi (by
  have:(2:Nat)^(21*(bad+good))<=2^(21*(bad+1+good)):=Nat.pow_le_pow_right (by decide) (by omega)
  exact_mod_cast this),h.first⟩
theorem WgI.anew{P g told s:List Int}{N M:Int}{prime p bad good:Nat}{ripe:Bool}(h:WgI P g N told M prime ripe bad good)(hp:Om.bU p)(hlt:prime<p)(hbig:2^19<=p)(hhi:p<=2^21)(hs:Seen g N p s)(hl:s.length<told.length):
  ∃Ga qZ,Ga+qZ=bad+good+1/\WgI P g N (s.map (nr p)) p p true Ga qZ:=by
 have hp2:=hp.1;have hg0:good=0:=by
  by_cases c:good=0
  ·exact c
  ·have:=(h.Dt (by omega)).1;have:=hs.ge;omega
 have hle:=h.le;have hsp:=hs.mon.pos;have hpp:(2:Int)<=p:=by omega
 have hc:∀k,co (s.map (nr p)) k=nr p (co s k):=fun k=>qG (by unfold nr;rw[Int.zero_emod];split<;>omega) s k;have hm:Mon (s.map (nr p)):=⟨by rw[List.length_map];exact hsp,by rw[List.length_map,hc,hs.mon.one];exact Ov hpp ⟨0,by rw[Int.mul_zero];rfl⟩⟩;have Cr:(s.map (nr p)).length=g.length->∀k,(p:Int)∣co (s.map (nr p)) k-co g k:=fun e k=>by
  rw[hc];have:=Int.dvd_add (BH p (co s k)) (hs.eq (by rwa [List.length_map]at e) k)
  rwa [show nr p (co s k)-co s k+(co s k-co g k)=nr p (co s k)-co g k by omega]at this
 have hnear:(p:Int)≠1->∀k,Nr p (co (s.map (nr p)) k):=fun _ k=>by rw[hc];exact yM (by omega) _
 have hdiv:∀q:Nat,Om.bU q->(q:Int)∣p->q<=p:=fun q _ hd=>Nat.le_of_dvd (by omega) (Int.ofNat_dvd.mp hd);by_cases c:s.length=g.length
 ·refine⟨bad,1,by omega,hm,by rw[List.length_map];exact hs.ge,by rw[List.length_map];omega,by omega,hdiv,Cr,hnear,?_,fun _=>⟨by rw[List.length_map];exact c,by exact_mod_cast hbig⟩,fun z=>absurd z (by decide),?_,fun z=>by omega⟩
  ·obtain⟨X,h1,h2,h3⟩:=h.Nq;exact⟨X,h1,h2,fun q hq hd=>by have:=h3 q hq hd;omega⟩
  ·have:(2:Nat)^21<=2^(21*(bad+1)):=Nat.pow_le_pow_right (by decide) (by omega)
   exact_mod_cast Nat.le_trans hhi this
 ·have hN:(p:Int)∣N:=Classical.byContradiction fun z=>c (hs.good z);refine⟨bad+1,0,by omega,hm,by rw[List.length_map];exact hs.ge,by rw[List.length_map];omega,by omega,hdiv,Cr,hnear,rP hp hlt hbig hN h.Nq,fun z=>absurd z (by decide),fun z=>absurd z (by decide),?_,fun z=>by omega⟩;have:(2:Nat)^21<=2^(21*(bad+1+0)):=Nat.pow_le_pow_right (by decide) (by omega)
  exact_mod_cast Nat.le_trans hhi this
theorem WgI.join{P g told s kE:List Int}{N M:Int}{prime p bad good:Nat}{ripe KQ:Bool}(h:WgI P g N told M prime ripe bad good)(hp:Om.bU p)(hlt:prime<p)(hbig:2^19<=p)(hhi:p<=2^21)(hs:Seen g N p s)(hl:s.length=told.length)
  (hl':kE.length=told.length) (ht:∀k,k<told.length->∃w:Int,(p:Int)∣M*w-(co s k-co told k)/\co kE k=nr (M*p) (co told k+M*w)) (hr:KQ=true↔kE=told):
  ∃Ga qZ,Ga+qZ=bad+good+1/\WgI P g N kE (M*p) p KQ Ga qZ:=by
 have hp2:=hp.1;have hM:=h.pos;have hpM:¬(p:Int)∣M:=fun z=>by have:=h.div p hp z;omega
 have hpp:(2:Int)<=p:=by omega
 have hMp:(2:Int)<=M*p:=by
  have:1*(2:Int)<=M*p:=Int.mul_le_mul (by omega) hpp (by decide) (by omega);omega
 have hle:=h.le;have hge:=h.ge;have htp:=h.mon.pos;have a1:∀k,M∣co kE k-co told k:=fun k=>by
  by_cases c:k<told.length
  ·obtain⟨w,_,e⟩:=ht k c;rw[e];have e1:M∣nr (M*p) (co told k+M*w)-(co told k+M*w):=Int.dvd_trans (Int.dvd_mul_right M p) (BH _ _);have e2:M∣M*w:=Int.dvd_mul_right ..;have:=Int.dvd_add e1 e2
   rwa [show nr (M * ↑p) (co told k+M*w)-(co told k+M*w)+M*w=nr (M * ↑p) (co told k+M*w)-co told k by omega]at this
  ·rw[bD (by omega),bD (by omega)];exact⟨0,by rw[Int.mul_zero];rfl⟩
 have a2:∀k,(p:Int)∣co kE k-co s k:=fun k=>by
  by_cases c:k<told.length
  ·obtain⟨w,h1,e⟩:=ht k c;rw[e];have e1:(p:Int)∣nr (M*p) (co told k+M*w)-(co told k+M*w):=Int.dvd_trans (Int.dvd_mul_left M p) (BH _ _);have:=Int.dvd_add e1 h1
   rwa [show nr (M * ↑p) (co told k+M*w)-(co told k+M*w)+(M*w-(co s k-co told k))=nr (M * ↑p) (co told k+M*w)-co s k by omega]at this
  ·rw[bD (by omega),bD (by omega)];exact⟨0,by rw[Int.mul_zero];rfl⟩
 have hnear:M*p≠1->∀k,Nr (M*p) (co kE k):=fun _ k=>by
  by_cases c:k<told.length
  ·obtain⟨w,_,e⟩:=ht k c;rw[e];exact yM (by omega) _
  ·rw[bD (by omega)];unfold Nr;omega
 have XH:co kE (kE.length-1)=1:=by
  rw[hl'];refine Nr.eq (M:=M*p) (by omega) (hnear (by omega) _) (by unfold Nr;omega) (vB hp hpM ?_ ?_)
  ·have:=a1 (told.length-1)
   rwa [h.mon.one]at this
  ·have:=a2 (told.length-1);have e:=hs.mon.one;rw[hl]at e
   rwa [e]at this
 have hm:Mon kE:=⟨by omega,XH⟩;have hdiv:∀q:Nat,Om.bU q->(q:Int)∣M*p->q<=p:=fun q hq hd=>by
  rcases oF hq hd with z|z
  ·have:=h.div q hq z;omega
  ·exact Nat.le_of_dvd (by omega) (Int.ofNat_dvd.mp z)
 have Cr:kE.length=g.length->∀k,M*p∣co kE k-co g k:=fun e k=>by
  refine vB hp hpM ?_ ?_
  ·have:=Int.dvd_add (a1 k) (h.Ua (by omega) k)
   rwa [show co kE k-co told k+(co told k-co g k)=co kE k-co g k by omega]at this
  ·have:=Int.dvd_add (a2 k) (hs.eq (by omega) k)
   rwa [show co kE k-co s k+(co s k-co g k)=co kE k-co g k by omega]at this
 have hhi':∀x,x=bad+good+1->M*p<=2^(21*x):=fun x hx=>by
  rw[hx,show 21*(bad+good+1)=21*(bad+good)+21 by omega,Int.pow_add];exact Int.mul_le_mul h.hi (by exact_mod_cast hhi) (by omega) (Int.le_of_lt (Int.pow_pos (by decide)))
 by_cases c:s.length=g.length
 ·refine⟨bad,good+1,by omega,hm,by omega,by omega,by omega,hdiv,Cr,hnear,?_,fun _=>⟨by omega,?_⟩,fun h2 hb=>?_,hhi' _ (by omega),fun z=>by omega⟩
  ·obtain⟨X,h1,h2,h3⟩:=h.Nq;exact⟨X,h1,h2,fun q hq hd=>by have:=h3 q hq hd;omega⟩
  ·rw[show 19*(good+1)=19*good+19 by omega,Int.pow_add];refine Int.mul_le_mul ?_ (by exact_mod_cast hbig) (by decide) (by omega);by_cases c0:good=0
   ·rw[c0];show(1:Int)<=M;omega
   ·exact(h.Dt (by omega)).2
  ·rw[Nat.add_sub_cancel]at hb;have hgo:=h.Dt (by omega);have hM1:M≠1:=fun z=>by
    rw[z]at hgo;have h3:=hgo.2;have:(2:Int)^(19*1)<=2^(19*good):=by exact_mod_cast Nat.pow_le_pow_right (n:=2) (by decide) (show 19*1<=19*good by omega)
    have:(2:Int)^(19*1)=524288:=by decide
    omega
   have gn:∀k,Nr M (co g k):=fun k=>by
    have h3:=hb k;have h4:=hgo.2;have h5:((2*(co g k).natAbs:Nat):Int)<M:=Int.lt_of_lt_of_le (by exact_mod_cast h3) h4;unfold Nr;omega
   have et:told=g:=oA hgo.1 fun k=>(h.near hM1 k).eq hM (gn k) (h.Ua hgo.1 k);have gn':∀k,Nr (M*p) (co g k):=fun k=>by
    have h3:=gn k;unfold Nr at h3⊢;have:M*1<=M*p:=Int.mul_le_mul_of_nonneg_left (by omega) (by omega);omega
   have et':kE=g:=oA (by omega) fun k=>(hnear (by omega) k).eq (by omega) (gn' k) (Cr (by omega) k);exact⟨hr.mpr (by rw[et',et]),et'⟩
 ·have hN:(p:Int)∣N:=Classical.byContradiction fun z=>c (hs.good z);have hg0:good=0:=by
   by_cases c0:good=0
   ·exact c0
   ·have:=(h.Dt (by omega)).1;omega
  subst hg0;exact⟨bad+1,0,by omega,hm,by omega,by omega,by omega,hdiv,Cr,hnear,rP hp hlt hbig hN h.Nq,fun z=>absurd z (by decide),fun z=>absurd z (by decide),hhi' _ (by omega),fun z=>by omega⟩
theorem WgI.few{P g told:List Int}{N M:Int}{prime bad good U V:Nat}{ripe:Bool}(h:WgI P g N told M prime ripe bad good)(hN:N≠0)(hV:Bd V N)(hU:∀k,Bd U (co g k))(hne:¬(ripe=true/\told=g)):19*(bad+good)<=V+U+38:=by
 obtain⟨X,h1,h2,_⟩:=h.Nq;have b1:19*bad<=V:=by
  have h3:=Nat.le_of_dvd (by omega) (rB.mp h1);have h4:2^(19*bad)<2^V:=Nat.lt_of_le_of_lt (Nat.le_trans h2 h3) hV;have:=(Nat.pow_lt_pow_iff_right (by decide:1<2)).mp h4;omega
 have b2:19*good<=U+38:=by
  by_cases c:2<=good
  ·by_cases d:∀k,2*(co g k).natAbs<2^(19*(good-1))
   ·exact absurd (h.Pu c d) hne
   ·obtain⟨k,hk⟩:=Classical.not_forall.mp d;have h3:(co g k).natAbs<2^U:=hU k;have h4:2^(19*(good-1))<2^(U+1):=by rw[Nat.pow_succ];omega
    have:=(Nat.pow_lt_pow_iff_right (by decide:1<2)).mp h4;omega
  ·omega
 omega
end Pm
namespace Om
theorem rM{n:Nat}(h2:2<=n)(h:∀d,2<=d->d*d<=n->¬d∣n):bU n:=⟨h2,fun d hd=>by
 by_cases c1:d=1
 ·exact .inl c1
 by_cases c2:d=n
 ·exact .inr c2
 exfalso
 obtain⟨e,he⟩:=hd;have d0:d≠0:=fun z=>by rw[z,Nat.zero_mul]at he;omega
 have e0:e≠0:=fun z=>by rw[z,Nat.mul_zero]at he;omega
 have e1:e≠1:=fun z=>by rw[z,Nat.mul_one]at he;omega
 by_cases c:d<=e
 ·exact h d (by omega) (by rw[he];exact Nat.mul_le_mul_left d c) ⟨e,he⟩
 ·exact h e (by omega) (by rw[he];exact Nat.mul_le_mul_right e (by omega)) ⟨d,by rw[he,Nat.mul_comm]⟩⟩
theorem C8{n d:Nat}(h2:2<=d)(h:d*d<=n)(hd:d∣n):¬bU n:=fun hp=>by
 have:d*2<=d*d:=Nat.mul_le_mul_left d h2;rcases hp.2 d hd with e|e<;>omega
def PR:Nat:=43571519119201362812999826845982751305620981793717429470673603275936152927709399635933610669671466973821241878720715105717436485894379942430461626673440299163796924436746229228614460476842261843714753967609841797025310982960825865753598345091694825344721438391478216968398650913464229700972723456395252658036295111351718208197542229884535562911430701228833268752819967566938433518416018400115565501955319083147587583881953995536441781216694995306260888155507575210
theorem O1:∀d,d<1100->2<=d->Nat.gcd d PR≠1:=by decide +kernel
theorem Dw{n:Nat}(h2:2<=n)(hn:n<1210000)(h:Nat.gcd n PR=1):bU n:=rM h2 fun d hd hdd hdv=>by
 by_cases c:d<1100
 ·refine O1 d c hd ?_;have:Nat.gcd d PR∣Nat.gcd n PR:=Nat.dvd_gcd (Nat.dvd_trans (Nat.gcd_dvd_left ..) hdv) (Nat.gcd_dvd_right ..);rw[h]at this;exact Nat.dvd_one.mp this
 ·have:1100*1100<=d*d:=Nat.mul_le_mul (by omega) (by omega);omega
def unp:Nat->Nat->List Nat
 |0,_=>[]
 |k+1,n=>2*(n%64)::unp k (n/64)
def steps:List Nat:=3::([0x20750130318504818904528504f0c23d908c0421c30c218714c28518120a0892411830c218610918224954108f,0x4908d14c10620a1460431880ca08114418618f24b0c70870cf2070810c63870831c2244093141189381141252,0x4504205514d0811431d224b0432c61051030861903830423030c42e41051810c21d42853421c528510e0c90c6,0xc24c528804b0d50460870c32040c204f0841851c204818904308f3433024831083420c31050c31c50c90cc348,0x811441532c13c81030830c40892476020c11441940cd1530cf2031c818108114118f2060c72540436842c10c3,0x9892460420c74850c11410da40314714d24320408418e3c45031c50c40d41865432822413861c308a0e00c7189,0x2413063811473051871490451c22490461491c228324e0450c310320d24504c0cb0c12c41850c32830875c310f,0x4c0c51810812c10812c61c21020c604c0860c10c50421c540230d2070872462c32413990c37855442c1207083,0xc638c0c630414124510b18c04f08414a18248310204810360804624624578708a08a0cc1821890c72c10cb114,0x18c0c60490c63c21c608f1030c31890840c22410c210510504f0931415042c42c72042461881c32c31cb105058,0x1081810cf3095550810890481080cc1c20cd2070860450432c32832040db0c51030831c50c30cc34f7410831c2,0x30304608d2432091870840872c12011413c60833c304308d08108724c48618f2010c24051c50453c40810812c6,0xc33c408408d3023100ce35104b18c1815c11923c30813861c52443872032462834431dd2410c31431843872c3,0xd00c210234c08c04f20604308f10818414130e18708120a2453060c41821030813813c21960834c624f144149,0x1cf0c20c43c318b04e0c61c20ca3027c52412481c60872ca0c224414f0450423031cf8463050c70c6143195102,0x2410c62460870841880ca0811890832471413020c32442431440c50451812430981c91460c12461821860c6186,0x1860811860c53c60490cb1833c108c04c0d404e04b6043c61821c5045303585a051862830c21874862153c124b,0x14424e0c91836c424504908318120730204e3c108a1821060c20c430e3042c778504b0c118e1020c31032c90cd,0x2451c344108119442310e10228608d0861030c20c408f2882864490451033c608f1081c318504b28e1051cc2c7,0x1c31431c62c31c80490c21812451d80c31431c32451c31562031060871833d13013c50451090c50c12451020c1,0x452824861831810c624504f0c26430c23060d51092ca1460481020543c448624224138604805250d0c20c904e,0xc22852460d03810c52853013030836030467410cc1415c40c31440c90c21020c10c86491431c32091062ca209,0x891840cf0890462430890432c43cc20f3060cc1051056ca3021052890cc0c50cc6c71834520461530cf4442c1,0x18204b0cc1021c20ca14118b2820461502040c30831ce18a09614d2030453453030c31c51060cc0871431d5081,0x10810e10c1461c57831c330210b0491430c71410833d63023460841461092463031410c30860430cc0c510b6c7,0x3c108310330c2420c11410830c13890c718e0c30460813092c31110490c84862850cd20618d4432860c30c6149,0x1492461833040c82430d21cc14114c0d60c529b08a0c81861c80c408144108c0420c10c61410c534920c04e042,0x4052460c33070c224a25518308108114c2431d40420424931940430ce10510218d0840c53c61832880d3141546,0x14a2c628354308904b0c43060811411461c204e04324234308f34324218a0c22530873c224610518a0c320c306,0x3c25830c518418b2411430430cf39524318611808408718f14f1c23010818c70c60c66892411412d61553031c3,0xc22442c30d21020452430460c644414418614c0c310210518424624528c20d3841440c23033cc241141246306,0x2410830642451830460c21d12860872c90434473050c62411502451033020ca0c920c0420c71500870cc2c10c3,0x1863830c70891843c230c3c10830e20c20421c835404b1051870c31441863891c348204b0452413cc086109386,0x1861471431123c80cc24138d0810861900c210944d1413c620a2460841442451c504f3c828230118540204c081,0x1440983c305134909c0811440cf14a1851030c50541061820c30451091822430c31082535043c6546083241081,0x4228b0451020c42091871824c51061850c63420e11c518124618218148528f0ce0cd08618115b0460c83ca201,0x28c09014a2c10c61430420c13c320714310b3012c904608a4850ca44448308d2041431032070c308918310344c,0x48c0835850cf0c12073c80ca2040c31440cc08414120a2d308125218e0c42495450451835440845450d60cb0c6,0x24150425d1954032426010c61411853c44820c72101880451c90c20481c810504654530714414119254e282241,0x830433c20cf18618318408708f0cd0830c918f1c80460cc0833071850c708c04318518418e34614905428c482,0x5110908a1440c22830c31470813830c60c70c204c0830c420161110540638a1430422820ca0d40450d51c3381,0x2093100cb0421c80c438f0450421811851c30c228c0893c150124321231e30118b0c40830c91056031060813ce,0x18c1c31433c70c231030f2093061c20cc0c11533060810841820c92441824812d80c118b2410c51c9485181141,0x30408420a0813863013021c309030c51314904914d6051020c90c42451081c338a0c204804b1c20ca089241245,0x2c43c308a2c13c30c91410c22581810c62460d124c0c91c32c660a2c10860451021061432820c408124314f285,0x3462453040c30dd04228234824d0832910c414430308d15b1050451c308a18620a8c31034410cb0c660118b0c4,0x10308120114d3050ca0c53073862445c41440930c20c13080430863c72045423420461412092832061871470c8,0x1432824021034410d14810c80c72453ca54920718804e1813020421870d818231060308610350d0831c8049383,0x44138408a0c5247188a8420604320304318b0c61022411410cb10b28f0c614a0836c70c914a0cf68714328c099,0x480494410860461430452440d26842c408414f10510608c0c31030831c20432c12075c60432d02012101491c3,0x4c224a1442c63c61c22830c21860cf0c42ca0cf3812453014430c40833060c748504b0d83031c60c2243046206,0x921861052892cd3031430d80461411470c354309024918638910218c04b4810842013c90c2544141183084083,0x430c228b24a0c92c90420423c718510618518768c1093861830467440841440c20d21c204b0d23061d2189381,0x10f2c31033860c41821c30961410861c52851080c30460c614348318d1890931892c304b04c0861030810dd0c3,0x3c240210330314d0812c30c33c90492031050cd3c54c21891021032c13811831411410833c448c1433421c53c6,0x4309e0d00842010894050c970258918524148c1414862061051874411850421c32070c954218118204c24e181,0x1441882411500c824424828f0872032850c68851c30890481ce04510b3c42d31414470c22412422610c904f086,0x2c91065431461c81050450490870817413841832c610614160e1830cd2430810890c114c1053c1308243042106,0x4c21032ca3831c21060c504615015e1c540228308744924654108a09914109e1810c81c20451051052860d2081,0x831051870830462c420d60348824c1842490c204e0420c11881021870c318818a3961460c118528510b10314c,0x18310314d3860430900cb04819c08d18524118b1c51950433810840c30830c624934f14a08108730818408f286,0xc61440cf84228204211d04524c1050420ca2064860464414433c408d0810831e92893d41c33c80c118314f309,0x8910620a2c119208424210b1c51c53c124510b1090863c41911c30890460c52860c20d21091411520c418c507,0x40b1c615050108610b40314108f2821861873d12920c20451c20551431cb0c70a80810c61460c11500c5243253,0xed4830845061050451c314394c0830451c318524118308a0c63870c92c738910b10204c483141983103084083,0xc32452460451c33891034432880450cf18408334308318305110608c0c60451050525491860c5283086049084,0xc30cc3063811894440c50c418810218d25104314905404b30108c3c31c324b3120ca0890d9146183592141093,0xc11440cc0c33031412c330730308419208a2011440813863461461032031c21870861862442463c20c9309781,0x10b1870920490ce18c0d21c21c31501852860c92c43c20cf1c34490465042490c21c51840cb2862060450ca54b,0x8108d1472092470c50481890c340614708d2cc34e1814822490c714124308c0482854c204570524108a0db206,0x3cf3cb2460421860c31c20481062450c310308718f0813090d208714924a08f0c108c18114d20c0c42c324c109,0x10314a14108718c14c1ce1c53c310c18e0421c38032851c32c40810cf0841881843031883420c304f1850c1210,0x4c50cd0c60c51870c91411831820c10cb1054090861032031c534914d0cf1440890458820c43c2247147152246,0x1111c234f18e0c720714f0c31c510318531324b0c11861431c918c5011491c66c80e80842c420144768c108042,0x38d20904e1831834093c50580ce60745524610c1550c10c320604924c3020c118b1061441463422430c4183242,0x4083cf04b0c61021890433872c418c0831c51061413812090423420c12ca3c218160c0c21c504e54148314d147,0x1891870810814430431430c904b0450c41501471441441884061851030864840c31832c90c31030861c914124e,0xc84c36c62462450c34051050483120d32060463c204248a08c0c92410c60833c60c31d50831812432c73c914f,0x14f3061030c530738430638108610c1523095821860c33031035c44920812c90481c60c22410812c6282045043,0x5450c42c40c38071460452863020c31032070861c80c77412010cb5821c93cb0cc1024810c3482105102109087,0x2421093cc0861840890513cc24708c1841856c70c31490c71460c10d524228320418f0cb18a08c10e0c92442c1,0x420420c42071952490c20492cc24a1921891831473811834441850c60433c20c72481c914708c0450c73860c1,0x4840843031983021860450c750310c2420cf04308108131704510b18954904314610b04e04c0c308c1c3182486,0x6873c21023cd1473c20ca3842c30c31030811440c23450c14821051810d52075421890d60811440c518f181386,0x430871431c60832892c10c30cb2861430480c42423c40c50451c20c424b2530c324c0c61412c40cb0480420c1,0x1022860cb0421c510230138720610204234218c0c114415b0c40cc4834440c62cd0891083071881200c12d3545,0xc40c23063630450c718c0c51c23603c918144324408438720a0872071890922861412015062410cb1025442c3,0x24408424f0c20451c21c518421b0432c40870c20462511050c30c10c61443cf2db2820c78c32971811440c2405,0x3021020ca24b24f04f14138114628920604858608131208a3020c31c534818120f1c33c60c504e04f147248282,0xc20450c60c33421038c11500c204314414c0c130534b34518138418e0d31410c52473c504524304e711184081,0xcb04930830318610308a0c518408a18344318144714a2420cf1c50c10c218310f1411830950c40c80460812ca,0x1880492c330328b04834c14628230310314108f1030c318518310f2181930c548a2011413813020c11440c2181,0x14d14115c0c324618924834b28630348e4021c51c51092031140421cb1c54870c62c330c0d30c3081302187087,0x1c308304c20139318210510228338d08124f0891c204b0cf0451051811850c709044448b04344f18438420d243,0xc21050ca1850481872040c51140ca0843020c904f2432031841442076cf2cf2496c30431431c205106a0cb288,0x1831891461870813120cf1412421c210620c3c40890cf04510b1c92071412451831c32c92431cc20a0cc203103,0x3c10872101412060450c70cf3c30c62420ca1410c210b0c324d3c324b0c10c30871431cb1060831c33020453c4,0xcc0861813c20c30457051c30c204b0492451c558504e0491430c15430832430c40c30870c20c448f08918144c,0xc51020c118f0c20d22820d20540491831500cf14a0840831032041411411460c12ca0d854e18c486187444147].flatMap (unp 60)++unp 59 0x10872c33040c224174a1683082470c314424b1891090c21810d404248c2821cf1820421093c258f1412c6106)
def Jp:Nat->List Nat->Bool
 |_,[]=>true
 |c,d::r=>match decide (0<d)&&(decide (c+d<1210000)&&Nat.beq (Nat.gcd (c+d) PR) 1)with
  |true=>Jp (c+d) r
  |false=>false
theorem Ky:Jp 1000000 steps=true:=by decide +kernel
theorem DR:steps.length=6000:=by decide +kernel
inductive Many:Nat->Nat->Prop
 |none (c:Nat):Many 0 c
 |more {k c q:Nat}:bU q->c<q->q<1210000->Many k q->Many (k+1) c
theorem E7:∀(l:List Nat) (c:Nat),2<=c->Jp c l=true->Many l.length c
 |[],c,_,_=> .none c
 |d::r,c,h2,h=>by
  rw[Jp]at h;split at h
  ·rename_i e
   obtain⟨e1,e2⟩:=Bool.and_eq_true_iff.mp e;obtain⟨e2,e3⟩:=Bool.and_eq_true_iff.mp e2;have h1:=of_decide_eq_true e1;have h3:=of_decide_eq_true e2;exact .more (Dw (by omega) h3 (Nat.eq_of_beq_eq_true e3)) (by omega) h3 (E7 r (c+d) (by omega) h)
  ·exact absurd h (by decide)
theorem many:Many 6000 1000000:=by
 have:=E7 steps 1000000 (by decide) Ky
 rwa [DR]at this
theorem Many.down{k c c':Nat}(h:Many k c)(hc:c'<=c):Many k c':=by
 cases h with
 |none=>exact .none _
 |more h1 h2 h3 h4=>exact .more h1 (by omega) h3 h4
theorem Many.next{k c:Nat}(h:Many (k+1) c):∃q,bU q/\c<q/\q<1210000/\∀p,p<=q->Many k p:=by
 cases h with
 |more h1 h2 h3 h4=>exact⟨_,h1,h2,h3,fun p hp=>h4.down hp⟩
theorem bU.tO{p:Nat}{a:Int}(h:bU p)(h0:0<a)(ha:a<(p:Int)):a^(p-1)%(p:Int)=1:=by
 obtain⟨n,rfl⟩:∃n:Nat,a=(n:Int):=⟨a.toNat,by omega⟩;have:=h.Pz (a:=n) (by omega) (by omega);have e:((n^(p-1)%p:Nat):Int)=((1:Nat):Int):=by rw[this]
 rw[Int.natCast_emod,Int.natCast_pow]at e;exact e
end Om
namespace Pm
open Rm
theorem EB{P:Nat}(hP:Om.bU P){p:List Int}(hp:Py P p)(hn:p≠[]):u9 P p (gG P p):=by
 have h2:=hP.1;have hpos:0<p.length:=List.length_pos_iff.mpr hn;have hP0:(P:Int)≠0:=by omega
 have tkP:∀n,tk (P:Int) n=n%(P:Int):=fun n=>fu hP0 n;have l0:=rO hn hp.tr;have l1:=hp.co (p.length-1);rw[tkP]at l1;have r0:0<=co p (p.length-1):=by rw[<-l1];exact Int.emod_nonneg _ hP0
 have r1:co p (p.length-1)<(P:Int):=by rw[<-l1];exact Int.emod_lt_of_pos _ (by omega)
 generalize hl:co p (p.length-1)=a at l0 r0 r1;have hinv:(a^(P-2)*a)%(P:Int)=1:=by
  rw[<-Int.pow_succ,show(P-2).succ=P-1 by omega];exact hP.tO (by omega) r1
 have e:∀k,co (gG P p) k=co p k*a^(P-2)%(P:Int):=fun k=>by
  rw[gG,qG (by simp),hl]
 have len:(gG P p).length=p.length:=by rw[gG,List.length_map]
 have top:co (gG P p) ((gG P p).length-1)=1:=by
  rw[len,e,hl,Int.mul_comm];exact hinv
 have hm:gG P p≠[]:=fun z=>by rw[z]at len;simp at len;omega
 refine⟨⟨gH hm (by rw[top];decide),fun x hx=>?_⟩,len,fun _=>⟨by omega,top⟩,⟨a^(P-2),fun k=>?_⟩,⟨a,fun k=>?_⟩⟩
 ·obtain⟨y,_,rfl⟩:=List.mem_map.mp hx;rw[tkP];exact Int.emod_emod_of_dvd _ (Int.dvd_refl _)
 ·rw[e,tkP,tkP,Int.emod_emod_of_dvd _ (Int.dvd_refl _),Int.mul_comm]
 ·rw[e,tkP,tkP,Int.mul_emod a,Int.emod_emod_of_dvd _ (Int.dvd_refl _),<-Int.mul_emod,Int.mul_left_comm a,Int.mul_comm a,Int.mul_emod,hinv];rw[Int.mul_one,Int.emod_emod_of_dvd _ (Int.dvd_refl _)]
theorem M5{P:Nat}(hP:Om.bU P){one other:Int}(h0:0<other)(h:other<(P:Int)):(P:Int)∣other*(one*other^(P-2)%(P:Int))-one:=by
 have h2:=hP.1;have hinv:(other^(P-2)*other)%(P:Int)=1:=by
  rw[<-Int.pow_succ,show(P-2).succ=P-1 by omega];exact hP.tO h0 h
 have h1:(1:Int)%(P:Int)=1:=Int.emod_eq_of_lt (by decide) (by omega);refine Int.dvd_of_emod_eq_zero (Int.emod_eq_emod_iff_emod_sub_eq_zero.mp ?_);rw[Int.mul_emod,Int.emod_emod_of_dvd _ (Int.dvd_refl _),<-Int.mul_emod,Int.mul_left_comm,Int.mul_comm other,Int.mul_emod,hinv,Int.mul_one,Int.emod_emod_of_dvd _ (Int.dvd_refl _)]
theorem Rb{b f:Int}{s t:Nat}{l m:List Int}{u v:Nat}(hb:0<=b)(hb1:b<2097152)(hu:21<=u)(hf:Bd u f)(hl:∀k,Bd u (co l k))(hm:∀x∈m,Bd v x)(k:Nat):Bd (u+v+1) (lf b f s t l m k):=by
 unfold lf;split
 ·refine xO hb ((Bd.of (n:=21) (by omega) (by omega)).mono (by omega)) ?_;rw[Int.sub_eq_add_neg];refine Bd.add ((hl k).mono (by omega)) ?_;have:=hf.mul (pD hm (k-s));unfold Bd at this⊢;rw[Int.natAbs_neg];exact this
 ·exact(hl k).mono (by omega)
def jw(M t:Int)(p:Nat)(s:Int):Int:=(tk p (s-t))*(tk p M)^(p-2)%(p:Int)
def jn(M t:Int)(p:Nat)(s:Int):Int:=nr (M*p) (t+M*jw M t p s)
theorem UG{M t s:Int}{p:Nat}(hp:Om.bU p)(hM:¬(p:Int)∣M):(p:Int)∣M*jw M t p s-(s-t):=by
 have h2:=hp.1;have hp0:(p:Int)≠0:=by omega
 have r0:=Int.emod_nonneg M hp0;have r1:=Int.emod_lt_of_pos M (show(0:Int)<p by omega);have rn:M%(p:Int)≠0:=fun z=>hM (Int.dvd_of_emod_eq_zero z);have h:=M5 hp (one:=tk p (s-t)) (other:=M%(p:Int)) (by omega) r1;unfold jw;rw[fu hp0 M];generalize tk (p:Int) (s-t)*(M%(p:Int))^(p-2)%(p:Int)=w at h;rw[fu hp0]at h;have e1:(p:Int)∣M*w-M%(p:Int)*w:=by
  rw[<-Int.sub_mul];exact Int.dvd_trans (Int.dvd_self_sub_emod) (Int.dvd_mul_right ..)
 have e2:(p:Int)∣(s-t)%(p:Int)-(s-t):=by
  have:(p:Int)∣(s-t)-(s-t)%(p:Int):=Int.dvd_self_sub_emod;have:=Int.dvd_neg.mpr this
  rwa [Int.neg_sub]at this
 have:=Int.dvd_add (Int.dvd_add e1 h) e2
 rwa [show M*w-M%(p:Int)*w+(M%(p:Int)*w-(s-t)%(p:Int))+((s-t)%(p:Int)-(s-t))=M*w-(s-t)by omega]at this
theorem Hl{M t s:Int}{p:Nat}(hp:Om.bU p):0<=jw M t p s/\jw M t p s<p:=by
 have h2:=hp.1;exact⟨Int.emod_nonneg _ (by omega),Int.emod_lt_of_pos _ (by omega)⟩
theorem Div.dv{b:Int}{P M q r:List Int}(h:Div b P M q r)(hM:Mon M):r=[]↔Dv b M (co P):=by
 constructor
 ·rintro rfl;exact⟨co q,q.length,Fs.co q,fun k=>by rw[<-h.eq k,dY,Int.add_zero]⟩
 ·intro d;have e:Dv b M (co r):=(d.sub (Dv.self (b:=b) (m:=M) (Fs.co q))).congr fun k=>by
   have e1:tk b (co P k + -cv (co q) (co M) k)=tk b ((cv (co q) (co M) k+co r k) + -cv (co q) (co M) k):=aR (h.eq k).symm rfl;rw[show co P k-cv (co q) (co M) k=co P k + -cv (co q) (co M) k by omega,e1];exact congrArg (tk b) (by omega)
  have z:=e.short hM ((Fs.co r).mono (by have:=h.short;omega));rw[<-h.ry.tr];exact qP.mpr fun k=>by rw[<-h.ry.co k];exact z k
end Pm
namespace Pm
open Rm Dm
theorem DV{n:Nat}{x:Int}(h:Bd n x):Bd n (-x):=by unfold Bd at h ⊢;rw[Int.natAbs_neg];exact h
end Pm
namespace Pm
open Rm Dm
theorem LZ{f:Nat->Int}{n:Nat}(h:Fs f n):∃S:List Int,∀k,co S k=f k:=⟨ofF n f,fun k=>by
 rw[bV];by_cases c:k<n
 ·rw[if_pos c]
 ·rw[if_neg c,h k (by omega)]⟩
end Pm
namespace Pm
open Rm
def ev(p:List Int)(x:Int):Int:=sm p.length fun k=>co p k*x^k
theorem kI{p:List Int}{n:Nat}(h:p.length<=n)(x:Int):sm n (fun k=>co p k*x^k)=ev p x:=
 fU h fun k h1 _=>by rw[bD h1,Int.zero_mul]
theorem BJ(x:Int):ev [] x=0:=rfl
theorem Gu(c x:Int):ev [c] x=c:=by
 show 0+co [c] 0*x^0=c;rw[cU,Int.pow_zero,Int.mul_one,Int.zero_add]
abbrev lin(r:Int):List Int:=[0-r,1]
theorem K4(r:Int):Mon (lin r):=⟨by show 0<2;decide,rfl⟩
theorem Kr(f:Nat->Int)(r:Int):∀k,cv f (co (lin r)) k=(if k=0 then 0 else f (k-1))-r*f k:=fun k=>by
 rw[gO];cases k with
 |zero=>
  show 0+f 0*co (lin r) 0=_;rw[if_pos rfl,cU,Int.zero_add,Int.mul_sub,Int.mul_zero,Int.mul_comm]
 |succ k=>
  rw[if_neg (Nat.succ_ne_zero _),Nat.add_sub_cancel];rw[sm,Nat.sub_self,sm,show k+1-k=1 by omega];rw[iH fun j hj=>by rw[bD (p:=lin r) (show 2<=k+1-j by omega),Int.mul_zero]];rw[cU,jk,cU,Int.mul_one,Int.zero_add,Int.mul_sub,Int.mul_zero,Int.zero_sub,Int.mul_comm (f (k+1))];rfl
theorem AJ(f:Nat->Int)(x:Int):∀n,sm (n+1) (fun k=>(if k=0 then 0 else f (k-1))*x^k)=x*sm n fun k=>f k*x^k:=fun n=>by
 rw[dw,if_pos rfl,Int.zero_mul,Int.zero_add,<-bf];refine au fun k _=>?_;rw[if_neg (Nat.succ_ne_zero _),Nat.add_sub_cancel,Int.pow_succ,Int.mul_comm (x^k) x,<-Int.mul_assoc,<-Int.mul_assoc,Int.mul_comm (f k) x]
theorem Div.ev{p q l:List Int}{r:Int}(h:Div 0 p (lin r) q l)(x:Int):Pm.ev p x=(x-r)*Pm.ev q x+Pm.ev l x:=by
 obtain⟨n,h1,h2,h3⟩:∃n,p.length<=n+1/\q.length<=n/\l.length<=n+1:=⟨p.length+q.length+l.length,by omega,by omega,by omega⟩;rw[<-kI h1 x,<-kI h2 x,<-kI h3 x];have e:∀k,co p k=(if k=0 then 0 else co q (k-1))-r*co q k+co l k:=fun k=>by
  have:=h.eq k;rw[aW,aW,Kr]at this;exact this.symm
 rw[au (g:=fun k=>(if k=0 then 0 else co q (k-1))*x^k+(-r*(co q k*x^k)+co l k*x^k)) fun k _=>?_,cP,cP,AJ,bf]
 ·have e2:sm (n+1) (fun k=>co q k*x^k)=sm n fun k=>co q k*x^k:=by
   rw[sm,bD h2,Int.zero_mul,Int.add_zero]
  rw[e2,Int.sub_mul,Int.neg_mul];omega
 ·rw[e k,Int.add_mul,Int.sub_mul,Int.neg_mul,Int.mul_assoc];omega
theorem Div.root{p q l:List Int}{r:Int}(h:Div 0 p (lin r) q l):l=[]↔Pm.ev p r=0:=by
 have e:=h.ev r;rw[Int.sub_self,Int.zero_mul,Int.zero_add]at e;have hs:l.length<2:=h.short
 match l,hs,h.ry with
 |[],_,_=>exact⟨fun _=>by rw[e,BJ],fun _=>rfl⟩
 |[c],_,hr=>
  rw[Gu]at e;constructor
  ·intro z;cases z
  ·intro z;rw[e]at z
   exfalso
   have:=hr.tr;rw[z]at this;simp[trim]at this
end Pm
namespace Pm
open Rm
theorem LN(a:Int)(p:List Int)(x:Int):ev (a::p) x=a+x*ev p x:=by
 rw[<-kI (p:=a::p) (n:=p.length+1) (Nat.le_refl _) x,dw,cU,Int.pow_zero,Int.mul_one,<-kI (p:=p) (Nat.le_refl _) x,<-bf];congr 1;refine au fun k _=>?_;rw[jk,Int.pow_succ,Int.mul_comm (x^k) x,<-Int.mul_assoc,<-Int.mul_assoc,Int.mul_comm (co p k) x]
theorem OG(x:Int)(g:List Int):∀(L P:List Int),(∀k,co P k=cv (co L) (co g) k)->ev P x=ev L x*ev g x
 |[],P,h=>by
  rw[BJ,Int.zero_mul];unfold ev;exact iH fun k _=>by rw[h,fR (fun i _=> .inl (dY i)),Int.zero_mul]
 |a::L,P,h=>by
  obtain⟨Q,hQ⟩:∃Q:List Int,∀k,co Q k=cv (co L) (co g) k:=LZ ((Fs.co L).cv (Fs.co g));have ih:=OG x g L Q hQ;obtain⟨n,h1,h2,h3⟩:∃n,P.length<=n+1/\Q.length<=n/\g.length<=n+1:=⟨P.length+Q.length+g.length,by omega,by omega,by omega⟩;have e:∀k,co P k=a*co g k+(if k=0 then 0 else co Q (k-1)):=fun k=>by
   rw[h,Dr];split
   ·rfl
   ·rw[hQ]
  rw[LN,<-kI h1 x,au (g:=fun k=>a*(co g k*x^k)+(if k=0 then 0 else co Q (k-1))*x^k) fun k _=>by rw[e k,Int.add_mul,Int.mul_assoc],cP,bf,AJ,kI h3,kI h2,ih,Int.add_mul,Int.mul_assoc]
theorem Di(p:List Int)(r:Int):∃q l,Div 0 p (lin r) q l/\(∀k,co p k=(if k=0 then 0 else co q (k-1))-r*co q k+co l k)/\q.length<=p.length-1:=by
 obtain⟨q,l,h⟩:=AF (b:=0) (K4 r) (p:=p) fun k=>aW _;have e:∀k,co p k=(if k=0 then 0 else co q (k-1))-r*co q k+co l k:=fun k=>by
  have:=h.eq k;rw[aW,aW,Kr]at this;exact this.symm
 have hs:l.length<2:=h.short;refine⟨q,l,h,e,?_⟩;by_cases hq:q=[]
 ·rw[hq];exact Nat.zero_le _
 ·have h0:=rO hq h.qy.tr;have hp:0<q.length:=List.length_pos_iff.mpr hq;have h1:=e q.length;rw[if_neg (by omega),bD (p:=q) (Nat.le_refl _),Int.mul_zero,bD (p:=l) (by omega),Int.sub_zero,Int.add_zero]at h1;have:=yp (p:=p) (k:=q.length) (by rw[h1];exact h0);omega
theorem Br:∀(m:Nat) (L:List Int),Mon L->L.length=m+1->∀xs:List Int,xs.Nodup->(∀x∈xs,ev L x=0)->xs.length<=m
 |_,_,_,_,[],_,_=>Nat.zero_le _
 |0,L,hL,hl,r::ys,_,hr=>by
  exfalso
  have e:L=[1]:=oA (q:=[1]) hl fun k=>by
   cases k with
   |zero=>have:=hL.one;rw[hl]at this;exact this
   |succ k=>rw[bD (by omega),bD (by show 1<=k+1;omega)]
  have:=hr r (List.mem_cons_self ..);rw[e,Gu]at this;exact absurd this (by decide)
 |m+1,L,hL,hl,r::ys,hn,hr=>by
  obtain⟨q,l,h,e,lq⟩:=Di L r;have h0:=hr r (List.mem_cons_self ..);have l0:=h.root.mpr h0;subst l0;have hm:co q m=1:=by
   have h1:=e (m+1);rw[if_neg (by omega),Nat.add_sub_cancel,bD (p:=q) (show q.length<=m+1 by omega),Int.mul_zero,dY,Int.sub_zero,Int.add_zero]at h1;have h2:=hL.one;rw[hl,Nat.add_sub_cancel,h1]at h2;exact h2
  have hlq:q.length=m+1:=by
   have:=yp (p:=q) (k:=m) (by rw[hm];decide);omega
  obtain⟨hn1,hn2⟩:=List.nodup_cons.mp hn;have:=Br m q ⟨by omega,by rw[hlq,Nat.add_sub_cancel];exact hm⟩ hlq ys hn2 fun y hy=>by
   have h1:=h.ev y;rw[hr y (List.mem_cons_of_mem _ hy),BJ,Int.add_zero]at h1;rcases Int.mul_eq_zero.mp h1.symm with z|z
   ·exact absurd (show y=r by omega) (fun z=>hn1 (z▸hy))
   ·exact z
  rw[List.length_cons];omega
theorem DY{M:Nat}{x y:Int}(hx:x≠0)(h:Bd M (x*y)):Bd M y:=by
 unfold Bd at h⊢;rw[Int.natAbs_mul]at h;have h1:1<=x.natAbs:=by omega
 have:1*y.natAbs<=x.natAbs*y.natAbs:=Nat.mul_le_mul_right _ h1;omega
theorem yj{e:Nat}:∀(d:Nat) (g:List Int) (M:Nat),g.length<=d->∀xs:List Int,xs.Nodup->d<=xs.length->(∀x∈xs,Bd e x)->(∀x∈xs,Bd M (ev g x))->∀k,Bd (M+d*(e+3)) (co g k)
 |0,g,_,hl,_,_,_,_,_,k=>by rw[bD (by omega)];exact Bd.zero _
 |d+1,_,_,_,[],_,hd,_,_,_=>absurd hd (by show ¬d+1<=0;omega)
 |d+1,g,M,hl,r::ys,hn,hd,hx,hv,k=>by
  obtain⟨q,l,h,eq,lq⟩:=Di g r;obtain⟨hn1,hn2⟩:=List.nodup_cons.mp hn;have hl2:l.length<2:=h.short;have er:ev l r=ev g r:=by rw[h.ev r,Int.sub_self,Int.zero_mul,Int.zero_add]
  have el:∀x,ev l x=co l 0:=fun x=>by
   match l,hl2 with
   |[],_=>rw[BJ,dY]
   |[c],_=>rw[Gu,cU]
  have c0:co l 0=ev g r:=by rw[<-el r,er]
  have hr:=hv r (List.mem_cons_self ..);have ih:=yj (e:=e) d q (M+1) (by omega) ys hn2 (by rw[List.length_cons]at hd;omega) (fun x h=>hx x (List.mem_cons_of_mem _ h)) fun y hy=>by
   refine DY (x:=y-r) (fun z=>hn1 ((show y=r by omega)▸hy)) ?_;have h1:=h.ev y;rw[el y,c0]at h1;rw[show(y-r)*ev q y=ev g y + -(ev g r)by omega];exact(hv y (List.mem_cons_of_mem _ hy)).add (DV hr)
  have b1:Bd (e+(M+1+d*(e+3))) (if k=0 then 0 else co q (k-1)):=by
   split
   ·exact Bd.zero _
   ·exact(ih _).mono (by omega)
  have b2:=DV ((hx r (List.mem_cons_self ..)).mul (ih k));have b3:Bd (e+(M+1+d*(e+3))+1) (co l k):=by
   cases k with
   |zero=>rw[c0];exact hr.mono (by omega)
   |succ k=>rw[bD (by omega)];exact Bd.zero _
  have b4:=(b1.add b2).add b3;have e1:(d+1)*(e+3)=d*(e+3)+(e+3):=Nat.succ_mul ..;rw[eq k,Int.sub_eq_add_neg];exact b4.mono (by omega)
theorem Sv{P:List Int}{x:Int}{u e:Nat}(hu:∀k,Bd u (co P k))(hx:Bd e x):Bd (u+P.length*(e+1)+P.length) (ev P x):=by
 have hp:∀k,Bd (k*e+1) (x^k):=fun k=>by
  induction k with
  |zero=>rw[Int.pow_zero];exact(Bd.of (n:=1) (by decide) (by decide)).mono (by omega)
  |succ k ih=>
   have e1:(k+1)*e=k*e+e:=Nat.succ_mul ..;rw[Int.pow_succ];exact(ih.mul hx).mono (by omega)
 unfold ev;refine(HS (c:=u+P.length*(e+1)) P.length fun k hk=>((hu k).mul (hp k)).mono ?_).mono (by omega);have h1:(k+1)*(e+1)<=P.length*(e+1):=Nat.mul_le_mul_right _ (by omega);have h2:(k+1)*(e+1)=k*(e+1)+(e+1):=Nat.succ_mul ..;have h3:k*(e+1)=k*e+k:=Nat.mul_succ ..;omega
theorem tG(p:Int->Bool):∀xs:List Int,xs.length=(xs.filter p).length+(xs.filter fun x=>!p x).length
 |[]=>rfl
 |x::xs=>by
  have:=tG p xs;cases h:p x
  ·rw[List.filter_cons_of_neg (by rw[h];decide),List.filter_cons_of_pos (by rw[h];rfl),List.length_cons,List.length_cons];omega
  ·rw[List.filter_cons_of_pos h,List.filter_cons_of_neg (by rw[h];decide),List.length_cons,List.length_cons];omega
theorem Ax{P L g:List Int}(hL:Mon L)(he:∀k,co P k=cv (co L) (co g) k)(hl:L.length+g.length=P.length+1){u e:Nat}(hu:∀k,Bd u (co P k))(h2:P.length<=2^e)(k:Nat):Bd (u+P.length*(e+1)+P.length+g.length*(e+3)) (co g k):=by
 obtain⟨xs,hxs⟩:∃xs:List Int,xs=(List.range P.length).map Int.ofNat:=⟨_,rfl⟩;have nd:xs.Nodup:=by
  rw[hxs];refine List.Pairwise.map _ (fun a b h=>?_) (List.nodup_range (n:=P.length));exact fun z=>h (Int.ofNat.inj z)
 have ln:xs.length=P.length:=by rw[hxs];simp
 have bx:∀x∈xs,Bd e x:=fun x hx=>by
  rw[hxs]at hx;obtain⟨i,hi,rfl⟩:=List.mem_map.mp hx;have:=List.mem_range.mp hi;show(Int.ofNat i).natAbs<2^e;show i<2^e;omega
 have h0:(xs.filter fun x=>decide (ev L x=0)).length<=L.length-1:=by
  have:=hL.pos;exact Br (L.length-1) L hL (by omega) _ (nd.filter _) fun x hx=>of_decide_eq_true (List.mem_filter.mp hx).2
 have hc:xs.length=(xs.filter fun x=>decide (ev L x=0)).length+(xs.filter fun x=>!decide (ev L x=0)).length:=tG _ xs;have hp:=hL.pos;refine yj g.length g _ (Nat.le_refl _) (xs.filter fun x=>!decide (ev L x=0)) (nd.filter _) (by omega) (fun x hx=>bx x (List.mem_filter.mp hx).1) (fun x hx=>?_) k;have hne:ev L x≠0:=fun z=>by
  have:=(List.mem_filter.mp hx).2;rw[decide_eq_true z]at this;exact absurd this (by decide)
 refine DY hne ?_;rw[<-OG x g L P he];exact Sv hu (bx x (List.mem_filter.mp hx).1)
theorem Lb{P:List Int}{a:Nat->Int}(hP:Mon P)(hK:Kp 0 P a){d u ua e U:Nat}(hS:∃Q0,Mon Q0/\Kp 0 Q0 a/\Q0.length<=d+1)(ha:∀n,n<=2*d->Bd ua (a n))(hu:∀k,Bd u (co P k))(h2:P.length<=2^e)(hU:u+P.length*(e+1)+P.length+P.length*(e+3)<=U):
  ∃g L N,Mon L/\Py 0 L/\Kp 0 L a/\(∀q,Kp 0 q a->Dv 0 L (co q))/\L.length+g.length=P.length+1/\(∀k,co P k=cv (co L) (co g) k)/\GcZ P (tp P a) g N/\Bd (d*(ua+d)+1) N/\∀k,Bd U (co g k):=by
 obtain⟨g,L,hL,hLy,hKL,hall,hlen,hE,G⟩:=Gy hP hK;obtain⟨Q0,hQ,hKQ,hQl⟩:=hS;have hLp:=hL.pos;have hl:L.length<=d+1:=Nat.le_trans ((hall Q0 hKQ).len rfl hL hQ) hQl;have hm:(L.length-1)*(ua+(L.length-1))+1<=d*(ua+d)+1:=by
  have:=Nat.mul_le_mul (show L.length-1<=d by omega) (show ua+(L.length-1)<=ua+d by omega);omega
 refine⟨g,L,_,hL,hLy,hKL,hall,hlen,hE,G,?_,fun k=>?_⟩
 ·exact(Dm.BF (u:=ua) fun i j hi hj=>ha _ (by omega)).mono hm
 ·refine(Ax hL hE hlen hu h2 k).mono (Nat.le_trans ?_ hU);have:=Nat.mul_le_mul_right (e+3) (show g.length<=P.length by omega);omega
end Pm
namespace Nw
open Lean.Grind
variable {R:Type} [CommRing R]
def sm:Nat->(Nat->R)->R
 |0,_=>0
 |n+1,f=>sm n f+f n
theorem au{f g:Nat->R}:∀{n:Nat},(∀k,k<n->f k=g k)->sm n f=sm n g
 |0,_=>rfl
 |n+1,h=>by
  show sm n f+f n=sm n g+g n;rw[au fun k hk=>h k (by omega),h n (by omega)]
theorem fM:∀n:Nat,sm n (fun _=>(0:R))=0
 |0=>rfl
 |n+1=>by show sm n _+0=0;rw[fM n];grind
theorem cP(f g:Nat->R):∀n:Nat,sm n (fun k=>f k+g k)=sm n f+sm n g
 |0=>by show(0:R)=0+0;grind
 |n+1=>by show sm n _+_=sm n f+f n+(sm n g+g n);rw[cP f g n];grind
theorem bf(c:R)(f:Nat->R):∀n:Nat,sm n (fun k=>c*f k)=c*sm n f
 |0=>by show(0:R)=c*0;grind
 |n+1=>by show sm n _+_=c*(sm n f+f n);rw[bf c f n];grind
theorem lH(F:Nat->Nat->R)(m:Nat):∀n:Nat,sm m (fun k=>sm n (fun j=>F k j))=sm n (fun j=>sm m (fun k=>F k j))
 |0=>fM m
 |n+1=>by
  show sm m (fun k=>sm n (fun j=>F k j)+F k n)=sm n (fun j=>sm m (fun k=>F k j))+sm m (fun k=>F k n);rw[cP,lH F m n]
theorem dw(f:Nat->R):∀n:Nat,sm (n+1) f=f 0+sm n (fun i=>f (i+1))
 |0=>by show 0+f 0=f 0+0;grind
 |n+1=>by
  show sm (n+1) f+f (n+1)=f 0+(sm n (fun i=>f (i+1))+f (n+1));rw[dw f n];grind
def el:List R->Nat->R
 |[],k=>if k=0 then 1 else 0
 |a::l,0=>el l 0
 |a::l,k+1=>el l (k+1)-a*el l k
theorem jj:∀l:List R,el l 0=1
 |[]=>rfl
 |a::l=>jj l
theorem Ig:∀(l:List R) (k:Nat),l.length<k->el l k=0
 |[],k,h=>by
  have:k≠0:=by simp at h;omega
  exact if_neg this
 |a::l,0,h=>absurd h (by omega)
 |a::l,k+1,h=>by
  simp at h;show el l (k+1)-a*el l k=0;rw[Ig l (k+1) (by omega),Ig l k (by omega)];grind
def pw(l:List R)(k:Nat):R:=match l with
 |[]=>0
 |a::l=>a^k+pw l k
theorem Mh(a:R)(l:List R)(k:Nat):pw (a::l) k=a^k+pw l k:=rfl
theorem Zb(a:R)(l:List R)(k:Nat):sm (k+1) (fun i=>a^(i+1)*el (a::l) (k-i))=a*el l k:=by
 have key:∀j,j<=k->sm j (fun i=>a^(i+1)*el (a::l) (k-i))=a*el l k-a^(j+1)*el l (k-j):=fun j=>by
  induction j with
  |zero=>intro _;show(0:R)=a*el l k-a^1*el l (k-0);rw[Nat.sub_zero];grind
  |succ j ih=>
   intro hj;show sm j _+a^(j+1)*el (a::l) (k-j)=_;rw[ih (by omega)];obtain⟨m,hm⟩:∃m,k-j=m+1:=⟨k-j-1,by omega⟩;rw[hm,show k-(j+1)=m by omega];show _-_+a^(j+1)*(el l (m+1)-a*el l m)=_
   grind
 show sm k _+a^(k+1)*el (a::l) (k-k)=_;rw[key k (Nat.le_refl k),Nat.sub_self,jj,jj];grind
def nt:Nat->R
 |0=>0
 |k+1=>nt k+1
theorem Bx:∀(l:List R) (k:Nat),nt (k+1)*el l (k+1)+sm (k+1) (fun i=>pw l (i+1)*el l (k-i))=0
 |[],k=>by
  have e:sm (k+1) (fun i=>pw ([]:List R) (i+1)*el ([]:List R) (k-i))=0:=by
   rw[au (g:=fun _=>(0:R)) fun i _=>by show(0:R)*_=0;grind,fM]
  rw[e,show el ([]:List R) (k+1)=0 from rfl];grind
 |a::l,k=>by
  have h1:=Bx l k;have e1:sm (k+1) (fun i=>pw (a::l) (i+1)*el (a::l) (k-i))=a*el l k+sm (k+1) (fun i=>pw l (i+1)*el (a::l) (k-i)):=by
   rw[<-Zb a l k,<-cP];exact au fun i _=>by rw[Mh];grind
  rw[e1];show nt (k+1)*(el l (k+1)-a*el l k)+_=0;cases k with
  |zero=>
   have e2:sm (0+1) (fun i=>pw l (i+1)*el (a::l) (0-i))=sm (0+1) (fun i=>pw l (i+1)*el l (0-i)):=au fun i hi=>by
    have:i=0:=by omega
    subst this;rfl
   rw[e2];generalize sm (0+1) (fun i=>pw l (i+1)*el l (0-i))=s at h1⊢;generalize el l (0+1)=x at h1⊢;generalize el l 0=y at h1⊢;have c1:(nt (0+1):R)=1:=by show(0:R)+1=1;grind
   rw[c1]at h1⊢
   grind
  |succ k=>
   have h2:=Bx l k;have e2:sm (k+1+1) (fun i=>pw l (i+1)*el (a::l) (k+1-i))=sm (k+1+1) (fun i=>pw l (i+1)*el l (k+1-i))-a*sm (k+1) (fun i=>pw l (i+1)*el l (k-i)):=by
    show sm (k+1) _+pw l (k+1+1)*el (a::l) (k+1-(k+1))=sm (k+1) _+pw l (k+1+1)*el l (k+1-(k+1))-_;rw[Nat.sub_self,jj,jj];have:sm (k+1) (fun i=>pw l (i+1)*el (a::l) (k+1-i))=sm (k+1) (fun i=>pw l (i+1)*el l (k+1-i))+(-a)*sm (k+1) (fun i=>pw l (i+1)*el l (k-i)):=by
     rw[<-bf,<-cP];refine au fun i hi=>?_;rw[show k+1-i=(k-i)+1 by omega];show pw l (i+1)*(el l (k-i+1)-a*el l (k-i))=_
     grind
    rw[this];grind
   rw[e2];generalize sm (k+1+1) (fun i=>pw l (i+1)*el l (k+1-i))=s at h1⊢;generalize sm (k+1) (fun i=>pw l (i+1)*el l (k-i))=t at h2⊢;generalize el l (k+1+1)=x at h1⊢;generalize el l (k+1)=y at h1 h2⊢;have c1:(nt (k+1+1):R)=nt (k+1)+1:=rfl;rw[c1]at h1⊢;generalize (nt (k+1):R)=n at h1 h2⊢
   grind
def dl:List R->(Nat->R)->Nat->R
 |[],a=>a
 |x::l,a=>dl l fun n=>a (n+1)-x*a n
theorem Rg:∀(l:List R) (a:Nat->R) (n:Nat),dl l a n=sm (l.length+1) (fun k=>el l k*a (n+l.length-k))
 |[],a,n=>by
  show a n=0+el ([]:List R) 0*a (n+0-0);rw[jj,Nat.add_zero,Nat.sub_zero];grind
 |x::l,a,n=>by
  show dl l (fun n=>a (n+1)-x*a n) n=_;rw[Rg l,List.length_cons];have e1:sm (l.length+1+1) (fun k=>el (x::l) k*a (n+(l.length+1)-k))=sm (l.length+1+1) (fun k=>el l k*a (n+(l.length+1)-k))+(-x)*sm (l.length+1) (fun k=>el l k*a (n+l.length-k)):=by
   rw[dw (fun k=>el (x::l) k*a (n+(l.length+1)-k)),dw (fun k=>el l k*a (n+(l.length+1)-k)),<-bf];have:sm (l.length+1) (fun i=>el (x::l) (i+1)*a (n+(l.length+1)-(i+1)))=sm (l.length+1) (fun i=>el l (i+1)*a (n+(l.length+1)-(i+1)))+sm (l.length+1) (fun k=>-x*(el l k*a (n+l.length-k))):=by
    rw[<-cP];refine au fun i _=>?_;show(el l (i+1)-x*el l i)*_=_;rw[show n+(l.length+1)-(i+1)=n+l.length-i by omega];grind
   rw[this];show el l 0*_+_=_
   grind
  rw[e1];show _=sm (l.length+1) _+el l (l.length+1)*_+_;rw[Ig l (l.length+1) (by omega),<-bf];have e2:sm (l.length+1) (fun k=>el l k*(a (n+l.length-k+1)-x*a (n+l.length-k)))=sm (l.length+1) (fun k=>el l k*a (n+(l.length+1)-k))+sm (l.length+1) (fun k=>-x*(el l k*a (n+l.length-k))):=by
   rw[<-cP];refine au fun k hk=>?_;rw[show n+(l.length+1)-k=n+l.length-k+1 by omega];grind
  rw[e2];grind
theorem D5:∀(l:List R) (a b:Nat->R) (x y:R) (n:Nat),dl l (fun n=>x*a n+y*b n) n=x*dl l a n+y*dl l b n
 |[],_,_,_,_,_=>rfl
 |z::l,a,b,x,y,n=>by
  show dl l (fun n=>x*a (n+1)+y*b (n+1)-z*(x*a n+y*b n)) n=x*dl l _ n+y*dl l _ n;rw[<-D5 l];exact congrArg (fun f=>dl l f n) (funext fun n=>by grind)
theorem M9(l:List R)(n:Nat):dl l (fun _=>0) n=0:=by
 have:=D5 l (fun _=>(0:R)) (fun _=>0) 0 0 n;rw[show(fun _:Nat=>(0:R)*0+0*0)=fun _=>0 from funext fun _=>by grind]at this;rw[this];grind
end Nw
namespace Nw
open Lean.Grind
structure Laws{α:Type}(z o:α)(ad mu:α->α->α)(ng:α->α):Prop where
 ad0:∀a,ad a z=a
 adC:∀a b,ad a b=ad b a
 adA:∀a b c,ad (ad a b) c=ad a (ad b c)
 muA:∀a b c,mu (mu a b) c=mu a (mu b c)
 mu1:∀a,mu a o=a
 muC:∀a b,mu a b=mu b a
 dis:∀a b c,mu a (ad b c)=ad (mu a b) (mu a c)
 ngA:∀a,ad (ng a) a=z
section
variable {α:Type} {z o:α} {ad mu:α->α->α} {ng:α->α}
def ntB(z o:α)(ad:α->α->α):Nat->α
 |0=>z
 |n+1=>ad (ntB z o ad n) o
def itB(z o:α)(ad:α->α->α)(ng:α->α):Int->α
 |.ofNat n=>ntB z o ad n
 |.negSucc n=>ng (ntB z o ad (n+1))
def pwB(z o:α)(ad mu:α->α->α)(a:α):Nat->α
 |0=>ntB z o ad 1
 |n+1=>mu (pwB z o ad mu a n) a
theorem Laws.z0(L:Laws z o ad mu ng)(a:α):ad z a=a:=by rw[L.adC,L.ad0]
theorem Laws.one(L:Laws z o ad mu ng):ntB z o ad 1=o:=L.z0 o
theorem Laws.can(L:Laws z o ad mu ng){a b:α}(h:ad b a=a):b=z:=by
 have:ad (ad b a) (ng a)=ad a (ng a):=by rw[h]
 rw[L.adA,L.adC a,L.ngA,L.ad0]at this;exact this
theorem Laws.mu0(L:Laws z o ad mu ng)(a:α):mu a z=z:=by
 refine L.can (a:=mu a z) ?_;rw[<-L.dis,L.ad0]
theorem Laws.E4(L:Laws z o ad mu ng){a b:α}(h:ad b a=z):b=ng a:=by
 have:ad (ad b a) (ng a)=ad z (ng a):=by rw[h]
 rw[L.adA,L.adC a,L.ngA,L.ad0,L.z0]at this;exact this
theorem Laws.Vq(L:Laws z o ad mu ng)(a b:α):mu (ng a) b=ng (mu a b):=by
 refine L.E4 ?_;rw[L.muC (ng a),L.muC a,<-L.dis,L.ngA,L.mu0]
theorem Laws.ng0(L:Laws z o ad mu ng):ng z=z:=by
 have:=L.ngA z;rw[L.ad0]at this;exact this
theorem Laws.ngg(L:Laws z o ad mu ng)(a:α):ng (ng a)=a:=(L.E4 (by rw[L.adC,L.ngA])).symm
theorem Laws.itN(L:Laws z o ad mu ng):∀i:Int,itB z o ad ng (-i)=ng (itB z o ad ng i)
 |.ofNat 0=>L.ng0.symm
 |.ofNat (n+1)=>rfl
 |.negSucc n=>(L.ngg _).symm
@[reducible] def Laws.ring(L:Laws z o ad mu ng):CommRing α:=
 { add:=ad,mul:=mu,neg:=ng,sub:=fun a b=>ad a (ng b),natCast:=⟨ntB z o ad⟩,ofNat:=fun n=>⟨ntB z o ad n⟩,nsmul:=⟨fun n a=>mu (ntB z o ad n) a⟩,npow:=⟨fun a n=>pwB z o ad mu a n⟩,intCast:=⟨itB z o ad ng⟩,zsmul:=⟨fun i a=>mu (itB z o ad ng i) a⟩,add_zero:=L.ad0,add_comm:=L.adC,add_assoc:=L.adA,mul_assoc:=L.muA,mul_one:=fun a=>by show mu a (ntB z o ad 1)=a;rw[L.one,L.mu1],one_mul:=fun a=>by show mu (ntB z o ad 1) a=a;rw[L.one,L.muC,L.mu1],left_distrib:=L.dis,right_distrib:=fun a b c=>by show mu (ad a b) c=ad (mu a c) (mu b c);rw[L.muC,L.dis,L.muC c,L.muC c],zero_mul:=fun a=>by show mu z a=z;rw[L.muC,L.mu0],mul_zero:=L.mu0,pow_zero:=fun a=>rfl,pow_succ:=fun a n=>rfl,mul_comm:=L.muC,ofNat_succ:=fun n=>by show ad (ntB z o ad n) o=ad (ntB z o ad n) (ntB z o ad 1);rw[L.one],neg_add_cancel:=L.ngA,sub_eq_add_neg:=fun a b=>rfl,neg_zsmul:=fun i a=>by show mu (itB z o ad ng (-i)) a=ng (mu (itB z o ad ng i) a);rw[L.itN,L.Vq],intCast_neg:=L.itN }
end
variable {R:Type} [CommRing R]
structure Xt(R:Type)[CommRing R](d:Nat)(c:Nat->R) where
 f:Nat->R
 z:∀i,d<=i->f i=0
theorem Xt.eq{d:Nat}{c:Nat->R}:∀{x y:Xt R d c},(∀i,i<d->x.f i=y.f i)->x=y
 |⟨f,hf⟩,⟨g,hg⟩,h=>by
  have:f=g:=funext fun i=>by
   by_cases q:i<d
   ·exact h i q
   ·rw[hf i (by omega),hg i (by omega)]
  subst this;rfl
section
variable {d:Nat} {c:Nat->R}
def xT(x:Xt R d c):Xt R d c:=⟨fun i=>if i<d then(if i=0 then 0 else x.f (i-1))+x.f (d-1)*c i else 0,fun i h=>if_neg (by omega)⟩
def xN:Nat->Xt R d c->Xt R d c
 |0,x=>x
 |k+1,x=>xT (xN k x)
def xAd(x y:Xt R d c):Xt R d c:=⟨fun i=>x.f i+y.f i,fun i h=>by rw[x.z i h,y.z i h];grind⟩
def xNg(x:Xt R d c):Xt R d c:=⟨fun i=>-x.f i,fun i h=>by rw[x.z i h];grind⟩
def xS(n:Nat)(g:Nat->R)(F:Nat->Xt R d c):Xt R d c:=⟨fun i=>sm n fun k=>g k*(F k).f i,fun i h=>by
 rw[au (g:=fun _=>(0:R)) fun k _=>by rw[(F k).z i h];grind,fM]⟩
def xMu(x y:Xt R d c):Xt R d c:=xS d x.f fun k=>xN k y
def xE(hd:0<d):Xt R d c:=⟨fun i=>if i=0 then 1 else 0,fun i h=>if_neg (by omega)⟩
theorem Y0(n:Nat)(g:Nat->R)(F:Nat->Xt R d c):xT (xS n g F)=xS n g fun k=>xT (F k):=Xt.eq fun i hi=>by
 show(if i<d then(if i=0 then 0 else sm n fun k=>g k*(F k).f (i-1))+(sm n fun k=>g k*(F k).f (d-1))*c i else 0)=sm n fun k=>g k*(if i<d then(if i=0 then 0 else(F k).f (i-1))+(F k).f (d-1)*c i else 0);rw[if_pos hi];have e1:(sm n fun k=>g k*(F k).f (d-1))*c i=sm n fun k=>c i*(g k*(F k).f (d-1)):=by rw[bf];grind
 rw[e1];by_cases z:i=0
 ·rw[if_pos z];rw[show((0:R)+sm n fun k=>c i*(g k*(F k).f (d-1)))=sm n fun k=>c i*(g k*(F k).f (d-1))by grind];exact au fun k _=>by rw[if_pos hi,if_pos z];grind
 ·rw[if_neg z,<-cP];exact au fun k _=>by rw[if_pos hi,if_neg z];grind
theorem U6(n:Nat)(g:Nat->R)(F:Nat->Xt R d c):∀j,xN j (xS n g F)=xS n g fun k=>xN j (F k)
 |0=>rfl
 |j+1=>by show xT (xN j (xS n g F))=_;rw[U6 n g F j,Y0];rfl
theorem wQ(x:Xt R d c):∀i j,xN (i+j) x=xN i (xN j x)
 |0,j=>by rw[Nat.zero_add];rfl
 |i+1,j=>by rw[Nat.succ_add];show xT (xN (i+j) x)=xT (xN i (xN j x));rw[wQ x i j]
theorem Uy(hd:0<d):∀k,k<d->∀i,(xN k (xE (c:=c) hd)).f i=if i=k then 1 else 0
 |0,_,i=>rfl
 |k+1,hk,i=>by
  show(if i<d then(if i=0 then 0 else(xN k (xE (c:=c) hd)).f (i-1))+(xN k (xE (c:=c) hd)).f (d-1)*c i else 0)=_;rw[Uy hd k (by omega),Uy hd k (by omega)];by_cases q:i<d
  ·rw[if_pos q,if_neg (show ¬d-1=k by omega)];by_cases z:i=0
   ·rw[if_pos z,if_neg (show ¬i=k+1 by omega)];grind
   ·rw[if_neg z];by_cases y:i=k+1
    ·rw[if_pos y,if_pos (by omega)];grind
    ·rw[if_neg y,if_neg (by omega)];grind
  ·rw[if_neg q,if_neg (by omega)]
theorem Fo(g:Nat->R)(i:Nat):∀n,sm n (fun k=>g k*(if i=k then 1 else 0))=if i<n then g i else 0
 |0=>by rw[if_neg (by omega)];rfl
 |n+1=>by
  show sm n _+g n*(if i=n then 1 else 0)=_;rw[Fo g i n];by_cases a:i<n
  ·rw[if_pos a,if_neg (by omega),if_pos (by omega)];grind
  ·rw[if_neg a];by_cases b:i=n
   ·rw[if_pos b,if_pos (by omega),b];grind
   ·rw[if_neg b,if_neg (by omega)];grind
theorem Rq(hd:0<d)(x:Xt R d c):xS d x.f (fun k=>xN k (xE hd))=x:=Xt.eq fun i hi=>by
 show sm d (fun k=>x.f k*(xN k (xE (c:=c) hd)).f i)=x.f i;rw[au fun k hk=>by rw[Uy hd k hk],Fo,if_pos hi]
theorem Fb(n m:Nat)(g h:Nat->R)(x:Xt R d c):xS n g (fun k=>xN k (xS m h fun j=>xN j x))=xS m h (fun j=>xN j (xS n g fun k=>xN k x)):=Xt.eq fun i hi=>by
 show sm n (fun k=>g k*(xN k (xS m h fun j=>xN j x)).f i)=sm m (fun j=>h j*(xN j (xS n g fun k=>xN k x)).f i);have e1:sm n (fun k=>g k*(xN k (xS m h fun j=>xN j x)).f i)=sm n (fun k=>sm m fun j=>g k*(h j*(xN (k+j) x).f i)):=au fun k _=>by
  rw[U6,bf];exact congrArg (g k * ·) (au fun j _=>by rw[wQ])
 have e2:sm m (fun j=>h j*(xN j (xS n g fun k=>xN k x)).f i)=sm m (fun j=>sm n fun k=>g k*(h j*(xN (k+j) x).f i)):=au fun j _=>by
  rw[U6];show h j*sm n (fun k=>g k*(xN j (xN k x)).f i)=_;rw[<-bf];exact au fun k _=>by rw[Nat.add_comm k j,wQ];grind
 rw[e1,e2,lH]
theorem K3(hd:0<d)(x y:Xt R d c):xMu x y=xMu y x:=by
 have h:=Fb d d x.f y.f (xE (c:=c) hd);rw[Rq,Rq]at h;exact h
theorem aan(hd:0<d)(x y w:Xt R d c):xMu (xMu x y) w=xMu x (xMu y w):=by
 rw[K3 hd (xMu x y) w,K3 hd y w];exact Fb d d w.f x.f y
theorem Zw(x y w:Xt R d c)(hd:0<d):xMu x (xAd y w)=xAd (xMu x y) (xMu x w):=by
 rw[K3 hd x,K3 hd x y,K3 hd x w];refine Xt.eq fun i hi=>?_;show sm d (fun k=>(y.f k+w.f k)*(xN k x).f i)=sm d (fun k=>y.f k*(xN k x).f i)+sm d (fun k=>w.f k*(xN k x).f i);rw[<-cP];exact au fun k _=>by grind
def xZ:Xt R d c:=⟨fun _=>0,fun _ _=>rfl⟩
theorem Qo(hd:0<d):Laws (α:=Xt R d c) xZ (xE hd) xAd xMu xNg:=
 ⟨fun a=>Xt.eq fun i _=>by show a.f i+0=a.f i;grind,fun a b=>Xt.eq fun i _=>by show a.f i+b.f i=b.f i+a.f i;grind,fun a b e=>Xt.eq fun i _=>by show a.f i+b.f i+e.f i=a.f i+(b.f i+e.f i);grind,aan hd,fun a=>Rq hd a,K3 hd,fun a b e=>Zw a b e hd,fun a=>Xt.eq fun i _=>by show -a.f i+a.f i=0;grind⟩
def xX(hd:0<d):Xt R d c:=xT (xE hd)
theorem Qk(hd:0<d)(x:Xt R d c):xMu (xX hd) x=xT x:=by
 rw[K3 hd];show xS d x.f (fun k=>xN k (xN 1 (xE hd)))=xT x;have:(fun k=>xN k (xN 1 (xE (c:=c) hd)))=fun k=>xT (xN k (xE hd)):=funext fun k=>by
  rw[<-wQ,Nat.add_comm,wQ];rfl
 rw[this,<-Y0,Rq]
end
instance ZD{d:Nat}{c:Nat->R}:CommRing (Xt R (d+1) c):=(Qo (Nat.succ_pos d)).ring
section
variable {d:Nat} {c:Nat->R}
theorem NZ:(1:Xt R (d+1) c)=xE (Nat.succ_pos d):=(Qo (Nat.succ_pos d)).one
theorem KP(x y:Xt R (d+1) c)(i:Nat):(x+y).f i=x.f i+y.f i:=rfl
theorem x_zero(i:Nat):(0:Xt R (d+1) c).f i=0:=rfl
theorem YQ(x:Xt R (d+1) c)(i:Nat):∀n,(nt n*x).f i=nt n*x.f i
 |0=>by
  rw[show(nt 0:Xt R (d+1) c)*x=0 by show(0:Xt R (d+1) c)*x=0;grind,x_zero];show(0:R)=0*x.f i;grind
 |n+1=>by
  rw[show(nt (n+1):Xt R (d+1) c)*x=nt n*x+x by show(nt n+1)*x=_;grind,KP,YQ x i n];show _=(nt n+1)*x.f i;grind
def xI(r:R):Xt R (d+1) c:=⟨fun i=>if i=0 then r else 0,fun i h=>if_neg (by omega)⟩
theorem Ar(r:R)(g:Nat->R):∀n,sm (n+1) (fun k=>(if k=0 then r else 0)*g k)=r*g 0
 |0=>by show 0+(if 0=0 then r else 0)*g 0=_;rw[if_pos rfl];grind
 |n+1=>by
  show sm (n+1) _+(if n+1=0 then r else 0)*g (n+1)=_;rw[Ar r g n,if_neg (by omega)];grind
theorem Qm(r:R)(x:Xt R (d+1) c)(i:Nat):(xI r*x).f i=r*x.f i:=by
 show sm (d+1) (fun k=>(if k=0 then r else 0)*(xN k x).f i)=_;rw[Ar];rfl
end
structure Hom{R S:Type}[CommRing R][CommRing S](ψ:R->S):Prop where
 one:ψ 1=1
 add:∀a b,ψ (a+b)=ψ a + ψ b
 mul:∀a b,ψ (a*b)=ψ a * ψ b
theorem Hom.zero{R S:Type}[CommRing R][CommRing S]{ψ:R->S}(h:Hom ψ):ψ 0=0:=by
 have:=h.add 0 0;rw[show(0:R)+0=0 by grind]at this
 grind
theorem Hom.neg{R S:Type}[CommRing R][CommRing S]{ψ:R->S}(h:Hom ψ)(a:R):ψ (-a)=-ψ a:=by
 have:=h.add (-a) a;rw[show -a+a=0 by grind,h.zero]at this
 grind
theorem Hom.sub{R S:Type}[CommRing R][CommRing S]{ψ:R->S}(h:Hom ψ)(a b:R):ψ (a-b)=ψ a - ψ b:=by
 rw[show a-b=a + -b by grind,h.add,h.neg];grind
theorem Hom.nt{R S:Type}[CommRing R][CommRing S]{ψ:R->S}(h:Hom ψ):∀n,ψ (nt n)=Nw.nt n
 |0=>h.zero
 |n+1=>by show ψ (Nw.nt n+1)=Nw.nt n+1;rw[h.add,h.nt n,h.one]
theorem Hom.comp{R S U:Type}[CommRing R][CommRing S][CommRing U]{ψ:R->S}{χ:S->U}(h:Hom ψ)(g:Hom χ):Hom fun r=>χ (ψ r):=
 ⟨by rw[h.one,g.one],fun a b=>by rw[h.add,g.add],fun a b=>by rw[h.mul,g.mul]⟩
structure Pur{R:Type}[CommRing R](φ:Int->R):Prop where
 hom:Hom φ
 inj:∀t,φ t=0->t=0
 pu:∀(k:Nat) (r:R) (t:Int),nt (k+1)*r=φ t->∃q,r=φ q
theorem ntI:∀n:Nat,(nt n:Int)=(n:Int)
 |0=>rfl
 |n+1=>by show(nt n:Int)+1=_;rw[ntI n];omega
theorem Pur.tf{R:Type}[CommRing R]{φ:Int->R}(h:Pur φ){k:Nat}{r:R}(e:nt (k+1)*r=0):r=0:=by
 obtain⟨q,rfl⟩:=h.pu k r 0 (by rw[e,h.hom.zero]);rw[<-h.hom.nt,<-h.hom.mul]at e;have:=h.inj _ e;rw[ntI]at this;have:q=0:=by
  rcases Int.mul_eq_zero.mp this with z|z
  ·omega
  ·exact z
 rw[this,h.hom.zero]
theorem LK:Pur (fun t:Int=>t):=⟨⟨rfl,fun _ _=>rfl,fun _ _=>rfl⟩,fun _ h=>h,fun _ r _ _=>⟨r,rfl⟩⟩
theorem Av{d:Nat}{c:Nat->R}:Hom (xI (d:=d) (c:=c)):=
 ⟨by rw[NZ];rfl,fun a b=>Xt.eq fun i _=>by
  show(if i=0 then a+b else 0)=(if i=0 then a else 0)+(if i=0 then b else 0);split
  ·rfl
  ·grind,fun a b=>Xt.eq fun i _=>by
  rw[Qm];show(if i=0 then a*b else 0)=a*(if i=0 then b else 0);split
  ·rfl
  ·grind⟩
theorem Ow{d:Nat}{c:Nat->R}{φ:Int->R}(h:Pur φ):Pur fun t=>xI (d:=d) (c:=c) (φ t):=by
 refine⟨h.hom.comp Av,fun t e=>h.inj t ?_,fun k r t e=>?_⟩
 ·have:=congrArg (fun x:Xt R (d+1) c=>x.f 0) e;exact this
 ·have co:∀i,nt (k+1)*r.f i=(if i=0 then φ t else 0):=fun i=>by
   have:=congrArg (fun x:Xt R (d+1) c=>x.f i) e;have t2:=YQ r i (k+1);exact t2.symm.trans this
  obtain⟨q,hq⟩:=h.pu k (r.f 0) t (by rw[co 0,if_pos rfl]);refine⟨q,Xt.eq fun i _=>?_⟩;show r.f i=if i=0 then φ q else 0;by_cases z:i=0
  ·rw[if_pos z,z,hq]
  ·rw[if_neg z];have:=co i;rw[if_neg z]at this;exact h.tf this
def hn{S:Type}[CommRing S](p:Nat->S)(x:S):Nat->S
 |0=>1
 |k+1=>p (k+1)+x*hn p x k
theorem HW{d:Nat}{p:Nat->R}(p0:p 0=1):∀k,k<=d->∀i,(hn (fun k=>xI (p k)) (xX (Nat.succ_pos d)) k:Xt R (d+1) fun i=>-p (d+1-i)).f i=if i<=k then p (k-i)else 0
 |0,_,i=>by
  show(1:Xt R (d+1) _).f i=_;rw[NZ];show(if i=0 then(1:R)else 0)=_;by_cases z:i=0
  ·rw[if_pos z,if_pos (by omega),Nat.zero_sub,p0]
  ·rw[if_neg z,if_neg (by omega)]
 |k+1,hk,i=>by
  show(xI (p (k+1))+xX (Nat.succ_pos d)*hn (fun k=>xI (p k)) (xX (Nat.succ_pos d)) k:Xt R (d+1) fun i=>-p (d+1-i)).f i=_;rw[KP,show ∀x:Xt R (d+1) fun i=>-p (d+1-i),xX (Nat.succ_pos d)*x=xT x from Qk (Nat.succ_pos d)];show(if i=0 then p (k+1)else 0)+(if i<d+1 then(if i=0 then 0 else(hn (fun k=>xI (p k)) (xX (Nat.succ_pos d)) k:Xt R (d+1) fun i=>-p (d+1-i)).f (i-1))+(hn (fun k=>xI (p k)) (xX (Nat.succ_pos d)) k:Xt R (d+1) fun i=>-p (d+1-i)).f (d+1-1) * -p (d+1-i)else 0)=_;rw[HW p0 k (by omega),HW p0 k (by omega),if_neg (show ¬d+1-1<=k by omega)];by_cases z:i=0
  ·rw[if_pos z,if_pos (by omega),if_pos z,if_pos (by omega),z];show p (k+1)+(0+0 * -p (d+1-0))=p (k+1)
   grind
  ·rw[if_neg z,if_neg z];by_cases q:i<d+1
   ·rw[if_pos q];by_cases y:i<=k+1
    ·rw[if_pos (by omega),if_pos y,show k-(i-1)=k+1-i by omega];grind
    ·rw[if_neg (by omega),if_neg y];grind
   ·rw[if_neg q,if_neg (by omega)];grind
theorem QZ{d:Nat}{p:Nat->R}(p0:p 0=1):(hn (fun k=>xI (p k)) (xX (Nat.succ_pos d)) (d+1):Xt R (d+1) fun i=>-p (d+1-i))=0:=Xt.eq fun i hi=>by
 show(xI (p (d+1))+xX (Nat.succ_pos d)*hn (fun k=>xI (p k)) (xX (Nat.succ_pos d)) d:Xt R (d+1) fun i=>-p (d+1-i)).f i=0;rw[KP,show ∀x:Xt R (d+1) fun i=>-p (d+1-i),xX (Nat.succ_pos d)*x=xT x from Qk (Nat.succ_pos d)];show(if i=0 then p (d+1)else 0)+(if i<d+1 then(if i=0 then 0 else(hn (fun k=>xI (p k)) (xX (Nat.succ_pos d)) d:Xt R (d+1) fun i=>-p (d+1-i)).f (i-1))+(hn (fun k=>xI (p k)) (xX (Nat.succ_pos d)) d:Xt R (d+1) fun i=>-p (d+1-i)).f (d+1-1) * -p (d+1-i)else 0)=0;rw[HW p0 d (Nat.le_refl d),HW p0 d (Nat.le_refl d),if_pos hi,if_pos (show d+1-1<=d by omega),show d-(d+1-1)=0 by omega,p0];by_cases z:i=0
 ·rw[if_pos z,if_pos z,z];show p (d+1)+(0+1 * -p (d+1-0))=0;rw[Nat.sub_zero];grind
 ·rw[if_neg z,if_neg z,if_pos (by omega),show d-(i-1)=d+1-i by omega];grind
theorem splits:∀(d:Nat) (R:Type) [CommRing R] (φ:Int->R) (p:Nat->R),Pur φ->p 0=1->(∀k,d<k->p k=0)->
  ∃(S:Type) (_:CommRing S) (ψ:R->S),Hom ψ/\Pur (fun t=>ψ (φ t))/\∃l:List S,l.length=d/\∀k,el l k=ψ (p k)
 |0,R,_,φ,p,hφ,p0,pz=>⟨R,inferInstance,fun r=>r,⟨rfl,fun _ _=>rfl,fun _ _=>rfl⟩,hφ,[],rfl,fun k=>by
   show(if k=0 then(1:R)else 0)=p k;by_cases z:k=0
   ·rw[if_pos z,z,p0]
   ·rw[if_neg z,pz k (by omega)]⟩
 |d+1,R,_,φ,p,hφ,p0,pz=>by
  have hP:=Ow (d:=d) (c:=fun i=>-p (d+1-i)) hφ;obtain⟨S,iS,ψ,hψ,hp,l,ll,he⟩:=splits d (Xt R (d+1) fun i=>-p (d+1-i)) (fun t=>xI (φ t)) (fun k=>if k<=d then hn (fun k=>xI (p k)) (xX (Nat.succ_pos d)) k else 0) hP (by rw[if_pos (Nat.zero_le d)];rfl) fun k hk=>if_neg (by omega);refine⟨S,iS,fun r=>ψ (xI r),Av.comp hψ,hp,ψ (xX (Nat.succ_pos d))::l,by rw[List.length_cons,ll],fun k=>?_⟩;have he':∀k,k<=d+1->el l k=ψ (hn (fun k=>xI (p k)) (xX (Nat.succ_pos d)) k):=fun k hk=>by
   rw[he k];by_cases z:k<=d
   ·rw[if_pos z]
   ·have e:k=d+1:=by omega
    rw[if_neg z,e,QZ p0]
  cases k with
  |zero=>rw[jj,p0];exact(Av.comp hψ).one.symm
  |succ k=>
   by_cases z:k+1<=d+1
   ·show el l (k+1) - ψ (xX (Nat.succ_pos d))*el l k=_;rw[he' (k+1) z,he' k (by omega),<-hψ.mul,<-hψ.sub];refine congrArg ψ ?_;show(xI (p (k+1))+xX (Nat.succ_pos d)*hn (fun k=>xI (p k)) (xX (Nat.succ_pos d)) k)-_=_
    grind
   ·rw[Ig _ _ (by rw[List.length_cons,ll];omega),pz (k+1) (by omega)];exact(Av.comp hψ).zero.symm
end Nw
namespace Nw
open Lean.Grind
section
variable {S:Type} [CommRing S] {φ:Int->S}
theorem Hom.sm(h:Hom φ)(f:Nat->Int):∀n,φ (Nw.sm n f)=Nw.sm n fun k=>φ (f k)
 |0=>h.zero
 |n+1=>by show φ (Nw.sm n f+f n)=_;rw[h.add,h.sm f n];rfl
theorem Hom.ntI(h:Hom φ)(n:Nat):φ (n:Int)=Nw.nt n:=by rw[<-h.nt,Nw.ntI]
theorem zL{R:Type}[CommRing R](f:Nat->R):∀n:Nat,sm n f=sm n fun k=>f (n-1-k)
 |0=>rfl
 |n+1=>by
  rw[dw (fun k=>f (n+1-1-k)) n];show sm n f+f n=_;rw[zL f n,Nat.add_sub_cancel,Nat.sub_zero,au (g:=fun i=>f (n-(i+1))) fun k _=>by rw[show n-(k+1)=n-1-k by omega]]
  grind
theorem JC(h:Hom φ){A:List S}{c s:Nat->Int}(n:Nat)(he:∀k,el A (k+1)=φ (-c k))(hs:∀k,k<n->s k=((k+1:Nat):Int)*c k+sm k fun i=>c i*s (k-1-i)):∀k,k<n->φ (s k)=pw A (k+1):=fun k=>by
 induction k using Nat.strongRecOn with
 |ind k ih=>
  intro hk;have nw:=Bx A k;have e0:sm (k+1) (fun i=>pw A (i+1)*el A (k-i))=sm k (fun i=>pw A (i+1)*el A (k-i))+pw A (k+1):=by
   show sm k _+pw A (k+1)*el A (k-k)=_;rw[Nat.sub_self,jj];grind
  have e1:sm k (fun i=>pw A (i+1)*el A (k-i))=-φ (sm k fun i=>c i*s (k-1-i)):=by
   have:sm k (fun i=>pw A (i+1)*el A (k-i))=sm k fun i=>-1 * φ (c (k-1-i)*s i):=au fun i hi=>by
    rw[<-ih i hi (by omega),show k-i=k-1-i+1 by omega,he,h.mul,h.neg];grind
   rw[this,bf,h.sm,zL (fun i=>φ (c i*s (k-1-i)))];rw[au (f:=fun i=>φ (c (k-1-i)*s i)) (g:=fun i=>φ (c (k-1-i)*s (k-1-(k-1-i)))) fun i hi=>by rw[show k-1-(k-1-i)=i by omega]]
   grind
  rw[e0,e1,he k]at nw;rw[hs k hk,h.add,h.mul,h.ntI];rw[h.neg]at nw
  grind
theorem Jy(h:Pur φ){G:List S}{s r:Nat->Int}(n:Nat)(hp:∀k,k<n->φ (s k)=pw G (k+1))(hr:∀k,k<n->r k=(s k-sm k fun i=>r i*s (k-1-i))/((k+1:Nat):Int)):∀k,k<n->φ (r k)=-el G (k+1):=fun k=>by
 induction k using Nat.strongRecOn with
 |ind k ih=>
  intro hk;have nw:=Bx G k;have e0:sm (k+1) (fun i=>pw G (i+1)*el G (k-i))=sm k (fun i=>pw G (i+1)*el G (k-i))+pw G (k+1):=by
   show sm k _+pw G (k+1)*el G (k-k)=_;rw[Nat.sub_self,jj];grind
  have e1:sm k (fun i=>pw G (i+1)*el G (k-i))=-φ (sm k fun i=>r i*s (k-1-i)):=by
   have:sm k (fun i=>pw G (i+1)*el G (k-i))=sm k fun i=>-1 * φ (r (k-1-i)*s i):=au fun i hi=>by
    have q:=ih (k-1-i) (by omega) (by omega);rw[<-hp i (by omega),show k-i=k-1-i+1 by omega,h.hom.mul,q];grind
   rw[this,bf,h.hom.sm,zL (fun i=>φ (r i*s (k-1-i)))];rw[au (f:=fun i=>φ (r (k-1-i)*s i)) (g:=fun i=>φ (r (k-1-i)*s (k-1-(k-1-i)))) fun i hi=>by rw[show k-1-(k-1-i)=i by omega]]
   grind
  rw[e0,e1,<-hp k hk]at nw;have key:nt (k+1) * -el G (k+1)=φ (s k-sm k fun i=>r i*s (k-1-i)):=by rw[h.hom.sub];grind
  obtain⟨q,hq⟩:=h.pu k _ _ key;rw[hq,<-h.hom.ntI,<-h.hom.mul]at key;have z:((k+1:Nat):Int)*q-(s k-sm k fun i=>r i*s (k-1-i))=0:=h.inj _ (by rw[h.hom.sub,key];grind);have z2:(s k-sm k fun i=>r i*s (k-1-i))=((k+1:Nat):Int)*q:=by omega
  rw[hr k hk,z2,Int.mul_ediv_cancel_left _ (by omega),hq]
theorem Aq(h:Hom φ){A:List S}{c a:Nat->Int}(he:∀k,k<A.length->el A (k+1)=φ (-c k))(n:Nat):dl A (fun n=>φ (a n)) n=φ (a (n+A.length)-sm A.length fun k=>c k*a (n+A.length-1-k)):=by
 rw[Rg,dw,jj,Nat.sub_zero,h.sub,h.sm];have:sm A.length (fun i=>el A (i+1) * φ (a (n+A.length-(i+1))))=sm A.length fun i=>-1 * φ (c i*a (n+A.length-1-i)):=au fun i hi=>by
  rw[he i hi,h.neg,h.mul,show n+A.length-(i+1)=n+A.length-1-i by omega];grind
 rw[this,bf];grind
end
def cof(c:Nat->Int):Nat->Int
 |0=>1
 |k+1=>-c k
theorem Ou(m:Nat)(c:Nat->Int)(hc:∀k,m<=k->c k=0):∃(S:Type) (_:CommRing S) (φ:Int->S),Pur φ/\∃A:List S,A.length=m/\∀k,el A (k+1)=φ (-c k):=by
 obtain⟨S,iS,ψ,hψ,hp,l,ll,he⟩:=splits m Int (fun t=>t) (cof c) LK rfl fun k hk=>by
  cases k with
  |zero=>omega
  |succ k=>show -c k=0;rw[hc k (by omega)];rfl
 exact⟨S,iS,ψ,hp,l,ll,fun k=>he (k+1)⟩
section
variable {S:Type} [CommRing S]
theorem Bh(x:S)(u:Nat->S):∀(e n:Nat),u (n+e)-x^e*u n=sm e fun i=>x^(e-1-i)*(u (n+i+1)-x*u (n+i))
 |0,n=>by show u n-x^0*u n=0;grind
 |e+1,n=>by
  show _=sm e (fun i=>x^(e+1-1-i)*(u (n+i+1)-x*u (n+i)))+x^(e+1-1-e)*(u (n+e+1)-x*u (n+e));have h:=Bh x u e n;have e1:sm e (fun i=>x^(e+1-1-i)*(u (n+i+1)-x*u (n+i)))=x*sm e fun i=>x^(e-1-i)*(u (n+i+1)-x*u (n+i)):=by
   rw[<-bf];refine au fun i hi=>?_;rw[show e+1-1-i=e-1-i+1 by omega];grind
  rw[e1,<-h,show e+1-1-e=0 by omega,show n+(e+1)=n+e+1 by omega];grind
theorem Q9:∀(l:List S) (m:Nat) (F:Nat->Nat->S) (g:Nat->S) (n:Nat),dl l (fun n=>sm m fun i=>g i*F i n) n=sm m fun i=>g i*dl l (F i) n
 |l,0,F,g,n=>M9 l n
 |l,m+1,F,g,n=>by
  show dl l (fun n=>sm m (fun i=>g i*F i n)+g m*F m n) n=sm m _+g m*dl l (F m) n;have:=D5 l (fun n=>sm m fun i=>g i*F i n) (F m) 1 (g m) n;rw[show(fun n=>sm m (fun i=>g i*F i n)+g m*F m n)=fun n=>1*sm m (fun i=>g i*F i n)+g m*F m n from funext fun n=>by grind,this,Q9 l m F g n];grind
theorem uI(e:Nat):∀(A:List S) (u:Nat->S),(∀n,dl A u n=0)->∀s n,dl (A.map fun x=>x^e) (fun n=>u (s+e*n)) n=0
 |[],u,h,s,n=>h _
 |x::A,u,h,s,n=>by
  show dl (A.map fun x=>x^e) (fun n=>u (s+e*(n+1))-x^e*u (s+e*n)) n=0;have e1:(fun n=>u (s+e*(n+1))-x^e*u (s+e*n))=fun n=>sm e fun i=>x^(e-1-i)*(fun n=>(fun n=>u (n+1)-x*u n) (s+i+e*n)) n:=funext fun n=>by
   rw[show s+e*(n+1)=s+e*n+e by rw[Nat.mul_succ];omega,Bh];exact au fun i _=>by show _=x^(e-1-i)*(u (s+i+e*n+1)-x*u (s+i+e*n));rw[show s+i+e*n=s+e*n+i by omega]
  rw[e1,Q9 (A.map fun x=>x^e) e (fun i n=>(fun n=>u (n+1)-x*u n) (s+i+e*n))];rw[au (g:=fun _=>(0:S)) fun i _=>by rw[uI e A (fun n=>u (n+1)-x*u n) h (s+i) n];grind,fM]
theorem Gq(x:S)(e:Nat):∀k,(x^e)^k=x^(e*k)
 |0=>by rw[Nat.mul_zero];grind
 |k+1=>by
  rw[Semiring.pow_succ,Gq x e k,Nat.mul_succ,Semiring.pow_add]
theorem AW(e:Nat):∀(A:List S) (k:Nat),pw (A.map fun x=>x^e) k=pw A (e*k)
 |[],_=>rfl
 |x::A,k=>by show(x^e)^k+_=x^(e*k)+_;rw[Gq,AW e A k]
end
theorem CB{m e:Nat}(he:1<=e){c a s r:Nat->Int}(hc:∀k,m<=k->c k=0)(ha:∀i,a (i+m)=sm m fun k=>c k*a (i+m-1-k))
  (hs:∀k,k<e*m->s k=((k+1:Nat):Int)*c k+sm k fun i=>c i*s (k-1-i))
  (hr:∀k,k<m->r k=(s (e*(k+1)-1)-sm k fun i=>r i*s (e*(k-1-i+1)-1))/((k+1:Nat):Int)) (st i:Nat):
  a (st+e*(i+m))=sm m fun k=>r k*a (st+e*(i+m-1-k)):=by
 obtain⟨S,iS,φ,h,A,lA,eA⟩:=Ou m c hc;have kA:∀n,dl A (fun n=>φ (a n)) n=0:=fun n=>by
  rw[Aq h.hom (c:=c) (fun k _=>eA k),lA,<-ha n,show a (n+m)-a (n+m)=0 by omega,h.hom.zero]
 have pA:=JC h.hom (A:=A) (c:=c) (s:=s) (e*m) eA hs;have lG:(A.map fun x=>x^e).length=m:=by rw[List.length_map,lA]
 have pG:∀k,k<m->φ (s (e*(k+1)-1))=pw (A.map fun x=>x^e) (k+1):=fun k hk=>by
  have l1:e*(k+1)<=e*m:=Nat.mul_le_mul_left _ hk;have l0:1*1<=e*(k+1):=Nat.mul_le_mul he (by omega);rw[pA _ (by omega),AW,show e*(k+1)-1+1=e*(k+1)by omega]
 have rG:=Jy h (G:=A.map fun x=>x^e) (s:=fun k=>s (e*(k+1)-1)) (r:=r) m pG hr;have kG:=uI e A _ kA st i;rw[Aq h.hom (A:=A.map fun x=>x^e) (c:=r) (a:=fun n=>a (st+e*n)) (fun k hk=>by rw[h.hom.neg,rG k (by omega)];grind),lG]at kG;have:=h.inj _ kG;omega
end Nw
namespace K33
open PySem L2
seal PA PE PS PSs PT PW PI PG PGs PO PIf
def top(i:Nat):Stmt:=PySem.Challenge.pw_nextbyrule_k33_every_so_many.main.body.getD i (.Pass ⟨0,0,0,0⟩)
abbrev pK:Stmt:=top 11
abbrev yZ:Stmt:=top 12
abbrev rD:Stmt:=top 13
abbrev Ew:Stmt:=top 14
abbrev lU:Stmt:=top 16
abbrev jl:Stmt:=top 17
abbrev ug:Stmt:=top 19
abbrev qU:Stmt:=top 20
abbrev yL:Stmt:=top 21
abbrev qb:Stmt:=top 22
abbrev rK:Stmt:=top 23
abbrev su:Stmt:=top 24
abbrev ju:Stmt:=top 26
abbrev lu:Stmt:=top 27
abbrev jA:Stmt:=top 28
abbrev jV:Stmt:=top 31
abbrev qX:Stmt:=top 32
abbrev kZ:Stmt:=top 33
abbrev sU:Stmt:=top 34
abbrev vZ:Stmt:=top 35
abbrev gJ:Stmt:=top 36
abbrev gK:Stmt:=top 37
abbrev wu:Stmt:=top 39
abbrev qe:Stmt:=top 40
abbrev oO:Stmt:=top 41
abbrev fB:Stmt:=top 45
abbrev pO:Stmt:=top 46
abbrev zj:Stmt:=top 47
abbrev oU:Stmt:=top 49
abbrev Gb:Stmt:=top 50
abbrev m9:Stmt:=top 51
abbrev vm:Stmt:=top 52
abbrev jY:Stmt:=top 53
abbrev jz:Stmt:=top 54
abbrev lJ:Stmt:=top 55
abbrev rz:Stmt:=top 56
abbrev zV:Stmt:=top 57
abbrev qd:Stmt:=top 58
abbrev sX:Stmt:=top 59
abbrev rZ:Stmt:=top 60
abbrev vG:Stmt:=top 61
abbrev ql:Stmt:=top 62
abbrev yS:Stmt:=top 63
theorem nK:aQ ["number","divisor"] ["number"] (aj pK):=cM
theorem Jh:aQ ["by","number"] ["by","number"] (aj yZ):=cM
theorem gh:aQ ["prime","number","power","square","left"] ["prime","number"] (aj rD):=cM
theorem Lr:aQ ["by","one","other"] ["by","one","other"] (aj Ew):=cM
theorem iw:aQ ["by","rule","before","total","k"] ["by","rule","before"] (aj lU):=cM
theorem dB:aQ ["row","count","by","rule","starts","found"] ["row","count"] (aj jl):=cM
theorem pH:aQ ["numbers","end"] ["numbers"] (aj ug):=cM
theorem gq:aQ ["by","one","other","top","often","left","shift","factor","k"] ["by","one","other"] (aj qU):=cM
theorem Bj:aQ ["prime","poly","last"] ["prime","poly"] (aj yL):=cM
theorem gk:aQ ["by","one","other","great","small","left"] ["by","one","other"] (aj qb):=cM
theorem qu:aQ ["by","rule","length","numbers"] ["by","rule"] (aj rK):=cM
theorem uU:aQ ["by","poly","length"] ["by","poly"] (aj su):=cM
theorem kY:aQ ["rule","sums","k","reach"] ["rule","sums","k"] (aj ju):=cM
theorem gY:aQ ["rule","count","sums","k","own"] ["rule","count"] (aj lu):=cM
theorem iI:aQ ["sums","rule","k"] ["sums"] (aj jA):=cM
theorem jx:aQ ["number","found"] ["number"] (aj jV):=cM
theorem CZ:aQ ["monic_one","poly"] ["monic_one","poly"] (aj qX):=cM
theorem vR:aQ ["prime","poly"] ["prime","poly"] (aj kZ):=cM
theorem uH:aQ ["modulus","number","rest"] ["modulus","number"] (aj sU):=cM
theorem xH:aQ ["modulus","number","prime","rest","more"] ["modulus","number","prime","rest"] (aj vZ):=cM
theorem aO:aQ ["one","other","told","modulus","prime","ripe","seen","before"] ["one","other"] (aj gJ):=cM
theorem pJ:aQ ["by","one","other"] ["by","one","other"] (aj gK):=cM
theorem jJ:aQ ["row","poly","by","starts","top","k","parts"] ["row","poly"] (aj wu):=cM
theorem j5:aQ ["row","by","poly","top"] ["row"] (aj qe):=cM
theorem nj:aQ ["row","least","rule"] ["row"] (aj oO):=cM
theorem nJ:aQ ["start","step"] ["start","step"] (aj fB):=cM
theorem nq:aQ ["by","rule","starts","rule_taken","starts_taken"] ["by","rule","starts"] (aj pO):=cM
theorem mK:aQ ["row","start","step","least","length","sums","found","rule"] ["row","start","step"] (aj zj):=cM
theorem yF:aQ ["_law_script","_law_k"] ["_law_script","_law_k"] (aj oU):=cM
theorem yJ:aQ ["_law_cell","_law_k","_law_number"] ["_law_cell","_law_k"] (aj Gb):=cM
theorem xQ:aQ ["_law_cell"] ["_law_cell"] (aj m9):=cM
theorem C9:aQ ["_law_by","_law_number"] ["_law_by","_law_number"] (aj vm):=cM
theorem jy:aQ ["_law_by","_law_cell","_law_k","_law_far","_law_small"] ["_law_by","_law_cell","_law_k"] (aj jY):=cM
theorem cj:aQ ["_law_row","_law_number","_law_by","_law_rule","_law_starts","_law_some","_law_longer","_law_k"] ["_law_row","_law_number"] (aj jz):=cM
theorem cJ:aQ ["_law_script","_law_start","_law_by","_law_most","_law_cell","_law_size","_law_mine","_law_rule","_law_k","_law_row"] ["_law_script","_law_start","_law_by","_law_most"] (aj lJ):=cM
theorem iC:aQ ["_law_row","_law_count","_law_by","_law_rule","_law_starts","_law_found","_law_total"] ["_law_row","_law_count"] (aj rz):=cM
theorem eU:aQ ["_law_by","_law_size","_law_some","_law_table","_law_done","_law_last","_law_column","_law_at","_law_k","_law_head","_law_row","_law_more"] ["_law_by","_law_size","_law_some"] (aj zV):=cM
theorem Ae:aQ ["_law_by","_law_number","_law_last"] ["_law_by","_law_number","_law_last"] (aj qd):=cM
theorem BL:aQ ["_law_row"] ["_law_row"] (aj sX):=cM
theorem uW:aQ ["_law_found","_law_by","_law_number"] ["_law_found","_law_by"] (aj rZ):=cM
theorem yq:aQ ["_law_found","_law_by","_law_most","_law_some","_law_size"] ["_law_found","_law_by","_law_most","_law_some"] (aj vG):=cM
theorem j6:aQ ["_law_row","_law_start","_law_step","_law_kept","e"] ["_law_row","_law_start","_law_step"] (aj ql):=cM
theorem lW:aQ ["_law_script","_law_by","_law_row","_law_cell","_law_start","_law_step","_law_most","_law_whole","_law_some","_law_far","_law_odd"] ["_law_script"] (aj yS):=cM
abbrev EY:=csF [(".0",.local),("number",.local),("over",.globalImplicit),("last",.cell),("prime",.cell)]
abbrev zK:=csF [(".0",.local),("k",.local),("taken",.globalImplicit),("by",.cell),("length",.cell),("rule",.cell)]
abbrev Aa:=csF [(".0",.local),("k",.local),("taken",.globalImplicit),("by",.cell),("length",.cell),("poly",.cell)]
abbrev qL:=csF [(".0",.local),("i",.local),("k",.cell),("rule",.cell),("sums",.cell)]
abbrev uz:=csF [(".0",.local),("number",.local),("taken",.globalImplicit),("prime",.cell)]
abbrev oh:=csF [(".0",.local),("rest",.local),("nearest",.globalImplicit),("prime",.cell)]
abbrev nR:=csF [(".0",.local),("k",.local),("joined",.globalImplicit),("before",.cell),("modulus",.cell),("prime",.cell),("seen",.cell)]
abbrev CN:=csF [(".0",.local),("j",.local),("k",.cell),("poly",.cell),("starts",.cell)]
abbrev wU:=csF [(".0",.local),("number",.local),("taken",.globalImplicit),("by",.cell)]
abbrev xG:=csF [(".0",.local),("number",.local),("taken",.globalImplicit),("by",.cell)]
abbrev EJ:=csF [(".0",.local),("k",.local),("step",.cell),("sums",.cell)]
abbrev Dg:=csF [(".0",.local),("k",.local),("found",.cell),("start",.cell),("step",.cell)]
abbrev qN:=csF [(".0",.local),("_law_one",.local),("_law_taken",.globalImplicit),("_law_by",.cell)]
abbrev uo:=csF [(".0",.local),("_law_k",.local),("_law_one_number",.globalImplicit),("_law_by",.cell),("_law_mine",.cell)]
abbrev uq:=csF [(".0",.local),("_law_k",.local),("_law_one_number",.globalImplicit),("_law_by",.cell),("_law_mine",.cell)]
abbrev yN:=csF [(".0",.local),("_law_k",.local),("_law_found",.cell),("_law_rule",.cell)]
abbrev FW:=csF [(".0",.local),("_law_j",.local),("_law_i",.cell),("_law_some",.cell)]
abbrev Du:=csF [(".0",.local),("_law_i",.cell),("range",.globalImplicit),("_law_size",.cell),("_law_some",.cell)]
abbrev EA:=csF [(".0",.local),("_law_k",.local),("_law_column",.cell),("_law_table",.cell)]
abbrev Gn:=csF [(".0",.local),("_law_j",.local),("_law_column",.cell),("_law_head",.cell),("_law_row",.cell)]
abbrev Eo:=csF [(".0",.local),("_law_one",.local),("_law_shorter",.globalImplicit),("_law_by",.cell),("_law_last",.cell)]
abbrev MN:=csF [(".0",.local),("_law_k",.local),("_law_start",.cell),("_law_step",.cell),("_law_whole",.cell)]
structure Bt(mg:Str->Option Value):Prop where
 wR:mg "ValueError" = none
 Ko:mg "bool" = none
 KD:mg "int" = none
 cg:mg "isinstance" = none
 cT:mg "len" = none
 DX:mg "list" = none
 Xm:mg "max" = none
 Yc:mg "min" = none
 bW:mg "range" = none
 MG:mg "sum" = none
 d7:mg "tuple" = none
 cI:∃t,mg "BELOW_THE_PRIMES" = some (.int 1000000 t)
 dg:∃t,mg "FARTHEST_START" = some (.int 100 t)
 fH:∃t,mg "WIDEST_STEP" = some (.int 10 t)
structure Ms(K:W.Frag)(mg:Str->Option Value)(base:Heap)(lX fL cR iR fD cu fY aL dH:Addr):Prop where
 Qt:mg "NoBy" = some (.ref lX)
 HJ:mg "NoName" = some (.ref fL)
 CY:mg "NoNumber" = some (.ref cR)
 Nj:mg "NoRow" = some (.ref iR)
 Jv:mg "NoText" = some (.ref fD)
 yU:mg "RuleError" = some (.ref cu)
 Ia:mg "TooBig" = some (.ref fY)
 Jq:mg "TooFar" = some (.ref aL)
 Fg:mg "TooLong" = some (.ref dH)
 Iz:ExC mg base "TooFar" aL
 n8:ExS base aL cu
 wg:ExI K aL
 fW:W.kitOne K (.ref aL) (.ref lX)=some false
 dD:W.kitOne K (.ref aL) (.ref fL)=some false
 cQ:W.kitOne K (.ref aL) (.ref cR)=some false
 d9:W.kitOne K (.ref aL) (.ref iR)=some false
 dM:W.kitOne K (.ref aL) (.ref fD)=some false
 dz:W.kitOne K (.ref aL) (.ref cu)=some true
 dF:W.kitOne K (.ref aL) (.ref fY)=some false
 dR:W.kitOne K (.ref aL) (.ref aL)=some true
 cZ:W.kitOne K (.ref aL) (.ref dH)=some false
 cA:W.kitOne K (.ref aL) (.type "ValueError")=some true
abbrev XQ:Nat:=18
theorem dO(a:Int){b:Int}(h:0<b):0<=a%b:=Int.emod_nonneg _ (by omega)
theorem dZ(a:Int){b:Int}(h:0<b):a%b<b:=Int.emod_lt_of_pos _ h
theorem aV{ns:List Int}{k:Int}(h0:0<=k)(h1:k<(ns.length:Int)):atI (ns.map V.int) k=some (.int (ns.getD k.toNat 0)):=by
 have e:k=((k.toNat:Nat):Int):=by omega
 have hk:k.toNat<ns.length:=by omega
 conv=>lhs;rw[e]
 exact Fp (by rw[List.getElem?_map,List.getElem?_eq_getElem hk,List.getD_eq_getElem?_getD,List.getElem?_eq_getElem hk]<;>rfl)
theorem uf{α:Type}{xs:List α}{k:Int}{v:α}(j:Nat)(e:k=(j:Int))(h:xs[j]?=some v):atI xs k=some v:=by rw[e];exact Fp h
theorem dec_true{p:Prop}[Decidable p](c:decide p=true):p:=of_decide_eq_true c
theorem dec_false{p:Prop}[Decidable p](c:¬decide p=true):¬p:=of_decide_eq_false (Bool.eq_false_iff.mpr c)
def jD(b x:Int):Prop:=b=0∨(0<=x/\x<b)
structure Rw where
 b:Int
 rule:List Int
 starts:List Int
structure mV(r:Rw):Prop where
 len:r.rule.length=r.starts.length
 short:r.rule.length<=24
 by0:0<=r.b
 by1:r.b<1000
 nM:∀x∈r.rule,jD r.b x
 iT:∀x∈r.starts,jD r.b x
 f9:∀x∈r.rule,Rm.Bd 60000 x
 jT:∀x∈r.starts,Rm.Bd 10000 x
def Rw.row(r:Rw)(n:Nat):List Int:=Rm.row r.b r.rule r.starts n
def Rw.at(r:Rw)(n:Nat):Int:=Rm.at_ r.b r.rule r.starts n
theorem mV.bd{r:Rw}(h:mV r)(n:Nat)(hn:n<=1000):Rm.Bd 61000000 (r.at n):=by
 have q:=Rm.Gh (b:=r.b) (rule:=r.rule) (starts:=r.starts) (a:=60000) (c:=10000) h.len h.by0 ((Rm.Bd.of (n:=10) (by have:=h.by0;omega) (by have:=h.by1;omega)).mono (by decide)) h.f9 h.jT n;refine q.mono ?_;have h1:=h.short;have h2:n*(60000+r.rule.length)<=1000*60024:=Nat.mul_le_mul hn (by omega);omega
theorem mV.Js{r:Rw}(h:mV r)(n:Nat)(hn:n<=1000):∀x∈r.row n,Rm.Bd 61000000 x:=by
 intro x hx;have e:r.row n=(List.range n).map r.at:=Rm.FZ ..;rw[e]at hx;obtain⟨i,hi,rfl⟩:=List.mem_map.mp hx;exact h.bd i (by have:=List.mem_range.mp hi;omega)
theorem Rw.dU(r:Rw)(n:Nat):(r.row n).length=n:=Rm.dU ..
theorem tU{x y:Int}{m n:Nat}(h:Rm.Bd m x)(h':Rm.Bd n y)(hn:m+n<=134217728):IntMulOk x y:=
 IntMulOk.of_le (intBits_le_iff.mpr h) (intBits_le_iff.mpr h') hn
def iU(H:Hp)(v:V)(r:Rw):Prop:=
 ∃a p q,v = .ref a/\H a=some (.tup [.int r.b,.ref p,.ref q])/\H p=some (.tup (r.rule.map V.int))/\H q=some (.tup (r.starts.map V.int))
theorem iU.same{H H':Hp}{v:V}{r:Rw}(h:iU H v r)(g:Same H H'):iU H' v r:=by
 obtain⟨a,p,q,e,h1,h2,h3⟩:=h;exact⟨a,p,q,e,g _ _ h1,g _ _ h2,g _ _ h3⟩
theorem Qg(rule:List Int)(f:Nat->Int)(n:Nat):∀m:Nat,((List.range m).map fun k=>rule.getD k 0*f (n-1-k)).sum=Rm.S rule f n m
 |0=>rfl
 |m+1=>by
  rw[List.range_succ,List.map_append,List.sum_append,Qg rule f n m];simp[Rm.S]
theorem wj(xs:List Int)(x:Int):(xs++[x]).map V.int=xs.map V.int++[.int x]:=by rw[List.map_append];rfl
def Told(H:Hp)(Q:VK)(xs:List V):Prop:=∀r H',Same H H'->H r=none->H' r=some (.lst xs)->Q (.ref r) H'
inductive Pa(K:W.Frag)(vs:List V)(H:Hp)(Q:VK)(E:XK):Prop|mk (a:Addr) (ns:List Int) (z_0:vs=[.ref a]) (z_1:SqL K H a (ns.map V.int)) (z_2:ns.length<=63) (z_3:(∀x∈ns,PySem.Builtin.Int.intBits x<=1048576)) (z_4:∀H',Q (.bl true) H')
def Ld(K:W.Frag):Sp:=fun vs H Q E=>Pa K vs H Q E
theorem wO(xs:List V)(k:Nat):vI xs none (some (k:Int))=xs.take k:=by
 unfold vI;rw[HT.jZ,HT.ig,List.drop_zero,Nat.sub_zero,List.take_eq_take_iff];omega
def yW(H:Hp)(Q:VK)(ns:List Int):Prop:=∀p H',Same H H'->H' p=some (.tup (ns.map V.int))->Q (.ref p) H'
theorem xg{xs:List Int}{n:Nat}(h:0<n)(hn:n<=xs.length):xs.take n=xs.take (n-1)++[xs.getD (n-1) 0]:=by
 obtain⟨m,rfl⟩:∃m,n=m+1:=⟨n-1,by omega⟩;rw[Nat.add_sub_cancel,List.take_add_one,List.getElem?_eq_getElem (by omega),List.getD_eq_getElem?_getD,List.getElem?_eq_getElem (by omega)];rfl
theorem Ef{xs:List Int}{n:Nat}(h:0<n)(hn:n<=xs.length)(ht:Pm.trim (xs.take n)=Pm.trim xs)(h0:xs.getD (n-1) 0=0):Pm.trim (xs.take (n-1))=Pm.trim xs:=by
 rw[xg h hn,h0,Pm.wX]at ht;exact ht
theorem wY{xs:List Int}{n:Nat}(hn:n<=xs.length)(ht:Pm.trim (xs.take n)=Pm.trim xs)(h0:n=0∨xs.getD (n-1) 0≠0):xs.take n=Pm.trim xs:=by
 rcases h0 with h0|h0
 ·subst h0;rw[<-ht];rfl
 ·by_cases hz:n=0
  ·subst hz;rw[<-ht];rfl
  ·rw[<-ht,xg (by omega) hn,Pm.qW _ h0]
theorem tK{n j:Nat}{i:Int}(e:i=(j:Int))(h:j<n):ixN n i=some j:=by
 subst e;unfold ixN;rw[if_pos (by omega),if_pos (by omega),Int.toNat_natCast]
theorem jQ(L:List Int)(j:Nat)(x:Int):(L.map V.int).set j (.int x)=(L.set j x).map V.int:=by rw[List.map_set]
theorem oG(n:Nat):(List.replicate n [V.int 0]).flatten=(Pm.ofF n fun _=>0).map V.int:=by
 induction n with
 |zero=>rfl
 |succ n ih=>
  rw[Pm.Bo,List.map_append,<-ih,List.replicate_succ',List.flatten_append];rfl
theorem mj{n:Nat}{ix:List (Option Nat)}{te:TE}{σ:St}{H1:Hp}{Q:VK}(hz:n<=1000){rest:St}(hst:cst ix σ=none::rest)(f:Nat->Int)
  (he:∀H' k,Same H1 H'->k<n->∀kk:VK,kk (.int (f k)) H'->te (some (.int (0+(k:Int)))::rest) H' kk)
  (hQ:∀D,H1 D=none->Q (.ref D) (upd H1 D (.lst ((Pm.ofF n f).map V.int)))):nU ix (mU 0) C2 te σ Q (Itr 0 n) H1:=by
 refine jP jN (by rw[List.length_map,List.length_range];exact Nat.le_of_lt (bI hz)) hst (fun _=>true) (fun x=>match x with | .int k=> .int (f k.toNat)|_=> .non) ?_ ?_ ?_
 ·intro H2 x g2 hx k hk;exact hk
 ·intro H2 x g2 hx _ k hk;obtain⟨j,hj,rfl⟩:=List.mem_map.mp hx;have e1:(0+(j:Int)).toNat=j:=by omega
  refine he H2 j g2 (List.mem_range.mp hj) k ?_;have hk':k (V.int (f (0+(j:Int)).toNat)) H2:=hk
  rwa [e1]at hk'
 ·intro D hD;have el:((((List.range n).map fun i=>V.int (0+(i:Nat))).filter fun _=>true).map fun x=>match x with | .int k=>V.int (f k.toNat)|_=>V.non)=(Pm.ofF n f).map V.int:=by
   rw[List.filter_eq_self.mpr (by simp),List.map_map,Pm.ofF,List.map_map];refine List.map_congr_left fun k _=>?_;show V.int (f (0+(k:Int)).toNat)=V.int (f k);rw[show(0+(k:Int)).toNat=k by omega]
  rw[el];exact hQ D hD
theorem vM{K:W.Frag}{a:Addr}{xs:List Int}{ix:List (Option Nat)}{te:TE}{σ:St}{H1:Hp}{Q:VK}(hA:H1 a=some (.tup (xs.map V.int)))(hz:xs.length<=1000){rest:St}(hst:cst ix σ=none::rest)(f:Int->Int)
  (he:∀H' x,Same H1 H'->x∈xs->∀kk:VK,kk (.int (f x)) H'->te (some (.int x)::rest) H' kk)
  (hQ:∀D,H1 D=none->Q (.ref D) (upd H1 D (.lst ((xs.map f).map V.int)))):nU ix (mU 0) C2 te σ Q (Itt K a) H1:=by
 refine jP (wG (SqT.of hA)) (by rw[List.length_map];exact Nat.le_of_lt (bI hz)) hst (fun _=>true) (fun x=>match x with | .int k=> .int (f k)|_=> .non) ?_ ?_ ?_
 ·intro H2 x g2 hx k hk;exact hk
 ·intro H2 x g2 hx _ k hk;obtain⟨y,hy,rfl⟩:=List.mem_map.mp hx;exact he H2 y g2 hy k hk
 ·intro D hD;have el:(((xs.map V.int).filter fun _=>true).map fun x=>match x with | .int k=>V.int (f k)|_=>V.non)=(xs.map f).map V.int:=by
   rw[List.filter_eq_self.mpr (by simp),List.map_map,List.map_map];rfl
  rw[el];exact hQ D hD
theorem Ay{K:W.Frag}{a:Addr}{xs:List Int}{ix:List (Option Nat)}{te:TE}{σ:St}{H1:Hp}{Q:VK}(hA:H1 a=some (.lst (xs.map V.int)))(hz:xs.length<=1000){rest:St}(hst:cst ix σ=none::rest)(f:Int->Int)
  (he:∀H' x,Same H1 H'->x∈xs->∀kk:VK,kk (.int (f x)) H'->te (some (.int x)::rest) H' kk)
  (hQ:∀D,H1 D=none->Q (.ref D) (upd H1 D (.lst ((xs.map f).map V.int)))):nU ix (mU 0) C2 te σ Q (Itl K a) H1:=by
 refine jP (vL (SqL.of hA)) (by rw[List.length_map];exact Nat.le_of_lt (bI hz)) hst (fun _=>true) (fun x=>match x with | .int k=> .int (f k)|_=> .non) ?_ ?_ ?_
 ·intro H2 x g2 hx k hk;exact hk
 ·intro H2 x g2 hx _ k hk;obtain⟨y,hy,rfl⟩:=List.mem_map.mp hx;exact he H2 y g2 hy k hk
 ·intro D hD;have el:(((xs.map V.int).filter fun _=>true).map fun x=>match x with | .int k=>V.int (f k)|_=>V.non)=(xs.map f).map V.int:=by
   rw[List.filter_eq_self.mpr (by simp),List.map_map,List.map_map];rfl
  rw[el];exact hQ D hD
theorem dW:∀P∈Om.iM,2<=P/\P<1000:=by decide +kernel
inductive Lns(H:Hp)(ex:List Addr):List V->List (List Int)->Prop
 |nil:Lns H ex [] []
 |cons {t:Addr} {p:List Int} {xs:List V} {ps:List (List Int)}:t∉ex->H t=some (.lst (p.map V.int))->Lns H ex xs ps->Lns H ex (.ref t::xs) (p::ps)
def Keep(ll:Addr)(H H':Hp):Prop:=∀a u,a≠ll->H a=some u->H' a=some u
theorem Keep.upd(ll:Addr)(H:Hp)(o:HO):Keep ll H (L2.upd H ll o):=fun a u n e=>by rw[cB n];exact e
theorem Lns.keep{H H':Hp}{ll:Addr}{ex:List Addr}(hm:ll∈ex)(g:Keep ll H H'):∀{xs:List V} {ps:List (List Int)},Lns H ex xs ps->Lns H' ex xs ps
 |_,_,.nil=> .nil
 |_,_,.cons n h r=> .cons n (g _ _ (fun z=>n (z▸hm)) h) (Lns.keep hm g r)
theorem Lns.same{H H':Hp}{ex:List Addr}(g:Same H H'):∀{xs:List V} {ps:List (List Int)},Lns H ex xs ps->Lns H' ex xs ps
 |_,_,.nil=> .nil
 |_,_,.cons n h r=> .cons n (g _ _ h) (Lns.same g r)
theorem Lns.len{H:Hp}{ex:List Addr}:∀{xs:List V} {ps:List (List Int)},Lns H ex xs ps->xs.length=ps.length
 |_,_,.nil=>rfl
 |_,_,.cons _ _ r=>by rw[List.length_cons,List.length_cons,Lns.len r]
theorem Lns.get{H:Hp}{ex:List Addr}:∀{xs:List V} {ps:List (List Int)} {i:Nat},Lns H ex xs ps->i<ps.length->∃t,xs[i]?=some (.ref t)/\t∉ex/\H t=some (.lst ((Dm.ln ps i).map V.int))
 |_,_,_,.nil,h=>absurd h (Nat.not_lt_zero _)
 |_,_,0,.cons n h _,_=>⟨_,rfl,n,h⟩
 |_,_,i+1,.cons _ _ r,h=>Lns.get (i:=i) r (by simpa using h)
theorem Lns.set{H:Hp}{ex:List Addr}{t:Addr}{q:List Int}(hn:t∉ex)(hT:H t=some (.lst (q.map V.int))):∀{xs:List V} {ps:List (List Int)} (i:Nat),Lns H ex xs ps->Lns H ex (xs.set i (.ref t)) (ps.set i q)
 |_,_,_,.nil=> .nil
 |_,_,0,.cons _ _ r=> .cons hn hT r
 |_,_,i+1,.cons n h r=> .cons n h (Lns.set hn hT i r)
theorem Lns.append{H:Hp}{ex:List Addr}{t:Addr}{q:List Int}(hn:t∉ex)(hT:H t=some (.lst (q.map V.int))):∀{xs:List V} {ps:List (List Int)},Lns H ex xs ps->Lns H ex (xs++[.ref t]) (ps++[q])
 |_,_,.nil=> .cons hn hT .nil
 |_,_,.cons n h r=> .cons n h (Lns.append hn hT r)
theorem wZ{L:List (List Int)}{i:Nat}(q:List Int)(hi:i<L.length)(k:Nat):Dm.ln (L.set i q) k=if k=i then q else Dm.ln L k:=by
 unfold Dm.ln;rw[List.getD_eq_getElem?_getD,List.getElem?_set,List.getD_eq_getElem?_getD];by_cases e:i=k
 ·subst e;simp[hi]
 ·rw[if_neg e,if_neg (fun z=>e z.symm)]
def ByP(b:Int):Prop:=b=0∨∃P:Nat,P∈Om.iM/\b=(P:Int)
theorem ByP.dom{b:Int}(h:ByP b):Dm.Dom b:=by
 rcases h with rfl|⟨P,hP,rfl⟩
 ·exact Dm.Dom.zero
 ·exact Dm.Dom.prime hP (dW P hP).1
theorem ByP.range{b:Int}(h:ByP b):0<=b/\b<1000/\b≠1:=by
 rcases h with rfl|⟨P,hP,rfl⟩
 ·decide
 ·have:=dW P hP;omega
theorem ByP.one{b:Int}(h:ByP b):Rm.tk b 1=1:=by
 rcases h with rfl|⟨P,hP,rfl⟩
 ·exact Rm.aW 1
 ·have:=dW P hP;rw[Rm.fu (by omega)];exact Int.emod_eq_of_lt (by decide) (by omega)
inductive JF(vs:List V)(H:Hp)(Q:VK)(E:XK):Prop|mk (b n:Int) (z_0:vs=[.int b,.int n]) (z_1:0<=b) (z_2:Q (.int (Rm.tk b n)) H)
def Gj:Sp:=fun vs H Q E=>JF  vs H Q E
abbrev iQ(P w K mg base):=Cal P w K mg base "taken" 1 ["by","number"] Gj
inductive K7(K:W.Frag)(vs:List V)(H:Hp)(Q:VK)(E:XK):Prop|mk (b:Int) (r s:Addr) (rule before:List Int) (z_0:vs=[.int b,.ref r,.ref s]) (z_1:0<=b) (z_2:SqT K H r (rule.map V.int)) (z_3:SqL K H s (before.map V.int)) (z_4:rule.length<=before.length) (z_5:rule.length<=24) (z_6:before.length<=1000) (z_7:(∀x∈rule,Rm.Bd 60000 x)) (z_8:(∀x∈before,Rm.Bd 61000000 x)) (z_9:Q (.int (Rm.tk b (Rm.S rule (fun i=>before.getD i 0) before.length rule.length))) H)
def Q8(K:W.Frag):Sp:=fun vs H Q E=>K7 K vs H Q E
abbrev qx(P w K mg base):=Cal P w K mg base "next_place" 2 ["by","rule","before"] (Q8 K)
inductive Jc(K:W.Frag)(vs:List V)(H:Hp)(Q:VK)(E:XK):Prop|mk (v:V) (r:Rw) (c:Int) (z_0:vs=[v,.int c]) (z_1:iU H v r) (z_2:mV r) (z_3:0<=c) (z_4:c<=900) (z_5:Told H Q ((r.row c.toNat).map V.int))
def La(K:W.Frag):Sp:=fun vs H Q E=>Jc K vs H Q E
abbrev mW(P w K mg base):=Cal P w K mg base "first_places" 3 ["row","count"] (La K)
inductive GD(vs:List V)(H:Hp)(Q:VK)(E:XK):Prop|mk (n:Nat) (z_0:vs=[.int n]) (z_1:n<2097152) (z_2:∀b:Bool,(b=true↔Om.bU n)->Q (.bl b) H)
def HB:Sp:=fun vs H Q E=>GD  vs H Q E
abbrev uP(P w K mg base):=Cal P w K mg base "is_prime" 1 ["number"] HB
inductive Ir(vs:List V)(H:Hp)(Q:VK)(E:XK):Prop|mk (n q:Nat) (z_0:vs=[.int n]) (z_1:Om.bU q) (z_2:n<q) (z_3:q<2097152) (z_4:∀p:Nat,Om.bU p->n<p->p<=q->Q (.int p) H)
def KY:Sp:=fun vs H Q E=>Ir  vs H Q E
abbrev nZ(P w K mg base):=Cal P w K mg base "prime_above" 2 ["number"] KY
inductive Am(vs:List V)(H:Hp)(Q:VK)(E:XK):Prop|mk (P:Nat) (a:Int) (z_0:vs=[.int P,.int a]) (z_1:Om.bU P) (z_2:P<2097152) (z_3:0<a) (z_4:a<(P:Int)) (z_5:∀x:Int,0<=x->x<2097152->x%(P:Int)=a^(P-2)%(P:Int)->Q (.int x) H)
def BQ:Sp:=fun vs H Q E=>Am  vs H Q E
abbrev yD(P w K mg base):=Cal P w K mg base "inverse" 2 ["prime","number"] BQ
inductive Jw(vs:List V)(H:Hp)(Q:VK)(E:XK):Prop|mk (P:Nat) (one other:Int) (z_0:vs=[.int P,.int one,.int other]) (z_1:Om.bU P) (z_2:P<2097152) (z_3:0<other) (z_4:other<(P:Int)) (z_5:Q (.int (one*other^(P-2)%(P:Int))) H)
def Ls:Sp:=fun vs H Q E=>Jw  vs H Q E
abbrev Dz(P w K mg base):=Cal P w K mg base "over" 3 ["by","one","other"] Ls
inductive KC(K:W.Frag)(vs:List V)(H:Hp)(Q:VK)(E:XK):Prop|mk (l:Addr) (xs:List Int) (z_0:vs=[.ref l]) (z_1:SqL K H l (xs.map V.int)) (z_2:yW H Q (Pm.trim xs))
def QX(K:W.Frag):Sp:=fun vs H Q E=>KC K vs H Q E
abbrev oK(P w K mg base):=Cal P w K mg base "trimmed" 1 ["numbers"] (QX K)
def W6(H:Hp)(Q:VK)(b:Int)(P M:List Int):Prop:=∀t x y q r H',Same H H'->H' t=some (.tup [.ref x,.ref y])->H' x=some (.tup (List.map V.int q))->H' y=some (.tup (List.map V.int r))->Pm.Div b P M q r->
 (∀z∈q,Rm.Bd 5900000 z)->(∀z∈r,Rm.Bd 5900000 z)->q.length<=P.length->Q (.ref t) H'
inductive zH(vs:List V)(H:Hp)(Q:VK)(E:XK):Prop|mk (b:Int) (a c:Addr) (P M:List Int) (z_0:vs=[.int b,.ref a,.ref c]) (z_1:0<=b) (z_2:b<2097152) (z_3:H a=some (.tup (P.map V.int))) (z_4:H c=some (.tup (M.map V.int))) (z_5:P.length<=40) (z_6:M.length<=40) (z_7:Pm.Mon M) (z_8:(∀k,Rm.tk b (Pm.co P k)=Pm.co P k)) (z_9:(∀x∈P,Rm.Bd 900000 x)) (WG:(∀x∈M,Rm.Bd 124000 x)) (Yh:W6 H Q b P M)
def BK:Sp:=fun vs H Q E=>zH  vs H Q E
theorem DM{L:List Int}{u:Nat}(h:∀k,Rm.Bd u (Pm.co L k)):∀x∈Pm.trim L,Rm.Bd u x:=fun x hx=>by
 obtain⟨k,hk,e⟩:=List.mem_iff_getElem.mp hx;rw[<-e,<-Pm.ux hk,Pm.jo];exact h k
theorem max_zero(m n:Nat):(if(m:Int)-((n:Int)-1)>0 then(m:Int)-((n:Int)-1)else 0).toNat=m-(n-1)∨n=0:=by
 by_cases h:n=0
 ·exact .inr h
 ·left;split<;>omega
abbrev nT(P w K mg base):=Cal P w K mg base "divided" 2 ["by","one","other"] BK
def W0(H:Hp)(Q:VK)(b:Int)(p:List Int):Prop:=∀t m H',Same H H'->H' t=some (.tup (List.map V.int m))->Pm.u9 b p m->Q (.ref t) H'
inductive Gp(vs:List V)(H:Hp)(Q:VK)(E:XK):Prop|mk (P:Nat) (a:Addr) (p:List Int) (z_0:vs=[.int P,.ref a]) (z_1:Om.bU P) (z_2:P<2097152) (z_3:H a=some (.tup (p.map V.int))) (z_4:p.length<=300) (z_5:Pm.Py P p) (z_6:W0 H Q P p)
def IG:Sp:=fun vs H Q E=>Gp  vs H Q E
abbrev Df(P w K mg base):=Cal P w K mg base "monic" 4 ["prime","poly"] IG
def QF(H:Hp)(Q:VK)(b:Int)(p r:List Int):Prop:=∀t g H',Same H H'->H' t=some (.tup (List.map V.int g))->Pm.Gcd b p r g->g.length<=max p.length r.length->Q (.ref t) H'
inductive wJ(vs:List V)(H:Hp)(Q:VK)(E:XK):Prop|mk (P:Nat) (a c:Addr) (p r:List Int) (z_0:vs=[.int P,.ref a,.ref c]) (z_1:Om.bU P) (z_2:P<2097152) (z_3:H a=some (.tup (p.map V.int))) (z_4:H c=some (.tup (r.map V.int))) (z_5:p.length<=40) (z_6:r.length<=40) (z_7:Pm.Py P p) (z_8:Pm.Py P r) (z_9:(r=[]->p≠[])) (WG:QF H Q P p r)
def zU:Sp:=fun vs H Q E=>wJ  vs H Q E
theorem Lq{P:Nat}(h0:2<=P)(h:P<2097152){p:List Int}(hp:Pm.Py P p):∀x∈p,Rm.Bd 124000 x:=fun x hx=>by
 have:=hp.nu x hx;rw[Rm.fu (by omega)]at this;rw[<-this];exact Rm.Bd.emod (by omega) ((Rm.Bd.of (n:=21) (by omega) (by omega)).mono (by decide))
abbrev pQ(P w K mg base):=Cal P w K mg base "greatest" 5 ["by","one","other"] zU
inductive Cj(vs:List V)(H:Hp)(Q:VK)(E:XK):Prop|mk (M x:Int) (z_0:vs=[.int M,.int x]) (z_1:0<M) (z_2:Q (.int (Pm.nr M x)) H)
def Fy:Sp:=fun vs H Q E=>Cj  vs H Q E
abbrev sE(P w K mg base):=Cal P w K mg base "nearest" 1 ["modulus","number"] Fy
inductive D6(vs:List V)(H:Hp)(Q:VK)(E:XK):Prop|mk (M t:Int) (p:Nat) (s:Int) (z_0:vs=[.int M,.int t,.int p,.int s]) (z_1:Om.bU p) (z_2:p<2097152) (z_3:0<M) (z_4:¬(p:Int)∣M) (z_5:Q (.int (Pm.jn M t p s)) H)
def Hi:Sp:=fun vs H Q E=>D6  vs H Q E
abbrev AZ(P w K mg base):=Cal P w K mg base "joined" 4 ["modulus","number","prime","rest"] Hi
inductive yg(vs:List V)(H:Hp)(Q:VK)(E:XK):Prop|mk (p:Nat) (a:Addr) (P:List Int) (z_0:vs=[.int p,.ref a]) (z_1:0<p) (z_2:H a=some (.tup (P.map V.int))) (z_3:P.length<=100) (z_4:yW H Q (Pm.trim (P.map (Rm.tk p))))
def zN:Sp:=fun vs H Q E=>yg  vs H Q E
abbrev qJ(P w K mg base):=Cal P w K mg base "taken_poly" 2 ["prime","poly"] zN
inductive C0(vs:List V)(H:Hp)(Q:VK)(E:XK):Prop|mk (m a:Addr) (M P:List Int) (z_0:vs=[.ref m,.ref a]) (z_1:H m=some (.tup (M.map V.int))) (z_2:H a=some (.tup (P.map V.int))) (z_3:M.length<=40) (z_4:P.length<=40) (z_5:Pm.Mon M) (z_6:(∀x∈M,Rm.Bd 124000 x)) (z_7:(∀x∈P,Rm.Bd 900000 x)) (z_8:∀b H',Same H H'->(b=true↔Pm.Dv 0 M (Pm.co P))->Q (.bl b) H')
def Dj:Sp:=fun vs H Q E=>C0  vs H Q E
abbrev wK(P w K mg base):=Cal P w K mg base "divides" 3 ["monic_one","poly"] Dj
inductive Tf(vs:List V)(H:Hp)(Q:VK)(E:XK):Prop|mk (a c:Addr) (P t g:List Int) (N:Int) (U V':Nat) (z_0:vs=[.ref a,.ref c]) (z_1:H a=some (.tup (P.map V.int))) (z_2:H c=some (.tup (t.map V.int))) (z_3:P.length<=40) (z_4:t.length<=40) (z_5:Pm.Mon P) (z_6:(∀x∈P,Rm.Bd 124000 x)) (z_7:(∀x∈t,Rm.Bd 900000 x)) (z_8:Pm.GcZ P (Pm.co t) g N) (z_9:Rm.Bd V' N) (WG:(∀k,Rm.Bd U (Pm.co g k))) (Yh:V'+U+57<=112100) (aaG:yW H Q g)
def Zc:Sp:=fun vs H Q E=>Tf  vs H Q E
theorem GR(p:Nat)(P:List Int)(k:Nat):Rm.tk (p:Int) (Pm.co (Pm.trim (P.map (Rm.tk p))) k)=Rm.tk p (Pm.co P k):=by
 rw[Pm.jo,Pm.qG (Pm.tk0 _),Rm.jO]
theorem Ks(p:Nat)(P:List Int):Pm.Py p (Pm.trim (P.map (Rm.tk p))):=Pm.Py.of fun x hx=>by
 obtain⟨y,_,rfl⟩:=List.mem_map.mp hx;exact Rm.jO ..
theorem D3(p:Nat)(P:List Int):(Pm.trim (P.map (Rm.tk p))).length<=P.length:=by
 have:=Pm.eX (P.map (Rm.tk p))
 rwa [List.length_map]at this
theorem Px{p:Nat}(hp:Om.bU p){P:List Int}(hP:Pm.Mon P):Pm.trim (P.map (Rm.tk p))≠[]:=fun z=>by
 have:=GR p P (P.length-1);rw[z,Pm.dY,hP.one,Pm.Eu hp,Pm.tk0]at this;exact absurd this (by decide)
theorem R4{P g told:List Int}{N M:Int}{prime bad good:Nat}{ripe:Bool}(I:Pm.WgI P g N told M prime ripe bad good)(bP:∀x∈P,Rm.Bd 124000 x)(h:bad+good<=5900):∀x∈told,Rm.Bd 124000 x:=fun x hx=>by
 by_cases c:M=1
 ·rw[I.first c]at hx;exact bP x hx
 ·obtain⟨k,hk,e⟩:=List.mem_iff_getElem.mp hx;have n:=I.near c k;rw[Pm.ux hk,e]at n;unfold Pm.Nr at n;have h1:=I.hi;have h2:(2:Int)^(21*(bad+good))<=2^123900:=by exact_mod_cast Nat.pow_le_pow_right (n:=2) (by decide) (show 21*(bad+good)<=123900 by omega)
  have h3:M<=2^123900:=Int.le_trans h1 h2;have hpos:=I.pos;refine(show Rm.Bd 123900 x from ?_).mono (by decide);generalize hB:(2:Int)^123900=B at h3;have h4:-B<x/\x<B:=by omega
  unfold Rm.Bd;have h5:(x.natAbs:Int)<((2^123900:Nat):Int):=by
   rw[Int.natCast_pow];show(x.natAbs:Int)<(2:Int)^123900;rw[hB];omega
  exact_mod_cast h5
def Ox(H:Hp)(a c:Addr)(P' g:List Int)(N:Int)(m:Nat)(σ':St)(H':Hp):Prop:=∃(o6 o7:Option V) (tt:Addr) (told:List Int) (M:Int) (prime:Nat) (ripe:Bool) (bad good:Nat),m=6000-(bad+good)/\σ'=[some (.ref a),some (.ref c),some (.ref tt),some (.int M),some (.int (prime:Int)),some (.bl ripe),o6,o7]/\Same H H'/\H' tt=some (.tup (told.map V.int))/\Pm.WgI P' g N told M prime ripe bad good/\Om.Many (6000-(bad+good)) prime/\1000000<=prime/\bad+good<=5900
abbrev j7(P w K mg base):=Cal P w K mg base "whole_greatest" 6 ["one","other"] Zc
inductive E1(vs:List V)(H:Hp)(Q:VK)(E:XK):Prop|mk (b:Int) (a:Addr) (c:List Int) (z_0:vs=[.int b,.ref a]) (z_1:0<=b) (z_2:H a=some (.tup (c.map V.int))) (z_3:c.length<=100) (z_4:yW H Q (Pm.aN b c))
def Jz:Sp:=fun vs H Q E=>E1  vs H Q E
abbrev xq(P w K mg base):=Cal P w K mg base "of_rule" 2 ["by","rule"] Jz
inductive DG(vs:List V)(H:Hp)(Q:VK)(E:XK):Prop|mk (b:Int) (a:Addr) (p:List Int) (z_0:vs=[.int b,.ref a]) (z_1:0<=b) (z_2:H a=some (.tup (p.map V.int))) (z_3:0<p.length) (z_4:p.length<=100) (z_5:yW H Q (Pm.gU b p))
def IK:Sp:=fun vs H Q E=>DG  vs H Q E
abbrev w6(P w K mg base):=Cal P w K mg base "rule_of" 2 ["by","poly"] IK
theorem yh{lo:Int}{n:Nat}{ix:List (Option Nat)}{te:TE}{σ:St}{H1:Hp}{Q:VK}(hz:n<=1000){rest:St}(hst:cst ix σ=none::rest)(f:Nat->Int)
  (he:∀H' k,Same H1 H'->k<n->∀kk:VK,kk (.int (f k)) H'->te (some (.int (lo+(k:Int)))::rest) H' kk)
  (hQ:∀D,H1 D=none->Q (.ref D) (upd H1 D (.lst ((Pm.ofF n f).map V.int)))):nU ix (mU 0) C2 te σ Q (Itr lo n) H1:=by
 refine jP jN (by rw[List.length_map,List.length_range];exact Nat.le_of_lt (bI hz)) hst (fun _=>true) (fun x=>match x with | .int k=> .int (f (k-lo).toNat)|_=> .non) ?_ ?_ ?_
 ·intro H2 x g2 hx k hk;exact hk
 ·intro H2 x g2 hx _ k hk;obtain⟨j,hj,rfl⟩:=List.mem_map.mp hx;have e1:(lo+(j:Int)-lo).toNat=j:=by omega
  refine he H2 j g2 (List.mem_range.mp hj) k ?_;have hk':k (V.int (f (lo+(j:Int)-lo).toNat)) H2:=hk
  rwa [e1]at hk'
 ·intro D hD;have el:((((List.range n).map fun i=>V.int (lo+(i:Nat))).filter fun _=>true).map fun x=>match x with | .int k=>V.int (f (k-lo).toNat)|_=>V.non)=(Pm.ofF n f).map V.int:=by
   rw[List.filter_eq_self.mpr (by simp),List.map_map,Pm.ofF,List.map_map];refine List.map_congr_left fun k _=>?_;show V.int (f (lo+(k:Int)-lo).toNat)=V.int (f k);rw[show(lo+(k:Int)-lo).toNat=k by omega]
  rw[el];exact hQ D hD
theorem zY:(Om.iM.all fun p=>(List.range 32).all fun d=>decide (d<2)||decide (p<d*d)||decide (p%d≠0))=true:=by decide +kernel
theorem CF{P:Nat}(h:P∈Om.iM):Om.bU P:=by
 have hr:=dW P h;refine Om.rM hr.1 fun d hd hdd hdv=>?_;have h32:d<32:=by
  by_cases c:d<32
  ·exact c
  ·have:32*32<=d*d:=Nat.mul_le_mul (by omega) (by omega);omega
 have:=List.all_eq_true.mp (List.all_eq_true.mp zY P h) d (List.mem_range.mpr h32);simp only[Bool.or_eq_true,decide_eq_true_eq]at this;have:=Nat.mod_eq_zero_of_dvd hdv;omega
def Gk(r:Rw):List Int:=Pm.trim (Pm.ofF r.rule.length fun k=>Rm.tk r.b (Pm.tp (Pm.aN r.b r.rule) r.at k))
theorem yQ(r:Rw)(k:Nat):Pm.co (Gk r) k=Rm.tk r.b (Pm.tp (Pm.aN r.b r.rule) r.at k):=by
 rw[Gk,Pm.jo,Pm.bV];by_cases c:k<r.rule.length
 ·rw[if_pos c]
 ·rw[if_neg c,Pm.B3 _ _ k (by rw[Pm.bB];omega),Pm.tk0]
theorem Jk(r:Rw):(Gk r).length<=r.rule.length:=by
 have:=Pm.eX (Pm.ofF r.rule.length fun k=>Rm.tk r.b (Pm.tp (Pm.aN r.b r.rule) r.at k))
 rwa [Pm.aP]at this
theorem mV.rQ{r:Rw}(ok:mV r):∀x∈Pm.aN r.b r.rule,Rm.Bd 60000 x:=Pm.oM ok.by0 ok.by1 (by decide) ok.f9
theorem Ln{r:Rw}(ok:mV r):∀x∈Gk r,Rm.Bd 900000 x:=fun x hx=>by
 obtain⟨k,_,rfl⟩:=Pm.lK (Pm.AK hx);refine Rm.xO ok.by0 ((Rm.Bd.of (n:=10) (by have:=ok.by0;omega) (by have:=ok.by1;omega)).mono (by decide)) ?_;have hs:=ok.short;have hl:=ok.len;unfold Pm.tp;rw[Pm.bB,Nat.add_sub_cancel];refine(Pm.HS (c:=70000) _ fun i hi=>?_).mono (by omega);refine(Rm.Bd.mul (m:=60000) (n:=10000) (Pm.pD ok.rQ _) ?_).mono (by omega);have e:r.at i=r.starts.getD i 0:=Rm.tX (by omega);rw[e];exact Rm.Bd.getD ok.jT _
inductive QD(vs:List V)(H:Hp)(Q:VK)(E:XK):Prop|mk (v:V) (r:Rw) (a:Addr) (z_0:vs=[v,.ref a]) (z_1:iU H v r) (z_2:mV r) (z_3:H a=some (.tup ((Pm.aN r.b r.rule).map V.int))) (z_4:yW H Q (Gk r))
def TV:Sp:=fun vs H Q E=>QD  vs H Q E
abbrev AX(P w K mg base):=Cal P w K mg base "top_of" 2 ["row","poly"] TV
inductive FD(vs:List V)(H:Hp)(Q:VK)(E:XK):Prop|mk (b:Int) (a c:Addr) (P t:List Int) (z_0:vs=[.int b,.ref a,.ref c]) (z_1:H a=some (.tup (P.map V.int))) (z_2:H c=some (.tup (t.map V.int))) (z_3:P.length<=40) (z_4:t.length<=40) (z_5:Pm.Mon P) (z_6:(∀x∈P,Rm.Bd 124000 x)) (z_7:(∀x∈t,Rm.Bd 900000 x)) (z_8:((b=0/\∃(g:List Int) (N:Int) (U V':Nat),Pm.GcZ P (Pm.co t) g N/\Rm.Bd V' N/\(∀k,Rm.Bd U (Pm.co g k))/\V'+U+57<=112100/\yW H Q g)∨
 (∃p:Nat,b=(p:Int)/\Om.bU p/\p<2097152/\Pm.Py p P/\Pm.Py p t/\QF H Q p P t)))
def HL:Sp:=fun vs H Q E=>FD  vs H Q E
abbrev kj(P w K mg base):=Cal P w K mg base "shared_divisor" 7 ["by","one","other"] HL
structure cG(b:Int)(f:Nat->Int)(L:List Int):Prop where
 mon:Pm.Mon L
 nu:∀k,Rm.tk b (Pm.co L k)=Pm.co L k
 kp:Pm.Kp b L f
 all:∀q,Pm.Kp b q f->Pm.Dv b L (Pm.co q)
def Tame(r:Rw):Prop:=r.b=0->∃d ua u:Nat,10<=u/\(∀x∈r.rule,Rm.Bd u x)/\(∃Q0,Pm.Mon Q0/\Pm.Kp 0 Q0 r.at/\Q0.length<=d+1)/\(∀n,n<=2*d->Rm.Bd ua (r.at n))/\d*(ua+d)+1+(u+400)+57<=112100
theorem mV.kp{r:Rw}(ok:mV r):Pm.Kp r.b (Pm.aN r.b r.rule) r.at:=Pm.Kp.aN (Pm.Kd ok.len)
theorem JM{b:Int}{L:List Int}(h:Pm.Mon L)(hn:∀k,Rm.tk b (Pm.co L k)=Pm.co L k):Pm.Py b L:=⟨Pm.gH (fun z=>by have:=h.pos;rw[z]at this;exact absurd this (by decide)) (by rw[h.one];decide),fun x hx=>by
 obtain⟨k,hk,e⟩:=List.mem_iff_getElem.mp hx;have:=hn k
 rwa [Pm.ux hk,e]at this⟩
theorem wN(b:Int)(c:List Int)(h1:Rm.tk b 1=1)(k:Nat):Rm.tk b (Pm.co (Pm.aN b c) k)=Pm.co (Pm.aN b c) k:=by
 have h:∀x∈Pm.aN b c,Rm.tk b x=x:=fun x hx=>by
  rcases List.mem_append.mp hx with hx|hx
  ·obtain⟨j,_,e⟩:=Pm.lK hx;rw[e,Rm.jO]
  ·rw[List.mem_singleton.mp hx,h1]
 by_cases hk:k<(Pm.aN b c).length
 ·exact h _ (Pm.yu hk)
 ·rw[Pm.bD (by omega),Pm.tk0]
theorem Hg{p:Nat}(hp:Om.bU p){r:Rw}(ok:mV r)(hb:r.b=(p:Int)){g L o:List Int}(hG:Pm.Gcd p (Pm.aN r.b r.rule) (Gk r) g)(D:Pm.Div p (Pm.aN r.b r.rule) g o L):cG r.b r.at o/\o.length<=r.rule.length+1:=by
 have h1:=Pm.Eu hp;have hm:=Pm.eY r.b r.rule;have hd:Pm.Dv p g (Pm.co (Pm.aN r.b r.rule)):=hG.one.to fun _=>rfl;obtain⟨L',hL',hn',hl',e'⟩:=Pm.oJ h1 hm hG.mon hd;have D':Pm.Div p (Pm.aN r.b r.rule) g L' []:=⟨JM hL' hn',Pm.Py.nil _,hG.mon.pos,fun k=>by rw[Pm.dY,Int.add_zero];exact(e' k).symm⟩;obtain⟨eo,_⟩:=D.uniq hG.mon D';subst eo;have W:Pm.Wf p (Pm.aN p r.rule) (Pm.tp (Pm.aN p r.rule) r.at) g:=by
  rw[<-hb];refine⟨hG.mon,by rw[hb];rw[hb]at hd;exact hd,?_,?_⟩
  ·rw[hb];refine(hG.two.to (q:=Gk r) fun _=>rfl).congr fun k=>?_;rw[yQ,hb,Rm.jO]
  ·obtain⟨u,v,e⟩:=hG.sum;refine⟨1,Pm.co u,Pm.co v,u.length+v.length,by rw[hb,h1];decide,(Pm.Fs.co u).mono (by omega),(Pm.Fs.co v).mono (by omega),fun k=>?_⟩;rw[Int.one_mul,hb];rw[hb]at e;rw[e k];refine Rm.aR rfl (Pm.iY (fun _ _=>rfl) fun i _=>?_);rw[yQ,hb,Rm.jO]
 have ha:∀n,r.rule.length<=n->Rm.tk (p:Int) (r.at n)=Rm.tk p (Rm.S r.rule r.at n r.rule.length):=by
  rw[<-hb];exact Pm.Kd ok.len
 have K:=W.keeps (Dm.Dom.pr hp) ha hL' (by rw[<-hb];rw[<-hb]at e';exact e');refine⟨⟨hL',by rw[hb];exact hn',?_,fun q hq=>?_⟩,?_⟩
 ·rw[hb];refine(K o).mpr ⟨fun k=>if k=0 then 1 else 0,1,fun k hk=>if_neg (by omega),fun k=>?_⟩;rw[Pm.nY,if_pos (Nat.zero_le _),Int.one_mul,Nat.sub_zero]
 ·rw[hb]at hq ⊢;exact(K q).mp hq
 ·have:=hG.mon.pos;rw[Pm.bB]at hl';omega
inductive HN(vs:List V)(H:Hp)(Q:VK)(E:XK):Prop|mk (v:V) (r:Rw) (z_0:vs=[v]) (z_1:iU H v r) (z_2:mV r) (z_3:ByP r.b) (z_4:Tame r) (z_5:∀t L H',Same H H'->H' t=some (.tup (List.map V.int L))->cG r.b r.at L->L.length<=r.rule.length+1->Q (.ref t) H')
def Mv:Sp:=fun vs H Q E=>HN  vs H Q E
abbrev uM(P w K mg base):=Cal P w K mg base "least_of" 8 ["row"] Mv
def gQ(r:Rw)(L:List Int):Rw:=⟨r.b,Pm.gU r.b L,r.starts.take (L.length-1)⟩
inductive Jf(vs:List V)(H:Hp)(Q:VK)(E:XK):Prop|mk (v:V) (r:Rw) (z_0:vs=[v]) (z_1:iU H v r) (z_2:mV r) (z_3:ByP r.b) (z_4:Tame r) (z_5:∀v' L H',Same H H'->iU H' v' (gQ r L)->cG r.b r.at L->L.length<=r.rule.length+1->Q v' H')
def KW:Sp:=fun vs H Q E=>Jf  vs H Q E
abbrev oX(P w K mg base):=Cal P w K mg base "shortest" 9 ["row"] KW
theorem xY{n:Nat}{ix:List (Option Nat)}{te:TE}{σ:St}{H1:Hp}{Q:VK}(hz:n<=1000){rest:St}(hst:cst ix σ=none::rest)(P:Int->Prop)
  (he:∀H' k,Same H1 H'->k<n->∀kk:VK,(∀x H2,Same H' H2->P x->kk (.int x) H2)->te (some (.int (0+(k:Int)))::rest) H' kk)
  (hQ:∀D H' xs,H1 D=none->Same H1 H'->H' D=some (.lst (List.map V.int xs))->xs.length=n->(∀x∈xs,P x)->Q (.ref D) H'):nU ix (mU 0) C2 te σ Q (Itr 0 n) H1:=by
 have I:ItS (Itr 0 n) ((List.range n).map fun i=>V.int (0+(i:Nat))) H1:=jN;have lI:((List.range n).map fun i=>V.int (0+(i:Nat))).length=n:=by rw[List.length_map,List.length_range]
 constructor;intro D hD;refine⟨fun i m σ' H'=>m=n-i/\i<=n/\(∃o,σ'=o::rest)/\Same H1 H'/\∃xs:List Int,H' D=some (.lst (xs.map V.int))/\xs.length=i/\∀x∈xs,P x,⟨n,rfl,Nat.zero_le _,⟨none,hst⟩,Same.new hD _,[],aA,rfl,fun _ h=>nomatch h⟩,?_⟩;rintro i m σ' H' ⟨rfl,hi,⟨o,rfl⟩,g,xs,hl,lx,hP⟩;by_cases hlt:i<n
 ·refine .inr ⟨I.go i _ g (by rw[lI];exact hlt),fun x H2 y=>?_⟩;obtain⟨rfl,hx⟩:=I.yld i _ x H2 g y;have hx:=hx (by rw[lI];exact hlt);rw[List.getElem?_map,List.getElem?_range hlt]at hx;cases hx;change te (some (.int (0+(i:Int)))::rest) H2 _;refine he H2 i g hlt _ fun x H3 g3 hx=>⟨_,g3 _ _ hl,by rw[List.length_map,lx];exact bI (by omega),n-(i+1),by omega,rfl,hlt,⟨_,rfl⟩,Same.upd (g.trans g3) hD _,xs++[x],?_,by rw[List.length_append,lx];rfl,fun z hz=>?_⟩
  ·rw[aA,wj]
  ·rcases List.mem_append.mp hz with hz|hz
   ·exact hP z hz
   ·rw[List.mem_singleton.mp hz];exact hx
 ·have e:i=n:=by omega
  subst e;exact .inl ⟨I.stop _ _ g (by rw[lI];exact Nat.le_refl _),hQ D H' xs hD g hl lx hP⟩
theorem IY{ns:List Int}{k:Int}(j:Nat)(h0:k<0)(e:k+(ns.length:Int)=(j:Int)):atI (ns.map V.int) k=some (.int (ns.getD j 0)):=by
 have hj:j<ns.length:=by omega
 unfold atI ixN;rw[List.length_map,if_neg (by omega),if_pos (by omega),show(k+(ns.length:Int)).toNat=j by omega];show(ns.map V.int)[j]?=_;rw[List.getElem?_map,List.getElem?_eq_getElem hj,List.getD_eq_getElem?_getD,List.getElem?_eq_getElem hj];rfl
theorem Kw{x:Int}{n:Nat}(h:Rm.Bd n x):∀k:Nat,Rm.Bd (n*k+1) (x^k)
 |0=>by rw[Int.pow_zero,Nat.mul_zero];exact Rm.Bd.of (by decide) (by decide)
 |k+1=>by
  rw[Int.pow_succ];exact((Kw h k).mul h).mono (by rw[Nat.mul_succ];omega)
def byF:List Int:=[0,0,0,2,3,5,7,11,101,997]
structure ByF(b:Int):Prop where
 lo:0<=b
 hi:b<1000
 one:Rm.tk b 1=1
 p:ByP b
theorem SG:∀k<10,byF.getD k 0=0∨((byF.getD k 0).toNat∈Om.iM/\byF.getD k 0=((byF.getD k 0).toNat:Int)):=by decide +kernel
theorem FN:∀k<10,0<=byF.getD k 0/\byF.getD k 0<1000/\Rm.tk (byF.getD k 0) 1=1:=by decide
theorem Qv{k:Nat}(h:k<10):ByF (byF.getD k 0):=⟨(FN k h).1,(FN k h).2.1,(FN k h).2.2,(SG k h).imp id fun z=>⟨_,z⟩⟩
theorem qD{b:Int}(hb:0<=b)(x:Int):jD b (Rm.tk b x):=by
 by_cases h:b=0
 ·exact .inl h
 ·rw[Rm.fu h];exact .inr ⟨dO _ (by omega),dZ _ (by omega)⟩
theorem m5{b x:Int}{n:Nat}(hb:ByF b)(hn:10<=n)(h:Rm.Bd n x):Rm.Bd n (Rm.tk b x):=
 Rm.xO hb.lo ((Rm.Bd.of (n:=10) (by have:=hb.lo;omega) (by have:=hb.hi;omega)).mono hn) h
theorem W5{rule:List Int}{f:Nat->Int}{n a c:Nat}(hr:∀k,Rm.Bd a (rule.getD k 0)):∀m:Nat,m<=16->(∀k,k<m->Rm.Bd c (f (n-1-k)))->Rm.Bd (a+c+4) (Rm.S rule f n m):=fun m hm h=>by
 have key:∀m,(∀k,k<m->Rm.Bd c (f (n-1-k)))->(Rm.S rule f n m).natAbs<=m*2^(a+c):=fun m=>by
  induction m with
  |zero=>intro _;exact Nat.zero_le _
  |succ m ih=>
   intro h;unfold Rm.S;have h1:=ih fun k hk=>h k (by omega);have h2:(rule.getD m 0*f (n-1-m)).natAbs<2^(a+c):=(hr m).mul (h m (by omega));have h3:=Int.natAbs_add_le (Rm.S rule f n m) (rule.getD m 0*f (n-1-m));rw[Nat.succ_mul];omega
 have k1:=key m h;have k2:m*2^(a+c)<=16*2^(a+c):=Nat.mul_le_mul_right _ hm;show(Rm.S rule f n m).natAbs<2^(a+c+4);by_cases h0:m=0
 ·rw[h0];exact Nat.pow_pos (by decide)
 ·have k3:(Rm.S rule f n m).natAbs<16*2^(a+c):=by
   obtain⟨m',rfl⟩:∃m',m=m'+1:=⟨m-1,by omega⟩;have q1:=key m' fun k hk=>h k (by omega);unfold Rm.S;have h2:(rule.getD m' 0*f (n-1-m')).natAbs<2^(a+c):=(hr m').mul (h m' (by omega));have h3:=Int.natAbs_add_le (Rm.S rule f n m') (rule.getD m' 0*f (n-1-m'));have q2:m'*2^(a+c)<=15*2^(a+c):=Nat.mul_le_mul_right _ (by omega);omega
  rw[Nat.pow_add];have:(2:Nat)^4=16:=by decide
  omega
theorem QL{b:Int}{rule starts:List Int}{a c:Nat}(hl:rule.length=starts.length)(h16:rule.length<=16)(hb:0<=b)(hb':Rm.Bd c b)(hr:∀x∈rule,Rm.Bd a x)(hs:∀x∈starts,Rm.Bd c x):
  ∀n,Rm.Bd (c+n*(a+4)) (Rm.at_ b rule starts n):=by
 intro n;induction n using Nat.strongRecOn with
 |ind n ih=>
  by_cases h:n<starts.length
  ·rw[Rm.tX h];exact(Rm.Bd.getD hs n).mono (by omega)
  ·rw[Rm.uw hl (by omega)];by_cases h0:rule.length=0
   ·rw[h0];exact Rm.xO hb (hb'.mono (by omega)) (.zero _)
   ·have hn:0<n:=by omega
    have q:=W5 (rule:=rule) (f:=Rm.at_ b rule starts) (n:=n) (a:=a) (c:=c+(n-1)*(a+4)) (fun k=>Rm.Bd.getD hr k) rule.length h16 fun k hk=>by
     refine(ih (n-1-k) (by omega)).mono ?_;have:(n-1-k)*(a+4)<=(n-1)*(a+4):=Nat.mul_le_mul_right _ (by omega);omega
    have e:n*(a+4)=(n-1)*(a+4)+(a+4):=by
     obtain⟨m,rfl⟩:∃m,n=m+1:=⟨n-1,by omega⟩;rw[Nat.add_sub_cancel,Nat.succ_mul]
    exact Rm.xO hb (hb'.mono (by omega)) (q.mono (by omega))
theorem G4{b x:Int}(h:jD b x):Rm.tk b x=x:=by
 rcases h with rfl|⟨h1,h2⟩
 ·exact Rm.aW x
 ·rw[Rm.fu (by omega)];exact Int.emod_eq_of_lt h1 h2
theorem Ey{b x:Int}{n:Nat}(hb:ByF b)(hn:10<=n)(h0:b≠0)(h:jD b x):Rm.Bd n x:=by
 have:=hb.hi;rcases h with z|z
 ·exact absurd z h0
 ·exact(Rm.Bd.of (n:=10) (by omega) (by omega)).mono hn
structure Bs(b:Int)(m:Nat)(r:Rw):Prop where
 by_:r.b=b
 len:r.rule.length=r.starts.length
 short:r.rule.length<=m
 m12:m<=12
 nM:∀x∈r.rule,jD b x
 iT:∀x∈r.starts,jD b x
 f9:∀x∈r.rule,Rm.Bd 13 x
 jT:∀x∈r.starts,Rm.Bd 31 x
theorem Bs.Gh{b:Int}{m:Nat}{r:Rw}(hb:ByF b)(h:Bs b m r)(n:Nat):Rm.Bd (31+n*17) (r.at n):=by
 have e:=h.by_;have:=h.short;have:=h.m12;have:=hb.lo;have:=hb.hi;exact QL h.len (by omega) (by rw[e];exact hb.lo) (Rm.Bd.of (by omega) (by omega)) h.f9 h.jT n
theorem Bs.Az{b:Int}{m:Nat}{r:Rw}(hb:ByF b)(h:Bs b m r)(n:Nat):jD b (r.at n):=by
 by_cases z:b=0
 ·exact .inl z
 ·have e:=h.by_;have h0:=hb.lo;have:=Rm.Bp (b:=r.b) (rule:=r.rule) (starts:=r.starts) h.len (by omega) (fun x hx=>?_) n
  ·rw[e]at this;exact .inr (by have q:r.at n=Rm.at_ b r.rule r.starts n:=(by rw[<-e];rfl);rw[q];exact this)
  ·rcases h.iT x hx with y|y
   ·exact absurd y z
   ·rw[e];exact y
def uS(s:Nat):Nat:=13+12*s
structure RwS(b:Int)(r0:Rw)(s:Nat)(r:Rw):Prop where
 by_:r.b=b
 len:r.rule.length=r.starts.length
 short:r.rule.length<=12
 nM:∀x∈r.rule,jD b x
 f9:∀x∈r.rule,Rm.Bd (uS s) x
 same:∀n,r.at n=r0.at n
theorem RwS.up{b:Int}{r0:Rw}{s:Nat}{r:Rw}(h:RwS b r0 s r):RwS b r0 (s+1) r:=
 ⟨h.by_,h.len,h.short,h.nM,fun x hx=>(h.f9 x hx).mono (by unfold uS;omega),h.same⟩
theorem RwS.starts{b:Int}{r0:Rw}{s:Nat}{r:Rw}(h:RwS b r0 s r){x:Int}(hx:x∈r.starts):∃k,k<r.starts.length/\x=r0.at k:=by
 obtain⟨k,hk,e⟩:=List.mem_iff_getElem.mp hx;refine⟨k,hk,?_⟩;have e1:r.at k=r.starts.getD k 0:=Rm.tX hk;rw[<-h.same k,e1,List.getD_eq_getElem?_getD,List.getElem?_eq_getElem hk,<-e];rfl
theorem RwS.ok{b:Int}(hb:ByF b){m:Nat}{r0 r:Rw}{s:Nat}(h0:Bs b m r0)(h:RwS b r0 s r)(hs:s<=3):mV r:=by
 have e:=h.by_;have h12:=h.short;have hl:=h.len;refine⟨h.len,by omega,by rw[e];exact hb.lo,by rw[e];exact hb.hi,by rw[e];exact h.nM,fun x hx=>?_,fun x hx=>(h.f9 x hx).mono (by unfold uS;omega),fun x hx=>?_⟩
 ·obtain⟨k,_,rfl⟩:=h.starts hx;rw[e];exact h0.Az hb k
 ·obtain⟨k,hk,rfl⟩:=h.starts hx;exact(h0.Gh hb k).mono (by have:k*17<=12*17:=Nat.mul_le_mul_right _ (by omega);omega)
def Cv(n:Int)(rule:List Int)(i k:Nat):Int:=(if k=0 then n else if k<=i then -(n*Pm.co rule (k-1))else 0)+(if k<i then Pm.co rule k else 0)
def dj(n:Int)(rule:List Int)(i:Nat):List Int:=Pm.ofF (rule.length+1) fun k=>Cv n rule i k
theorem bY(n:Int)(rule:List Int)(i:Nat):(dj n rule i).length=rule.length+1:=Pm.aP ..
theorem mJ{n:Int}{rule:List Int}{i k:Nat}(h:k<rule.length+1):Pm.co (dj n rule i) k=Cv n rule i k:=by rw[dj,Pm.bV,if_pos h]
theorem CJ(n:Int)(rule:List Int):dj n rule 0=[n]++Pm.ofF rule.length fun _=>0:=by
 refine Pm.oA (by rw[bY,List.length_append,Pm.aP];simp;omega) fun k=>?_;by_cases h:k<rule.length+1
 ·rw[mJ h,Pm.bZ,Pm.bV];unfold Cv;rw[if_neg (Nat.not_lt_zero _),Int.add_zero];by_cases c:k=0
  ·rw[if_pos c,if_pos (by simp;omega),c];rfl
  ·rw[if_neg c,if_neg (by omega),if_neg (by simp;omega)];split<;>rfl
 ·rw[Pm.bD (by rw[bY];omega),Pm.bD (by rw[List.length_append,Pm.aP];simp;omega)]
theorem CP{n:Int}{rule:List Int}{i:Nat}(hi:i<rule.length):
  ((dj n rule i).set i (Pm.co (dj n rule i) i+Pm.co rule i)).set (i+1) (Pm.co ((dj n rule i).set i (Pm.co (dj n rule i) i+Pm.co rule i)) (i+1)-n*Pm.co rule i)=dj n rule (i+1):=by
 refine Pm.oA (by rw[List.length_set,List.length_set,bY,bY]) fun k=>?_;rw[Pm.sS _ _ _ _ (by rw[List.length_set,bY];omega),Pm.sS _ _ _ _ (by rw[bY];omega),Pm.sS _ _ _ _ (by rw[bY];omega)];by_cases h:k<rule.length+1
 ·rw[mJ h,mJ (by omega),mJ (by omega),mJ h,if_neg (by omega:¬i+1=i)];unfold Cv;by_cases c:k=i+1
  ·rw[if_pos c,if_neg (by omega),if_neg (by omega),if_neg (by omega),if_neg (by omega),if_pos (by omega),if_neg (by omega),c,Nat.add_sub_cancel];omega
  ·rw[if_neg c];by_cases d:k=i
   ·rw[if_pos d,d,if_neg (Nat.lt_irrefl i),if_pos (by omega:i<i+1)];by_cases z:i=0
    ·rw[if_pos z,if_pos z];omega
    ·rw[if_neg z,if_neg z,if_pos (by omega),if_pos (by omega)];omega
   ·rw[if_neg d];by_cases z:k=0
    ·rw[if_pos z,if_pos z];by_cases y:k<i
     ·rw[if_pos y,if_pos (by omega)]
     ·rw[if_neg y,if_neg (by omega)]
    ·rw[if_neg z,if_neg z];by_cases y:k<i
     ·rw[if_pos (by omega:k<=i),if_pos y,if_pos (by omega:k<=i+1),if_pos (by omega:k<i+1)]
     ·rw[if_neg (by omega:¬k<=i),if_neg y,if_neg (by omega:¬k<=i+1),if_neg (by omega:¬k<i+1)]
 ·rw[if_neg (by omega),if_neg (by omega),Pm.bD (by rw[bY];omega),Pm.bD (by rw[bY];omega)]
theorem HC{n:Int}{rule:List Int}{u:Nat}(hu:10<=u)(hn:Rm.Bd 10 n)(h:∀x∈rule,Rm.Bd u x)(i:Nat):∀x∈dj n rule i,Rm.Bd (u+12) x:=fun x hx=>by
 obtain⟨k,_,rfl⟩:=Pm.lK hx;unfold Cv;refine(Rm.Bd.add (n:=u+11) ?_ ?_).mono (by omega)
 ·split
  ·exact hn.mono (by omega)
  ·split
   ·have:=(hn.mul (Pm.pD h (k-1))).mono (show 10+u<=u+11 by omega);unfold Rm.Bd at this⊢;rw[Int.natAbs_neg];exact this
   ·exact Rm.Bd.zero _
 ·split
  ·exact(Pm.pD h k).mono (by omega)
  ·exact Rm.Bd.zero _
def pZ(b n:Int)(rule:List Int):List Int:=Pm.ofF (rule.length+1) fun k=>Rm.tk b (0-((if k<rule.length then 0-Pm.co rule k else 0)-n*(if k=0 then 1 else 0-Pm.co rule (k-1))))
theorem jW(b n:Int)(rule:List Int):(pZ b n rule).length=rule.length+1:=Pm.aP ..
theorem CT{b n:Int}{r:Rw}(hl:r.rule.length=r.starts.length)(hs:∀x∈r.starts,jD b x)(hb:r.b=b)(m:Nat):Rm.at_ b (pZ b n r.rule) (r.row (r.rule.length+1)) m=r.at m:=by
 have e0:∀i,i<r.rule.length+1->(r.row (r.rule.length+1)).getD i 0=r.at i:=fun i hi=>Rm.vO _ _ _ hi;refine Rm.vU (by rw[jW,Rw.dU]) (g:=r.at) (fun i hi=>?_) (fun i hi=>?_) m
 ·rw[Rw.dU]at hi;exact(e0 i hi).symm
 ·rw[Rw.dU]at hi;have h1:r.at i=Rm.tk b (Rm.S r.rule r.at i r.rule.length):=by rw[<-hb];exact Rm.uw hl (by omega)
  rw[jW,h1,Pm.C7,Pm.C7];have e1:Rm.tk b (Pm.sm (r.rule.length+1) fun k=>Pm.co (pZ b n r.rule) k*r.at (i-1-k))=Rm.tk b (Pm.sm (r.rule.length+1) fun k=>(if k<r.rule.length then Pm.co r.rule k*r.at (i-1-k)else 0)+n*(if k=0 then r.at (i-1)else -(Pm.co r.rule (k-1)*r.at (i-1-k)))):=Pm.jq fun k hk=>by
   rw[pZ,Pm.bV,if_pos hk,Rm.cH];refine congrArg (Rm.tk b) ?_;by_cases c:k=0
   ·rw[if_pos c,if_pos c,c];by_cases d:0<r.rule.length
    ·rw[if_pos d,if_pos d,Nat.sub_zero,Int.mul_one,show(0-(0-Pm.co r.rule 0-n))=Pm.co r.rule 0+n by omega,Int.add_mul]
    ·rw[if_neg d,if_neg d,Nat.sub_zero,Int.mul_one,show(0-(0-n))=n by omega,Int.zero_add]
   ·rw[if_neg c,if_neg c];by_cases d:k<r.rule.length
    ·rw[if_pos d,if_pos d,Int.sub_mul,Int.sub_mul,Int.mul_assoc,Int.sub_mul,Int.sub_mul,Int.mul_sub,Int.mul_neg];omega
    ·rw[if_neg d,if_neg d,Int.sub_mul,Int.sub_mul,Int.mul_assoc,Int.sub_mul,Int.mul_sub,Int.mul_neg];omega
  rw[e1,Pm.cP,Pm.bf];have e2:Pm.sm (r.rule.length+1) (fun k=>if k<r.rule.length then Pm.co r.rule k*r.at (i-1-k)else 0)=Pm.sm r.rule.length fun k=>Pm.co r.rule k*r.at (i-1-k):=by
   rw[Pm.sm,if_neg (Nat.lt_irrefl _),Int.add_zero];exact Pm.au fun k hk=>if_pos hk
  have e3:Pm.sm (r.rule.length+1) (fun k=>if k=0 then r.at (i-1)else -(Pm.co r.rule (k-1)*r.at (i-1-k)))=r.at (i-1) + -1*Pm.sm r.rule.length fun k=>Pm.co r.rule k*r.at (i-1-1-k):=by
   rw[Pm.dw,if_pos rfl,<-Pm.bf];congr 1;refine Pm.au fun k _=>?_;rw[if_neg (by omega),Nat.add_sub_cancel,show i-1-(k+1)=i-1-1-k by omega];omega
  rw[e2,e3];have z:Rm.tk b (r.at (i-1) + -1*Pm.sm r.rule.length fun k=>Pm.co r.rule k*r.at (i-1-1-k))=0:=by
   have h2:r.at (i-1)=Rm.tk b (Rm.S r.rule r.at (i-1) r.rule.length):=by rw[<-hb];exact Rm.uw hl (by omega)
   rw[h2,Pm.C7,Rm.cC,show ∀x:Int,x + -1*x=0 from fun x=>by omega,Pm.tk0]
  rw[<-Rm.gZ,<-Rm.aZ,z,Int.mul_zero,Pm.tk0,Int.add_zero]
theorem wF(b n:Int)(rule:List Int):(dj n rule rule.length).map (Rm.tk b)=pZ b n rule:=by
 refine Pm.oA (by rw[List.length_map,bY,jW]) fun k=>?_;by_cases hk:k<rule.length+1
 ·rw[Pm.qG (Pm.tk0 b),mJ hk,pZ,Pm.bV,if_pos hk];refine congrArg (Rm.tk b) ?_;unfold Cv;by_cases c:k=0
  ·rw[if_pos c,if_pos c,Int.mul_one];split<;>omega
  ·rw[if_neg c,if_neg c,if_pos (by omega),Int.mul_sub,Int.mul_zero];split<;>omega
 ·rw[Pm.bD (by rw[List.length_map,bY];omega),Pm.bD (by rw[jW];omega)]
theorem RwS.longer{b:Int}{m:Nat}{r0:Rw}{s:Nat}{r:Rw}(hb:ByF b)(h0:Bs b m r0)(h:RwS b r0 s r)(hs3:s<=3)(hs:r.rule.length<12){n:Int}(hn:Rm.Bd 10 n):
  RwS b r0 (s+1) ⟨b,(dj n r.rule r.rule.length).map (Rm.tk b),r.row (r.rule.length+1)⟩:=by
 have e:=h.by_;have ok:=h.ok hb h0 hs3;refine⟨rfl,?_,?_,fun x hx=>?_,fun x hx=>?_,fun k=>?_⟩
 ·show((dj n r.rule r.rule.length).map (Rm.tk b)).length=(r.row (r.rule.length+1)).length;rw[List.length_map,bY,Rw.dU]
 ·show((dj n r.rule r.rule.length).map (Rm.tk b)).length<=12;rw[List.length_map,bY];omega
 ·obtain⟨y,_,rfl⟩:=List.mem_map.mp hx;exact qD hb.lo y
 ·obtain⟨y,hy,rfl⟩:=List.mem_map.mp hx;exact m5 hb (by unfold uS;omega) ((HC (by unfold uS;omega) hn h.f9 _ y hy).mono (by unfold uS;omega))
 ·have:=CT (b:=b) (n:=n) (r:=r) h.len (fun x hx=>by have:=ok.iT x hx;rw[e]at this;exact this) e k;rw[<-h.same k,<-this];show Rm.at_ b ((dj n r.rule r.rule.length).map (Rm.tk b)) _ k=_;rw[wF]
theorem Hr{J:It}{xs:List V}{ix:List (Option Nat)}{te:TE}{σ:St}{H1:Hp}{Q:VK}(I:ItS J xs H1)(hz:xs.length<=sizeLine){rest:St}(hst:cst ix σ=none::rest)(F:V->V)
  (he:∀(H':Hp) (x:V),Same H1 H'->x∈xs->∀k:VK,(∀H2,Same H' H2->k (F x) H2)->te (some x::rest) H' k)
  (hQ:∀D H',H1 D=none->Same H1 H'->H' D=some (.lst (xs.map F))->Q (.ref D) H'):
  nU ix (mU 0) C2 te σ Q J H1:=by
 constructor;intro D hD;refine⟨fun i m σ' H'=>m=xs.length-i/\i<=xs.length/\(∃o,σ'=o::rest)/\Same H1 H'/\H' D=some (.lst ((xs.take i).map F)),⟨xs.length,by simp,Nat.zero_le _,⟨none,hst⟩,Same.new hD _,by rw[aA];rfl⟩,?_⟩;rintro i m σ' H' ⟨rfl,hi,⟨o,rfl⟩,g,hl⟩;by_cases hlt:i<xs.length
 ·refine .inr ⟨I.go i _ g hlt,fun x H2 y=>?_⟩;obtain⟨rfl,hx⟩:=I.yld i _ x H2 g y;have hx:=hx hlt;have hm:x∈xs:=List.mem_of_getElem? hx;have et:xs.take (i+1)=xs.take i++[x]:=by rw[List.take_add_one,hx];rfl
  change te (some x::rest) H2 _;refine he H2 x g hm _ fun H3 g3=>⟨_,g3 _ _ hl,by rw[List.length_map,List.length_take];omega,xs.length-(i+1),by omega,rfl,hlt,⟨_,rfl⟩,Same.upd (g.trans g3) hD _,?_⟩;rw[aA,et,List.map_append];rfl
 ·have e:i=xs.length:=by omega
  subst e;rw[List.take_length]at hl;exact .inl ⟨I.stop _ _ g (Nat.le_refl _),hQ D H' hD g hl⟩
def JR(n m:Nat)(f:Nat->Nat->Int):List (List Int):=(List.range m).map fun i=>Pm.ofF n (f i)
theorem Iu(n m:Nat)(f:Nat->Nat->Int):(JR n m f).length=m:=by rw[JR,List.length_map,List.length_range]
theorem DL{n m:Nat}{f:Nat->Nat->Int}{i:Nat}(h:i<m):Dm.ln (JR n m f) i=Pm.ofF n (f i):=by
 unfold Dm.ln JR;rw[List.getD_eq_getElem?_getD,List.getElem?_map,List.getElem?_range h];rfl
theorem M6{n m:Nat}{f:Nat->Nat->Int}{i k:Nat}(h:i<m)(hk:k<n):Pm.co (Dm.ln (JR n m f) i) k=f i k:=by rw[DL h,Pm.bV,if_pos hk]
theorem B5{J:It}{xs:List V}{ix:List (Option Nat)}{te:TE}{σ:St}{H1:Hp}{Q:VK}(I:ItS J xs H1)(hz:xs.length<=1000){rest:St}(hst:cst ix σ=none::rest)(G:V->List Int)
  (he:∀(H':Hp) (x:V),Same H1 H'->x∈xs->∀k:VK,(∀t' H2,Same H' H2->H' t'=none->H2 t'=some (.lst ((G x).map V.int))->k (.ref t') H2)->te (some x::rest) H' k)
  (hQ:∀D ys H',H1 D=none->Same H1 H'->H' D=some (.lst ys)->Lns H' [D] ys (xs.map G)->Q (.ref D) H'):
  nU ix (mU 0) C2 te σ Q J H1:=by
 constructor;intro D hD;refine⟨fun i m σ' H'=>m=xs.length-i/\i<=xs.length/\(∃o,σ'=o::rest)/\Same H1 H'/\∃ys,H' D=some (.lst ys)/\Lns H' [D] ys ((xs.take i).map G),⟨xs.length,by simp,Nat.zero_le _,⟨none,hst⟩,Same.new hD _,[],aA,.nil⟩,?_⟩;rintro i m σ' H' ⟨rfl,hi,⟨o,rfl⟩,g,ys,hl,hy⟩;by_cases hlt:i<xs.length
 ·refine .inr ⟨I.go i _ g hlt,fun x H2 y=>?_⟩;obtain⟨rfl,hx⟩:=I.yld i _ x H2 g y;have hx:=hx hlt;have hm:x∈xs:=List.mem_of_getElem? hx;have et:xs.take (i+1)=xs.take i++[x]:=by rw[List.take_add_one,hx];rfl
  change te (some x::rest) H2 _;refine he H2 x g hm _ fun t' H3 g3 hn h3=>⟨ys,g3 _ _ hl,?_,xs.length-(i+1),by omega,rfl,hlt,⟨_,rfl⟩,Same.upd (g.trans g3) hD _,ys++[.ref t'],aA,?_⟩
  ·have:=hy.len;rw[List.length_map,List.length_take]at this;have:=bI hz;omega
  ·have tD:t'∉[D]:=fun z=>by
    rw[List.mem_singleton.mp z,hl]at hn;cases hn
   rw[et,List.map_append];exact(Lns.append tD h3 (hy.same g3)).keep (List.mem_singleton.mpr rfl) (Keep.upd D H3 _)
 ·have e:i=xs.length:=by omega
  subst e;rw[List.take_length]at hy;exact .inl ⟨I.stop _ _ g (Nat.le_refl _),hQ D ys H' hD g hl hy⟩
def NV(f:Nat->List Int):V->List Int
 |.int k=>f k.toNat
 |_=>[]
theorem vV(N:Nat)(f:Nat->Nat->Int):(((List.range N).map fun i=>V.int (0+(i:Nat))).map (NV fun i=>Pm.ofF N (f i)))=JR N N f:=by
 rw[JR,List.map_map];refine List.map_congr_left fun i _=>?_;show Pm.ofF N (f (0+(i:Int)).toNat)=_;rw[show(0+(i:Int)).toNat=i by omega]
inductive IB(K:W.Frag)(vs:List V)(H:Hp)(Q:VK)(E:XK):Prop|mk (a:Addr) (ns:List Int) (k:Int) (z_0:vs=[.ref a,.int k]) (z_1:SqL K H a (ns.map V.int)) (z_2:0<=k) (z_3:k<=1000) (z_4:(∀x∈ns,PySem.Builtin.Int.intBits x<=1048576)) (z_5:∀c,Rm.Bd 1048576 c->Q (.int c) H)
def Nh(K:W.Frag):Sp:=fun vs H Q E=>IB K vs H Q E
abbrev qg(P w K mg base):=Cal P w K mg base "_law_cell_at" 1 ["_law_script","_law_k"] (Nh K)
def X8(c k:Int):Int:=((c%2147483629+1)*(48271+69621*k+2*k*k)+k)%2147483647
def Vu(c k:Int):Int:=X8 c k*X8 c k%2147483629
def YT(c k:Int):Int:=Vu c k*(Vu c k+k+1)%2147483587/3
inductive LC(vs:List V)(H:Hp)(Q:VK)(E:XK):Prop|mk (c k:Int) (z_0:vs=[.int c,.int k]) (z_1:0<=k) (z_2:k<=1000) (z_3:∀x,0<=x->(x<2147483587/\x=YT c k)->Q (.int x) H)
def Qx:Sp:=fun vs H Q E=>LC  vs H Q E
abbrev yr(P w K mg base):=Cal P w K mg base "_law_mix" 1 ["_law_cell","_law_k"] Qx
inductive Pb(vs:List V)(H:Hp)(Q:VK)(E:XK):Prop|mk (c:Int) (z_0:vs=[.int c]) (z_1:∀b H',Same H H'->ByF b->Q (.int b) H')
def Vh:Sp:=fun vs H Q E=>Pb  vs H Q E
abbrev ud(P w K mg base):=Cal P w K mg base "_law_drawn_by" 2 ["_law_cell"] Vh
abbrev mD(P w K mg base):=Cal P w K mg base "_law_taken" 1 ["_law_by","_law_number"] Gj
def Bl:List Int:=[0,1,-1,2,1,-2,3,0,1,5]
theorem Fi:∀k<10,-6<Bl.getD k 0/\Bl.getD k 0<6:=by decide
inductive Kz(vs:List V)(H:Hp)(Q:VK)(E:XK):Prop|mk (b c k:Int) (z_0:vs=[.int b,.int c,.int k]) (z_1:ByF b) (z_2:Rm.Bd 1048576 c) (z_3:0<=k) (z_4:k<=30) (z_5:∀x H',Same H H'->jD b x->Rm.Bd 31 x->(k<15->Rm.Bd 13 x/\(b=0->x.natAbs<=5))->Q (.int x) H')
def NQ:Sp:=fun vs H Q E=>Kz  vs H Q E
abbrev oE(P w K mg base):=Cal P w K mg base "_law_one_number" 2 ["_law_by","_law_cell","_law_k"] NQ
structure RwW(r:Rw)(c:Nat):Prop where
 len:r.rule.length=r.starts.length
 short:r.rule.length<=24
 by0:0<=r.b
 f9:∀x∈r.rule,Rm.Bd 60000 x
 Js:∀n,n<=c->∀x∈r.row n,Rm.Bd 61000000 x
theorem mV.w{r:Rw}(h:mV r){c:Nat}(hc:c<=1000):RwW r c:=⟨h.len,h.short,h.by0,h.f9,fun n hn=>h.Js n (by omega)⟩
inductive BZ(vs:List V)(H:Hp)(Q:VK)(E:XK):Prop|mk (v:V) (r:Rw) (c:Int) (z_0:vs=[v,.int c]) (z_1:iU H v r) (z_2:RwW r c.toNat) (z_3:0<=c) (z_4:c<=900) (z_5:Told H Q ((r.row c.toNat).map V.int))
def Fj:Sp:=fun vs H Q E=>BZ  vs H Q E
abbrev kO(P w K mg base):=Cal P w K mg base "_law_places" 2 ["_law_row","_law_count"] Fj
inductive Ea(vs:List V)(H:Hp)(Q:VK)(E:XK):Prop|mk (b:Int) (m:Nat) (r0:Rw) (s:Nat) (v:V) (r:Rw) (n:Int) (z_0:vs=[v,.int n]) (z_1:iU H v r) (z_2:ByF b) (z_3:Bs b m r0) (z_4:RwS b r0 s r) (z_5:s<3) (z_6:r.rule.length<12) (z_7:Rm.Bd 10 n) (z_8:∀v' r' H',Same H H'->iU H' v' r'->RwS b r0 (s+1) r'->r'.rule.length=r.rule.length+1->Q v' H')
def Ip:Sp:=fun vs H Q E=>Ea  vs H Q E
abbrev mX(P w K mg base):=Cal P w K mg base "_law_made_longer" 3 ["_law_row","_law_number"] Ip
def sJ:List Int:=[0,0,1,0,2,0,0,3]
theorem G5:∀k<8,0<=sJ.getD k 0/\sJ.getD k 0<=3:=by decide
inductive Jt(K:W.Frag)(vs:List V)(H:Hp)(Q:VK)(E:XK):Prop|mk (a:Addr) (ns:List Int) (st b m:Int) (z_0:vs=[.ref a,.int st,.int b,.int m]) (z_1:SqL K H a (ns.map V.int)) (z_2:0<=st) (z_3:st<=500) (z_4:(∀x∈ns,PySem.Builtin.Int.intBits x<=1048576)) (z_5:ByF b) (z_6:0<=m) (z_7:m<=12) (z_8:∀v r0 s r H',Same H H'->iU H' v r->Bs b m.toNat r0->RwS b r0 s r->s<=3->r.rule.length<=m.toNat+s->(b=0->∀x∈r0.rule,x.natAbs<=5)->Q v H')
def Ng(K:W.Frag):Sp:=fun vs H Q E=>Jt K vs H Q E
abbrev qz(P w K mg base):=Cal P w K mg base "_law_drawn_row" 4 ["_law_script","_law_start","_law_by","_law_most"] (Ng K)
inductive Ci(vs:List V)(H:Hp)(Q:VK)(E:XK):Prop|mk (b x last:Int) (z_0:vs=[.int b,.int x,.int last]) (z_1:0<=b) (z_2:(b=0->last≠0/\Rm.Bd 8999 last)) (z_3:Q (.int (Dm.sh b x last)) H)
def Fx:Sp:=fun vs H Q E=>Ci  vs H Q E
theorem NT{x:Int}{n:Nat}(h:Rm.Bd n x)(hx:x≠0):x.natAbs.log2<n:=(Nat.log2_lt (by omega)).mpr h
abbrev uJ(P w K mg base):=Cal P w K mg base "_law_shorter" 1 ["_law_by","_law_number","_law_last"] Fx
theorem RkI.Lw{b:Int}{n c:Nat}{A0 A:Nat->Nat->Int}{t:List (List Int)}{last:Int}{ua:Nat}(h:Dm.RkI b n c A0 A t last ua)(hb:b=0)(hc:c<=10)(hua:ua<=885):last≠0/\Rm.Bd 8999 last:=by
 have e:=h.la hb;have nz:=h.nz;rw[<-e,hb,Rm.aW]at nz;refine⟨nz,?_⟩;rw[e];refine(Dm.BF fun i k _ _=>h.bdd _ _).mono ?_;have:c*(ua+c)<=10*(885+10):=Nat.mul_le_mul hc (by omega);omega
def hkN(n:Nat)(a:Nat->Int):Nat->Nat->Int:=fun i k=>if i<n/\k<n then a (i+k)else 0
theorem JN{n:Nat}{a:Nat->Int}{i k:Nat}(hi:i<n)(hk:k<n):hkN n a i k=a (i+k):=if_pos ⟨hi,hk⟩
theorem Ec{b:Int}{n m:Nat}{a x:Nat->Int}(hm:m<=n):Dm.Rel b n m (hkN n a) x↔Dm.Rel b n m (Dm.hk a) x:=
 forall_congr' fun i=>forall_congr' fun hi=>by rw[Pm.au fun k hk=>by rw[JN hi (by omega)]];rfl
inductive KR(vs:List V)(H:Hp)(Q:VK)(E:XK):Prop|mk (b:Int) (n:Nat) (l:Addr) (ps:List Int) (a:Nat->Int) (L:List Int) (ua:Nat) (z_0:vs=[.int b,.int (n:Int),.ref l]) (z_1:H l=some (.lst (ps.map V.int))) (z_2:2*n<=ps.length+1) (z_3:(∀i,i<ps.length->Pm.co ps i=a i)) (z_4:ByP b) (z_5:cG b a L) (z_6:L.length<=n+1) (z_7:n<=12) (z_8:(∀i,Rm.tk b (a i)=a i)) (z_9:ua<=885) (WG:10<=ua) (Yh:(∀i,i<=22->Rm.Bd ua (a i))) (aaG:∀H',Same H H'->Q (.int ((L.length-1:Nat):Int)) H')
def PC:Sp:=fun vs H Q E=>KR  vs H Q E
theorem Hv{m:Nat}{p:Nat->Bool}:((List.range m).filter p=[]/\∀i,i<m->p i=false)∨∃i r,(List.range m).filter p=i::r/\i<m/\p i=true:=by
 cases e:(List.range m).filter p with
 |nil=>
  refine .inl ⟨rfl,fun i hi=>?_⟩;have:=List.filter_eq_nil_iff.mp e i (List.mem_range.mpr hi);simpa using this
 |cons i r=>
  have hm:i∈(List.range m).filter p:=by rw[e];exact List.mem_cons_self
  obtain⟨h1,h2⟩:=List.mem_filter.mp hm;exact .inr ⟨i,r,rfl,List.mem_range.mp h1,h2⟩
theorem Er{lo n:Nat}{ix:List (Option Nat)}{tc:TT}{te:TE}{σ:St}{H1:Hp}{Q:VK}(hz:n<=1000){rest:St}(hst:cst ix σ=none::rest)(p:Nat->Bool)
  (ht:∀H' k,Same H1 H'->k<n->∀kk:Bool->Hp->Prop,kk (p k) H'->tc (some (.int ((lo:Int)+(k:Int)))::rest) H' kk)
  (he:∀H' k,Same H1 H'->k<n->p k=true->∀kk:VK,kk (.int ((lo:Int)+(k:Int))) H'->te (some (.int ((lo:Int)+(k:Int)))::rest) H' kk)
  (hQ:∀D,H1 D=none->Q (.ref D) (upd H1 D (.lst ((((List.range n).filter p).map fun k:Nat=>(lo:Int)+(k:Int)).map V.int)))):nU ix (mU 0) tc te σ Q (Itr (lo:Int) n) H1:=by
 refine jP jN (by rw[List.length_map,List.length_range];exact Nat.le_of_lt (bI hz)) hst (fun x=>match x with | .int k=>p (k-lo).toNat|_=>false) (fun x=>x) ?_ ?_ ?_
 ·intro H2 x g2 hx k hk;obtain⟨j,hj,rfl⟩:=List.mem_map.mp hx;refine ht H2 j g2 (List.mem_range.mp hj) k ?_;have hk':k (p ((lo:Int)+(j:Int)-lo).toNat) H2:=hk
  rwa [show((lo:Int)+(j:Int)-lo).toNat=j by omega]at hk'
 ·intro H2 x g2 hx hp k hk;obtain⟨j,hj,rfl⟩:=List.mem_map.mp hx;have hp':p ((lo:Int)+(j:Int)-lo).toNat=true:=hp;rw[show((lo:Int)+(j:Int)-lo).toNat=j by omega]at hp';exact he H2 j g2 (List.mem_range.mp hj) hp' k hk
 ·intro D hD;have el:((((List.range n).map fun i=>V.int ((lo:Int)+(i:Nat))).filter fun x=>match x with | .int k=>p (k-lo).toNat|_=>false).map fun x=>x)=(((List.range n).filter p).map fun k:Nat=>(lo:Int)+(k:Int)).map V.int:=by
   rw[List.map_id',List.filter_map,List.map_map];refine congrArg (List.map _) (List.filter_congr fun k _=>?_);show p ((lo:Int)+(k:Int)-lo).toNat=p k;rw[show((lo:Int)+(k:Int)-lo).toNat=k by omega]
  rw[el];exact hQ D hD
abbrev Ag(P w K mg base):=Cal P w K mg base "_law_rank" 2 ["_law_by","_law_size","_law_some"] PC
theorem tY{n:Nat}{ix:List (Option Nat)}{te:TE}{σ:St}{H1:Hp}{Q:VK}(hz:n<=1000){rest:St}(hst:cst ix σ=none::rest)(f:Nat->Int)
  (he:∀H' k,Same H1 H'->k<n->∀kk:VK,(∀H2,Same H' H2->kk (.int (f k)) H2)->te (some (.int (0+(k:Int)))::rest) H' kk)
  (hQ:∀D H',H1 D=none->Same H1 H'->H' D=some (.lst ((Pm.ofF n f).map V.int))->Q (.ref D) H'):nU ix (mU 0) C2 te σ Q (Itr 0 n) H1:=by
 refine Hr jN (by rw[List.length_map,List.length_range];exact Nat.le_of_lt (bI hz)) hst (fun x=>match x with | .int k=> .int (f k.toNat)|_=> .non) ?_ ?_
 ·intro H2 x g2 hx k hk;obtain⟨j,hj,rfl⟩:=List.mem_map.mp hx;have e1:(0+(j:Int)).toNat=j:=by omega
  refine he H2 j g2 (List.mem_range.mp hj) k fun H3 g3=>?_;have hk':k (V.int (f (0+(j:Int)).toNat)) H3:=hk H3 g3
  rwa [e1]at hk'
 ·intro D H' hD g hl;refine hQ D H' hD g ?_;rw[hl,Pm.ofF,List.map_map,List.map_map];refine congrArg (fun z=>some (HO.lst z)) (List.map_congr_left fun k _=>?_);show V.int (f (0+(k:Int)).toNat)=V.int (f k);rw[show(0+(k:Int)).toNat=k by omega]
theorem DF{P0:Nat}(hP:P0∈Om.iM)(h2:2<=P0){a:Nat->Int}:∀(n:Nat) (P:List Int),P.length=n->Pm.Mon P->(∀k,Rm.tk P0 (Pm.co P k)=Pm.co P k)->Pm.Kp P0 P a->∃L,cG P0 a L/\L.length<=n:=fun n=>by
 induction n using Nat.strongRecOn with
 |ind n ih=>
  intro P hl hm hn hK;by_cases c:∀q,Pm.Kp P0 q a->Pm.Dv P0 P (Pm.co q)
  ·exact⟨P,⟨hm,hn,hK,c⟩,by omega⟩
  ·obtain⟨q,hq⟩:=Classical.not_forall.mp c;have hq1:Pm.Kp P0 q a:=Classical.byContradiction fun z=>hq fun y=>absurd y z;have hq2:¬Pm.Dv P0 P (Pm.co q):=fun z=>hq fun _=>z;have eq:∀k,Pm.co (q.map (Rm.tk (P0:Int))) k=Rm.tk P0 (Pm.co q k):=fun k=>Pm.qG (Pm.tk0 _) ..;obtain⟨s,r,D⟩:=Pm.AF hm (p:=q.map (Rm.tk (P0:Int))) (fun k=>by rw[eq,Rm.jO]);have hr:Pm.Kp P0 r a:=(D.kp hK).mp (hq1.congr fun k=>by rw[eq,Rm.jO]);by_cases z:r=[]
   ·refine absurd ⟨Pm.co s,s.length,Pm.Fs.co s,fun k=>?_⟩ hq2;have:=D.eq k;rw[z,Pm.dY,Int.add_zero,eq,Rm.jO]at this;exact this.symm
   ·have M:=Pm.FJ hP h2 D.ry z;have hs:=D.short;obtain⟨L,h1,h3⟩:=ih r.length (by omega) _ M.len (M.mon z) (fun k=>M.py.co k) ((Pm.In2.scale M.to r).kp hr hr);exact⟨L,h1,by omega⟩
theorem Ht{b:Int}(hB:ByP b){P:List Int}{a:Nat->Int}(hm:Pm.Mon P)(hn:∀k,Rm.tk b (Pm.co P k)=Pm.co P k)(hK:Pm.Kp b P a):∃L,cG b a L/\L.length<=P.length:=by
 rcases hB with rfl|⟨P0,hP,rfl⟩
 ·obtain⟨g,L,hL,hy,hk,hall,hl,_,G⟩:=Pm.Gy hm hK;have:=G.mon.pos;exact⟨L,⟨hL,fun k=>Rm.aW _,hk,hall⟩,by omega⟩
 ·exact DF hP (dW P0 hP).1 _ P rfl hm hn hK
theorem cG.uniq{b:Int}(h1:Rm.tk b 1=1){f:Nat->Int}{L L':List Int}(h:cG b f L)(h':cG b f L'):L=L':=by
 have d:=h.all L' h'.kp;have d':=h'.all L h.kp;have l1:=d.len h1 h.mon h'.mon;have l2:=d'.len h1 h'.mon h.mon;refine Pm.oA (by omega) fun k=>?_;rw[<-h.nu k,<-h'.nu k];exact(d.same h1 h.mon h'.mon (by omega) k).symm
theorem cG.congr{b:Int}{f f':Nat->Int}(e:∀n,f n=f' n){L:List Int}(h:cG b f L):cG b f' L:=by
 have:f=f':=funext e;rw[<-this];exact h
theorem cG.le{b:Int}(h1:Rm.tk b 1=1){f:Nat->Int}{L P:List Int}(h:cG b f L)(hm:Pm.Mon P)(hK:Pm.Kp b P f):L.length<=P.length:=(h.all P hK).len h1 h.mon hm
theorem yC{r:Rw}(hn:∀n,Rm.tk r.b (r.at n)=r.at n){L:List Int}(h:cG r.b r.at L)(hl:L.length<=r.starts.length+1)(n:Nat):(gQ r L).at n=r.at n:=by
 have hp:=h.mon.pos;refine Pm.Gv h.nu h.mon h.kp hn (starts:=r.starts.take (L.length-1)) ?_ ?_ n
 ·rw[List.length_take];omega
 ·intro i hi;rw[List.length_take]at hi;have e:r.at i=r.starts.getD i 0:=Rm.tX (by omega);rw[e,List.getD_eq_getElem?_getD,List.getElem?_take,if_pos (by omega),<-List.getD_eq_getElem?_getD]
theorem mV.Az{r:Rw}(ok:mV r)(n:Nat):jD r.b (r.at n):=by
 by_cases h:r.b=0
 ·exact .inl h
 ·have h0:=ok.by0;refine .inr (Rm.Bp ok.len (by omega) (fun x hx=>?_) n);rcases ok.iT x hx with z|z
  ·exact absurd z h
  ·exact z
theorem mV.Fd{r:Rw}(ok:mV r)(n:Nat):Rm.tk r.b (r.at n)=r.at n:=G4 (ok.Az n)
structure Mr(b:Int)(r:Rw)(ua u:Nat):Prop where
 hB:ByF b
 by_:r.b=b
 ok:mV r
 E6:r.rule.length<=12
 f9:∀x∈r.rule,Rm.Bd u x
 at_:∀n,n<=24->Rm.Bd ua (r.at n)
 u10:10<=u
 Nu:10<=ua
 sz:12*(ua+12)+1+(u+400)+57<=112100
theorem Mr.tame{b:Int}{r:Rw}{ua u:Nat}(h:Mr b r ua u):Tame r:=fun hz=>by
 have hl:=h.E6;have hk:=h.ok.kp;rw[hz]at hk;exact⟨12,ua,u,h.u10,h.f9,⟨_,Pm.eY _ _,hk,by rw[Pm.bB];omega⟩,fun n hn=>h.at_ n (by omega),h.sz⟩
theorem Mr.byp{b:Int}{r:Rw}{ua u:Nat}(h:Mr b r ua u):ByP r.b:=by rw[h.by_];exact h.hB.p
theorem Mr.ex{b:Int}{r:Rw}{ua u:Nat}(h:Mr b r ua u):∃L,cG b r.at L/\L.length<=r.rule.length+1:=by
 have hk:=h.ok.kp;rw[h.by_]at hk;obtain⟨L,h1,h2⟩:=Ht h.hB.p (Pm.eY b r.rule) (wN b r.rule h.hB.one) hk;exact⟨L,h1,by rw[Pm.bB]at h2;exact h2⟩
theorem oR{r:Rw}{L:List Int}(hl:L.length<=r.rule.length+1)(ok:mV r):(gQ r L).rule.length=L.length-1/\(gQ r L).starts.length=L.length-1:=by
 have:=ok.len;refine⟨Pm.fj ..,?_⟩;show(r.starts.take (L.length-1)).length=_;rw[List.length_take];omega
theorem RwS.mr{b:Int}(hb:ByF b){m:Nat}{r0 r:Rw}{s:Nat}(h0:Bs b m r0)(h:RwS b r0 s r)(hs:s<=3):Mr b r 439 49:=
 ⟨hb,h.by_,h.ok hb h0 hs,h.short,fun x hx=>(h.f9 x hx).mono (by unfold uS;omega),fun n hn=>by
  rw[h.same n];exact(h0.Gh hb n).mono (by omega),by decide,by decide,by decide⟩
theorem zp(r:Rw)(n:Nat):r.row n=Pm.ofF n r.at:=Rm.FZ ..
inductive Qp(vs:List V)(H:Hp)(Q:VK)(E:XK):Prop|mk (v:V) (b:Int) (r:Rw) (ua u:Nat) (L:List Int) (z_0:vs=[v]) (z_1:iU H v r) (z_2:Mr b r ua u) (z_3:ua<=885) (z_4:cG b r.at L) (z_5:L.length<=r.rule.length+1) (z_6:∀H',Same H H'->Q (.int ((L.length-1:Nat):Int)) H')
def XS:Sp:=fun vs H Q E=>Qp  vs H Q E
abbrev wV(P w K mg base):=Cal P w K mg base "_law_length" 3 ["_law_row"] XS
inductive EG(vs:List V)(H:Hp)(Q:VK)(E:XK):Prop|mk (v:V) (r:Rw) (z_0:vs=[v,.int r.b]) (z_1:iU H v r) (z_2:mV r) (z_3:∀H',Same H H'->Q (.bl true) H')
def Im:Sp:=fun vs H Q E=>EG  vs H Q E
abbrev wI(P w K mg base):=Cal P w K mg base "_law_is_row" 2 ["_law_found","_law_by"] Im
structure Rt(b:Int)(r:Rw)(a:Nat->Int)(L:List Int)(ua:Nat):Prop where
 hB:ByF b
 by_:r.b=b
 ok:mV r
 same:∀n,r.at n=a n
 lst:cG b a L
 len:r.rule.length=L.length-1
 E6:r.rule.length<=12
 hua:ua<=885
 Nu:10<=ua
 bd:∀i,i<=22->Rm.Bd ua (a i)
inductive Hz(vs:List V)(H:Hp)(Q:VK)(E:XK):Prop|mk (v:V) (b:Int) (r:Rw) (m:Int) (l:Addr) (a:Nat->Int) (L:List Int) (ua:Nat) (z_0:vs=[v,.int b,.int m,.ref l]) (z_1:iU H v r) (z_2:Rt b r a L ua) (z_3:(r.rule.length:Int)<=m) (z_4:H l=some (.lst ((Pm.ofF 30 a).map V.int))) (z_5:∀H',Same H H'->Q (.bl true) H')
def MB:Sp:=fun vs H Q E=>Hz  vs H Q E
abbrev Aw(P w K mg base):=Cal P w K mg base "_law_right" 3 ["_law_found","_law_by","_law_most","_law_some"] MB
theorem rA{b:Int}(hb:ByF b){P L:List Int}{f:Nat->Int}(hm:Pm.Mon P)(hK:Pm.Kp b P f)(lst:cG b f L){u n:Nat}(hl:P.length<=n+1)(n12:n<=12)(u10:10<=u)(hu:b=0->∀k,Rm.Bd u (Pm.co P k))(k:Nat):Rm.Bd (u+13*(n+1)) (Pm.co L k):=by
 by_cases z:b=0
 ·subst z;obtain⟨g,L',hL,hy,hk,hall,hl',hE,G⟩:=Pm.Gy hm hK;have e:L=L':=lst.uniq hb.one ⟨hL,fun k=>Rm.aW _,hk,hall⟩;subst e;have:=Pm.Ax (P:=P) (L:=g) (g:=L) G.mon (fun k=>by rw[hE,Pm.d8]) (by omega) (u:=u) (e:=4) (hu rfl) (by show P.length<=16;omega) k;refine this.mono ?_;have g1:=G.mon.pos;have:L.length<=n+1:=by omega
  omega
 ·rw[<-lst.nu k];exact Ey hb (by omega) z (qD hb.lo _)
theorem Bc{r:Rw}{L:List Int}(hb:ByF r.b)(ok:mV r)(ll:L.length<=r.rule.length+1){U:Nat}(U10:10<=U)(hU:U<=60000)(h:∀k,Rm.Bd U (Pm.co L k)):mV (gQ r L)/\∀x∈(gQ r L).rule,Rm.Bd U x:=by
 obtain⟨l1,l2⟩:=oR ll ok;have bd:∀x∈(gQ r L).rule,Rm.Bd U x:=fun x hx=>by
  obtain⟨k,_,rfl⟩:=Pm.lK (show x∈Pm.ofF _ _ from hx);refine m5 hb U10 ?_;rw[Int.zero_sub];exact Pm.DV (h _)
 have hl:=ok.len;have hs:=ok.short;refine⟨⟨by omega,by omega,ok.by0,ok.by1,fun x hx=>?_,fun x hx=>ok.iT x (List.mem_of_mem_take hx),fun x hx=>(bd x hx).mono hU,fun x hx=>ok.jT x (List.mem_of_mem_take hx)⟩,bd⟩;obtain⟨k,_,rfl⟩:=Pm.lK (show x∈Pm.ofF _ _ from hx);exact qD ok.by0 _
def bhd(rule sums:List Int)(k:Nat):Int:=Pm.sm (min (k-1) rule.length) fun i=>Pm.co rule i*Pm.co sums (k-2-i)
abbrev Le(x:Int)(n:Nat):Prop:=x.natAbs<=n
theorem Le.sm{f:Nat->Int}{c:Nat}:∀n:Nat,(∀k,k<n->Le (f k) c)->Le (Pm.sm n f) (n*c)
 |0,_=>Nat.zero_le _
 |n+1,h=>by
  have h1:=Le.sm n fun k hk=>h k (by omega);have h2:=h n (by omega);have h3:=Int.natAbs_add_le (Pm.sm n f) (f n);show(Pm.sm n f+f n).natAbs<=(n+1)*c;rw[Nat.succ_mul];unfold Le at h1 h2;omega
theorem Le.mul{x y:Int}{m n:Nat}(h1:Le x m)(h2:Le y n):Le (x*y) (m*n):=by
 show(x*y).natAbs<=m*n;rw[Int.natAbs_mul];exact Nat.mul_le_mul h1 h2
theorem Le.bd{x:Int}{n:Nat}(h:Le x (2^n)):Rm.Bd (n+1) x:=by
 show x.natAbs<2^(n+1);have:0<2^n:=Nat.pow_pos (by decide);rw[Nat.pow_succ];unfold Le at h;omega
theorem Iv{Z:Nat}{rule sums:List Int}{k:Nat}(hk:1<=k)(hl:rule.length=k-1)(hr:∀i,i<k-1->Le (Pm.co rule i) (Z^(i+1)))(hs:∀i,i<k->Le (Pm.co sums i) (Z^(i+1))):Le ((Pm.co sums (k-1)-bhd rule sums k)/(k:Int)) (Z^k):=by
 have e1:Le (bhd rule sums k) ((k-1)*Z^k):=by
  unfold bhd;rw[hl,Nat.min_self];refine Le.sm (k-1) fun i hi=>?_;have:=(hr i hi).mul (hs (k-2-i) (by omega));rw[<-Nat.pow_add,show i+1+(k-2-i+1)=k by omega]at this;exact this
 have e2:=hs (k-1) (by omega);rw[show k-1+1=k by omega]at e2;obtain⟨m,rfl⟩:∃m,k=m+1:=⟨k-1,by omega⟩;rw[Nat.add_sub_cancel]at e1 e2⊢;generalize Pm.co sums m=s at e2;generalize bhd rule sums (m+1)=t at e1;generalize Z^(m+1)=z at e1 e2;have h3:Le (s-t) ((m+1)*z):=by
  unfold Le at *;rw[Nat.succ_mul];omega
 generalize s-t=d at h3;unfold Le at *;have h4:-(((m+1)*z:Nat):Int)<=d/\d<=(((m+1)*z:Nat):Int):=by omega
 rw[Int.natCast_mul]at h4;have p:(0:Int)<((m+1:Nat):Int):=by omega
 have h5:d/((m+1:Nat):Int)<=(z:Int):=by
  have:=Int.ediv_le_ediv p h4.2;rw[Int.mul_ediv_cancel_left _ (by omega)]at this;exact this
 have h6:-(z:Int)<=d/((m+1:Nat):Int):=by
  have:=Int.ediv_le_ediv p h4.1;rw[<-Int.mul_neg,Int.mul_ediv_cancel_left _ (by omega)]at this;exact this
 omega
theorem J9{X:Nat}(hX:2<=X)(c:Nat):∀(n:Nat) (f:Nat->Int),(∀i,i<n->Le (f i) (c*X^(n-i)))->Le (Pm.sm n f) (c*(2*X^n))
 |0,_,_=>Nat.zero_le _
 |n+1,f,h=>by
  have h0:=h 0 (by omega);have h1:=J9 hX c n (fun i=>f (i+1)) fun i hi=>by have:=h (i+1) (by omega);rw[show n+1-(i+1)=n-i by omega]at this;exact this
  rw[Pm.dw];have h3:=Int.natAbs_add_le (f 0) (Pm.sm n fun i=>f (i+1));have e:X^(n+1-0)=X^n*X:=Nat.pow_succ ..;rw[e]at h0;have e2:c*(2*X^(n+1))=c*(X^n*X)+c*(X^n*X):=by rw[Nat.pow_succ,<-Nat.mul_add,<-Nat.two_mul]
  have e3:c*(2*X^n)<=c*(X^n*X):=Nat.mul_le_mul_left _ (by rw[Nat.mul_comm];exact Nat.mul_le_mul_left _ hX);unfold Le at *;omega
theorem Lz{w:Nat}{rule sums:List Int}{k:Nat}(hk:1<=k)(k24:k<=130)(hr:∀i,Le (Pm.co rule i) (2^w))(hs:∀i,i<k-1->Le (Pm.co sums i) ((2^(w+3))^(i+1))):Le ((if k<=rule.length then(k:Int)*Pm.co rule (k-1)else 0)+bhd rule sums k) ((2^(w+3))^k):=by
 obtain⟨m,rfl⟩:∃m,k=m+1:=⟨k-1,by omega⟩;rw[Nat.add_sub_cancel]at hs⊢;have X2:2<=2^(w+3):=by
  have:0<2^w:=Nat.pow_pos (by decide);rw[Nat.pow_add];omega
 have e1:Le (bhd rule sums (m+1)) (2^w*(2*(2^(w+3))^m)):=by
  have e:bhd rule sums (m+1)=Pm.sm m fun i=>if i<rule.length then Pm.co rule i*Pm.co sums (m+1-2-i)else 0:=by
   unfold bhd;rw[Nat.add_sub_cancel,Pm.fU (m:=min m rule.length) (n:=m) (by omega) fun i h1 h2=>if_neg (by omega)];exact Pm.au fun i hi=>(if_pos (by omega)).symm
  rw[e];refine J9 X2 _ m _ fun i hi=>?_;split
  ·have:=(hr i).mul (hs (m+1-2-i) (by omega));rw[show m+1-2-i+1=m-i by omega]at this;exact this
  ·exact Nat.zero_le _
 have e2:Le (if m+1<=rule.length then((m+1:Nat):Int)*Pm.co rule m else 0) ((m+1)*2^w):=by
  split
  ·have h1:Le ((m+1:Nat):Int) (m+1):=by unfold Le;omega
   exact h1.mul (hr m)
  ·exact Nat.zero_le _
 have h3:=Int.natAbs_add_le (if m+1<=rule.length then((m+1:Nat):Int)*Pm.co rule m else 0) (bhd rule sums (m+1));have kX:∀m,m+1<=6*8^m:=fun m=>by
  induction m with
  |zero=>decide
  |succ m ih=>rw[Nat.pow_succ];omega
 have p8:8^m<=(2^(w+3))^m:=Nat.pow_le_pow_left (by
  have:0<2^w:=Nat.pow_pos (by decide);rw[Nat.pow_add];omega) m
 have e5:(2^(w+3))^(m+1)=2^w*(2*(2^(w+3))^m)+2^w*(6*(2^(w+3))^m):=by
  rw[Nat.pow_succ,Nat.mul_comm,Nat.pow_add,<-Nat.mul_add,<-Nat.add_mul,Nat.mul_assoc]
 have e6:(m+1)*2^w<=2^w*(6*(2^(w+3))^m):=by
  rw[Nat.mul_comm];refine Nat.mul_le_mul_left _ (Nat.le_trans (kX m) (Nat.mul_le_mul_left _ p8))
 unfold Le at *;omega
theorem IZ(f:Nat->Int):∀n,Nw.sm n f=Pm.sm n f
 |0=>rfl
 |n+1=>by show Nw.sm n f+f n=Pm.sm n f+f n;rw[IZ f n]
theorem JK(rule sums:List Int)(k:Nat):bhd rule sums (k+1)=Nw.sm k fun i=>Pm.co rule i*Pm.co sums (k-1-i):=by
 unfold bhd;rw[IZ,Nat.add_sub_cancel,show(fun i=>Pm.co rule i*Pm.co sums (k+1-2-i))=fun i=>Pm.co rule i*Pm.co sums (k-1-i)from funext fun i=>by rw[show k+1-2-i=k-1-i by omega]];by_cases h:k<=rule.length
 ·rw[Nat.min_eq_left h]
 ·rw[Nat.min_eq_right (by omega),Pm.fU (m:=rule.length) (n:=k) (by omega) fun i h1 _=>by rw[Pm.bD h1,Int.zero_mul]]
theorem yx{b:Int}{xs:List Int}(h:∀x∈xs,jD b x):xs.map (Rm.tk b)=xs:=by
 exact(List.map_congr_left (f:=Rm.tk b) (g:=id) fun x hx=>G4 (h x hx)).trans (List.map_id xs)
theorem GJ{rule starts:List Int}(hl:rule.length=starts.length)(i:Nat):Rm.at_ 0 rule starts (i+rule.length)=Nw.sm rule.length fun k=>Pm.co rule k*Rm.at_ 0 rule starts (i+rule.length-1-k):=by
 rw[Rm.uw hl (by omega),Rm.aW,Pm.C7,IZ]
theorem Hh{b:Int}{rule starts:List Int}(hl:rule.length=starts.length)(hr:∀x∈rule,jD b x)(hs:∀x∈starts,jD b x)(n:Nat):Rm.at_ b rule starts n=Rm.tk b (Rm.at_ 0 rule starts n):=by
 by_cases z:b=0
 ·rw[z,Rm.aW]
 ·have:=Rm.Ra (p:=b) z hl n;rw[yx hr,yx hs]at this;exact this
theorem yK{xs:List Int}{n:Nat}(h:n<xs.length):atI (xs.map V.int) (n:Int)=some (.int (Pm.co xs n)):=by
 rw[aV (by omega) (by omega),Int.toNat_natCast];rfl
theorem MJ(n:Nat)(f:Nat->Int):(Pm.ofF n f).sum=Pm.sm n f:=by rw[Pm.ofF,Pm.vg]
theorem Jx{b:Int}{c s1 u R:List Int}{e st N:Nat}(he:1<=e)(hc:c.length=s1.length)(hcn:∀x∈c,jD b x)(hs1:∀x∈s1,jD b x)(hN:N=c.length)(hR:R.length=N)
  (e1:∀k,k<e*N->Pm.co u k=(if k+1<=c.length then((k+1:Nat):Int)*Pm.co c k else 0)+bhd c u (k+1))
  (e3:∀k,k<N->Pm.co R k=(Pm.co (Pm.ofF N fun k=>Pm.co u (e*(k+1)-1)) k-bhd R (Pm.ofF N fun k=>Pm.co u (e*(k+1)-1)) (k+1))/((k+1:Nat):Int)) (n:Nat):
  (⟨b,R.map (Rm.tk b),Pm.ofF N fun n=>Rm.tk b (Rm.at_ b c s1 (st+e*n))⟩:Rw).at n=Rm.tk b (Rm.at_ b c s1 (st+e*n)):=by
 have own:∀{c:List Int} {k:Nat},(if k+1<=c.length then((k+1:Nat):Int)*Pm.co c k else 0)=((k+1:Nat):Int)*Pm.co c k:=fun {c k}=>by
  by_cases z:k+1<=c.length
  ·rw[if_pos z]
  ·rw[if_neg z,Pm.bD (by omega),Int.mul_zero]
 have main:=Nw.CB (m:=c.length) (e:=e) he (c:=Pm.co c) (a:=Rm.at_ 0 c s1) (s:=Pm.co u) (r:=Pm.co R) (fun k hk=>Pm.bD hk) (GJ hc)
  (fun k hk=>by rw[e1 k (by rw[hN];exact hk),own,JK]) (fun k hk=>by
   rw[e3 k (by omega),JK,Pm.bV,if_pos (by omega)];refine congrArg (fun x=>(Pm.co u (e*(k+1)-1)-x)/_) (Nw.au fun i hi=>?_);rw[Pm.bV,if_pos (by omega)]) st
 have ta:∀n,Rm.tk b (Rm.at_ b c s1 n)=Rm.tk b (Rm.at_ 0 c s1 n):=fun n=>by rw[Hh hc hcn hs1,Rm.jO]
 refine Rm.vU (b:=b) (rule:=R.map (Rm.tk b)) (starts:=Pm.ofF N fun n=>Rm.tk b (Rm.at_ b c s1 (st+e*n))) (by rw[List.length_map,Pm.aP,hR]) (g:=fun n=>Rm.tk b (Rm.at_ b c s1 (st+e*n))) (fun i hi=>?_) (fun i hi=>?_) n
 ·rw[Pm.aP]at hi;show _=Pm.co (Pm.ofF N fun n=>Rm.tk b (Rm.at_ b c s1 (st+e*n))) i;rw[Pm.bV,if_pos hi]
 ·rw[Pm.aP]at hi;obtain⟨j,rfl⟩:∃j,i=j+N:=⟨i-N,by omega⟩;rw[ta,List.length_map,hR,Pm.C7,hN,main j,IZ,<-hN];refine Pm.jq fun k hk=>?_;rw[Pm.qG (Pm.tk0 b),Rm.cH];show _=Rm.tk b (Pm.co R k*Rm.tk b (Rm.at_ b c s1 (st+e*(j+N-1-k))));rw[ta,Rm.aZ]
theorem A9{J:It}{xs:List Int}{ix:List (Option Nat)}{te:TE}{σ:St}{H1:Hp}{Q:VK}(I:ItS J (xs.map V.int) H1)(hz:xs.length<=1000){rest:St}(hst:cst ix σ=none::rest)(f:Int->Int)
  (he:∀H' x,Same H1 H'->x∈xs->∀kk:VK,kk (.int (f x)) H'->te (some (.int x)::rest) H' kk)
  (hQ:∀D,H1 D=none->Q (.ref D) (upd H1 D (.lst ((xs.map f).map V.int)))):nU ix (mU 0) C2 te σ Q J H1:=by
 refine jP I (by rw[List.length_map];exact Nat.le_of_lt (bI hz)) hst (fun _=>true) (fun x=>match x with | .int k=> .int (f k)|_=> .non) ?_ ?_ ?_
 ·intro H2 x g2 hx k hk;exact hk
 ·intro H2 x g2 hx _ k hk;obtain⟨y,hy,rfl⟩:=List.mem_map.mp hx;exact he H2 y g2 hy k hk
 ·intro D hD;have el:(((xs.map V.int).filter fun _=>true).map fun x=>match x with | .int k=>V.int (f k)|_=>V.non)=(xs.map f).map V.int:=by
   rw[List.filter_eq_self.mpr (by simp),List.map_map,List.map_map];rfl
  rw[el];exact hQ D hD
def Ints(H:Hp)(a:Addr)(xs:List Int):Prop:=H a=some (.lst (xs.map V.int))∨H a=some (.tup (xs.map V.int))
theorem Ints.same{H H':Hp}{a:Addr}{xs:List Int}(h:Ints H a xs)(g:Same H H'):Ints H' a xs:=h.imp (g _ _) (g _ _)
theorem xW{K:W.Frag}{a:Addr}{xs:List Int}{ix:List (Option Nat)}{te:TE}{σ:St}{H1:Hp}{Q:VK}(hA:Ints H1 a xs)(hz:xs.length<=1000){rest:St}(hst:cst ix σ=none::rest)(f:Int->Int)
  (he:∀H' x,Same H1 H'->x∈xs->∀kk:VK,kk (.int (f x)) H'->te (some (.int x)::rest) H' kk)
  (hQ:∀D,H1 D=none->Q (.ref D) (upd H1 D (.lst ((xs.map f).map V.int)))):∃a',V.ref a = .ref a'/\(((∃ys,SqL K H1 a' ys)/\nU ix (mU 0) C2 te σ Q (Itl K a') H1)∨((∃ys,SqT K H1 a' ys)/\nU ix (mU 0) C2 te σ Q (Itt K a') H1)):=by
 rcases hA with h|h
 ·exact⟨a,rfl,.inl ⟨⟨_,SqL.of h⟩,A9 (vL (SqL.of h)) hz hst f he hQ⟩⟩
 ·exact⟨a,rfl,.inr ⟨⟨_,SqT.of h⟩,A9 (wG (SqT.of h)) hz hst f he hQ⟩⟩
inductive Lg(vs:List V)(H:Hp)(Q:VK)(E:XK):Prop|mk (b:Int) (a c:Addr) (ns ms:List Int) (z_0:vs=[.int b,.ref a,.ref c]) (z_1:Ints H a ns) (z_2:Ints H c ms) (z_3:ns.length<=1000) (z_4:ms.length<=1000) (z_5:0<=b) (z_6:mV ⟨b,ns.map (Rm.tk b),ms.map (Rm.tk b)⟩) (z_7:ByP b) (z_8:Tame ⟨b,ns.map (Rm.tk b),ms.map (Rm.tk b)⟩) (z_9:∀v' L H',Same H H'->iU H' v' (gQ ⟨b,ns.map (Rm.tk b),ms.map (Rm.tk b)⟩ L)->cG b (⟨b,ns.map (Rm.tk b),ms.map (Rm.tk b)⟩:Rw).at L->L.length<=ns.length+1->Q v' H')
def Qc:Sp:=fun vs H Q E=>Lg  vs H Q E
abbrev uF(P w K mg base):=Cal P w K mg base "told_row" 10 ["by","rule","starts"] Qc
theorem MK{rule sums:List Int}{x:Int}{k:Nat}(h:k-1<=sums.length):bhd rule (sums++[x]) k=bhd rule sums k:=by
 unfold bhd;exact Pm.au fun i hi=>by rw[Pm.bZ,if_pos (by omega)]
theorem HX{rule sums:List Int}{x:Int}{k:Nat}(h:k-1<=rule.length):bhd (rule++[x]) sums k=bhd rule sums k:=by
 unfold bhd;rw[List.length_append,Nat.min_eq_left (by omega),Nat.min_eq_left h];exact Pm.au fun i hi=>by rw[Pm.bZ,if_pos (by omega)]
inductive Oo(vs:List V)(H:Hp)(Q:VK)(E:XK):Prop|mk (a c:Addr) (rule sums:List Int) (k:Nat) (z_0:vs=[.ref a,.ref c,.int (k:Int)]) (z_1:Ints H a rule) (z_2:Ints H c sums) (z_3:1<=k) (z_4:k<=130) (z_5:k-1<=sums.length) (z_6:(∀x∈rule,Rm.Bd 30000 x)) (z_7:(∀x∈sums,Rm.Bd 30000 x)) (z_8:∀H',Same H H'->Q (.int (bhd rule sums k)) H')
def Va:Sp:=fun vs H Q E=>Oo  vs H Q E
abbrev jm(P w K mg base):=Cal P w K mg base "behind_first" 1 ["rule","sums","k"] Va
theorem Le.list{xs:List Int}{w z:Nat}(hz:(xs.length)*w+1<=z)(h:∀i,i<xs.length->Le (Pm.co xs i) ((2^w)^(i+1))):∀x∈xs,Rm.Bd z x:=fun x hx=>by
 obtain⟨k,hk,e⟩:=List.mem_iff_getElem.mp hx;have:=h k hk;rw[Pm.ux hk,e,<-Nat.pow_mul]at this;refine this.bd.mono ?_;have:w*(k+1)<=xs.length*w:=by rw[Nat.mul_comm];exact Nat.mul_le_mul_right _ hk
 omega
theorem Le.grow{xs:List Int}{x:Int}{n Z:Nat}(hl:xs.length=n)(h:∀i,i<n->Le (Pm.co xs i) (Z^(i+1)))(hx:Le x (Z^(n+1))):∀i,i<n+1->Le (Pm.co (xs++[x]) i) (Z^(i+1)):=fun i hi=>by
 rw[Pm.bZ];by_cases d:i<n
 ·rw[if_pos (by omega)];exact h i d
 ·have e:i=n:=by omega
  subst e;rw[if_neg (by omega),hl,Nat.sub_self];exact hx
inductive O2(vs:List V)(H:Hp)(Q:VK)(E:XK):Prop|mk (a:Addr) (rule:List Int) (n w:Nat) (z_0:vs=[.ref a,.int (n:Int)]) (z_1:H a=some (.tup (rule.map V.int))) (z_2:n<=120) (z_3:n*(w+3)+1<=30000) (z_4:w<=19000) (z_5:(∀i,Le (Pm.co rule i) (2^w))) (z_6:∀l sums H',Same H H'->H' l=some (.lst (sums.map V.int))->sums.length=n->(∀i,i<n->Le (Pm.co sums i) ((2^(w+3))^(i+1)))->(∀k,k<n->Pm.co sums k=(if k+1<=rule.length then((k+1:Nat):Int)*Pm.co rule k else 0)+bhd rule sums (k+1))->Q (.ref l) H')
def U5:Sp:=fun vs H Q E=>O2  vs H Q E
abbrev qF(P w K mg base):=Cal P w K mg base "power_sums" 2 ["rule","count"] U5
inductive Pk(vs:List V)(H:Hp)(Q:VK)(E:XK):Prop|mk (c:Addr) (sums:List Int) (n z:Nat) (z_0:vs=[.ref c]) (z_1:H c=some (.lst (sums.map V.int))) (z_2:sums.length=n) (z_3:n<=12) (z_4:n*z+1<=30000) (z_5:(∀i,i<n->Le (Pm.co sums i) ((2^z)^(i+1)))) (z_6:∀l rule H',Same H H'->H' l=some (.lst (rule.map V.int))->rule.length=n->(∀i,i<n->Le (Pm.co rule i) ((2^z)^(i+1)))->(∀k,k<n->Pm.co rule k=(Pm.co sums k-bhd rule sums (k+1))/((k+1:Nat):Int))->Q (.ref l) H')
def UQ:Sp:=fun vs H Q E=>Pk  vs H Q E
abbrev mY(P w K mg base):=Cal P w K mg base "rule_of_sums" 2 ["sums"] UQ
theorem GV(C n:Nat){rule:List Int}{f:Nat->Int}(hr:∀x∈rule,x.natAbs<=5):∀m:Nat,m<=n->(∀k,k<m->(f (n-1-k)).natAbs<=C*6^(n-1-k))->(Rm.S rule f n m).natAbs+C*6^(n-m)<=C*6^n
 |0,_,_=>by unfold Rm.S;simp
 |m+1,hm,h=>by
  have ih:=GV C n hr m (by omega) fun k hk=>h k (by omega);have h1:=h m (by omega);have h2:(rule.getD m 0).natAbs<=5:=by
   by_cases c:m<rule.length
   ·exact hr _ (Pm.yu c)
   ·rw[show rule.getD m 0=0 from Pm.bD (by omega)];decide
  unfold Rm.S;have h3:=Int.natAbs_add_le (Rm.S rule f n m) (rule.getD m 0*f (n-1-m));rw[Int.natAbs_mul]at h3;have h4:(rule.getD m 0).natAbs*(f (n-1-m)).natAbs<=5*(C*6^(n-1-m)):=Nat.mul_le_mul h2 h1;have e:n-m=(n-(m+1))+1:=by omega
  have e2:n-1-m=n-(m+1):=by omega
  rw[e,Nat.pow_succ,<-Nat.mul_assoc]at ih;rw[e2]at h4 h3⊢;generalize C*6^(n-(m+1))=z at ih h4⊢;omega
theorem Rh{rule starts:List Int}{C:Nat}(hl:rule.length=starts.length)(hr:∀x∈rule,x.natAbs<=5)(hs:∀x∈starts,x.natAbs<=C):∀n,(Rm.at_ 0 rule starts n).natAbs<=C*6^n:=by
 intro n;induction n using Nat.strongRecOn with
 |ind n ih=>
  have p6:0<6^n:=Nat.pow_pos (by decide);by_cases h:n<starts.length
  ·rw[Rm.tX h];exact Nat.le_trans (hs _ (Pm.yu h)) (Nat.le_mul_of_pos_right _ p6)
  ·rw[Rm.uw hl (by omega),Rm.aW];by_cases h0:rule.length=0
   ·rw[h0];unfold Rm.S;simp
   ·have:=GV C n (f:=Rm.at_ 0 rule starts) hr rule.length (by omega) fun k hk=>ih _ (by omega);omega
theorem PY{rule starts:List Int}(hl:rule.length=starts.length)(hr:∀x∈rule,x.natAbs<=5)(hs:∀x∈starts,Rm.Bd 31 x){n:Nat}(hn:n<=320):Rm.Bd 864 (Rm.at_ 0 rule starts n):=by
 have h1:=Rh (C:=2^31) hl hr (fun x hx=>Nat.le_of_lt (hs x hx)) n;have h2:6^n<=2^(13*64):=by
  refine Nat.le_trans (Nat.pow_le_pow_right (by decide) hn) ?_;rw[show 320=5*64 from rfl,Nat.pow_mul,Nat.pow_mul];exact Nat.pow_le_pow_left (by decide) _
 have h3:2^31*6^n<=2^31*2^(13*64):=Nat.mul_le_mul_left _ h2;rw[<-Nat.pow_add]at h3;show(Rm.at_ 0 rule starts n).natAbs<2^864;have:(2:Nat)^(31+13*64)<2^864:=Nat.pow_lt_pow_right (by decide) (by decide);omega
def J0(st e:Int):Prop:=0<=st/\st<=100/\1<=e/\e<=10
inductive ML(C:Addr)(vs:List V)(H:Hp)(Q:VK)(E:XK):Prop|mk (st e:Int) (z_0:vs=[.int st,.int e]) (z_1:(J0 st e->Q .non H)) (z_2:(¬J0 st e->E (.ref C) none H))
def Oj(C:Addr):Sp:=fun vs H Q E=>ML C vs H Q E
abbrev jd(P w K mg base aL):=Cal P w K mg base "refuse_far_steps" 1 ["start","step"] (Oj aL)
def evR(b:Int)(R:List Int)(r:Rw)(st e:Nat):Rw:=⟨b,R.map (Rm.tk b),(Pm.ofF R.length fun k=>r.at (st+e*k)).map (Rm.tk b)⟩
theorem Oc{b:Int}(hb:ByF b){R:List Int}{r:Rw}{st e n ua z:Nat}(hl:R.length<=n)(n12:n<=12)(hR:∀x∈R,Rm.Bd z x)(z10:10<=z)(hz:z<=60000)(hua:ua<=10000)(u10:10<=ua)(ha:∀k,k<=2*n->Rm.Bd ua (r.at (st+e*k))):mV (evR b R r st e):=by
 refine⟨by show(R.map _).length=((Pm.ofF _ _).map _).length;rw[List.length_map,List.length_map,Pm.aP],by show(R.map _).length<=24;rw[List.length_map];omega,hb.lo,hb.hi,fun x hx=>?_,fun x hx=>?_,fun x hx=>?_,fun x hx=>?_⟩
 ·obtain⟨y,_,rfl⟩:=List.mem_map.mp hx;exact qD hb.lo _
 ·obtain⟨y,_,rfl⟩:=List.mem_map.mp hx;exact qD hb.lo _
 ·obtain⟨y,hy,rfl⟩:=List.mem_map.mp hx;exact m5 hb (by decide) ((hR y hy).mono hz)
 ·obtain⟨y,hy,rfl⟩:=List.mem_map.mp hx;obtain⟨k,hk,rfl⟩:=Pm.lK hy;exact m5 hb (by decide) ((ha k (by omega)).mono hua)
theorem Jd{b:Int}(hb:ByF b){R:List Int}{r:Rw}{st e n ua z:Nat}(ok:mV (evR b R r st e))(hl:R.length<=n)(hR:∀x∈R,Rm.Bd z x)(z10:10<=z)(he:∀k,(evR b R r st e).at k=r.at (st+e*k))(ha:∀k,k<=2*n->Rm.Bd ua (r.at (st+e*k)))(hs:n*(ua+n)+1+(z+400)+57<=112100):Tame (evR b R r st e):=fun hz=>by
 have hk:=ok.kp;rw[hz]at hk;refine⟨n,ua,z,z10,fun x hx=>?_,⟨_,Pm.eY _ _,hk,?_⟩,fun k hk=>by rw[he];exact ha k hk,hs⟩
 ·obtain⟨y,hy,rfl⟩:=List.mem_map.mp hx;exact m5 hb z10 (hR y hy)
 ·rw[Pm.bB];show(R.map _).length+1<=n+1;rw[List.length_map];omega
def EvM(v:V)(st e:Nat)(H:Hp)(Q:VK):Prop:=∃(r:Rw) (b:Int) (n u ua:Nat) (P:List Int),iU H v r/\mV r/\r.b=b/\ByF b/\Tame r/\Pm.Mon P/\Pm.Kp b P r.at/\P.length<=n+1/\n<=12/\10<=u/\u<=18000/\(b=0->∀k,Rm.Bd u (Pm.co P k))/\(u+13*(n+1)+3)*(e*n)+1<=30000/\(∀k,k<=2*n->Rm.Bd ua (r.at (st+e*k)))/\10<=ua/\ua<=10000/\n*(ua+n)+30500<=112100/\
 ∀v' r' L L' H',Same H H'->iU H' v' r'->mV r'->r'.b=b->cG b r.at L->r'.rule.length<=L.length-1->L.length<=n+1->(∀k,r'.at k=r.at (st+e*k))->cG b (fun k=>r.at (st+e*k)) L'->r'.rule.length=L'.length-1->Q v' H'
inductive Ih(C:Addr)(vs:List V)(H:Hp)(Q:VK)(E:XK):Prop|mk (v:V) (st e:Int) (z_0:vs=[v,.int st,.int e]) (z_1:(¬J0 st e->E (.ref C) none H)) (z_2:(J0 st e->EvM v st.toNat e.toNat H Q))
def K5(C:Addr):Sp:=fun vs H Q E=>Ih C vs H Q E
abbrev zW(P w K mg base aL):=Cal P w K mg base "every" 11 ["row","start","step"] (K5 aL)
inductive HY(vs:List V)(H:Hp)(Q:VK)(E:XK):Prop|mk (v:V) (st e:Int) (z_0:vs=[v,.int st,.int e]) (z_1:¬J0 st e) (z_2:∀H',Same H H'->Q (.bl true) H')
def Nf:Sp:=fun vs H Q E=>HY  vs H Q E
abbrev uY(P w K mg base):=Cal P w K mg base "_law_refused" 12 ["_law_row","_law_start","_law_step"] Nf
theorem CK(x:Int)(h0:0<=x)(h1:x<=100):∀k<3,0<=([x,0,100]:List Int).getD k 0/\([x,0,100]:List Int).getD k 0<=100
 |0,_=>⟨h0,h1⟩
 |1,_=>⟨by show(0:Int)<=0;decide,by show(0:Int)<=100;decide⟩
 |2,_=>⟨by show(0:Int)<=100;decide,by show(100:Int)<=100;decide⟩
def Gr(H:Hp)(v:V):Prop:=∃(t:Addr) (p q:Int),v = .ref t/\H t=some (.tup [.int p,.int q])/\¬J0 p q
theorem Gr.same{H H':Hp}{v:V}(h:Gr H v)(g:Same H H'):Gr H' v:=by
 obtain⟨t,p,q,e,h1,h2⟩:=h;exact⟨t,p,q,e,g _ _ h1,h2⟩
section
variable {P:Program} {w:World} {K:W.Frag} {mg:Str->Option Value} {base:Heap}
variable {lX fL cR iR fD cu fY aL dH:Addr} (B:Bt mg) (M:Ms K mg base lX fL cR iR fD cu fY aL dH)
include B M
theorem HM(F:Fn K mg "taken" yZ ["by","number"]):iQ P w K mg base:=by
 refine F.cal Jh (fun vs H Q E h=>?_) (fun f cdv A outer s H vs Q E hr h=>?_)
 ·obtain⟨b,n,rfl,_⟩:=h;rfl
 ·obtain⟨b,n,rfl,h0,q⟩:=h;refine⟨_,(ao (iV (bh (xeq K hr) (pv 0) aq (bF _))
   (aF (aU (pv 1)))
   cF)
   (aF (aU (aH eE (pv 1) (pv 0))))),?_⟩
  refine⟨_,rfl,_,rfl,?_⟩;refine mZ (fun c=>?_) (fun c=>?_)
  ·refine⟨_,rfl,?_⟩;have c':b=0:=dec_true c;have e:Rm.tk b n=n:=by rw[c',Rm.aW]
   rw[e]at q;exact q
  ·have c':¬b=0:=dec_false c;refine⟨_,rfl,_,rfl,_,_,rfl,rfl,(by omega:(0:Int)<b),?_⟩;rw[Rm.fu c']at q;exact q
theorem wA(F:Fn K mg "next_place" lU ["by","rule","before"])(bw:iQ P w K mg base):qx P w K mg base:=by
 refine F.cal iw (fun vs H Q E h=>?_) (fun f cdv A outer s H vs Q E hr h=>?_)
 ·obtain⟨b,r,s,rule,before,rfl,_⟩:=h;rfl
 ·obtain⟨b,r,s',rule,before,rfl,hb,hR,hS,hl,hl2,hl3,bR,bS,q⟩:=h;refine⟨_,(ao (aJ (i:=3) iw.nd rfl (Or.inl rfl) aq)
   (ao (j8 PassesOwn.never rfl (bJ rfl B.bW (aG (aK (jL K) rfl B.cT boot_len (aM (pv 1) ak)) ak)) (aX (i:=4) iw.nd rfl (Or.inl rfl))
   (aF (aJ (i:=3) iw.nd rfl (Or.inl rfl) (aH (iW K) (pv 3) (aH v_mul (aY (xix K) (pv 1) (pv 4) (fun _ _=>rfl)) (aY (xix K) (pv 2) (aH bN (aH bN (aK (jL K) rfl B.cT boot_len (aM (pv 2) ak)) aq) (pv 4)) (fun _ _=>rfl)))))))
   (aF (aU (aB bw hr rfl (aM (pv 0) (aM (pv 3) ak))))))),?_⟩
  have lR:(rule.map V.int).length=rule.length:=List.length_map _;have lS:(before.map V.int).length=before.length:=List.length_map _;refine⟨_,rfl,.ref r,rule.length,rfl,.inr ⟨_,hR,lR.symm⟩,?_⟩;refine⟨(rule.length:Int),rfl,(by omega:-(2^62)<=(rule.length:Int)),(by omega:(rule.length:Int)<2^62),?_⟩;refine fP (lo:=0) (n:=(rule.length:Int).toNat) (fun i σ' H'=>∃o,σ'=[some (.int b),some (.ref r),some (.ref s'),some (.int (Rm.S rule (fun i=>before.getD i 0) before.length i)),o]/\H'=H) ⟨none,rfl,rfl⟩ ?_ ?_
  ·rintro i σ' H' hi ⟨o,rfl,rfl⟩;have hi':i<rule.length:=by omega
   have e0:(0:Int)+(i:Int)=(i:Int):=by omega
   have e1:(before.length:Int)-1-(0+(i:Int))=((before.length-1-i:Nat):Int):=by omega
   refine⟨_,rfl,?_⟩;refine⟨_,rfl,_,rfl,_,_,.inr hR,aV (ns:=rule) (by omega:(0:Int)<=0+(i:Int)) (by omega),?_⟩;refine⟨_,rfl,_,rfl,.ref s',before.length,rfl,.inl ⟨_,hS,lS.symm⟩,_,_,rfl,rfl,_,rfl,_,_,rfl,rfl,?_⟩;refine⟨_,_,.inl hS,aV (ns:=before) (by omega:(0:Int)<=(before.length:Int)-1-(0+(i:Int))) (by omega),?_⟩;refine⟨tU (Rm.Bd.getD bR _) (Rm.Bd.getD bS _) (by decide),?_⟩;refine⟨some (.int (0+(i:Int))),?_,rfl⟩;rw[e1,e0,Int.toNat_natCast,Int.toNat_natCast];rfl
  ·rintro σ' H' ⟨o,rfl,rfl⟩;refine⟨_,rfl,_,rfl,b,_,rfl,hb,?_⟩;rw[show(rule.length:Int).toNat=rule.length from Int.toNat_natCast _];exact q
theorem rR(F:Fn K mg "first_places" jl ["row","count"])(lD:qx P w K mg base):mW P w K mg base:=by
 refine F.cal dB (fun vs H Q E h=>?_) (fun f cdv A outer s H vs Q E hr h=>?_)
 ·obtain⟨v,r,c,rfl,_⟩:=h;rfl
 ·obtain⟨v,r,c,rfl,⟨a,p,p2,rfl,hA,hR,hS⟩,ok,hc0,hc1,q⟩:=h;refine⟨_,(ao (aJ (i:=2) dB.nd rfl (Or.inl rfl) (aY (xix K) (pv 0) aq (fun _ _=>rfl)))
   (ao (aJ (i:=3) dB.nd rfl (Or.inl rfl) (aY (xix K) (pv 0) aq (fun _ _=>rfl)))
   (ao (aJ (i:=4) dB.nd rfl (Or.inl rfl) (aY (xix K) (pv 0) aq (fun _ _=>rfl)))
   (ao (aJ (i:=5) dB.nd rfl (Or.inl rfl) (D8 (bQ (xlist K) rfl B.DX boot_list (aG (mq (xsl K) (pv 4) pB (pI (pv 1))) ak))))
   (ao (je PassesOwn.never (bh wH (aK (jL K) rfl B.cT boot_len (aM (pv 5) ak)) (pv 1) (bF _))
   (aF (oN (sH K (pv 5) (aB lD hr rfl (aM (pv 2) (aM (pv 3) (aM (pv 5) ak))))))))
   (aF (aU (pv 5)))))))),?_⟩
  have hl:=ok.len;have hl2:=ok.short;have lS:(r.starts.map V.int).length=r.starts.length:=List.length_map _;refine⟨_,rfl,_,_,.inr (SqT.of hA),rfl,?_⟩;refine⟨_,rfl,_,_,.inr (SqT.of hA),rfl,?_⟩;refine⟨_,rfl,_,_,.inr (SqT.of hA),rfl,?_⟩;have Uv:vI (r.starts.map V.int) none (some c)=(r.row (min c.toNat r.starts.length)).map V.int:=by
   have e:r.row (min c.toNat r.starts.length)=r.starts.take (min c.toNat r.starts.length):=Rm.jM (Nat.min_le_right _ _);rw[e];have e2:c=((c.toNat:Nat):Int):=by omega
   unfold vI;rw[e2,HT.jZ,HT.ig,List.drop_zero,Nat.sub_zero,lS,List.map_take,Int.toNat_natCast]
  refine Bar.by (fun v H1=>∃l,v = .ref l/\Same H H1/\H l=none/\H1 l=some (.lst ((r.row (min c.toNat r.starts.length)).map V.int))) (fun kk hkk=>?_) ?_
  ·refine⟨_,rfl,_,rfl,_,rfl,?_⟩;by_cases hw:r.starts.length<=c.toNat
   ·-- the whole of it
    refine .inr (.inr ⟨_,SqT.of hS,?_,?_⟩)
    ·have e2:c=((c.toNat:Nat):Int):=by omega
     rw[e2,HT.jZ,HT.ig,lS];omega
    ·refine⟨p2,_,rfl,.inr (SqT.of hS),fun l hl1=>hkk _ _ ⟨l,rfl,Same.new hl1 _,hl1,?_⟩⟩;rw[aA,Nat.min_eq_right hw];have e:r.row r.starts.length=r.starts:=(Rm.jM (Nat.le_refl _)).trans (List.take_length ..);rw[e]
   ·refine .inr (.inl ⟨_,SqT.of hS,?_,fun p3 hp3=>?_⟩)
    ·have e2:c=((c.toNat:Nat):Int):=by omega
     rw[e2,HT.jZ,HT.ig,lS];omega
    ·refine⟨p3,_,rfl,.inr (SqT.of aA),fun l hl1=>?_⟩;have g3:=Same.new hp3 (.tup (vI (r.starts.map V.int) none (some c)));refine hkk _ _ ⟨l,rfl,g3.trans (Same.new hl1 _),g3.free hl1,?_⟩;rw[aA,Uv]
  rintro v H1 ⟨l,rfl,g1,hl1,hr1⟩;refine⟨fun m σ' H'=>∃n:Nat,m=c.toNat-n/\min c.toNat r.starts.length<=n/\n<=c.toNat/\σ'=[some (.ref a),some (.int c),some (.int r.b),some (.ref p),some (.ref p2),some (.ref l)]/\Same H H'/\H' l=some (.lst ((r.row n).map V.int)),
   ⟨_,min c.toNat r.starts.length,rfl,Nat.le_refl _,Nat.min_le_left _ _,rfl,g1,hr1⟩,?_⟩
  rintro m σ' H' ⟨n,rfl,h1,h2,rfl,g,hL⟩;have lL:((r.row n).map V.int).length=n:=by rw[List.length_map,Rw.dU]
  refine⟨_,rfl,.ref l,n,rfl,.inl ⟨_,SqL.of hL,lL.symm⟩,_,rfl,_,_,rfl,rfl,_,rfl,?_⟩;refine mZ (fun cc=>?_) (fun cc=>?_)
  ·have hn:n<c.toNat:=by have:=dec_true cc;omega
   refine⟨_,fun _ _ z=>z,?_⟩;refine⟨_,rfl,.inl ⟨rfl,_,SqL.of hL⟩,_,rfl,_,rfl,_,rfl,r.b,p,l,r.rule,r.row n,rfl,ok.by0,SqT.of (g _ _ hR),SqL.of hL,?_,hl2,?_,ok.f9,ok.Js n (by omega),?_⟩
   ·rw[Rw.dU];omega
   ·rw[Rw.dU];omega
   ·refine⟨l,_,_,rfl,rfl,hL,?_,?_⟩
    ·rw[lL];exact bI (by omega)
    ·refine⟨c.toNat-(n+1),by omega,n+1,rfl,by omega,by omega,rfl,g.upd hl1 _,?_⟩;rw[aA,Rw.dU];have e:r.row (n+1)=r.row n++[Rm.tk r.b (Rm.S r.rule (fun i=>(r.row n).getD i 0) n r.rule.length)]:=by
      show _++[if n<r.starts.length then r.starts.getD n 0 else _]=_;rw[if_neg (by omega)];rfl
     rw[e,List.map_append];rfl
  ·have hn:n=c.toNat:=by have:=dec_false cc;omega
   subst hn;refine⟨_,rfl,?_⟩;exact q l H' g hl1 hL
theorem zf(F:Fn K mg "is_prime" pK ["number"]):uP P w K mg base:=by
 refine F.cal nK (fun vs H Q E h=>?_) (fun f cdv A outer s H vs Q E hr h=>?_)
 ·obtain⟨n,rfl,_⟩:=h;rfl
 ·obtain⟨n,rfl,hn,q⟩:=h;refine⟨_,(ao (iV (bh wH (pv 0) aq (bF _))
   (aF (aU qm))
   cF)
   (ao (aJ (i:=1) nK.nd rfl (Or.inl rfl) aq)
   (ao (je PassesOwn.never (bh PV (aH v_mul (pv 1) (pv 1)) (pv 0) (bF _))
   (ao (iV (bh (xeq K hr) (aH eE (pv 0) (pv 1)) aq (bF _))
   (aF (aU qm))
   cF)
   (aF (aJ (i:=1) nK.nd rfl (Or.inl rfl) (aH (iW K) (pv 1) aq)))))
   (aF (aU qm))))),?_⟩
  refine⟨_,rfl,_,_,rfl,rfl,_,rfl,?_⟩;refine mZ (fun c=>?_) (fun c=>?_)
  ·have c':(n:Int)<2:=dec_true c;exact q false ⟨fun z=>absurd z (by decide),fun z=>by have:=z.1;omega⟩
  ·have c':¬(n:Int)<2:=dec_false c;refine⟨fun m σ' H'=>∃d:Nat,σ'=[some (.int n),some (.int (d:Int))]/\H'=H/\2<=d/\d<=n+1/\m=n+2-d/\∀e:Nat,2<=e->e<d->¬e∣n,⟨_,2,rfl,rfl,by omega,by omega,rfl,fun e h1 h2=>by omega⟩,?_⟩;rintro m σ' H' ⟨d,rfl,rfl,h2,hdn,rfl,hd⟩;refine⟨_,rfl,_,rfl,mulL (by omega) (by omega),_,rfl,_,_,rfl,rfl,_,rfl,?_⟩;refine mZ (fun c2=>?_) (fun c2=>?_)
   ·have c2':(d:Int)*d<=n:=dec_true c2;have c2n:d*d<=n:=by exact_mod_cast c2'
    have hdl:d*1<=d*d:=Nat.mul_le_mul_left d (by omega);refine⟨_,fun _ _ z=>z,?_⟩;refine⟨_,rfl,_,rfl,_,_,rfl,rfl,(by omega:(0:Int)<(d:Int)),?_⟩;refine⟨_,rfl,?_⟩;refine mZ (fun c3=>?_) (fun c3=>?_)
    ·have c3':(n:Int)%(d:Int)=0:=dec_true c3;have hdv:d∣n:=Int.ofNat_dvd.mp (Int.dvd_of_emod_eq_zero c3');exact q false ⟨fun z=>absurd z (by decide),fun z=>absurd z (Om.C8 h2 c2n hdv)⟩
    ·have c3':¬(n:Int)%(d:Int)=0:=dec_false c3;refine⟨_,rfl,?_⟩;exact⟨n+2-(d+1),by omega,d+1,by simp,rfl,by omega,by omega,rfl,fun e h1 h3=>by
      rcases Nat.lt_or_ge e d with z|z
      ·exact hd e h1 z
      ·have:e=d:=by omega
       subst this;exact fun z=>c3' (Int.emod_eq_zero_of_dvd (Int.ofNat_dvd.mpr z))⟩
   ·have c2':¬(d:Int)*d<=n:=dec_false c2;have c2n:¬d*d<=n:=fun z=>c2' (by exact_mod_cast z);exact q true ⟨fun _=>Om.rM (by omega) fun e h1 h3 hdv=>by
     by_cases c4:e<d
     ·exact hd e h1 c4 hdv
     ·have:d*d<=e*e:=Nat.mul_le_mul (by omega) (by omega);omega,fun _=>rfl⟩
theorem ur(F:Fn K mg "prime_above" jV ["number"])(qj:uP P w K mg base):nZ P w K mg base:=by
 refine F.cal jx (fun vs H Q E h=>?_) (fun f cdv A outer s H vs Q E hr h=>?_)
 ·obtain⟨n,q,rfl,_⟩:=h;rfl
 ·obtain⟨n,q',rfl,hq,hnq,hqb,q⟩:=h;refine⟨_,(ao (aJ (i:=1) jx.nd rfl (Or.inl rfl) (aH (iW K) (pv 0) aq))
   (ao (je PassesOwn.never (ji (gF (aB qj hr rfl (aM (pv 1) ak))))
   (aF (aJ (i:=1) jx.nd rfl (Or.inl rfl) (aH (iW K) (pv 1) aq))))
   (aF (aU (pv 1))))),?_⟩
  refine⟨_,rfl,?_⟩;refine⟨fun m σ' H'=>∃f:Nat,σ'=[some (.int n),some (.int (f:Int))]/\H'=H/\n<f/\f<=q'/\m=q'-f,⟨_,n+1,rfl,rfl,by omega,by omega,rfl⟩,?_⟩;rintro m σ' H' ⟨f,rfl,rfl,h1,h2,rfl⟩;refine⟨_,rfl,f,rfl,by omega,fun b hb=>?_⟩;refine⟨b,rfl,?_⟩;cases b with
  |false=>
   refine⟨_,fun _ _ z=>z,?_⟩;refine⟨_,rfl,?_⟩;have hne:f≠q':=fun e=>absurd (hb.mpr (e▸hq)) (by decide);exact⟨q'-(f+1),by omega,f+1,rfl,rfl,by omega,by omega,rfl⟩
  |true=>
   refine⟨_,rfl,?_⟩;exact q f (hb.mp rfl) h1 h2
theorem Ce(F:Fn K mg "inverse" rD ["prime","number"])(bw:iQ P w K mg base):yD P w K mg base:=by
 refine F.cal gh (fun vs H Q E h=>?_) (fun f cdv A outer s H vs Q E hr h=>?_)
 ·obtain⟨P,a,rfl,_⟩:=h;rfl
 ·obtain⟨P',a,rfl,hP,hPb,h0,h1,q⟩:=h;have hr2:2<=P'/\P'<2097152:=⟨hP.1,hPb⟩;refine⟨_,(ao (aJ (i:=2) gh.nd rfl (Or.inl rfl) aq)
   (ao (aJ (i:=3) gh.nd rfl (Or.inl rfl) (pv 1))
   (ao (aJ (i:=4) gh.nd rfl (Or.inl rfl) (aH bN (pv 0) aq))
   (ao (je PassesOwn.never (bh vd (pv 4) aq (bF _))
   (ao (FT (iV (bh (xeq K hr) (aH eE (pv 4) aq) aq (bF _))
   (aF (aJ (i:=2) gh.nd rfl (Or.inl rfl) (aB bw hr rfl (aM (pv 0) (mO (aH v_mul (pv 2) (pv 3)) ak)))))
   cF))
   (ao (aJ (i:=3) gh.nd rfl (Or.inl rfl) (aB bw hr rfl (aM (pv 0) (mO (aH v_mul (pv 3) (pv 3)) ak))))
   (aF (aJ (i:=4) gh.nd rfl (Or.inl rfl) (aH Ab (pv 4) aq))))))
   (aF (aU (pv 2))))))),?_⟩
  refine⟨_,rfl,?_⟩;refine⟨_,rfl,_,_,rfl,rfl,?_⟩;have e0:((P':Int)-2).toNat=P'-2:=by omega
  refine⟨fun m σ' H'=>∃power square left:Int,σ'=[some (.int P'),some (.int a),some (.int power),some (.int square),some (.int left)]/\H'=H/\m=left.toNat/\0<=power/\power<2097152/\0<=square/\square<2097152/\0<=left/\Om.Keeps P' a (P'-2) power square left.toNat,
   ⟨_,1,a,(P':Int)-2,rfl,rfl,rfl,by decide,by decide,by omega,by omega,by omega,by rw[e0];exact Om.zc _ _ _⟩,?_⟩
  rintro m σ' H' ⟨power,square,left,rfl,rfl,rfl,p0,p1,s0,s1,l0,hk⟩;refine⟨_,rfl,_,_,rfl,rfl,_,rfl,?_⟩;refine mZ (fun c=>?_) (fun c=>?_)
  ·have c':0<left:=dec_true c;refine⟨_,fun _ _ z=>z,?_⟩;have hpos:(0:Int)<(P':Int):=by omega
   have tkP:∀n,Rm.tk (P':Int) n=n%(P':Int):=fun n=>Rm.fu (by omega) n;refine Nt.by (fun σ' H2=>∃power':Int,σ'=[some (.int P'),some (.int a),some (.int power'),some (.int square),some (.int left)]/\H2=H'/\((left%2=1/\power'=power*square%(P':Int))∨(¬left%2=1/\power'=power))) (fun N hN=>?_) ?_
   ·refine⟨_,rfl,_,_,rfl,rfl,(by decide:(0:Int)<2),_,rfl,?_⟩;refine mZ (fun c2=>?_) (fun c2=>?_)
    ·refine⟨_,rfl,_,rfl,_,rfl,mulL (by omega) (by omega),P',_,rfl,by omega,?_⟩;exact hN _ _ ⟨_,rfl,rfl,.inl ⟨dec_true c2,tkP _⟩⟩
    ·exact hN _ _ ⟨_,rfl,rfl,.inr ⟨dec_false c2,rfl⟩⟩
   rintro σ' H2 ⟨power',rfl,rfl,hp⟩;refine⟨_,rfl,_,rfl,_,rfl,mulL (by omega) (by omega),P',_,rfl,by omega,?_⟩;refine⟨_,rfl,_,_,rfl,rfl,⟨by decide,by decide⟩,?_⟩;have b1:=dO (square*square) hpos;have b2:=dZ (square*square) hpos;have b3:=dO (power*square) hpos;have b4:=dZ (power*square) hpos;have el:(left/2).toNat=left.toNat/2:=by omega
   refine⟨_,?_,power',square*square%(P':Int),left/2,by rw[tkP];rfl,rfl,rfl,?_,?_,b1,by omega,by omega,?_⟩
   ·omega
   ·rcases hp with⟨_,rfl⟩|⟨_,rfl⟩
    ·exact b3
    ·exact p0
   ·rcases hp with⟨_,rfl⟩|⟨_,rfl⟩
    ·omega
    ·exact p1
   ·rw[el];rcases hp with⟨hodd,rfl⟩|⟨hodd,rfl⟩
    ·exact Om.C6 hk (by omega)
    ·exact Om.Ck hk (by omega)
  ·have c':left=0:=by have:=dec_false c;omega
   subst c';refine⟨_,rfl,?_⟩;exact q power p0 p1 (Om.Ei hk)
theorem Mj(F:Fn K mg "over" Ew ["by","one","other"])(bw:iQ P w K mg base)(rC:yD P w K mg base):Dz P w K mg base:=by
 refine F.cal Lr (fun vs H Q E h=>?_) (fun f cdv A outer s H vs Q E hr h=>?_)
 ·obtain⟨P,one,other,rfl,_⟩:=h;rfl
 ·obtain⟨P',one,other,rfl,hP,hPb,o0,o1,q⟩:=h;refine⟨_,(ao (iV (bh (xeq K hr) (pv 0) aq (bF _))
   (aF Ba)
   cF)
   (ao (iV (bh (xeq K hr) (aB bw hr rfl (aM (pv 0) (aM (pv 2) ak))) aq (bF _))
   (aF Ba)
   cF)
   (aF (aU (aB bw hr rfl (aM (pv 0) (mO (aH v_mul (pv 1) (aB rC hr rfl (aM (pv 0) (aM (pv 2) ak)))) ak))))))),?_⟩
  have hr2:2<=P'/\P'<2097152:=⟨hP.1,hPb⟩;refine⟨_,rfl,_,rfl,?_⟩;refine mZ (fun c=>absurd (dec_true c) (by omega)) (fun _=>?_);have tkP:∀n,Rm.tk (P':Int) n=n%(P':Int):=fun n=>Rm.fu (by omega) n;refine⟨_,rfl,_,rfl,P',other,rfl,by omega,_,rfl,?_⟩;have et:Rm.tk (P':Int) other=other:=by rw[tkP];exact Int.emod_eq_of_lt (by omega) o1
  rw[et];refine mZ (fun c2=>absurd (dec_true c2) (by omega)) (fun _=>?_);refine⟨_,rfl,_,rfl,_,rfl,_,rfl,P',other,rfl,hP,hPb,o0,o1,fun x x0 x1 hx=>?_⟩;refine⟨mulR (by omega) (by omega),P',_,rfl,by omega,?_⟩;rw[tkP,Om.mod_mul (rfl:one%(P':Int)=one%(P':Int)) hx];exact q
theorem Cy(F:Fn K mg "trimmed" ug ["numbers"]):oK P w K mg base:=by
 refine F.cal pH (fun vs H Q E h=>?_) (fun f cdv A outer s H vs Q E hr h=>?_)
 ·obtain⟨l,xs,rfl,_⟩:=h;rfl
 ·obtain⟨l,xs,rfl,hL,q⟩:=h;refine⟨_,(ao (aJ (i:=1) pH.nd rfl (Or.inl rfl) (aK (jL K) rfl B.cT boot_len (aM (pv 0) ak)))
   (ao (je PassesOwn.never (PW.pt (N8 (bh vd (pv 1) aq (bF _)) (KZ (bh (xeq K hr) (aY (xix K) (pv 0) (aH bN (pv 1) aq) (fun _ _=>rfl)) aq (bF _)))))
   (aF (aJ (i:=1) pH.nd rfl (Or.inl rfl) (aH bN (pv 1) aq))))
   (aF (aU (bQ (jF K) rfl B.d7 boot_tuple (aG (mq (xsl K) (pv 0) pB (pI (pv 1))) ak)))))),?_⟩
  have lL:(xs.map V.int).length=xs.length:=List.length_map _;refine⟨_,rfl,.ref l,xs.length,rfl,.inl ⟨_,hL,lL.symm⟩,?_⟩;refine⟨fun m σ' H'=>∃n:Nat,m=n/\n<=xs.length/\σ'=[some (.ref l),some (.int (n:Int))]/\H'=H/\Pm.trim (xs.take n)=Pm.trim xs,⟨_,xs.length,rfl,Nat.le_refl _,rfl,rfl,by rw[List.take_length]⟩,?_⟩;rintro m σ' H' ⟨n,e0,hn,rfl,rfl,ht⟩;refine⟨_,rfl,_,_,rfl,rfl,_,rfl,?_⟩;refine mZ (fun c=>?_) (fun c=>uQ ?_)
  ·have h0:0<n:=by have:=dec_true c;omega
   have e1:((n:Int)-1).toNat=n-1:=by omega
   refine⟨_,rfl,_,rfl,_,_,rfl,rfl,_,_,.inl hL,aV (ns:=xs) (by omega:(0:Int)<=(n:Int)-1) (by omega),_,rfl,?_⟩;refine mZ (fun c2=>?_) (fun c2=>?_)
   ·have hz:=dec_true c2;rw[e1]at hz;refine⟨_,fun _ _ z=>z,?_⟩;refine⟨_,rfl,_,_,rfl,rfl,?_⟩;refine⟨n-1,by omega,n-1,rfl,by omega,?_,rfl,Ef h0 hn ht hz⟩;rw[show((n-1:Nat):Int)=(n:Int)-1 by omega];rfl
   ·have hz:=dec_false c2;rw[e1]at hz;refine⟨_,rfl,_,rfl,_,rfl,.inl ⟨_,hL,fun p hp=>?_⟩⟩;refine⟨p,_,rfl,.inl ⟨SqL.of aA,fun p2 hp2=>?_⟩⟩;refine q p2 _ ((Same.new hp _).trans (Same.new hp2 _)) ?_;rw[aA,wO,<-List.map_take,wY hn ht (.inr hz)]
  ·have h0:n=0:=by have:=dec_false c;omega
   refine⟨_,rfl,_,rfl,_,rfl,.inl ⟨_,hL,fun p hp=>?_⟩⟩;refine⟨p,_,rfl,.inl ⟨SqL.of aA,fun p2 hp2=>?_⟩⟩;refine q p2 _ ((Same.new hp _).trans (Same.new hp2 _)) ?_;rw[aA,wO,<-List.map_take,wY hn ht (.inl h0)]
theorem CM(F:Fn K mg "divided" qU ["by","one","other"])(bw:iQ P w K mg base)(eG:oK P w K mg base):nT P w K mg base:=by
 refine F.cal gq (fun vs H Q E h=>?_) (fun f cdv A outer s H vs Q E hr h=>?_)
 ·obtain⟨b,a,c,P,M,rfl,_⟩:=h;rfl
 ·obtain⟨b,a,c,P,M,rfl,hb,hb1,hA,hC,zA,zC,hM,nP,bA,bC,q⟩:=h;refine⟨_,(ao (aJ (i:=3) gq.nd rfl (Or.inl rfl) (aH bN (aK (jL K) rfl B.cT boot_len (aM (pv 2) ak)) aq))
   (ao (aJ (i:=4) gq.nd rfl (Or.inl rfl) (aH v_mul (jf (fK aq ak)) (aK (Dh rfl) rfl B.Xm boot_max (fK aq (mO (aH bN (aK (jL K) rfl B.cT boot_len (aM (pv 1) ak)) (pv 3)) ak)))))
   (ao (aJ (i:=5) gq.nd rfl (Or.inl rfl) (bQ (xlist K) rfl B.DX boot_list (aM (pv 1) ak)))
   (ao (j8 PassesOwn.never rfl (Dc rfl B.bW (mO (aH bN (aK (jL K) rfl B.cT boot_len (aM (pv 4) ak)) aq) (NW (Af uh aq) (NW (Af uh aq) ak)))) (aX (i:=6) gq.nd rfl (Or.inl rfl))
   (ao (aJ (i:=7) gq.nd rfl (Or.inl rfl) (aY (xix K) (pv 5) (aH (iW K) (pv 6) (pv 3)) (fun _ _=>rfl)))
   (ao (qI (pv 7) (rJ (pv 4) (pv 6) set_list))
   (aF (j8 PassesOwn.never rfl (bJ rfl B.bW (aG (aK (jL K) rfl B.cT boot_len (aM (pv 2) ak)) ak)) (aX (i:=8) gq.nd rfl (Or.inl rfl))
   (aF (qI (aB bw hr rfl (aM (pv 0) (mO (aH bN (aY (xix K) (pv 5) (aH (iW K) (pv 6) (pv 8)) (fun _ _=>rfl)) (aH v_mul (pv 7) (aY (xix K) (pv 2) (pv 8) (fun _ _=>rfl)))) ak))) (rJ (pv 5) (aH (iW K) (pv 6) (pv 8)) set_list))))))))
   (aF (aU (gW (aG (aB eG hr rfl (aM (pv 4) ak)) (aG (aB eG hr rfl (aM (pv 5) ak)) ak))))))))),?_⟩
  have lP:(P.map V.int).length=P.length:=List.length_map _;have lM:(M.map V.int).length=M.length:=List.length_map _;have hMp:=hM.pos;refine⟨_,rfl,.ref c,M.length,rfl,.inr ⟨_,SqT.of hC,lM.symm⟩,_,_,rfl,rfl,?_⟩;refine⟨(by show 1<=sizeLine;decide),fun l0 h0=>?_⟩;have g0:=Same.new h0 (.lst [.int 0]);refine⟨_,rfl,.ref a,P.length,rfl,.inr ⟨_,SqT.of (g0 _ _ hA),lP.symm⟩,_,rfl,_,_,rfl,rfl,_,_,rfl,?_⟩;have en:(if(P.length:Int)-((M.length:Int)-1)>0 then(P.length:Int)-((M.length:Int)-1)else 0).toNat=P.length-(M.length-1):=(max_zero P.length M.length).resolve_right (by omega);refine⟨_,aA,?_,?_,?_,fun lo hlo=>?_⟩
  ·split<;>omega
  ·split<;>omega
  ·rw[en];show 1*(P.length-(M.length-1))<=sizeLine;rw[Nat.one_mul];exact Nat.le_of_lt (bI (by omega))
  rw[en,oG];have ZX:H lo=none:=g0.free hlo;have g1:=g0.trans (Same.new hlo (.lst ((Pm.ofF (P.length-(M.length-1)) fun _=>0).map V.int)));have hO0:(upd (upd H l0 (.lst [.int 0])) lo (.lst ((Pm.ofF (P.length-(M.length-1)) fun _=>0).map V.int))) lo=some (.lst ((Pm.ofF (P.length-(M.length-1)) fun _=>0).map V.int)):=aA;generalize upd (upd H l0 (.lst [.int 0])) lo (.lst ((Pm.ofF (P.length-(M.length-1)) fun _=>0).map V.int))=H1 at g1 hO0;refine⟨_,rfl,a,_,rfl,.inr (SqT.of (g1 _ _ hA)),fun ll hll=>?_⟩;have Zo:H ll=none:=g1.free hll;have hne:lo≠ll:=dX hO0 hll;have gll:=Same.new hll (.lst (P.map V.int));have g2:=g1.trans gll;have hO2:=gll _ _ hO0;have hL2:(upd H1 ll (.lst (P.map V.int))) ll=some (.lst (P.map V.int)):=aA;generalize upd H1 ll (.lst (P.map V.int))=H2 at gll g2 hO2 hL2;generalize hn:P.length-(M.length-1)=n at hO2;refine⟨_,rfl,.ref lo,n,rfl,.inl ⟨_,SqL.of hO2,by rw[List.length_map,Pm.aP]⟩,_,_,rfl,rfl,_,rfl,_,rfl,(n:Int)-1,-1,rfl,⟨by omega,by omega,by omega,by omega⟩,?_⟩;refine Io (lo:=(n:Int)-1) (n:=((n:Int)-1-(-1)).toNat) (fun i σ' H'=>∃o6 o7 o8 O L,σ'=[some (.int b),some (.ref a),some (.ref c),some (.int ((M.length:Int)-1)),some (.ref lo),some (.ref ll),o6,o7,o8]/\Same H H'/\H' lo=some (.lst (List.map V.int O))/\H' ll=some (.lst (List.map V.int L))/\Pm.G3 b P M (n-i) O L/\(∀k,Rm.Bd (900000+i*124001) (Pm.co O k))/\∀k,Rm.Bd (900000+i*124001) (Pm.co L k))
   ⟨_,_,_,_,P,rfl,g2,hO2,hL2,(by rw[Nat.sub_zero,<-hn];exact Pm.G3.start nP),fun k=>by rw[Pm.bV];split<;>exact Rm.Bd.zero _,fun k=>(Pm.pD bA k).mono (by omega)⟩ ?_ ?_
  ·rintro i σ' H' hi ⟨o6,o7,o8,O,L,rfl,g,hO,hL,I,bO,bL⟩;have hi':i<n:=by omega
   have hs:n-i=n-(i+1)+1:=by omega
   rw[hs]at I;generalize es:n-(i+1)=s at I;have esI:(n:Int)-1-(i:Int)=(s:Int):=by omega
   rw[esI];have hlL:=I.ll;have hlO:=I.ol;have lO:(O.map V.int).length=O.length:=List.length_map _;have e1:((s:Int)+((M.length:Int)-1)).toNat=s+(M.length-1):=by omega
   refine⟨_,rfl,_,rfl,_,rfl,_,_,.inl (SqL.of hL),aV (ns:=L) (by omega:(0:Int)<=(s:Int)+((M.length:Int)-1)) (by omega),?_⟩;rw[e1];have hF:Rm.Bd (900000+i*124001) (L.getD (s+(M.length-1)) 0):=bL _;have eF:L.getD (s+(M.length-1)) 0=Pm.co L (s+(M.length-1)):=rfl;rw[eF]at hF⊢;generalize hf:Pm.co L (s+(M.length-1))=f at hF;refine⟨_,rfl,_,rfl,_,rfl,lo,_,_,s,rfl,rfl,hO,tK rfl (by rw[lO];omega),?_⟩;have hO3:(upd H' lo (.lst ((O.map V.int).set s (.int f)))) lo=some (.lst ((O.set s f).map V.int)):=by rw[aA,jQ]
   have hL3:(upd H' lo (.lst ((O.map V.int).set s (.int f)))) ll=some (.lst (L.map V.int)):=by rw[cB hne.symm];exact hL
   have g3:=g.upd ZX (.lst ((O.map V.int).set s (.int f)));generalize upd H' lo (.lst ((O.map V.int).set s (.int f)))=H3 at hO3 hL3 g3;refine⟨_,rfl,.ref c,M.length,rfl,.inr ⟨_,SqT.of (g3 _ _ hC),lM.symm⟩,?_⟩;refine⟨(M.length:Int),rfl,(by omega:-(2^62)<=(M.length:Int)),(by omega:(M.length:Int)<2^62),?_⟩;refine fP (lo:=0) (n:=(M.length:Int).toNat) (fun t σ' H'=>∃o8 L',σ'=[some (.int b),some (.ref a),some (.ref c),some (.int ((M.length:Int)-1)),some (.ref lo),some (.ref ll),some (.int (s:Int)),some (.int f),o8]/\Same H H'/\H' lo=some (.lst ((O.set s f).map V.int))/\H' ll=some (.lst (List.map V.int L'))/\L'.length=L.length/\∀k,Pm.co L' k=Pm.lf b f s t L M k)
    ⟨_,L,rfl,g3,hO3,hL3,rfl,fun k=>(Pm.K2 ..).symm⟩ ?_ ?_
   ·rintro t σ' H4 ht ⟨o8,L',rfl,g4,hO4,hL4,zL',eL'⟩;have ht':t<M.length:=by omega
    have lL':(L'.map V.int).length=L'.length:=List.length_map _;have e2:((s:Int)+(0+(t:Int))).toNat=s+t:=by omega
    have e3:(0+(t:Int)).toNat=t:=by omega
    refine⟨_,rfl,_,rfl,_,rfl,_,rfl,_,_,.inl (SqL.of hL4),aV (ns:=L') (by omega:(0:Int)<=(s:Int)+(0+(t:Int))) (by omega),?_⟩;refine⟨_,rfl,_,rfl,_,rfl,_,_,.inr (SqT.of (g4 _ _ hC)),aV (ns:=M) (by omega:(0:Int)<=0+(t:Int)) (by omega),?_⟩;refine⟨tU hF (Rm.Bd.getD bC _) (by have:i*124001<=40*124001:=Nat.mul_le_mul_right _ (by omega);omega),_,_,rfl,rfl,?_⟩;refine⟨b,_,rfl,hb,?_⟩;refine⟨_,rfl,_,rfl,_,rfl,ll,_,_,s+t,rfl,rfl,hL4,tK (by omega) (by rw[lL'];omega),?_⟩;refine⟨_,L'.set (s+t) _,rfl,g4.upd Zo _,(by rw[cB hne];exact hO4),(by rw[aA,jQ]),(by rw[List.length_set];exact zL'),fun k=>?_⟩;rw[Pm.sS _ _ _ _ (by omega),Pm.Lp,e2,e3,<-eL' k];by_cases ek:k=s+t
    ·rw[if_pos ek,if_pos ek,ek];rfl
    ·rw[if_neg ek,if_neg ek]
   ·rintro σ' H4 ⟨o8,L',rfl,g4,hO4,hL4,zL',eL'⟩;rw[Int.toNat_natCast]at eL';refine⟨_,_,_,O.set s f,L',rfl,g4,hO4,hL4,?_,fun k=>?_,fun k=>?_⟩
    ·rw[<-hf];rw[<-hf]at eL';exact I.step hM (by omega) zL' eL'
    ·rw[Pm.sS _ _ _ _ (by omega)];split
     ·exact hF.mono (by omega)
     ·exact(bO k).mono (by omega)
    ·rw[eL' k];exact(Pm.Rb hb hb1 (by omega) hF bL bC k).mono (by omega)
  ·rintro σ' H' ⟨o6,o7,o8,O,L,rfl,g,hO,hL,I,bO,bL⟩;have e9:((n:Int)-1-(-1)).toNat=n:=by omega
   rw[e9]at I bO bL;rw[Nat.sub_self]at I;refine⟨_,rfl,lo,O,rfl,SqL.of hO,fun t1 H3 g3 h3=>?_⟩;refine⟨_,rfl,ll,L,rfl,SqL.of (g3 _ _ hL),fun t2 H4 g4 h4=>?_⟩;refine⟨(by show 2<=sizeLine;decide),fun t ht=>?_⟩;have gt:=Same.new ht (.tup [.ref t1,.ref t2]);have hz:900000+n*124001<=5900000:=by have:n*124001<=40*124001:=Nat.mul_le_mul_right _ (by omega);omega
   refine q t t1 t2 (Pm.trim O) (Pm.trim L) _ (g.trans (g3.trans (g4.trans gt))) aA (gt _ _ (g4 _ _ h3)) (gt _ _ h4) (I.stop hM) (fun z hz'=>(DM bO z hz').mono hz) (fun z hz'=>(DM bL z hz').mono hz) ?_;have:=Pm.eX O;have:=I.ol;omega
theorem Ji(F:Fn K mg "monic" yL ["prime","poly"])(uN:Dz P w K mg base):Df P w K mg base:=by
 refine F.cal Bj (fun vs H Q E h=>?_) (fun f cdv A outer s H vs Q E hr h=>?_)
 ·obtain⟨P,a,p,rfl,_⟩:=h;rfl
 ·obtain⟨P',a,p,rfl,hP,hPb,hA,zA,pP,q⟩:=h;refine⟨_,(ao (iV (bh (xeq K hr) (aK (jL K) rfl B.cT boot_len (aM (pv 1) ak)) aq (bF _))
   (aF (aU (gW ak)))
   cF)
   (ao (aJ (i:=2) Bj.nd rfl (Or.inr rfl) (aY (xix K) (pv 1) (aH bN (aK (jL K) rfl B.cT boot_len (aM (pv 1) ak)) aq) (fun _ _=>rfl)))
   (aF (aU (bQ (jF K) rfl B.d7 boot_tuple (aG (dJ (sc:=EY) (N:=["number","last","prime"]) (ix:=[none,some 2,some 0]) cN rfl (Ho K (pv 1)) (fun cl C s₀ H₀ ex=>⟨(aX (i:=0) iZ rfl (Or.inl rfl)),cO,(aB uN hr rfl (aM (pv 2) (aM (pv 0) (aM (pv 1) ak))))⟩)) ak)))))),?_⟩
  have hr2:2<=P'/\P'<2097152:=⟨hP.1,hPb⟩;have lP:(p.map V.int).length=p.length:=List.length_map _;refine⟨_,rfl,.ref a,p.length,rfl,.inr ⟨_,SqT.of hA,lP.symm⟩,_,rfl,?_⟩;refine mZ (fun c=>?_) (fun c=>?_)
  ·have c':(p.length:Int)=0:=dec_true c;have e:p=[]:=List.eq_nil_of_length_eq_zero (by omega);subst e;exact⟨Nat.zero_le _,fun t ht=>q t [] _ (Same.new ht _) aA (Pm.u9.nil _)⟩
  ·have c':¬(p.length:Int)=0:=dec_false c;have hn:p≠[]:=fun e=>c' (by rw[e];rfl);have hpos:0<p.length:=by omega
   have e1:((p.length:Int)-1).toNat=p.length-1:=by omega
   refine⟨_,rfl,_,rfl,.ref a,p.length,rfl,.inr ⟨_,SqT.of hA,lP.symm⟩,_,_,rfl,rfl,_,_,.inr (SqT.of hA),aV (ns:=p) (by omega:(0:Int)<=(p.length:Int)-1) (by omega),?_⟩;rw[e1];have l0:=Pm.rO hn pP.tr;have l1:=pP.co (p.length-1);rw[Rm.fu (by omega)]at l1;have r0:0<=Pm.co p (p.length-1):=by rw[<-l1];exact Int.emod_nonneg _ (by omega)
   have r1:Pm.co p (p.length-1)<(P':Int):=by rw[<-l1];exact Int.emod_lt_of_pos _ (by omega)
   refine⟨_,rfl,a,rfl,.inr ⟨⟨_,SqT.of hA⟩,vM hA (by omega) rfl (fun x=>x*(Pm.co p (p.length-1))^(P'-2)%(P':Int)) ?_ ?_⟩⟩
   ·intro H2 x g2 hx k hk;exact⟨_,rfl,_,rfl,_,rfl,P',x,_,rfl,hP,hPb,by show 0<Pm.co p (p.length-1);omega,r1,hk⟩
   ·intro D hD;refine⟨D,_,rfl,.inl ⟨SqL.of aA,fun t ht=>?_⟩⟩;exact q t (Pm.gG P' p) _ ((Same.new hD _).trans (Same.new ht _)) aA (Pm.EB hP pP hn)
theorem yO(F:Fn K mg "greatest" qb ["by","one","other"])(tQ:Df P w K mg base)(fX:nT P w K mg base):pQ P w K mg base:=by
 refine F.cal gk (fun vs H Q E h=>?_) (fun f cdv A outer s H vs Q E hr h=>?_)
 ·obtain⟨P,a,c,p,r,rfl,_⟩:=h;rfl
 ·obtain⟨P',a,c,p,r,rfl,hP,hPb,hA,hC,zA,zC,pP,pR,hne,q⟩:=h;refine⟨_,(ao (aJ (i:=3) gk.nd rfl (Or.inl rfl) (aB tQ hr rfl (aM (pv 0) (aM (pv 1) ak))))
   (ao (aJ (i:=4) gk.nd rfl (Or.inl rfl) (aB tQ hr rfl (aM (pv 0) (aM (pv 2) ak))))
   (ao (je PassesOwn.never (bh vd (aK (jL K) rfl B.cT boot_len (aM (pv 4) ak)) aq (bF _))
   (ao (aJ (i:=5) gk.nd rfl (Or.inl rfl) (aY (xix K) (aB fX hr rfl (aM (pv 0) (aM (pv 3) (aM (pv 4) ak)))) aq (fun _ _=>rfl)))
   (ao (aJ (i:=3) gk.nd rfl (Or.inl rfl) (pv 4))
   (aF (aJ (i:=4) gk.nd rfl (Or.inl rfl) (aB tQ hr rfl (aM (pv 0) (aM (pv 5) ak))))))))
   (aF (aU (pv 3)))))),?_⟩
  have hr2:2<=P'/\P'<2097152:=⟨hP.1,hPb⟩;refine⟨_,rfl,_,rfl,P',a,p,rfl,hP,hPb,hA,by omega,pP,fun tg g0 H1 g1 hG mG=>?_⟩;refine⟨_,rfl,_,rfl,P',c,r,rfl,hP,hPb,g1 _ _ hC,by omega,pR,fun ts s0 H2 g2 hS' mS=>?_⟩;have lg0:=mG.len;have ls0:=mS.len;refine⟨fun m σ' H'=>∃(o5:Option V) (tg ts:Addr) (g s:List Int),m=s.length/\σ'=[some (.int P'),some (.ref a),some (.ref c),some (.ref tg),some (.ref ts),o5]/\Same H H'/\H' tg=some (.tup (g.map V.int))/\H' ts=some (.tup (s.map V.int))/\Pm.JD P' p r g s/\g.length<=max p.length r.length/\s.length<=max p.length r.length,
   ⟨_,_,tg,ts,g0,s0,rfl,rfl,g1.trans g2,g2 _ _ hG,hS',Pm.JD.start mG mS hne,by omega,by omega⟩,?_⟩
  rintro m σ' H' ⟨o5,tg,ts,gg,ss,rfl,rfl,g,hG,hS',I,zg,zs⟩;have lS:(ss.map V.int).length=ss.length:=List.length_map _;refine⟨_,rfl,.ref ts,ss.length,rfl,.inr ⟨_,SqT.of hS',lS.symm⟩,_,_,rfl,rfl,_,rfl,?_⟩;refine mZ (fun cc=>?_) (fun cc=>?_)
  ·have hs:ss≠[]:=fun e=>by have:=dec_true cc;rw[e]at this;simp at this
   have hMs:=I.sm_ hs;refine⟨_,fun _ _ z=>z,?_⟩;refine⟨_,rfl,_,rfl,_,rfl,P',tg,ts,gg,ss,rfl,by omega,by omega,hG,hS',by omega,by omega,hMs,I.gy.co,(fun x hx=>(Lq hr2.1 hr2.2 I.gy x hx).mono (by decide)),Lq hr2.1 hr2.2 I.sy,fun t x y o l H3 g3 hT hX hY D _ _ _=>?_⟩;refine⟨_,_,.inr (SqT.of hT),rfl,?_⟩;refine⟨_,rfl,?_⟩;have hsh:=D.short;refine⟨_,rfl,_,rfl,P',y,l,rfl,hP,hPb,hY,by omega,D.ry,fun tm m H4 g4 hM mM=>?_⟩;have lm:=mM.len;exact⟨m.length,by omega,_,ts,tm,ss,m,rfl,rfl,g.trans (g3.trans g4),(g3.trans g4) _ _ hS',hM,I.step hs D mM,zs,by omega⟩
  ·have hs:ss=[]:=List.eq_nil_of_length_eq_zero (by have:=dec_false cc;omega);refine⟨_,rfl,?_⟩;exact q tg gg H' g hG (I.stop hs) zg
theorem B4(F:Fn K mg "nearest" sU ["modulus","number"]):sE P w K mg base:=by
 refine F.cal uH (fun vs H Q E h=>?_) (fun f cdv A outer s H vs Q E hr h=>?_)
 ·obtain⟨M,x,rfl,_⟩:=h;rfl
 ·obtain⟨M,x,rfl,hM,q⟩:=h;refine⟨_,(ao (aJ (i:=2) uH.nd rfl (Or.inl rfl) (aH eE (pv 1) (pv 0)))
   (aF (aU (vD (bh vd (aH v_mul aq (pv 2)) (pv 0) (bF _)) (aH bN (pv 2) (pv 0)) (pv 2))))),?_⟩
  refine⟨_,rfl,_,rfl,_,_,rfl,rfl,hM,?_⟩;refine⟨_,rfl,mulL (by decide) (by decide),_,rfl,_,_,rfl,rfl,_,rfl,?_⟩;refine mZ (fun c=>?_) (fun c=>?_)
  ·have c':2*(x%M)>M:=dec_true c;refine⟨_,rfl,_,rfl,_,_,rfl,rfl,?_⟩;have e:Pm.nr M x=x%M-M:=if_pos c';rw[e]at q;exact q
  ·have c':¬2*(x%M)>M:=dec_false c;refine⟨_,rfl,?_⟩;have e:Pm.nr M x=x%M:=if_neg c';rw[e]at q;exact q
theorem EW(F:Fn K mg "joined" vZ ["modulus","number","prime","rest"])(uN:Dz P w K mg base)(bw:iQ P w K mg base)(jC:sE P w K mg base):AZ P w K mg base:=by
 refine F.cal xH (fun vs H Q E h=>?_) (fun f cdv A outer s H vs Q E hr h=>?_)
 ·obtain⟨M,t,p,s,rfl,_⟩:=h;rfl
 ·obtain⟨M,t,p,s',rfl,hp,hpb,hM,hpM,q⟩:=h;refine⟨_,(ao (aJ (i:=4) xH.nd rfl (Or.inl rfl) (aB uN hr rfl (aM (pv 2) (aG (aB bw hr rfl (aM (pv 2) (mO (aH bN (pv 3) (pv 1)) ak))) (aG (aB bw hr rfl (aM (pv 2) (aM (pv 0) ak))) ak)))))
   (aF (aU (aB jC hr rfl (mO (aH v_mul (pv 0) (pv 2)) (mO (aH (iW K) (pv 1) (aH v_mul (pv 0) (pv 4))) ak)))))),?_⟩
  have h2:=hp.1;have hp0:(p:Int)≠0:=by omega
  have r0:=Int.emod_nonneg M hp0;have r1:=Int.emod_lt_of_pos M (show(0:Int)<p by omega);have rn:M%(p:Int)≠0:=fun z=>hpM (Int.dvd_of_emod_eq_zero z);have et:Rm.tk (p:Int) M=M%(p:Int):=Rm.fu hp0 M;refine⟨_,rfl,_,rfl,_,rfl,_,rfl,_,_,rfl,rfl,p,_,rfl,by omega,?_⟩;refine⟨_,rfl,_,rfl,p,M,rfl,by omega,?_⟩;refine⟨p,_,_,rfl,hp,hpb,by rw[et];omega,by rw[et];exact r1,?_⟩;have hw:=Pm.Hl (M:=M) (t:=t) (s:=s') hp;refine⟨_,rfl,_,rfl,mulR (by omega) (by omega),?_⟩;refine⟨_,rfl,_,rfl,_,rfl,mulR (by show -(2^64)<Pm.jw M t p s';omega) (by show Pm.jw M t p s'<2^64;omega),?_⟩;exact⟨_,_,rfl,Int.mul_pos hM (by omega),q⟩
theorem wk(F:Fn K mg "taken_poly" kZ ["prime","poly"])(eG:oK P w K mg base)(bw:iQ P w K mg base):qJ P w K mg base:=by
 refine F.cal vR (fun vs H Q E h=>?_) (fun f cdv A outer s H vs Q E hr h=>?_)
 ·obtain⟨p,a,P,rfl,_⟩:=h;rfl
 ·obtain⟨p,a,P',rfl,hp,hA,zA,q⟩:=h;refine⟨_,(aF (aU (aB eG hr rfl (aG (dJ (sc:=uz) (N:=["number","prime"]) (ix:=[none,some 0]) cN rfl (Ho K (pv 1)) (fun cl C s₀ H₀ ex=>⟨(aX (i:=0) iZ rfl (Or.inl rfl)),cO,(aB bw hr rfl (aM (pv 1) (aM (pv 0) ak)))⟩)) ak)))),?_⟩;refine⟨_,rfl,a,rfl,.inr ⟨⟨_,SqT.of hA⟩,vM hA (by omega) rfl (fun x=>Rm.tk p x) ?_ ?_⟩⟩
  ·intro H2 x g2 hx k hk;exact⟨_,rfl,_,rfl,p,x,rfl,by omega,hk⟩
  ·intro D hD;refine⟨D,_,rfl,SqL.of aA,fun t1 H3 g3 h3=>?_⟩;exact q t1 H3 ((Same.new hD _).trans g3) h3
theorem B6(F:Fn K mg "divides" qX ["monic_one","poly"])(fX:nT P w K mg base):wK P w K mg base:=by
 refine F.cal CZ (fun vs H Q E h=>?_) (fun f cdv A outer s H vs Q E hr h=>?_)
 ·obtain⟨m,a,M,P,rfl,_⟩:=h;rfl
 ·obtain⟨m,a,M,P',rfl,hMm,hA,zM,zP,hM,bM,bP,q⟩:=h;refine⟨_,(aF (aU (lZ (xeq K hr) (aY (xix K) (aB fX hr rfl (fK aq (aM (pv 1) (aM (pv 0) ak)))) aq (fun _ _=>rfl)) (gW ak) (bF _)))),?_⟩;refine⟨_,rfl,_,rfl,0,a,m,P',M,rfl,by decide,by decide,hA,hMm,zP,zM,hM,fun k=>Rm.aW _,bP,bM,fun t x y o l H3 g3 hT hX hY D _ _ _=>?_⟩;refine⟨_,_,.inr (SqT.of hT),rfl,?_⟩;refine⟨Nat.zero_le _,fun t0 ht0=>?_⟩;have g4:=Same.new ht0 (.tup []);refine Y7 (ns:=l) (ms:=[]) (SqT.of (g4 _ _ hY)) (SqT.of aA) ?_;exact q _ _ (g3.trans g4) (by show decide (l=[])=true↔_;rw[decide_eq_true_iff];exact D.dv hM)
theorem oZ(F:Fn K mg "whole_greatest" gJ ["one","other"])(oB:wK P w K mg base)(jX:nZ P w K mg base)(iG:pQ P w K mg base)(jg:qJ P w K mg base)(jC:sE P w K mg base)(vY:AZ P w K mg base):j7 P w K mg base:=by
 refine F.cal aO (fun vs H Q E h=>?_) (fun f cdv A outer s H vs Q E hr h=>?_)
 ·obtain⟨a,c,P,t,g,N,U,V',rfl,_⟩:=h;rfl
 ·obtain⟨a,c,P',t,g,N,U,V',rfl,hA,hC,zP,zt,hP,bP,bt,G,hV,hU,hUV,q⟩:=h;refine⟨_,(ao (aJ (i:=2) aO.nd rfl (Or.inl rfl) (pv 0))
   (ao (aJ (i:=3) aO.nd rfl (Or.inr rfl) aq)
   (ao (aJ (i:=4) aO.nd rfl (Or.inr rfl) (vo rfl B.cI))
   (ao (aJ (i:=5) aO.nd rfl (Or.inl rfl) qm)
   (ao (je PassesOwn.never (PW.pt (m6 (ji (gF (pv 5))) (m6 (ji (gF (aB oB hr rfl (aM (pv 2) (aM (pv 0) ak))))) (qC (ji (gF (aB oB hr rfl (aM (pv 2) (aM (pv 1) ak)))))))))
   (ao (aJ (i:=4) aO.nd rfl (Or.inr rfl) (aB jX hr rfl (aM (pv 4) ak)))
   (ao (aJ (i:=6) aO.nd rfl (Or.inr rfl) (aB iG hr rfl (aM (pv 4) (aG (aB jg hr rfl (aM (pv 4) (aM (pv 0) ak))) (aG (aB jg hr rfl (aM (pv 4) (aM (pv 1) ak))) ak)))))
   (aF (iV (bh wH (aK (jL K) rfl B.cT boot_len (aM (pv 6) ak)) (aK (jL K) rfl B.cT boot_len (aM (pv 2) ak)) (bF _))
   (ao (aJ (i:=2) aO.nd rfl (Or.inl rfl) (bQ (jF K) rfl B.d7 boot_tuple (aG (dJ (sc:=oh) (N:=["rest","prime"]) (ix:=[none,some 4]) cN rfl (Ho K (pv 6)) (fun cl C s₀ H₀ ex=>⟨(aX (i:=0) iZ rfl (Or.inl rfl)),cO,(aB jC hr rfl (aM (pv 1) (aM (pv 0) ak)))⟩)) ak)))
   (ao (aJ (i:=3) aO.nd rfl (Or.inr rfl) (pv 4))
   (aF (aJ (i:=5) aO.nd rfl (Or.inl rfl) qm))))
   (aF (FT (iV (bh (xeq K hr) (aK (jL K) rfl B.cT boot_len (aM (pv 6) ak)) (aK (jL K) rfl B.cT boot_len (aM (pv 2) ak)) (bF _))
   (ao (aJ (i:=7) aO.nd rfl (Or.inr rfl) (pv 2))
   (ao (aJ (i:=2) aO.nd rfl (Or.inl rfl) (bQ (jF K) rfl B.d7 boot_tuple (aG (dJ (sc:=nR) (N:=["k","before","modulus","prime","seen"]) (ix:=[none,some 7,some 3,some 4,some 6]) cN rfl (bJ rfl B.bW (aG (aK (jL K) rfl B.cT boot_len (aM (pv 6) ak)) ak)) (fun cl C s₀ H₀ ex=>⟨(aX (i:=0) iZ rfl (Or.inl rfl)),cO,(aB vY hr rfl (aM (pv 2) (aG (aY (xix K) (pv 1) (pv 0) (fun _ _=>rfl)) (aM (pv 3) (aG (aY (xix K) (pv 4) (pv 0) (fun _ _=>rfl)) ak)))))⟩)) ak)))
   (ao (aJ (i:=3) aO.nd rfl (Or.inr rfl) (aH v_mul (pv 3) (pv 4)))
   (aF (aJ (i:=5) aO.nd rfl (Or.inl rfl) (lZ (xeq K hr) (pv 2) (pv 7) (bF _)))))))
   cF))))))))
   (aF (aU (pv 2)))))))),?_⟩
  have hgP:g.length<=P'.length:=G.one.len rfl G.mon hP;refine⟨_,rfl,?_⟩;refine⟨Ox H a c P' g N,⟨_,_,_,a,P',1,1000000,true,0,0,rfl,rfl,Same.refl _,hA,Pm.WgI.start hP hgP _,Om.many,by omega,by omega⟩,?_⟩;rintro m σ' H' ⟨o6,o7,tt,told,M,prime,ripe,bad,good,rfl,rfl,gg,hT,I,QY,hbig,aag⟩;have bT:=R4 I bP aag;have zT:=I.le;refine⟨_,rfl,ripe,rfl,?_⟩;refine mZ (fun cr=>?b1) (fun cr=>?n1)
  case' b1=>
   have hne:¬(ripe=true/\told=g):=fun z=>by rw[z.1]at cr;exact absurd cr (by decide)
   have gx:=gg;have hTx:=hT;generalize H'=Hx at gx hTx⊢
  case' n1=>
   refine⟨_,rfl,_,rfl,tt,a,told,P',rfl,hT,gg _ _ hA,by omega,zP,I.mon,bT,(fun x hx=>(bP x hx).mono (by decide)),fun b1 H1 g1 e1=>?_⟩;refine⟨b1,rfl,?_⟩;refine mZ (fun c1=>?b2) (fun c1=>?n2)
  case' b2=>
   have hne:¬(ripe=true/\told=g):=fun z=>by
    have:b1=true:=e1.mpr (by rw[z.2];exact G.one);rw[this]at c1;exact absurd c1 (by decide)
   have gx:=gg.trans g1;have hTx:=g1 _ _ hT;generalize H1=Hx at gx hTx⊢
  case' n2=>
   refine⟨_,rfl,_,rfl,tt,c,told,t,rfl,g1 _ _ hT,(gg.trans g1) _ _ hC,by omega,zt,I.mon,bT,bt,fun b2 H2 g2 e2=>?_⟩;refine⟨b2,rfl,?_⟩;refine mZ (fun c2=>?b3) (fun c2=>?n3)
  case n3=>
   have hb1:b1=true:=by cases b1<;>first|rfl|exact absurd rfl c1
   have hb2:b2=true:=by cases b2<;>first|rfl|exact absurd rfl c2
   have e:=G.told I.mon (e1.mp hb1) (e2.mp hb2) I.ge;subst e;refine⟨_,rfl,?_⟩;exact q tt H2 (gg.trans (g1.trans g2)) ((g1.trans g2) _ _ hT)
  case' b3=>
   have hne:¬(ripe=true/\told=g):=fun z=>by
    have:b2=true:=e2.mpr (by rw[z.2];exact G.two);rw[this]at c2;exact absurd c2 (by decide)
   have gx:=gg.trans (g1.trans g2);have hTx:=(g1.trans g2) _ _ hT;generalize H2=Hx at gx hTx⊢
  all_goals
   have hfew:=I.few G.ne hV hU hne;obtain⟨k,hk'⟩:∃k,6000-(bad+good)=k+1:=⟨6000-(bad+good)-1,by omega⟩;rw[hk']at QY;obtain⟨q0,hq0,Zh,aaP,hnext⟩:=QY.next;refine⟨_,fun _ _ z=>z,?_⟩;refine⟨_,rfl,prime,q0,rfl,hq0,Zh,by omega,fun p hp hlt hle=>?_⟩;have hN:=hnext p hle;refine⟨_,rfl,_,rfl,_,rfl,p,a,P',rfl,by omega,gx _ _ hA,by omega,fun t1 H3 g3 h3=>?_⟩;refine⟨_,rfl,_,rfl,p,c,t,rfl,by omega,(gx.trans g3) _ _ hC,by omega,fun t2 H4 g4 h4=>?_⟩;have l1:=D3 p P';have l2:=D3 p t;refine⟨p,t1,t2,_,_,rfl,hp,by omega,g4 _ _ h3,h4,by omega,by omega,Ks p P',Ks p t,fun _=>Px hp hP,fun ts s' H5 g5 hS hG hsl=>?_⟩;have sn:=G.seen hp (GR p P') (GR p t) hG;have lS:(s'.map V.int).length=s'.length:=List.length_map _;have lT:(told.map V.int).length=told.length:=List.length_map _;have gy:=gx.trans (g3.trans (g4.trans g5));have hTy:=(g3.trans (g4.trans g5)) _ _ hTx;refine⟨_,rfl,.ref ts,s'.length,rfl,.inr ⟨_,SqT.of hS,lS.symm⟩,_,rfl,.ref tt,told.length,rfl,.inr ⟨_,SqT.of hTy,lT.symm⟩,_,_,rfl,rfl,_,rfl,?_⟩;refine mZ (fun d1=>?_) (fun d1=>?_)
   ·have d1':(s'.length:Int)<told.length:=dec_true d1;refine⟨_,rfl,ts,rfl,.inr ⟨⟨_,SqT.of hS⟩,vM hS (by omega) rfl (fun x=>Pm.nr p x) ?_ ?_⟩⟩
    ·intro H6 x g6 hx kk hk;exact⟨_,rfl,_,rfl,p,x,rfl,by omega,hk⟩
    ·intro D hD;refine⟨D,_,rfl,.inl ⟨SqL.of aA,fun tn ht=>?_⟩⟩;obtain⟨Ga,qZ,hbg,I'⟩:=I.anew hp hlt (by omega) (by omega) sn (by omega);refine⟨_,rfl,?_⟩;exact⟨6000-(Ga+qZ),by omega,_,_,tn,s'.map (Pm.nr p),p,p,true,Ga,qZ,rfl,rfl,gy.trans ((Same.new hD _).trans (Same.new ht _)),aA,I',(by rw[hbg,show 6000-(bad+good+1)=k by omega];exact hN),by omega,by omega⟩
   ·have d1':¬(s'.length:Int)<told.length:=dec_false d1;refine Nt.by (fun σ' H2=>∃m',m'<6000-(bad+good)/\Ox H a c P' g N m' σ' H2) (fun N0 hN0=>?_) (fun σ' H2 z=>z);refine⟨_,rfl,.ref ts,s'.length,rfl,.inr ⟨_,SqT.of hS,lS.symm⟩,_,rfl,.ref tt,told.length,rfl,.inr ⟨_,SqT.of hTy,lT.symm⟩,_,rfl,?_⟩;refine mZ (fun d2=>?_) (fun d2=>?_)
    ·have d2':(s'.length:Int)=told.length:=dec_true d2;have hl:s'.length=told.length:=by omega
     have hpM:¬(p:Int)∣M:=fun z=>by have:=I.div p hp z;omega
     refine⟨_,rfl,?_⟩;refine⟨_,rfl,.ref ts,s'.length,rfl,.inr ⟨_,SqT.of hS,lS.symm⟩,?_⟩;refine⟨(s'.length:Int),rfl,(by omega:-(2^62)<=(s'.length:Int)),(by omega:(s'.length:Int)<2^62),?_⟩;rw[Int.toNat_natCast];refine mj (n:=s'.length) (by omega) rfl (fun k=>Pm.jn M (told.getD k 0) p (s'.getD k 0)) ?_ ?_
     ·intro H6 k6 g6 hk6 kk hk;have e1:(0+(k6:Int)).toNat=k6:=by omega
      refine⟨_,rfl,_,rfl,_,rfl,_,_,.inr (SqT.of (g6 _ _ hTy)),aV (ns:=told) (by omega:(0:Int)<=0+(k6:Int)) (by omega),?_⟩;refine⟨_,rfl,_,rfl,_,rfl,_,_,.inr (SqT.of (g6 _ _ hS)),aV (ns:=s') (by omega:(0:Int)<=0+(k6:Int)) (by omega),?_⟩;rw[e1];exact⟨M,_,p,_,rfl,hp,by omega,I.pos,hpM,hk⟩
     ·intro D hD;refine⟨D,_,rfl,.inl ⟨SqL.of aA,fun tn ht=>?_⟩⟩;have gn:=(Same.new hD (.lst ((Pm.ofF s'.length fun k=>Pm.jn M (told.getD k 0) p (s'.getD k 0)).map V.int))).trans (Same.new ht (.tup ((Pm.ofF s'.length fun k=>Pm.jn M (told.getD k 0) p (s'.getD k 0)).map V.int)));refine⟨_,rfl,_,rfl,mulR (by omega) (by omega),?_⟩;refine⟨_,rfl,_,rfl,?_⟩;refine Y7 (ns:=Pm.ofF s'.length fun k=>Pm.jn M (told.getD k 0) p (s'.getD k 0)) (ms:=told) (SqT.of aA) (SqT.of (gn _ _ hTy)) ?_;obtain⟨Ga,qZ,hbg,I'⟩:=I.join (kE:=Pm.ofF s'.length fun k=>Pm.jn M (told.getD k 0) p (s'.getD k 0)) (KQ:=decide ((Pm.ofF s'.length fun k=>Pm.jn M (told.getD k 0) p (s'.getD k 0))=told)) hp hlt (by omega) (by omega) sn hl (by rw[Pm.aP];exact hl) (fun k6 hk6=>⟨Pm.jw M (told.getD k6 0) p (s'.getD k6 0),Pm.UG hp hpM,by rw[Pm.bV,if_pos (by omega)];rfl⟩) (decide_eq_true_iff);exact hN0 _ _ ⟨6000-(Ga+qZ),by omega,_,_,tn,_,M*p,p,_,Ga,qZ,rfl,rfl,gy.trans gn,aA,I',(by rw[hbg,show 6000-(bad+good+1)=k by omega];exact hN),by omega,by omega⟩
    ·have d2':¬(s'.length:Int)=told.length:=dec_false d2;have I':=I.stay hp hlt (by omega) sn (by omega);exact hN0 _ _ ⟨6000-(bad+1+good),by omega,_,_,tt,told,M,p,ripe,bad+1,good,rfl,rfl,gy,hTy,I',(by rw[show 6000-(bad+1+good)=k by omega];exact hN),by omega,by omega⟩
theorem Cw(F:Fn K mg "of_rule" rK ["by","rule"])(bw:iQ P w K mg base):xq P w K mg base:=by
 refine F.cal qu (fun vs H Q E h=>?_) (fun f cdv A outer s H vs Q E hr h=>?_)
 ·obtain⟨b,a,c,rfl,_⟩:=h;rfl
 ·obtain⟨b,a,c,rfl,hb,hA,zA,q⟩:=h;refine⟨_,(ao (aJ (i:=2) qu.nd rfl (Or.inr rfl) (aK (jL K) rfl B.cT boot_len (aM (pv 1) ak)))
   (ao (vA (i:=3) (hN:=qu.nd) (hi':=rfl) (hx:=(Or.inl rfl)) (sc:=zK) (N:=["k","by","length","rule"]) (ix:=[none,some 0,some 2,some 1]) cN rfl (bJ rfl B.bW (aM (pv 2) ak)) (fun cl C s₀ H₀ ex=>⟨(aX (i:=0) iZ rfl (Or.inl rfl)),cO,(aB bw hr rfl (aM (pv 1) (mO (aH bN aq (aY (xix K) (pv 3) (aH bN (aH bN (pv 2) aq) (pv 0)) (fun _ _=>rfl))) ak)))⟩))
   (aF (aU (bQ (jF K) rfl B.d7 boot_tuple (mO (aH (iW K) (pv 3) (jf (fK aq ak))) ak)))))),?_⟩
  have lC:(c.map V.int).length=c.length:=List.length_map _;refine⟨_,rfl,.ref a,c.length,rfl,.inr ⟨_,SqT.of hA,lC.symm⟩,?_⟩;refine⟨_,rfl,(c.length:Int),rfl,(by omega:-(2^62)<=(c.length:Int)),(by omega:(c.length:Int)<2^62),?_⟩;rw[Int.toNat_natCast];refine mj (n:=c.length) (by omega) rfl (fun k=>Rm.tk b (0-Pm.co c (c.length-1-k))) ?_ ?_
  ·intro H2 k g2 hk kk hkk;have e1:((c.length:Int)-1-(0+(k:Int))).toNat=c.length-1-k:=by omega
   refine⟨_,rfl,_,rfl,_,rfl,_,_,rfl,rfl,_,rfl,_,_,rfl,rfl,_,_,.inr (SqT.of (g2 _ _ hA)),aV (ns:=c) (by omega:(0:Int)<=(c.length:Int)-1-(0+(k:Int))) (by omega),_,_,rfl,rfl,?_⟩;refine⟨b,_,rfl,hb,?_⟩;rw[e1];exact hkk
  ·intro D hD;have g1:=Same.new hD (.lst ((Pm.ofF c.length fun k=>Rm.tk b (0-Pm.co c (c.length-1-k))).map V.int));refine⟨_,rfl,(by show 1<=sizeLine;decide),fun l2 hl2=>?_⟩;have g2:=Same.new hl2 (.lst [.int 1]);refine .inl ⟨_,_,g2 _ _ aA,aA,?_,fun l3 hl3=>?_⟩
   ·rw[List.length_map,Pm.aP];exact Nat.le_of_lt (bI (by show _+1<=1000;omega))
   refine⟨l3,_,rfl,.inl ⟨SqL.of aA,fun t ht=>?_⟩⟩;refine q t _ (g1.trans (g2.trans ((Same.new hl3 _).trans (Same.new ht _)))) ?_;rw[aA,Pm.aN,wj]
theorem BR(F:Fn K mg "rule_of" su ["by","poly"])(bw:iQ P w K mg base):w6 P w K mg base:=by
 refine F.cal uU (fun vs H Q E h=>?_) (fun f cdv A outer s H vs Q E hr h=>?_)
 ·obtain⟨b,a,p,rfl,_⟩:=h;rfl
 ·obtain⟨b,a,p,rfl,hb,hA,z0,zA,q⟩:=h;refine⟨_,(ao (aJ (i:=2) uU.nd rfl (Or.inr rfl) (aH bN (aK (jL K) rfl B.cT boot_len (aM (pv 1) ak)) aq))
   (aF (aU (bQ (jF K) rfl B.d7 boot_tuple (aG (dJ (sc:=Aa) (N:=["k","by","length","poly"]) (ix:=[none,some 0,some 2,some 1]) cN rfl (bJ rfl B.bW (aM (pv 2) ak)) (fun cl C s₀ H₀ ex=>⟨(aX (i:=0) iZ rfl (Or.inl rfl)),cO,(aB bw hr rfl (aM (pv 1) (mO (aH bN aq (aY (xix K) (pv 3) (aH bN (aH bN (pv 2) aq) (pv 0)) (fun _ _=>rfl))) ak)))⟩)) ak))))),?_⟩
  have lC:(p.map V.int).length=p.length:=List.length_map _;refine⟨_,rfl,.ref a,p.length,rfl,.inr ⟨_,SqT.of hA,lC.symm⟩,_,_,rfl,rfl,?_⟩;refine⟨_,rfl,(p.length:Int)-1,rfl,(by omega:-(2^62)<=(p.length:Int)-1),(by omega:(p.length:Int)-1<2^62),?_⟩;rw[show((p.length:Int)-1).toNat=p.length-1 by omega];refine mj (n:=p.length-1) (by omega) rfl (fun k=>Rm.tk b (0-Pm.co p (p.length-1-1-k))) ?_ ?_
  ·intro H2 k g2 hk kk hkk;have e1:((p.length:Int)-1-1-(0+(k:Int))).toNat=p.length-1-1-k:=by omega
   refine⟨_,rfl,_,rfl,_,rfl,_,_,rfl,rfl,_,rfl,_,_,rfl,rfl,_,_,.inr (SqT.of (g2 _ _ hA)),aV (ns:=p) (by omega:(0:Int)<=(p.length:Int)-1-1-(0+(k:Int))) (by omega),_,_,rfl,rfl,?_⟩;refine⟨b,_,rfl,hb,?_⟩;rw[e1];exact hkk
  ·intro D hD;refine⟨D,_,rfl,.inl ⟨SqL.of aA,fun t ht=>?_⟩⟩;exact q t _ ((Same.new hD _).trans (Same.new ht _)) aA
theorem GN(F:Fn K mg "top_of" wu ["row","poly"])(bw:iQ P w K mg base)(eG:oK P w K mg base):AX P w K mg base:=by
 refine F.cal jJ (fun vs H Q E h=>?_) (fun f cdv A outer s H vs Q E hr h=>?_)
 ·obtain⟨v,r,a,rfl,_⟩:=h;rfl
 ·obtain⟨v,r,a,rfl,⟨a0,p,p2,rfl,hA,hR,hS⟩,ok,hP,q⟩:=h;refine⟨_,(ao (aJ (i:=2) jJ.nd rfl (Or.inl rfl) (aY (xix K) (pv 0) aq (fun _ _=>rfl)))
   (ao (aJ (i:=3) jJ.nd rfl (Or.inr rfl) (aY (xix K) (pv 0) aq (fun _ _=>rfl)))
   (ao (aJ (i:=4) jJ.nd rfl (Or.inl rfl) (jf ak))
   (ao (j8 PassesOwn.never rfl (bJ rfl B.bW (aG (aK (jL K) rfl B.cT boot_len (aM (pv 3) ak)) ak)) (aX (i:=5) jJ.nd rfl (Or.inr rfl))
   (ao (vA (i:=6) (hN:=jJ.nd) (hi':=rfl) (hx:=(Or.inl rfl)) (sc:=CN) (N:=["j","k","poly","starts"]) (ix:=[none,some 5,some 1,some 3]) cN rfl (jG rfl B.bW (mO (aH (iW K) (pv 5) aq) (aG (aK (jL K) rfl B.cT boot_len (aM (pv 1) ak)) ak))) (fun cl C s₀ H₀ ex=>⟨(aX (i:=0) iZ rfl (Or.inl rfl)),cO,(aH v_mul (aY (xix K) (pv 2) (pv 0) (fun _ _=>rfl)) (aY (xix K) (pv 3) (aH bN (aH bN (pv 0) aq) (pv 1)) (fun _ _=>rfl)))⟩))
   (aF (oN (sH K (pv 4) (aB bw hr rfl (aM (pv 2) (aG (aK (WQ K rfl) rfl B.MG boot_sum (aM (pv 6) ak)) ak))))))))
   (aF (aU (aB eG hr rfl (aM (pv 4) ak)))))))),?_⟩
  have hl:=ok.len;have hs:=ok.short;have lS:(r.starts.map V.int).length=r.starts.length:=List.length_map _;have lP:((Pm.aN r.b r.rule).map V.int).length=r.rule.length+1:=by rw[List.length_map,Pm.bB]
  refine⟨_,rfl,_,_,.inr (SqT.of hA),rfl,?_⟩;refine⟨_,rfl,_,_,.inr (SqT.of hA),rfl,?_⟩;refine⟨Nat.zero_le _,fun l0 h0=>?_⟩;have g0:=Same.new h0 (.lst []);refine⟨_,rfl,.ref p2,r.starts.length,rfl,.inr ⟨_,SqT.of (g0 _ _ hS),lS.symm⟩,?_⟩;refine⟨(r.starts.length:Int),rfl,(by omega:-(2^62)<=(r.starts.length:Int)),(by omega:(r.starts.length:Int)<2^62),?_⟩;refine fP (lo:=0) (n:=(r.starts.length:Int).toNat) (fun i σ' H'=>∃o5 o6,σ'=[some (.ref a0),some (.ref a),some (.int r.b),some (.ref p2),some (.ref l0),o5,o6]/\Same H H'/\H' l0=some (.lst ((Pm.ofF i fun k=>Rm.tk r.b (Pm.tp (Pm.aN r.b r.rule) r.at k)).map V.int)))
   ⟨_,_,rfl,g0,aA⟩ ?_ ?_
  ·rintro i σ' H' hi ⟨o5,o6,rfl,g,hL⟩;have hi':i<r.starts.length:=by omega
   refine⟨_,rfl,_,rfl,.ref a,r.rule.length+1,rfl,.inr ⟨_,SqT.of (g _ _ hP),lP.symm⟩,?_⟩;refine⟨_,_,rfl,⟨by omega,by omega,by omega,by omega⟩,?_⟩;rw[show(((r.rule.length+1:Nat):Int)-(0+(i:Int)+1)).toNat=r.rule.length-i by omega];refine yh (lo:=0+(i:Int)+1) (n:=r.rule.length-i) (by omega) rfl (fun k=>Pm.co (Pm.aN r.b r.rule) (i+1+k)*r.at k) ?_ ?_
   ·intro H2 k g2 hk kk hkk;have e1:(0+(i:Int)+1+(k:Int)).toNat=i+1+k:=by omega
    have e2:(0+(i:Int)+1+(k:Int)-1-(0+(i:Int))).toNat=k:=by omega
    have lq:(Pm.aN r.b r.rule).length=r.rule.length+1:=Pm.bB ..;refine⟨_,rfl,_,rfl,_,_,.inr (SqT.of (g2 _ _ (g _ _ hP))),aV (ns:=Pm.aN r.b r.rule) (by omega:(0:Int)<=0+(i:Int)+1+(k:Int)) (by omega),?_⟩;refine⟨_,rfl,_,rfl,_,_,rfl,rfl,_,rfl,_,_,rfl,rfl,_,_,.inr (SqT.of (g2 _ _ (g _ _ hS))),aV (ns:=r.starts) (by omega:(0:Int)<=0+(i:Int)+1+(k:Int)-1-(0+(i:Int))) (by omega),?_⟩;refine⟨tU (Rm.Bd.getD ok.rQ _) (Rm.Bd.getD ok.jT _) (by decide),?_⟩;rw[e1,e2];have e3:r.at k=r.starts.getD k 0:=Rm.tX (by omega);rw[e3]at hkk;exact hkk
   ·intro D hD;have g3:=Same.new hD (.lst ((Pm.ofF (r.rule.length-i) fun k=>Pm.co (Pm.aN r.b r.rule) (i+1+k)*r.at k).map V.int));have hL3:=g3 _ _ hL;have lL:((Pm.ofF i fun k=>Rm.tk r.b (Pm.tp (Pm.aN r.b r.rule) r.at k)).map V.int).length=i:=by rw[List.length_map,Pm.aP]
    refine⟨_,rfl,.inl ⟨rfl,_,SqL.of hL3⟩,_,rfl,_,rfl,D,_,rfl,SqL.of aA,r.b,_,rfl,ok.by0,?_⟩;refine⟨l0,_,_,rfl,rfl,hL3,?_,?_⟩
    ·rw[lL];exact bI (by omega)
    ·refine⟨_,_,rfl,(g.trans g3).upd h0 _,?_⟩;rw[aA,Pm.Bo,wj];have e4:Pm.tp (Pm.aN r.b r.rule) r.at i=(Pm.ofF (r.rule.length-i) fun k=>Pm.co (Pm.aN r.b r.rule) (i+1+k)*r.at k).sum:=by
      unfold Pm.tp;rw[Pm.ofF,Pm.vg,Pm.bB,Nat.add_sub_cancel]
     rw[e4]
  ·rintro σ' H' ⟨o5,o6,rfl,g,hL⟩;refine⟨_,rfl,l0,_,rfl,SqL.of hL,fun t1 H3 g3 h3=>?_⟩;refine q t1 H3 (g.trans g3) ?_;rw[h3,Gk,hl,Int.toNat_natCast]
theorem oW(F:Fn K mg "shared_divisor" gK ["by","one","other"])(gM:j7 P w K mg base)(iG:pQ P w K mg base):kj P w K mg base:=by
 refine F.cal pJ (fun vs H Q E h=>?_) (fun f cdv A outer s H vs Q E hr h=>?_)
 ·obtain⟨b,a,c,P,t,rfl,_⟩:=h;rfl
 ·obtain⟨b,a,c,P',t,rfl,hA,hC,zP,zt,hP,bP,bt,h⟩:=h;refine⟨_,(aF (aU (vD (bh (xeq K hr) (pv 0) aq (bF _)) (aB gM hr rfl (aM (pv 1) (aM (pv 2) ak))) (aB iG hr rfl (aM (pv 0) (aM (pv 1) (aM (pv 2) ak))))))),?_⟩;refine⟨_,rfl,_,rfl,?_⟩;refine mZ (fun c0=>?_) (fun c0=>?_)
  ·have c0':b=0:=dec_true c0;rcases h with⟨_,g,N,U,V',G,hV,hU,hUV,q⟩|⟨p,rfl,hp,_⟩
   ·exact⟨_,rfl,_,rfl,a,c,P',t,g,N,U,V',rfl,hA,hC,zP,zt,hP,bP,bt,G,hV,hU,hUV,q⟩
   ·have:=hp.1;omega
  ·have c0':¬b=0:=dec_false c0;rcases h with⟨z,_⟩|⟨p,rfl,hp,hpb,yP,yt,q⟩
   ·exact absurd z c0'
   ·exact⟨_,rfl,_,rfl,_,rfl,p,a,c,P',t,rfl,hp,hpb,hA,hC,zP,zt,yP,yt,fun _ z=>by have:=hP.pos;rw[z]at this;exact absurd this (by decide),q⟩
theorem za(F:Fn K mg "least_of" qe ["row"])(rW:xq P w K mg base)(vh:AX P w K mg base)(fX:nT P w K mg base)(gP:kj P w K mg base):uM P w K mg base:=by
 refine F.cal j5 (fun vs H Q E h=>?_) (fun f cdv A outer s H vs Q E hr h=>?_)
 ·obtain⟨v,r,rfl,_⟩:=h;rfl
 ·obtain⟨v,r,rfl,⟨a0,p,p2,rfl,hA,hR,hS⟩,ok,hB,hT,q⟩:=h;refine⟨_,(ao (aJ (i:=1) j5.nd rfl (Or.inl rfl) (aY (xix K) (pv 0) aq (fun _ _=>rfl)))
   (ao (aJ (i:=2) j5.nd rfl (Or.inl rfl) (aB rW hr rfl (aM (pv 1) (aG (aY (xix K) (pv 0) aq (fun _ _=>rfl)) ak))))
   (ao (aJ (i:=3) j5.nd rfl (Or.inl rfl) (aB vh hr rfl (aM (pv 0) (aM (pv 2) ak))))
   (aF (aU (aY (xix K) (aB fX hr rfl (aM (pv 1) (aM (pv 2) (aG (aB gP hr rfl (aM (pv 1) (aM (pv 2) (aM (pv 3) ak)))) ak)))) aq (fun _ _=>rfl))))))),?_⟩
  have hs:=ok.short;have hb1:=ok.by1;have hm:=Pm.eY r.b r.rule;have lq:(Pm.aN r.b r.rule).length=r.rule.length+1:=Pm.bB ..;refine⟨_,rfl,_,_,.inr (SqT.of hA),rfl,?_⟩;refine⟨_,rfl,_,rfl,_,_,.inr (SqT.of hA),rfl,r.b,p,r.rule,rfl,ok.by0,hR,by omega,fun tP H1 g1 hP=>?_⟩;refine⟨_,rfl,_,rfl,.ref a0,r,tP,rfl,⟨a0,p,p2,rfl,g1 _ _ hA,g1 _ _ hR,g1 _ _ hS⟩,ok,hP,fun tT H2 g2 hTp=>?_⟩;have hP2:=g2 _ _ hP;have lt:=Jk r;refine⟨_,rfl,_,rfl,_,rfl,_,rfl,_,rfl,r.b,tP,tT,Pm.aN r.b r.rule,Gk r,rfl,hP2,hTp,by omega,by omega,hm,(fun x hx=>(ok.rQ x hx).mono (by decide)),Ln ok,?_⟩;have nP:=wN r.b r.rule hB.one;by_cases h0:r.b=0
  ·obtain⟨d,ua,u,aaC,hur,hQ0,hua,hsz⟩:=hT h0;have hK:=ok.kp;rw[h0]at hK;rw[h0]at hm lq;obtain⟨g,L,N,hL,hLy,hKL,hall,hlen,hE,G,hV,hU⟩:=Pm.Lb hm hK hQ0 hua (u:=u) (e:=5) (U:=u+400) (fun k=>by have:=Pm.oM ok.by0 ok.by1 aaC hur;rw[h0]at this;exact Pm.pD this k) (by rw[lq];omega) (by rw[lq];omega);have eT:Pm.co (Gk r)=Pm.tp (Pm.aN 0 r.rule) r.at:=funext fun k=>by rw[yQ,h0,Rm.aW]
   refine .inl ⟨h0,g,N,_,_,by rw[h0,eT];exact G,hV,hU,by omega,fun tg H3 g3 hg=>?_⟩;have hgl:g.length<=r.rule.length+1:=by have:=hL.pos;omega
   have bg:∀x∈g,Rm.Bd 124000 x:=fun x hx=>by
    obtain⟨k,hk,e⟩:=List.mem_iff_getElem.mp hx;have:=hU k;rw[Pm.ux hk,e]at this;exact this.mono (by omega)
   refine⟨r.b,tP,tg,Pm.aN r.b r.rule,g,rfl,ok.by0,by omega,g3 _ _ hP2,hg,by rw[h0];omega,by omega,G.mon,nP,(fun x hx=>(ok.rQ x hx).mono (by decide)),bg,fun t x y o l H4 g4 ht hx hy D _ _ _=>?_⟩;refine⟨_,_,.inr (SqT.of ht),rfl,?_⟩;have D':Pm.Div r.b (Pm.aN r.b r.rule) g L []:=⟨by rw[h0];exact hLy,Pm.Py.nil _,G.mon.pos,fun k=>by rw[Pm.dY,Int.add_zero,h0,hE k]⟩;obtain⟨eo,_⟩:=D.uniq G.mon D';subst eo;exact q x o H4 (g1.trans (g2.trans (g3.trans g4))) hx ⟨hL,fun k=>by rw[h0];exact Rm.aW _,by rw[h0];exact hKL,by rw[h0];exact hall⟩ (by have:=G.mon.pos;omega)
  ·obtain⟨P0,hP0,hb⟩:=hB.resolve_left h0;have hp:=CF hP0;have hr:=dW P0 hP0;have yP:Pm.Py (P0:Int) (Pm.aN r.b r.rule):=by rw[<-hb];exact JM hm nP
   have yt:Pm.Py (P0:Int) (Gk r):=by rw[<-hb];exact Pm.Py.ofF ..
   refine .inr ⟨P0,hb,hp,by omega,yP,yt,fun tg g H3 g3 hg hG hgl=>?_⟩;have bg:∀x∈g,Rm.Bd 124000 x:=Lq hr.1 (by omega) hG.py;refine⟨r.b,tP,tg,Pm.aN r.b r.rule,g,rfl,ok.by0,by omega,g3 _ _ hP2,hg,by omega,by omega,hG.mon,nP,(fun x hx=>(ok.rQ x hx).mono (by decide)),bg,fun t x y o l H4 g4 ht hx hy D _ _ _=>?_⟩;refine⟨_,_,.inr (SqT.of ht),rfl,?_⟩;rw[hb]at D;rw[<-hb]at D;obtain⟨hl1,hl2⟩:=Hg hp ok hb hG (by rw[hb]at D ⊢;exact D);exact q x o H4 (g1.trans (g2.trans (g3.trans g4))) hx hl1 hl2
theorem zJ(F:Fn K mg "shortest" oO ["row"])(pU:uM P w K mg base)(sZ:w6 P w K mg base):oX P w K mg base:=by
 refine F.cal nj (fun vs H Q E h=>?_) (fun f cdv A outer s H vs Q E hr h=>?_)
 ·obtain⟨v,r,rfl,_⟩:=h;rfl
 ·obtain⟨v,r,rfl,⟨a0,p,p2,rfl,hA,hR,hS⟩,ok,hB,hT,q⟩:=h;refine⟨_,(ao (aJ (i:=1) nj.nd rfl (Or.inl rfl) (aB pU hr rfl (aM (pv 0) ak)))
   (ao (aJ (i:=2) nj.nd rfl (Or.inl rfl) (aB sZ hr rfl (aG (aY (xix K) (pv 0) aq (fun _ _=>rfl)) (aM (pv 1) ak))))
   (aF (aU (gW (aG (aY (xix K) (pv 0) aq (fun _ _=>rfl)) (aM (pv 2) (aG (bQ (jF K) rfl B.d7 boot_tuple (aG (mq (xsl K) (aY (xix K) (pv 0) aq (fun _ _=>rfl)) pB (pI (aK (jL K) rfl B.cT boot_len (aM (pv 2) ak)))) ak)) ak)))))))),?_⟩
  have hs:=ok.short;have hl:=ok.len;have lS:(r.starts.map V.int).length=r.starts.length:=List.length_map _;refine⟨_,rfl,.ref a0,r,rfl,⟨a0,p,p2,rfl,hA,hR,hS⟩,ok,hB,hT,fun tL L H1 g1 hL lst ll=>?_⟩;have hLp:=lst.mon.pos;refine⟨_,rfl,_,_,.inr (SqT.of (g1 _ _ hA)),rfl,_,rfl,r.b,tL,L,rfl,ok.by0,hL,hLp,by omega,fun tR H2 g2 hR2=>?_⟩;have lR:((Pm.gU r.b L).map V.int).length=L.length-1:=by rw[List.length_map,Pm.fj]
  have hA2:=(g1.trans g2) _ _ hA;have hS2:=(g1.trans g2) _ _ hS;refine⟨_,rfl,_,_,.inr (SqT.of hA2),rfl,_,rfl,_,rfl,_,_,.inr (SqT.of hA2),rfl,?_⟩;refine⟨_,rfl,.ref tR,L.length-1,rfl,.inr ⟨_,SqT.of hR2,lR.symm⟩,?_⟩;refine⟨_,rfl,?_⟩;by_cases hw:r.starts.length<=L.length-1
  ·refine .inr (.inr ⟨_,SqT.of hS2,?_,?_⟩)
   ·rw[HT.jZ,HT.ig,lS];omega
   ·refine⟨p2,_,rfl,.inr ⟨SqT.of hS2,?_⟩⟩;refine⟨(by show 3<=sizeLine;decide),fun t ht=>?_⟩;have g3:=Same.new ht (.tup [.int r.b,.ref tR,.ref p2]);refine q (.ref t) L _ (g1.trans (g2.trans g3)) ⟨t,tR,p2,rfl,aA,g3 _ _ hR2,?_⟩ lst ll;show _=some (HO.tup ((r.starts.take (L.length-1)).map V.int));rw[List.take_of_length_le hw];exact g3 _ _ hS2
  ·refine .inr (.inl ⟨_,SqT.of hS2,?_,fun p3 hp3=>?_⟩)
   ·rw[HT.jZ,HT.ig,lS];omega
   ·refine⟨p3,_,rfl,.inr ⟨SqT.of aA,?_⟩⟩;have g3:=Same.new hp3 (.tup (vI (r.starts.map V.int) none (some ((L.length-1:Nat):Int))));refine⟨(by show 3<=sizeLine;decide),fun t ht=>?_⟩;have g4:=Same.new ht (.tup [.int r.b,.ref tR,.ref p3]);refine q (.ref t) L _ (g1.trans (g2.trans (g3.trans g4))) ⟨t,tR,p3,rfl,aA,(g3.trans g4) _ _ hR2,?_⟩ lst ll;show _=some (HO.tup ((r.starts.take (L.length-1)).map V.int));rw[List.map_take,<-wO];exact g4 _ _ aA
theorem zX(F:Fn K mg "_law_cell_at" oU ["_law_script","_law_k"]):qg P w K mg base:=by
 refine F.cal yF (fun vs H Q E h=>?_) (fun f cdv A outer s H vs Q E hr h=>?_)
 ·obtain⟨a,ns,k,rfl,_⟩:=h;rfl
 ·obtain⟨a,ns,k,rfl,hS,h0,h1,hB,q⟩:=h;refine⟨_,(ao (iV (bh wH (pv 1) (aK (jL K) rfl B.cT boot_len (aM (pv 0) ak)) (bF _))
   (aF (aU (aY (xix K) (pv 0) (pv 1) (fun _ _=>rfl))))
   cF)
   (aF (aU (aH v_mul (aH (iW K) (aH v_mul (pv 1) aq) aq) (aH (iW K) (pv 1) aq))))),?_⟩
  have hl:(ns.map V.int).length=ns.length:=List.length_map _;refine⟨_,rfl,_,rfl,.ref a,ns.length,rfl,.inl ⟨_,hS,hl.symm⟩,_,_,rfl,rfl,_,rfl,?_⟩;refine mZ (fun c=>?_) (fun c=>?_)
  ·have c':k<(ns.length:Int):=dec_true c;refine⟨_,rfl,_,rfl,ns.map V.int,.int (ns.getD k.toNat 0),.inl hS,aV h0 c',q _ ?_⟩;exact intBits_le_iff.mp (hB _ (Pm.yu (by omega)))
  ·refine⟨_,rfl,mulR (by decide) (by decide),_,rfl,mulR (by show -(2^64)<k+31;omega) (by show k+31<2^64;omega),q _ ?_⟩;refine(Rm.Bd.mul (m:=40) (n:=40) (Rm.Bd.of (by omega) (by omega)) (Rm.Bd.of (by omega) (by omega))).mono (by decide)
theorem K1(F:Fn K mg "_law_mix" Gb ["_law_cell","_law_k"]):yr P w K mg base:=by
 refine F.cal yJ (fun vs H Q E h=>?_) (fun f cdv A outer s H vs Q E hr h=>?_)
 ·obtain⟨c,k,rfl,_⟩:=h;rfl
 ·obtain⟨c,k,rfl,h0,h1,q⟩:=h;refine⟨_,(ao (aJ (i:=2) yJ.nd rfl (Or.inl rfl) (aH eE (aH (iW K) (aH v_mul (aH (iW K) (aH eE (pv 0) aq) aq) (aH (iW K) (aH (iW K) aq (aH v_mul aq (pv 1))) (aH v_mul (aH v_mul aq (pv 1)) (pv 1)))) (pv 1)) aq))
   (ao (aJ (i:=2) yJ.nd rfl (Or.inl rfl) (aH eE (aH v_mul (pv 2) (pv 2)) aq))
   (aF (aU (aH Ab (aH eE (aH v_mul (pv 2) (aH (iW K) (aH (iW K) (pv 2) (pv 1)) aq)) aq) aq))))),?_⟩
  have b1:0<=c%2147483629:=dO _ (by decide);have b2:c%2147483629<2147483629:=dZ _ (by decide);refine⟨_,rfl,_,_,rfl,rfl,(by decide:(0:Int)<2147483629),?_⟩;refine⟨_,rfl,mulL (by decide) (by decide),_,rfl,mulL (by decide) (by decide),_,rfl,mulR (by omega) (by omega),?_⟩;refine⟨mulL (by show -(2^64)<c%2147483629+1;omega) (by show c%2147483629+1<2^64;omega),_,rfl,_,_,rfl,rfl,(by decide:(0:Int)<2147483647),?_⟩;dsimp only;have m0:=dO ((c%2147483629+1)*(48271+69621*k+2*k*k)+k) (show(0:Int)<2147483647 by decide);have m1:=dZ ((c%2147483629+1)*(48271+69621*k+2*k*k)+k) (show(0:Int)<2147483647 by decide);generalize hy:((c%2147483629+1)*(48271+69621*k+2*k*k)+k)%2147483647=y at m0 m1;refine⟨_,rfl,_,rfl,mulL (by omega) (by omega),_,_,rfl,rfl,(by decide:(0:Int)<2147483629),?_⟩;dsimp only;have n0:=dO (y*y) (show(0:Int)<2147483629 by decide);have n1:=dZ (y*y) (show(0:Int)<2147483629 by decide);generalize hz:y*y%2147483629=z at n0 n1;refine⟨_,rfl,_,rfl,_,rfl,mulL (by omega) (by omega),_,_,rfl,rfl,(by decide:(0:Int)<2147483587),_,_,rfl,rfl,⟨by decide,by decide⟩,?_⟩;have l0:=dO (z*(z+k+1)) (show(0:Int)<2147483587 by decide);have l1:=dZ (z*(z+k+1)) (show(0:Int)<2147483587 by decide);generalize hw:z*(z+k+1)%2147483587=w at l0 l1;exact q _ (by omega) ⟨by omega,by unfold YT Vu X8;rw[hy,hz,hw]⟩
theorem wW(F:Fn K mg "_law_drawn_by" m9 ["_law_cell"])(gb:yr P w K mg base):ud P w K mg base:=by
 refine F.cal xQ (fun vs H Q E h=>?_) (fun f cdv A outer s H vs Q E hr h=>?_)
 ·obtain⟨c,rfl,_⟩:=h;rfl
 ·obtain⟨c,rfl,q⟩:=h;refine⟨_,(aF (aU (aY (xix K) (jf (fK aq (fK aq (fK aq (fK aq (fK aq (fK aq (fK aq (fK aq (fK aq (fK aq ak))))))))))) (aH eE (aB gb hr rfl (aM (pv 0) (fK aq ak))) aq) (fun _ _=>rfl)))),?_⟩;refine⟨(by show 10<=sizeLine;decide),fun p hp=>?_⟩;refine⟨_,rfl,c,1,rfl,by decide,by decide,fun x h0 h1=>?_⟩;have e0:=dO x (show(0:Int)<10 by decide);have e1:=dZ x (show(0:Int)<10 by decide);refine⟨_,_,rfl,rfl,(by decide:(0:Int)<10),_,_,.inl (SqL.of aA),aV (ns:=byF) e0 e1,?_⟩;exact q _ _ (Same.new hp _) (Qv (by omega))
theorem GP(F:Fn K mg "_law_taken" vm ["_law_by","_law_number"]):mD P w K mg base:=by
 refine F.cal C9 (fun vs H Q E h=>?_) (fun f cdv A outer s H vs Q E hr h=>?_)
 ·obtain⟨b,n,rfl,_⟩:=h;rfl
 ·obtain⟨b,n,rfl,h0,q⟩:=h;refine⟨_,(ao (iV (bh (xeq K hr) (pv 0) aq (bF _))
   (aF (aU (pv 1)))
   cF)
   (aF (aU (aH eE (pv 1) (pv 0))))),?_⟩
  refine⟨_,rfl,_,rfl,?_⟩;refine mZ (fun c=>?_) (fun c=>?_)
  ·refine⟨_,rfl,?_⟩;have c':b=0:=dec_true c;have e:Rm.tk b n=n:=by rw[c',Rm.aW]
   rw[e]at q;exact q
  ·have c':¬b=0:=dec_false c;refine⟨_,rfl,_,rfl,_,_,rfl,rfl,(by omega:(0:Int)<b),?_⟩;rw[Rm.fu c']at q;exact q
theorem um(F:Fn K mg "_law_one_number" jY ["_law_by","_law_cell","_law_k"])(gb:yr P w K mg base)(cX:mD P w K mg base):oE P w K mg base:=by
 refine F.cal jy (fun vs H Q E h=>?_) (fun f cdv A outer s H vs Q E hr h=>?_)
 ·obtain⟨b,c,k,rfl,_⟩:=h;rfl
 ·obtain⟨b,c,k,rfl,hb,hc,h0,h1,q⟩:=h;refine⟨_,(ao (aJ (i:=3) jy.nd rfl (Or.inl rfl) (aH bN (aH (iW K) (aH eE (aH v_mul (aH (iW K) (pv 1) aq) (aH Ao (aH (iW K) (pv 2) aq) aq)) (aH bN (aH v_mul aq (aH Ao aq aq)) aq)) aq) (aH Ao aq aq)))
   (ao (aJ (i:=4) jy.nd rfl (Or.inl rfl) (aY (xix K) (jf (fK aq (fK aq (NW (Af uh aq) (fK aq (fK aq (NW (Af uh aq) (fK aq (fK aq (fK aq (fK aq ak))))))))))) (aH eE (aB gb hr rfl (aM (pv 1) (mO (aH (iW K) aq (pv 2)) ak))) aq) (fun _ _=>rfl)))
   (aF (aU (aB cX hr rfl (aM (pv 0) (aG (aY (xix K) (jf (aM (pv 4) (aM (pv 3) ak))) (bQ Dp rfl B.KD boot_int (aG (Wa (lZ vd (pv 0) aq (bF _)) (GY (Ka (lZ vd (pv 2) aq (bF _)) (GY (lZ (xeq K hr) (aH eE (aB gb hr rfl (aM (pv 1) (mO (aH (iW K) aq (pv 2)) ak))) aq) aq (bF _)))))) ak)) (fun _ _=>rfl)) ak))))))),?_⟩
  have hp7:Rm.Bd (6*7+1) ((k+3)^7):=Kw (Rm.Bd.of (by omega) (by omega)) 7;refine⟨_,rfl,_,rfl,_,_,rfl,rfl,⟨by decide,by decide,by show(k+3).natAbs<2^64;omega⟩,tU (m:=1048577) (n:=43) (Rm.Bd.add hc ((Rm.Bd.of (n:=1) (by decide) (by decide)).mono (by decide))) hp7 (by decide),?_⟩;refine⟨_,_,rfl,rfl,⟨by decide,by decide,by decide⟩,mulL (by decide) (by decide),_,_,rfl,rfl,_,_,rfl,rfl,(by decide:(0:Int)<2*10^(9:Int).toNat-1),?_⟩;refine⟨_,_,rfl,rfl,⟨by decide,by decide,by decide⟩,_,_,rfl,rfl,?_⟩;dsimp only;have f0:=dO ((c+1)*(k+3)^(7:Int).toNat) (show(0:Int)<2*10^(9:Int).toNat-1 by decide);have f1:=dZ ((c+1)*(k+3)^(7:Int).toNat) (show(0:Int)<2*10^(9:Int).toNat-1 by decide);have ef:(2*10^(9:Int).toNat-1:Int)=1999999999:=by decide
  have eg:(10^(9:Int).toNat:Int)=1000000000:=by decide
  generalize Ry:(c+1)*(k+3)^(7:Int).toNat%(2*10^(9:Int).toNat-1)+1-10^(9:Int).toNat=far;have Zj:Rm.Bd 31 far:=by
   rw[ef]at f0 f1 Ry;rw[eg]at Ry;generalize (c+1)*(k+3)^(7:Int).toNat%1999999999=w at f0 f1 Ry;exact Rm.Bd.of (by omega) (by omega)
  clear f0 f1 Ry;refine⟨_,rfl,_,rfl,(by show 10<=sizeLine;decide),fun p hp=>?_⟩;refine⟨_,rfl,_,rfl,c,20+k,rfl,by omega,by omega,fun x x0 x1=>?_⟩;have e0:=dO x (show(0:Int)<10 by decide);have e1:=dZ x (show(0:Int)<10 by decide);refine⟨_,_,rfl,rfl,(by decide:(0:Int)<10),_,_,.inl (SqL.of aA),aV (ns:=Bl) e0 e1,?_⟩;have bs:=Fi (x%10).toNat (by omega);generalize Bl.getD (x%10).toNat 0=sm at bs;have bsm:Rm.Bd 3 sm:=Rm.Bd.of (by omega) (by omega);have g1:=Same.new hp (.lst ([.int 0,.int 1,.int (-1),.int 2,.int 1,.int (-2),.int 3,.int 0,.int 1,.int 5]));generalize upd H p (.lst ([.int 0,.int 1,.int (-1),.int 2,.int 1,.int (-2),.int 3,.int 0,.int 1,.int 5]))=H1 at g1;refine⟨_,rfl,_,rfl,_,rfl,(by show 2<=sizeLine;decide),fun p2 hp2=>?_⟩;have g2:=Same.new hp2 (.lst [.int sm,.int far]);have g12:=g1.trans g2;have hL:(upd H1 p2 (.lst [.int sm,.int far])) p2=some (.lst ([sm,far].map V.int)):=aA;generalize upd H1 p2 (.lst [.int sm,.int far])=H2 at g2 g12 hL;have fin:∀t:Bool,(t=true->b≠0∨15<=k)->∃v,atI ([sm,far].map V.int) (if t=true then 1 else 0)=some (.int v)/\Q (.int (Rm.tk b v)) H2:=fun t ht=>by
   cases t
   ·exact⟨_,aV (ns:=[sm,far]) (by decide) (by show(0:Int)<2;decide),q _ _ g12 (qD hb.lo _) (m5 hb (by decide) (bsm.mono (by decide))) fun _=>⟨m5 hb (by decide) (bsm.mono (by decide)),fun z=>by rw[z,Rm.aW];show sm.natAbs<=5;omega⟩⟩
   ·refine⟨_,aV (ns:=[sm,far]) (by decide) (by show(1:Int)<2;decide),q _ _ g12 (qD hb.lo _) (m5 hb (by decide) Zj) fun h15=>?_⟩;rcases ht rfl with z|z
    ·exact⟨Ey hb (by decide) z (qD hb.lo _),fun y=>absurd y z⟩
    ·omega
  have fT:∀h,∃v,atI ([sm,far].map V.int) 1=some (.int v)/\Q (.int (Rm.tk b v)) H2:=fun h=>fin true fun _=>h;refine⟨_,rfl,_,_,rfl,rfl,_,rfl,?_⟩;refine mZ (fun cb=> .inr ⟨_,rfl,?_⟩) (fun _=>?_)
  ·have hb7:b≠0∨15<=k:= .inl (by have:=dec_true cb;omega);exact⟨_,_,.inl (SqL.of hL),(fT hb7).choose_spec.1,b,_,rfl,hb.lo,(fT hb7).choose_spec.2⟩
  refine⟨_,rfl,_,_,rfl,rfl,_,rfl,?_⟩;refine mZ (fun ck=>?_) (fun _=> .inr ⟨_,rfl,_,_,.inl (SqL.of hL),(fin false (fun z=>nomatch z)).choose_spec.1,b,_,rfl,hb.lo,(fin false (fun z=>nomatch z)).choose_spec.2⟩);have YG:b≠0∨15<=k:= .inr (by have:=dec_true ck;omega);refine⟨_,rfl,_,rfl,c,50+k,rfl,by omega,by omega,fun x2 _ _=>?_⟩;refine⟨_,_,rfl,rfl,(by decide:(0:Int)<7),?_⟩;exact .inr ⟨_,rfl,_,_,.inl (SqL.of hL),(fin _ fun _=>YG).choose_spec.1,b,_,rfl,hb.lo,(fin _ fun _=>YG).choose_spec.2⟩
theorem BW(F:Fn K mg "_law_places" rz ["_law_row","_law_count"])(cX:mD P w K mg base):kO P w K mg base:=by
 refine F.cal iC (fun vs H Q E h=>?_) (fun f cdv A outer s H vs Q E hr h=>?_)
 ·obtain⟨v,r,c,rfl,_⟩:=h;rfl
 ·obtain⟨v,r,c,rfl,⟨a,p,p2,rfl,hA,hR,hS⟩,ok,hc0,hc1,q⟩:=h;refine⟨_,(ao (qI (pv 0) (MQ K (n:=3) rfl (jc (aX (i:=2) iC.nd rfl (Or.inl rfl)) (jc (aX (i:=3) iC.nd rfl (Or.inr rfl)) (jc (aX (i:=4) iC.nd rfl (Or.inl rfl)) yG)))))
   (ao (aJ (i:=5) iC.nd rfl (Or.inr rfl) (D8 (bQ (xlist K) rfl B.DX boot_list (aG (mq (xsl K) (pv 4) pB (pI (pv 1))) ak))))
   (ao (je PassesOwn.never (bh wH (aK (jL K) rfl B.cT boot_len (aM (pv 5) ak)) (pv 1) (bF _))
   (ao (aJ (i:=6) iC.nd rfl (Or.inl rfl) (aK (WQ K rfl) rfl B.MG boot_sum (aG (dJ (sc:=yN) (N:=["_law_k","_law_found","_law_rule"]) (ix:=[none,some 5,some 3]) cN rfl (bJ rfl B.bW (aG (aK (jL K) rfl B.cT boot_len (aM (pv 3) ak)) ak)) (fun cl C s₀ H₀ ex=>⟨(aX (i:=0) iZ rfl (Or.inl rfl)),cO,(aH v_mul (aY (xix K) (pv 2) (pv 0) (fun _ _=>rfl)) (aY (xix K) (pv 1) (aH bN (Af uh aq) (pv 0)) (fun _ _=>rfl)))⟩)) ak)))
   (aF (oN (sH K (pv 5) (aB cX hr rfl (aM (pv 2) (aM (pv 6) ak))))))))
   (aF (aU (pv 5)))))),?_⟩
  have hl:=ok.len;have hl2:=ok.short;have lS:(r.starts.map V.int).length=r.starts.length:=List.length_map _;have lR:(r.rule.map V.int).length=r.rule.length:=List.length_map _;refine⟨_,rfl,a,_,rfl,SqT.of hA,rfl,_,_,rfl,_,_,rfl,_,_,rfl,rfl,?_⟩;have Uv:vI (r.starts.map V.int) none (some c)=(r.row (min c.toNat r.starts.length)).map V.int:=by
   have e:r.row (min c.toNat r.starts.length)=r.starts.take (min c.toNat r.starts.length):=Rm.jM (Nat.min_le_right _ _);rw[e];have e2:c=((c.toNat:Nat):Int):=by omega
   unfold vI;rw[e2,HT.jZ,HT.ig,List.drop_zero,Nat.sub_zero,lS,List.map_take,Int.toNat_natCast]
  refine Bar.by (fun v H1=>∃l,v = .ref l/\Same H H1/\H l=none/\H1 l=some (.lst ((r.row (min c.toNat r.starts.length)).map V.int))) (fun kk hkk=>?_) ?_
  ·refine⟨_,rfl,_,rfl,_,rfl,?_⟩;by_cases hw:r.starts.length<=c.toNat
   ·refine .inr (.inr ⟨_,SqT.of hS,?_,?_⟩)
    ·have e2:c=((c.toNat:Nat):Int):=by omega
     rw[e2,HT.jZ,HT.ig,lS];omega
    ·refine⟨p2,_,rfl,.inr (SqT.of hS),fun l hl1=>hkk _ _ ⟨l,rfl,Same.new hl1 _,hl1,?_⟩⟩;rw[aA,Nat.min_eq_right hw];have e:r.row r.starts.length=r.starts:=(Rm.jM (Nat.le_refl _)).trans (List.take_length ..);rw[e]
   ·refine .inr (.inl ⟨_,SqT.of hS,?_,fun p3 hp3=>?_⟩)
    ·have e2:c=((c.toNat:Nat):Int):=by omega
     rw[e2,HT.jZ,HT.ig,lS];omega
    ·refine⟨p3,_,rfl,.inr (SqT.of aA),fun l hl1=>?_⟩;have g3:=Same.new hp3 (.tup (vI (r.starts.map V.int) none (some c)));refine hkk _ _ ⟨l,rfl,g3.trans (Same.new hl1 _),g3.free hl1,?_⟩;rw[aA,Uv]
  rintro v H1 ⟨l,rfl,g1,hl1,hr1⟩;refine⟨fun m σ' H'=>∃(n:Nat) (o6:Option V),m=c.toNat-n/\min c.toNat r.starts.length<=n/\n<=c.toNat/\σ'=[some (.ref a),some (.int c),some (.int r.b),some (.ref p),some (.ref p2),some (.ref l),o6]/\Same H H'/\H' l=some (.lst ((r.row n).map V.int)),
   ⟨_,min c.toNat r.starts.length,_,rfl,Nat.le_refl _,Nat.min_le_left _ _,rfl,g1,hr1⟩,?_⟩
  rintro m σ' H' ⟨n,o6,rfl,h1,h2,rfl,g,hL⟩;have lL:((r.row n).map V.int).length=n:=by rw[List.length_map,Rw.dU]
  have lN:(r.row n).length=n:=Rw.dU ..;refine⟨_,rfl,.ref l,n,rfl,.inl ⟨_,SqL.of hL,lL.symm⟩,_,rfl,_,_,rfl,rfl,_,rfl,?_⟩;refine mZ (fun cc=>?_) (fun cc=>?_)
  ·have hn:n<c.toNat:=by have:=dec_true cc;omega
   refine⟨_,fun _ _ z=>z,?_⟩;refine⟨_,rfl,.ref p,r.rule.length,rfl,.inr ⟨_,SqT.of (g _ _ hR),lR.symm⟩,?_⟩;refine⟨(r.rule.length:Int),rfl,(by omega:-(2^62)<=(r.rule.length:Int)),(by omega:(r.rule.length:Int)<2^62),?_⟩;rw[Int.toNat_natCast];refine mj (n:=r.rule.length) (by omega) rfl (fun k=>r.rule.getD k 0*(r.row n).getD (n-1-k) 0) ?_ ?_
   ·intro H2 k g2 hk kk hkk;refine⟨_,rfl,_,rfl,_,_,.inr (SqT.of (g2 _ _ (g _ _ hR))),aV (ns:=r.rule) (by omega:(0:Int)<=0+(k:Int)) (by omega),?_⟩;refine⟨_,rfl,_,rfl,_,rfl,_,_,rfl,rfl,_,_,.inl (SqL.of (g2 _ _ hL)),IY (ns:=r.row n) (n-1-k) (by omega) (by rw[lN];omega),?_⟩;refine⟨tU (Rm.Bd.getD ok.f9 _) (Rm.Bd.getD (ok.Js n (by omega)) _) (by decide),?_⟩;rw[show(0+(k:Int)).toNat=k by omega];exact hkk
   ·intro D hD;have gD:=Same.new hD (.lst ((Pm.ofF r.rule.length fun k=>r.rule.getD k 0*(r.row n).getD (n-1-k) 0).map V.int));refine⟨D,_,rfl,SqL.of aA,?_⟩;have es:(Pm.ofF r.rule.length fun k=>r.rule.getD k 0*(r.row n).getD (n-1-k) 0).sum=Rm.S r.rule (fun i=>(r.row n).getD i 0) n r.rule.length:=Qg r.rule (fun i=>(r.row n).getD i 0) n r.rule.length;rw[es];have hL3:=gD _ _ hL;generalize upd H' D (.lst ((Pm.ofF r.rule.length fun k=>r.rule.getD k 0*(r.row n).getD (n-1-k) 0).map V.int))=H3 at gD hL3;refine⟨_,rfl,.inl ⟨rfl,_,SqL.of hL3⟩,_,rfl,_,rfl,r.b,_,rfl,ok.by0,?_⟩;refine⟨l,_,_,rfl,rfl,hL3,?_,?_⟩
    ·rw[lL];exact bI (by omega)
    ·refine⟨c.toNat-(n+1),by omega,n+1,_,rfl,by omega,by omega,rfl,(g.trans gD).upd hl1 _,?_⟩;rw[aA];have e:r.row (n+1)=r.row n++[Rm.tk r.b (Rm.S r.rule (fun i=>(r.row n).getD i 0) n r.rule.length)]:=by
      show _++[if n<r.starts.length then r.starts.getD n 0 else _]=_;rw[if_neg (by omega)];rfl
     rw[e,List.map_append];rfl
  ·have hn:n=c.toNat:=by have:=dec_false cc;omega
   subst hn;exact⟨_,rfl,q l H' g hl1 hL⟩
theorem rT(F:Fn K mg "_law_made_longer" jz ["_law_row","_law_number"])(cY:kO P w K mg base)(cX:mD P w K mg base):mX P w K mg base:=by
 refine F.cal cj (fun vs H Q E h=>?_) (fun f cdv A outer s H vs Q E hr h=>?_)
 ·obtain⟨b,m,r0,s,v,r,n,rfl,_⟩:=h;rfl
 ·obtain⟨b,m,r0,s',v,r,n,rfl,hRI,hb,h0,ok,hs,hsh,hn,q⟩:=h;refine⟨_,(ao (qI (pv 0) (MQ K (n:=3) rfl (jc (aX (i:=2) cj.nd rfl (Or.inr rfl)) (jc (aX (i:=3) cj.nd rfl (Or.inl rfl)) (jc (aX (i:=4) cj.nd rfl (Or.inl rfl)) yG)))))
   (ao (aJ (i:=5) cj.nd rfl (Or.inl rfl) (aB cY hr rfl (aM (pv 0) (mO (aH (iW K) (aK (jL K) rfl B.cT boot_len (aM (pv 3) ak)) aq) ak))))
   (ao (aJ (i:=6) cj.nd rfl (Or.inl rfl) (aH (iW K) (jf (aM (pv 1) ak)) (aH v_mul (jf (fK aq ak)) (aK (jL K) rfl B.cT boot_len (aM (pv 3) ak)))))
   (ao (j8 PassesOwn.never rfl (bJ rfl B.bW (aG (aK (jL K) rfl B.cT boot_len (aM (pv 3) ak)) ak)) (aX (i:=7) cj.nd rfl (Or.inl rfl))
   (ao (qI (aH (iW K) (aY (xix K) (pv 6) (pv 7) (fun _ _=>rfl)) (aY (xix K) (pv 3) (pv 7) (fun _ _=>rfl))) (rJ (pv 6) (pv 7) set_list))
   (aF (qI (aH bN (aY (xix K) (pv 6) (aH (iW K) (pv 7) aq) (fun _ _=>rfl)) (aH v_mul (pv 1) (aY (xix K) (pv 3) (pv 7) (fun _ _=>rfl)))) (rJ (pv 6) (aH (iW K) (pv 7) aq) set_list)))))
   (aF (aU (gW (aM (pv 2) (aG (bQ (jF K) rfl B.d7 boot_tuple (aG (dJ (sc:=qN) (N:=["_law_one","_law_by"]) (ix:=[none,some 2]) cN rfl (Ho K (pv 6)) (fun cl C s₀ H₀ ex=>⟨(aX (i:=0) iZ rfl (Or.inl rfl)),cO,(aB cX hr rfl (aM (pv 1) (aM (pv 0) ak)))⟩)) ak)) (aG (bQ (jF K) rfl B.d7 boot_tuple (aM (pv 5) ak)) ak)))))))))),?_⟩
  obtain⟨a,p,p2,rfl,hA,hR,hS⟩:=id hRI;have hO:=ok.ok hb h0 (by omega);have eb:=ok.by_;have lR:(r.rule.map V.int).length=r.rule.length:=List.length_map _;refine⟨_,rfl,a,_,rfl,SqT.of hA,rfl,_,_,rfl,_,_,rfl,_,_,rfl,rfl,?_⟩;refine⟨_,rfl,_,rfl,.ref p,r.rule.length,rfl,.inr ⟨_,SqT.of hR,lR.symm⟩,.ref a,r,(r.rule.length:Int)+1,rfl,hRI,hO.w (by omega),by omega,by omega,fun l1 H1 g1 hl1 h1=>?_⟩;rw[show((r.rule.length:Int)+1).toNat=r.rule.length+1 by omega]at h1;refine⟨_,rfl,(by show 1<=sizeLine;decide),fun l2 hl2=>?_⟩;have g2:=Same.new hl2 (.lst [.int n]);refine⟨(by show 1<=sizeLine;decide),fun l3 hl3=>?_⟩;have g3:=Same.new hl3 (.lst [.int 0]);have h2:(upd (upd H1 l2 (.lst [.int n])) l3 (.lst [.int 0])) l2=some (.lst [.int n]):=g3 _ _ aA;have h3:(upd (upd H1 l2 (.lst [.int n])) l3 (.lst [.int 0])) l3=some (.lst [.int 0]):=aA;have g13:=g2.trans g3;generalize upd (upd H1 l2 (.lst [.int n])) l3 (.lst [.int 0])=H3 at g13 h2 h3;refine⟨_,rfl,.ref p,r.rule.length,rfl,.inr ⟨_,SqT.of (g13 _ _ (g1 _ _ hR)),lR.symm⟩,?_⟩;refine⟨_,h3,by omega,by omega,?_,fun l4 hl4=>?_⟩
  ·show 1*(r.rule.length:Int).toNat<=sizeLine;rw[Nat.one_mul];exact Nat.le_of_lt (bI (by omega))
  rw[show(r.rule.length:Int).toNat=r.rule.length from Int.toNat_natCast _,oG];have g4:=Same.new hl4 (.lst ((Pm.ofF r.rule.length fun _=>0).map V.int));have h2':=g4 _ _ h2;have h4:(upd H3 l4 (.lst ((Pm.ofF r.rule.length fun _=>0).map V.int))) l4=some (.lst ((Pm.ofF r.rule.length fun _=>0).map V.int)):=aA;have g14:=g13.trans g4;generalize upd H3 l4 (.lst ((Pm.ofF r.rule.length fun _=>0).map V.int))=H4 at g4 g14 h2' h4;refine .inl ⟨_,_,h2',h4,?_,fun l5 hl5=>?_⟩
  ·rw[List.length_map,Pm.aP];exact Nat.le_of_lt (bI (by show 1+_<=1000;omega))
  have g5:=Same.new hl5 (.lst ([.int n]++(Pm.ofF r.rule.length fun _=>0).map V.int));have e5:([.int n]++(Pm.ofF r.rule.length fun _=>0).map V.int:List V)=(dj n r.rule 0).map V.int:=by rw[CJ,List.map_append];rfl
  have h5:(upd H4 l5 (.lst ([.int n]++(Pm.ofF r.rule.length fun _=>0).map V.int))) l5=some (.lst ((dj n r.rule 0).map V.int)):=by rw[aA,e5]
  have g15:=g1.trans (g14.trans g5);have f5:H l5=none:=(g1.trans g14).free hl5;have f51:H1 l5=none:=g14.free hl5;have YK:=g14.trans g5;generalize upd H4 l5 (.lst ([.int n]++(Pm.ofF r.rule.length fun _=>0).map V.int))=H5 at g5 h5 g15 YK;refine⟨_,rfl,.ref p,r.rule.length,rfl,.inr ⟨_,SqT.of (g15 _ _ hR),lR.symm⟩,?_⟩;refine⟨(r.rule.length:Int),rfl,(by omega:-(2^62)<=(r.rule.length:Int)),(by omega:(r.rule.length:Int)<2^62),?_⟩;refine fP (lo:=0) (n:=(r.rule.length:Int).toNat) (fun i σ' H'=>∃o7,σ'=[some (.ref a),some (.int n),some (.int r.b),some (.ref p),some (.ref p2),some (.ref l1),some (.ref l5),o7]/\Same H H'/\Same H1 H'/\H' l5=some (.lst ((dj n r.rule i).map V.int))) ⟨_,rfl,g15,YK,h5⟩ ?_ ?_
  ·rintro i σ' H' hi ⟨o7,rfl,g,gg,hL⟩;have hi':i<r.rule.length:=by omega
   have e1:(0+(i:Int)).toNat=i:=by omega
   have e2:(0+(i:Int)+1).toNat=i+1:=by omega
   have lL:(dj n r.rule i).length=r.rule.length+1:=bY ..;refine⟨_,rfl,_,rfl,_,_,.inl (SqL.of hL),aV (ns:=dj n r.rule i) (by omega:(0:Int)<=0+(i:Int)) (by omega),?_⟩;refine⟨_,rfl,_,rfl,_,_,.inr (SqT.of (g _ _ hR)),aV (ns:=r.rule) (by omega:(0:Int)<=0+(i:Int)) (by omega),?_⟩;refine⟨_,rfl,_,rfl,l5,_,_,i,rfl,rfl,hL,tK (by omega) (by rw[List.length_map];omega),?_⟩;rw[jQ,e1];have gu:=g.upd f5 (.lst (((dj n r.rule i).set i ((dj n r.rule i).getD i 0+r.rule.getD i 0)).map V.int));have ggu:=gg.upd f51 (.lst (((dj n r.rule i).set i ((dj n r.rule i).getD i 0+r.rule.getD i 0)).map V.int));have hL2:(upd H' l5 (.lst (((dj n r.rule i).set i ((dj n r.rule i).getD i 0+r.rule.getD i 0)).map V.int))) l5=some (.lst (((dj n r.rule i).set i ((dj n r.rule i).getD i 0+r.rule.getD i 0)).map V.int)):=aA;generalize upd H' l5 (.lst (((dj n r.rule i).set i ((dj n r.rule i).getD i 0+r.rule.getD i 0)).map V.int))=H6 at gu ggu hL2;refine⟨_,rfl,_,rfl,_,_,.inl (SqL.of hL2),aV (ns:=(dj n r.rule i).set i ((dj n r.rule i).getD i 0+r.rule.getD i 0)) (by omega:(0:Int)<=0+(i:Int)+1) (by rw[List.length_set];omega),?_⟩;refine⟨_,rfl,_,rfl,_,rfl,_,_,.inr (SqT.of (gu _ _ hR)),aV (ns:=r.rule) (by omega:(0:Int)<=0+(i:Int)) (by omega),?_⟩;refine⟨tU hn (Rm.Bd.getD hO.f9 _) (by decide),_,_,rfl,rfl,?_⟩;refine⟨_,rfl,_,rfl,l5,_,_,i+1,rfl,rfl,hL2,tK (by omega) (by rw[List.length_map,List.length_set];omega),?_⟩;rw[jQ,e1,e2];refine⟨_,rfl,gu.upd f5 _,ggu.upd f51 _,?_⟩;rw[aA,<-CP hi'];rfl
  ·rintro σ' H' ⟨o7,rfl,g,gg,hL⟩;rw[Int.toNat_natCast]at hL;have lL:(dj n r.rule r.rule.length).length=r.rule.length+1:=bY ..;refine⟨_,rfl,_,rfl,l5,rfl,.inl ⟨⟨_,SqL.of hL⟩,?_⟩⟩;refine Ay hL (by omega) rfl (fun x=>Rm.tk r.b x) ?_ ?_
   ·intro H2 x g2 hx k hk;exact⟨_,rfl,_,rfl,r.b,x,rfl,hO.by0,hk⟩
   ·intro D hD;have gD:=Same.new hD (.lst (((dj n r.rule r.rule.length).map fun x=>Rm.tk r.b x).map V.int));refine⟨D,_,rfl,.inl ⟨SqL.of aA,fun t1 ht1=>?_⟩⟩;have gt1:=Same.new ht1 (.tup (((dj n r.rule r.rule.length).map fun x=>Rm.tk r.b x).map V.int));refine⟨_,rfl,l1,_,rfl,.inl ⟨SqL.of (gt1 _ _ (gD _ _ (gg _ _ h1))),fun t2 ht2=>?_⟩⟩;have gt2:=Same.new ht2 (.tup ((r.row (r.rule.length+1)).map V.int));refine⟨(by show 3<=sizeLine;decide),fun t3 ht3=>?_⟩;have gt3:=Same.new ht3 (.tup [.int r.b,.ref t1,.ref t2]);have fin:=ok.longer hb h0 (by omega) hsh hn;rw[<-eb]at fin;refine q _ ⟨r.b,(dj n r.rule r.rule.length).map (Rm.tk r.b),r.row (r.rule.length+1)⟩ _ (g.trans (gD.trans (gt1.trans (gt2.trans gt3)))) ⟨t3,t1,t2,rfl,aA,gt3 _ _ (gt2 _ _ aA),gt3 _ _ aA⟩ (by rw[<-eb];exact fin) (by show((dj n r.rule r.rule.length).map (Rm.tk r.b)).length=_;rw[List.length_map,bY])
theorem vN(F:Fn K mg "_law_drawn_row" lJ ["_law_script","_law_start","_law_by","_law_most"])(eZ:qg P w K mg base)(gb:yr P w K mg base)(iy:oE P w K mg base)(jt:mX P w K mg base)(cX:mD P w K mg base):qz P w K mg base:=by
 refine F.cal cJ (fun vs H Q E h=>?_) (fun f cdv A outer s H vs Q E hr h=>?_)
 ·obtain⟨a,ns,st,b,m,rfl,_⟩:=h;rfl
 ·obtain⟨a,ns,st,b,m,rfl,hS,s0,s1,hB,hb,m0,m1,q⟩:=h;refine⟨_,(ao (aJ (i:=4) cJ.nd rfl (Or.inl rfl) (aB eZ hr rfl (aM (pv 0) (aM (pv 1) ak))))
   (ao (aJ (i:=5) cJ.nd rfl (Or.inl rfl) (aH eE (aB gb hr rfl (aM (pv 4) (fK aq ak))) (aH (iW K) (pv 3) aq)))
   (ao (aJ (i:=6) cJ.nd rfl (Or.inr rfl) (aB eZ hr rfl (aM (pv 0) (mO (aH (iW K) (pv 1) aq) ak))))
   (ao (aJ (i:=7) cJ.nd rfl (Or.inl rfl) (bQ (jF K) rfl B.d7 boot_tuple (aG (dJ (sc:=uo) (N:=["_law_k","_law_by","_law_mine"]) (ix:=[none,some 2,some 6]) cN rfl (bJ rfl B.bW (aM (pv 5) ak)) (fun cl C s₀ H₀ ex=>⟨(aX (i:=0) iZ rfl (Or.inl rfl)),cO,(aB iy hr rfl (aM (pv 1) (aM (pv 2) (aM (pv 0) ak))))⟩)) ak)))
   (ao (aJ (i:=9) cJ.nd rfl (Or.inl rfl) (gW (aM (pv 2) (aM (pv 7) (aG (bQ (jF K) rfl B.d7 boot_tuple (aG (dJ (sc:=uq) (N:=["_law_k","_law_by","_law_mine"]) (ix:=[none,some 2,some 6]) cN rfl (bJ rfl B.bW (aM (pv 5) ak)) (fun cl C s₀ H₀ ex=>⟨(aX (i:=0) iZ rfl (Or.inl rfl)),cO,(aB iy hr rfl (aM (pv 1) (aM (pv 2) (mO (aH (iW K) aq (pv 0)) ak))))⟩)) ak)) ak)))))
   (ao (j8 PassesOwn.never rfl (bJ rfl B.bW (aG (aY (xix K) (jf (fK aq (fK aq (fK aq (fK aq (fK aq (fK aq (fK aq (fK aq ak))))))))) (aH eE (aB gb hr rfl (aM (pv 4) (fK aq ak))) aq) (fun _ _=>rfl)) ak)) (aX (i:=8) cJ.nd rfl (Or.inl rfl))
   (aF (FT (iV (bh wH (aK (jL K) rfl B.cT boot_len (aG (aY (xix K) (pv 9) aq (fun _ _=>rfl)) ak)) aq (bF _))
   (aF (aJ (i:=9) cJ.nd rfl (Or.inl rfl) (aB jt hr rfl (aM (pv 9) (aG (aB cX hr rfl (aM (pv 2) (mO (aH bN (aH eE (aB gb hr rfl (aM (pv 4) (mO (aH (iW K) aq (pv 8)) ak))) aq) aq) ak))) ak)))))
   cF))))
   (aF (aU (pv 9))))))))),?_⟩
  refine⟨_,rfl,_,rfl,a,ns,st,rfl,hS,s0,by omega,hB,fun c hc=>?_⟩;refine⟨_,rfl,c,2,rfl,by decide,by decide,fun x x0 x1=>?_⟩;refine⟨_,rfl,_,_,rfl,rfl,(by show 0<m+1;omega),?_⟩;have k0:=dO x (show 0<m+1 by omega);have k1:=dZ x (show 0<m+1 by omega);dsimp only;generalize x%(m+1)=sz at k0 k1;refine⟨_,rfl,_,rfl,a,ns,st+1,rfl,hS,by omega,by omega,hB,fun c2 hc2=>?_⟩;obtain⟨N,rfl⟩:∃N:Nat,sz=(N:Int):=⟨sz.toNat,by omega⟩;refine⟨_,rfl,N,rfl,(by omega:-(2^62)<=(N:Int)),(by omega:(N:Int)<2^62),?_⟩;rw[Int.toNat_natCast];refine xY (n:=N) (by omega) rfl (fun x=>jD b x/\Rm.Bd 13 x/\(b=0->x.natAbs<=5)) ?_ ?_
  ·intro H2 k g2 hk kk hkk;exact⟨_,rfl,_,rfl,_,rfl,b,c2,0+(k:Int),rfl,hb,hc2,by omega,by omega,fun x H3 g3 h1 _ h2=>hkk x H3 g3 ⟨h1,h2 (by omega)⟩⟩
  intro D H1 rule hD g1 hD1 lr hr;refine⟨D,_,rfl,.inl ⟨SqL.of hD1,fun t1 ht1=>?_⟩⟩;have gt1:=Same.new ht1 (.tup (rule.map V.int));have h1:(upd H1 t1 (.tup (rule.map V.int))) t1=some (.tup (rule.map V.int)):=aA;have g2:=g1.trans gt1;generalize upd H1 t1 (.tup (rule.map V.int))=H2 at gt1 h1 g2;refine⟨_,rfl,_,rfl,_,rfl,N,rfl,(by omega:-(2^62)<=(N:Int)),(by omega:(N:Int)<2^62),?_⟩;rw[Int.toNat_natCast];refine xY (n:=N) (by omega) rfl (fun x=>jD b x/\Rm.Bd 31 x) ?_ ?_
  ·intro H3 k g3 hk kk hkk;exact⟨_,rfl,_,rfl,_,rfl,b,c2,15+(0+(k:Int)),rfl,hb,hc2,by omega,by omega,fun x H3 g3 h1 h2 _=>hkk x H3 g3 ⟨h1,h2⟩⟩
  intro D2 H3 starts hD2 g3 hD3 ls hs;refine⟨D2,_,rfl,.inl ⟨SqL.of hD3,fun t2 ht2=>?_⟩⟩;have gt2:=Same.new ht2 (.tup (starts.map V.int));refine⟨(by show 3<=sizeLine;decide),fun t3 ht3=>?_⟩;have gt3:=Same.new ht3 (.tup [.int b,.ref t1,.ref t2]);have gA:=g2.trans (g3.trans (gt2.trans gt3));have R0:iU (upd (upd H3 t2 (.tup (starts.map V.int))) t3 (.tup [.int b,.ref t1,.ref t2])) (.ref t3) ⟨b,rule,starts⟩:=⟨t3,t1,t2,rfl,aA,gt3 _ _ (gt2 _ _ (g3 _ _ h1)),gt3 _ _ aA⟩;generalize upd (upd H3 t2 (.tup (starts.map V.int))) t3 (.tup [.int b,.ref t1,.ref t2])=H4 at gA R0;have B0:Bs b m.toNat ⟨b,rule,starts⟩:=⟨rfl,lr.trans ls.symm,(by show rule.length<=m.toNat;omega),by omega,fun x hx=>(hr x hx).1,fun x hx=>(hs x hx).1,fun x hx=>(hr x hx).2.1,fun x hx=>(hs x hx).2⟩;have S0:RwS b ⟨b,rule,starts⟩ 0 ⟨b,rule,starts⟩:=⟨rfl,lr.trans ls.symm,(by show rule.length<=12;omega),fun x hx=>(hr x hx).1,fun x hx=>(hr x hx).2.1,fun _=>rfl⟩;have lr0:rule.length<=m.toNat:=by omega
  refine⟨(by show 8<=sizeLine;decide),fun p8 hp8=>?_⟩;have g8:=Same.new hp8 (.lst (sJ.map V.int));refine⟨_,rfl,c,3,rfl,by decide,by decide,fun y y0 y1=>?_⟩;have e0:=dO y (show(0:Int)<8 by decide);have e1:=dZ y (show(0:Int)<8 by decide);refine⟨_,_,rfl,rfl,(by decide:(0:Int)<8),_,_,.inl (SqL.of aA),aV (ns:=sJ) e0 e1,?_⟩;have ty:=G5 (y%8).toNat (by omega);generalize sJ.getD (y%8).toNat 0=T at ty;have g9:=gA.trans g8;have R1:=R0.same g8;have eH:(upd H4 p8 (.lst [.int 0,.int 0,.int 1,.int 0,.int 2,.int 0,.int 0,.int 3]))=upd H4 p8 (.lst (sJ.map V.int)):=rfl;rw[eH];generalize upd H4 p8 (.lst (sJ.map V.int))=H5 at g9 R1;refine⟨T,rfl,(by omega:-(2^62)<=T),(by omega:T<2^62),?_⟩;refine fP (lo:=0) (n:=T.toNat) (fun i σ' H'=>∃(v:V) (r:Rw) (o8:Option V),σ'=[some (.ref a),some (.int st),some (.int b),some (.int m),some (.int c),some (.int N),some (.int c2),some (.ref t1),o8,some v]/\Same H H'/\iU H' v r/\RwS b ⟨b,rule,starts⟩ i r/\r.rule.length<=m.toNat+i) ⟨.ref t3,_,_,rfl,g9,R1,S0,lr0⟩ ?_ ?_
  ·rintro i σ' H' hi ⟨v,r,o8,rfl,g,hR,ok,lm⟩;obtain⟨ra,rp,rq,rfl,hA,hP,hQ2⟩:=id hR;refine Nt.by (fun σ' H'=>∃(v:V) (r:Rw) (o8:Option V),σ'=[some (.ref a),some (.int st),some (.int b),some (.int m),some (.int c),some (.int N),some (.int c2),some (.ref t1),o8,some v]/\Same H H'/\iU H' v r/\RwS b ⟨b,rule,starts⟩ (i+1) r/\r.rule.length<=m.toNat+(i+1)) (fun NN hNN=>?_) (fun σ' H' z=>z);refine⟨_,rfl,_,_,.inr (SqT.of hA),rfl,.ref rp,r.rule.length,rfl,.inr ⟨_,SqT.of hP,(List.length_map _).symm⟩,_,_,rfl,rfl,_,rfl,?_⟩;refine mZ (fun cc=>?_) (fun cc=>hNN _ _ ⟨_,r,_,rfl,g,hR,ok.up,by omega⟩);have hsh:r.rule.length<12:=by have:=dec_true cc;omega
   refine⟨_,rfl,_,rfl,_,rfl,_,rfl,c,4+(0+(i:Int)),rfl,by omega,by omega,fun y2 _ _=>?_⟩;have z0:=dO y2 (show(0:Int)<5 by decide);have z1:=dZ y2 (show(0:Int)<5 by decide);refine⟨_,_,rfl,rfl,(by decide:(0:Int)<5),_,_,rfl,rfl,b,_,rfl,hb.lo,?_⟩;refine⟨b,m.toNat,_,i,_,r,_,rfl,hR,hb,B0,ok,by omega,hsh,m5 hb (by decide) (Rm.Bd.of (by show -(2^10)<y2%5-2;omega) (by show y2%5-2<2^10;omega)),fun v' r' H2 g2 R2 ok2 l2=>?_⟩;exact hNN _ _ ⟨v',r',_,rfl,g.trans g2,R2,ok2,by omega⟩
  ·rintro σ' H' ⟨v,r,o8,rfl,g,hR,ok,lm⟩;exact⟨_,rfl,q v _ _ r H' g hR B0 ok (by omega) lm fun z x hx=>(hr x hx).2.2 z⟩
theorem yX(F:Fn K mg "_law_shorter" qd ["_law_by","_law_number","_law_last"]):uJ P w K mg base:=by
 refine F.cal Ae (fun vs H Q E h=>?_) (fun f cdv A outer s H vs Q E hr h=>?_)
 ·obtain⟨b,x,last,rfl,_⟩:=h;rfl
 ·obtain⟨b,x,last,rfl,h0,hl,q⟩:=h;refine⟨_,(ao (iV (bh (xeq K hr) (pv 0) aq (bF _))
   (aF (aU (aH Je (pv 1) (pv 2))))
   cF)
   (aF (aU (aH eE (pv 1) (pv 0))))),?_⟩
  refine⟨_,rfl,_,rfl,?_⟩;refine mZ (fun c=>?_) (fun c=>?_)
  ·have c':b=0:=dec_true c;obtain⟨h1,h2⟩:=hl c';refine⟨_,rfl,_,rfl,_,_,rfl,rfl,⟨h1,Nat.lt_of_lt_of_le (NT h2 h1) (by decide)⟩,?_⟩;unfold Dm.sh at q;rw[if_pos c']at q;exact q
  ·have c':¬b=0:=dec_false c;refine⟨_,rfl,_,rfl,_,_,rfl,rfl,(by omega:(0:Int)<b),?_⟩;unfold Dm.sh at q;rw[if_neg c']at q;exact q
theorem Ju(F:Fn K mg "_law_rank" zV ["_law_by","_law_size","_law_some"])(pY:uJ P w K mg base):Ag P w K mg base:=by
 refine F.cal eU (fun vs H Q E h=>?_) (fun f cdv A outer s H vs Q E hr h=>?_)
 ·obtain⟨b,n,l,ps,a,L,ua,rfl,_⟩:=h;rfl
 ·obtain⟨b,n,l,ps,a,L,ua,rfl,hL,hps,ea,hB,lst,ll,n12,atk,hua,Nu,abd,q⟩:=h;refine⟨_,(ao (aJ (i:=3) eU.nd rfl (Or.inr rfl) (HD (sc:=Du) (N:=["_law_i","_law_size","_law_some"]) (ix:=[none,some 1,some 2]) (ow:=["_law_i"]) IL rfl (bJ rfl B.bW (aM (pv 1) ak)) (fun cl C s₀ H₀ ex=>⟨(aX (i:=0) iZ rfl (Or.inr rfl)),cO,(dJ (sc:=FW) (N:=["_law_j","_law_i","_law_some"]) (ix:=[none,some 0,some 2]) cN rfl (bJ rfl B.bW (aM (pv 1) ak)) (fun cl C s₀ H₀ ex=>⟨(aX (i:=0) iZ rfl (Or.inl rfl)),cO,(aY (xix K) (pv 2) (aH (iW K) (pv 1) (pv 0)) (fun _ _=>rfl))⟩))⟩)))
   (ao (aJ (i:=4) eU.nd rfl (Or.inl rfl) aq)
   (ao (aJ (i:=5) eU.nd rfl (Or.inr rfl) aq)
   (ao (j8 PassesOwn.never rfl (bJ rfl B.bW (aM (pv 1) ak)) (aX (i:=6) eU.nd rfl (Or.inr rfl))
   (ao (aJ (i:=7) eU.nd rfl (Or.inl rfl) (mq (xsl K) (dJ (sc:=EA) (N:=["_law_k","_law_column","_law_table"]) (ix:=[none,some 6,some 3]) cN rfl (jG rfl B.bW (aM (pv 4) (aM (pv 1) ak))) (fun cl C s₀ H₀ ex=>⟨(aX (i:=0) iZ rfl (Or.inl rfl)),(Mu (bh (xne K hr) (aY (xix K) (aY (xix K) (pv 2) (pv 0) (fun _ _=>rfl)) (pv 1) (fun _ _=>rfl)) aq (bF _))),(pv 0)⟩)) pB (pI aq)))
   (aF (iV (bh (xne K hr) (pv 7) (jf ak) (bF _))
   (ao (qI (gW (aG (aY (xix K) (pv 3) (aY (xix K) (pv 7) aq (fun _ _=>rfl)) (fun _ _=>rfl)) (aG (aY (xix K) (pv 3) (pv 4) (fun _ _=>rfl)) ak))) (MQ K (n:=2) rfl (jc (rJ (pv 3) (pv 4) set_list) (jc (rJ (pv 3) (aY (xix K) (pv 7) aq (fun _ _=>rfl)) set_list) yG))))
   (ao (aJ (i:=9) eU.nd rfl (Or.inr rfl) (aY (xix K) (pv 3) (pv 4) (fun _ _=>rfl)))
   (ao (j8 PassesOwn.never rfl (jG rfl B.bW (mO (aH (iW K) (pv 4) aq) (aM (pv 1) ak))) (aX (i:=8) eU.nd rfl (Or.inl rfl))
   (ao (aJ (i:=10) eU.nd rfl (Or.inr rfl) (aY (xix K) (pv 3) (pv 8) (fun _ _=>rfl)))
   (ao (vA (i:=11) (hN:=eU.nd) (hi':=rfl) (hx:=(Or.inl rfl)) (sc:=Gn) (N:=["_law_j","_law_column","_law_head","_law_row"]) (ix:=[none,some 6,some 9,some 10]) cN rfl (bJ rfl B.bW (aM (pv 1) ak)) (fun cl C s₀ H₀ ex=>⟨(aX (i:=0) iZ rfl (Or.inl rfl)),cO,(aH bN (aH v_mul (aY (xix K) (pv 2) (pv 1) (fun _ _=>rfl)) (aY (xix K) (pv 3) (pv 0) (fun _ _=>rfl))) (aH v_mul (aY (xix K) (pv 3) (pv 1) (fun _ _=>rfl)) (aY (xix K) (pv 2) (pv 0) (fun _ _=>rfl))))⟩))
   (aF (qI (dJ (sc:=Eo) (N:=["_law_one","_law_by","_law_last"]) (ix:=[none,some 0,some 5]) cN rfl (Ho K (pv 11)) (fun cl C s₀ H₀ ex=>⟨(aX (i:=0) iZ rfl (Or.inl rfl)),cO,(aB pY hr rfl (aM (pv 1) (aM (pv 0) (aM (pv 2) ak))))⟩)) (rJ (pv 3) (pv 8) set_list))))))
   (ao (aJ (i:=5) eU.nd rfl (Or.inr rfl) (aY (xix K) (pv 9) (pv 6) (fun _ _=>rfl)))
   (aF (aJ (i:=4) eU.nd rfl (Or.inl rfl) (aH (iW K) (pv 4) aq)))))))
   cF))))
   (aF (aU (pv 4))))))),?_⟩
  obtain⟨hb0,hb1,_⟩:=hB.range;have hD:=hB.dom;have hp:=lst.mon.pos;have hone:Rm.tk b 1≠0:=by rw[hB.one];decide
  refine⟨_,rfl,(n:Int),rfl,(by omega:-(2^62)<=(n:Int)),(by omega:(n:Int)<2^62),?_⟩;rw[Int.toNat_natCast];refine B5 jN (by rw[List.length_map,List.length_range];omega) rfl (NV fun i=>Pm.ofF n fun j=>a (i+j)) ?_ ?_
  ·intro H1 x g1 hx k hk;obtain⟨i,hi,rfl⟩:=List.mem_map.mp hx;have hi':=List.mem_range.mp hi;refine⟨_,rfl,(n:Int),rfl,(by omega:-(2^62)<=(n:Int)),(by omega:(n:Int)<2^62),?_⟩;rw[Int.toNat_natCast];refine mj (n:=n) (by omega) rfl (fun j=>a (i+j)) ?_ ?_
   ·intro H2 j g2 hj kk hkk;refine⟨_,rfl,_,rfl,_,rfl,_,_,.inl (SqL.of (g2 _ _ (g1 _ _ hL))),aV (ns:=ps) (by omega:(0:Int)<=0+(i:Int)+(0+(j:Int))) (by omega),?_⟩;rw[show(0+(i:Int)+(0+(j:Int))).toNat=i+j by omega];have:=ea (i+j) (by omega);unfold Pm.co at this;rw[this];exact hkk
   ·intro D hD';refine hk D _ (Same.new hD' _) hD' ?_;rw[aA];show _=some (HO.lst ((Pm.ofF n fun j=>a ((0+(i:Int)).toNat+j)).map V.int));rw[show(0+(i:Int)).toNat=i by omega]
  intro lt xs H1 fT g1 hT hX;rw[vV]at hX;have R0:Dm.RkI b n 0 (hkN n a) (hkN n a) (JR n n fun i j=>a (i+j)) 1 ua:=Dm.RkI.start hB.one (Iu ..) (fun i hi=>by rw[DL hi,Pm.aP]) (fun i k hi hk=>by rw[M6 hi hk,JN hi hk,atk]) (fun i k=>by
   unfold hkN;split
   ·rename_i z;exact abd _ (by omega)
   ·exact Rm.Bd.zero _)
  have hI:Dm.Ind b n (L.length-1) (hkN n a):=fun x hx=>by
   have:=Dm.Jm (n':=n) (by omega) (Dm.uR hD (Dm.Ed hD hone lst.mon lst.nu lst.kp lst.all));exact this x ((Ec (by omega)).mp hx)
  have hrel:∀j,L.length-1<=j->j<n->∃x,Dm.Rel b n n (hkN n a) x/\Rm.tk b (x j)≠0/\∀k,j<k->x k=0:=fun j h1 h2=>by
   obtain⟨x,y1,y2,y3⟩:=Dm.Ii hone lst.mon lst.kp h1 h2;exact⟨x,(Ec (Nat.le_refl _)).mpr y1,y2,y3⟩
  refine⟨_,rfl,(n:Int),rfl,(by omega:-(2^62)<=(n:Int)),(by omega:(n:Int)<2^62),?_⟩;refine fP (lo:=0) (n:=(n:Int).toNat) (fun c σ' H'=>∃(xs:List V) (t:List (List Int)) (last:Int) (A:Nat->Nat->Int) (o6 o7 o8 o9 o10 o11:Option V),σ'=[some (.int b),some (.int (n:Int)),some (.ref l),some (.ref lt),some (.int ((min c (L.length-1):Nat):Int)),some (.int last),o6,o7,o8,o9,o10,o11]/\Same H H'/\H' lt=some (.lst xs)/\Lns H' [lt] xs t/\Dm.RkI b n (min c (L.length-1)) (hkN n a) A t last ua)
   ⟨xs,_,1,hkN n a,_,_,_,_,_,_,by rw[Nat.zero_min];rfl,g1,hT,hX,by rw[Nat.zero_min];exact R0⟩ ?_ ?_
  ·rintro c σ' H2 hc' ⟨xs2,t,last,A,o6,o7,o8,o9,o10,o11,rfl,g2,hT2,hX2,R⟩;have hc:c<n:=by omega
   obtain⟨d,hd⟩:∃d,min c (L.length-1)=d:=⟨_,rfl⟩;rw[hd]at R⊢;have dn:d<=n:=by omega
   have lx:=hX2.len;have lt':=R.len;refine⟨_,rfl,_,rfl,(d:Int),(n:Int),rfl,⟨by omega,by omega,by omega,by omega⟩,?_⟩;rw[show((n:Int)-(d:Int)).toNat=n-d by omega];refine Er (lo:=d) (n:=n-d) (by omega) rfl (fun k=>!decide (Pm.co (Dm.ln t (d+k)) c=0)) ?_ ?_ ?_
   ·intro H3 k g3 hk kk hkk;obtain⟨tk,e1,e2,e3⟩:=(hX2.same g3).get (i:=d+k) (by omega);have lw:=R.wd (d+k) (by omega);refine⟨_,rfl,_,rfl,_,_,.inl (SqL.of (g3 _ _ hT2)),uf (d+k) (by omega) e1,?_⟩;refine⟨_,rfl,_,_,.inl (SqL.of e3),aV (ns:=Dm.ln t (d+k)) (by omega:(0:Int)<=0+(c:Int)) (by omega),?_⟩;rw[show(0+(c:Int)).toNat=c by omega];exact⟨_,rfl,hkk⟩
   ·intro H3 k g3 hk _ kk hkk;exact⟨_,rfl,hkk⟩
   intro D hDn;have gD:=Same.new hDn (.lst ((((List.range (n-d)).filter fun k=>!decide (Pm.co (Dm.ln t (d+k)) c=0)).map fun k:Nat=>(d:Int)+(k:Int)).map V.int));refine⟨_,rfl,.inl ⟨_,SqL.of aA,fun la hla=>?_⟩⟩;have ZC:∀zs:List V,vI zs none (some 1)=zs.take 1:=fun zs=>wO zs 1;rw[ZC];have gla:=Same.new hla (.lst (List.take 1 ((((List.range (n-d)).filter fun k=>!decide (Pm.co (Dm.ln t (d+k)) c=0)).map fun k:Nat=>(d:Int)+(k:Int)).map V.int)));have gDl:=gD.trans gla;have hA:(upd (upd H2 D (.lst ((((List.range (n-d)).filter fun k=>!decide (Pm.co (Dm.ln t (d+k)) c=0)).map fun k:Nat=>(d:Int)+(k:Int)).map V.int))) la (.lst (List.take 1 ((((List.range (n-d)).filter fun k=>!decide (Pm.co (Dm.ln t (d+k)) c=0)).map fun k:Nat=>(d:Int)+(k:Int)).map V.int)))) la=some (.lst (List.take 1 ((((List.range (n-d)).filter fun k=>!decide (Pm.co (Dm.ln t (d+k)) c=0)).map fun k:Nat=>(d:Int)+(k:Int)).map V.int))):=aA;generalize upd (upd H2 D (.lst ((((List.range (n-d)).filter fun k=>!decide (Pm.co (Dm.ln t (d+k)) c=0)).map fun k:Nat=>(d:Int)+(k:Int)).map V.int))) la (.lst (List.take 1 ((((List.range (n-d)).filter fun k=>!decide (Pm.co (Dm.ln t (d+k)) c=0)).map fun k:Nat=>(d:Int)+(k:Int)).map V.int)))=H3 at gDl hA;have O9:la≠lt:=fun z=>by rw[z,gD _ _ hT2]at hla;cases hla
   have hT3:=gDl _ _ hT2;have hX3:=hX2.same gDl;have g3:=g2.trans gDl;rcases Hv (m:=n-d) (p:=fun k=>!decide (Pm.co (Dm.ln t (d+k)) c=0))with⟨e0,hz⟩|⟨i,r,e1,hi,hpi⟩
   ·-- none: the heads are all found
    rw[e0]at hA;have hA':H3 la=some (.lst (([]:List Int).map V.int)):=hA;have hcl:L.length-1<=c:=Nat.le_of_not_lt fun z=>by
     have ed:d=c:=by omega
     rw[ed]at R hz;obtain⟨i,h1,h2,h3⟩:=R.some hD hI z (by omega);have:=hz (i-c) (by omega);rw[show c+(i-c)=i by omega,decide_eq_false h3]at this;cases this
    have ed:d=L.length-1:=by omega
    refine⟨_,rfl,(by show 0<=sizeLine;decide),fun le hle=>?_⟩;have gle:=Same.new hle (.lst ([]:List V));refine Wk (ns:=[]) (ms:=[]) (SqL.of (gle _ _ hA')) (SqL.of aA) ⟨_,rfl,?_⟩;rw[decide_eq_true rfl];refine uQ ⟨xs2,t,last,A,some (.int (0+(c:Int))),some (.ref la),o8,o9,o10,o11,?_,g3.trans gle,gle _ _ hT3,hX3.same gle,?_⟩
    ·rw[show min (c+1) (L.length-1)=d by omega];rfl
    ·rw[show min (c+1) (L.length-1)=d by omega];exact R
   ·-- a head
    rw[e1]at hA;have hA':H3 la=some (.lst ([(d:Int)+(i:Int)].map V.int)):=hA;have hne:Pm.co (Dm.ln t (d+i)) c≠0:=fun z=>by rw[decide_eq_true z]at hpi;cases hpi
    have hcl:c<L.length-1:=Nat.lt_of_not_le fun z=>by
     have ed:d=L.length-1:=by omega
     rw[ed]at R hne;exact hne (R.none hD (by omega) hrel c hc _ (by omega) (by omega))
    have ed:d=c:=by omega
    subst ed;obtain⟨a0,ha0⟩:∃a0,d+i=a0:=⟨_,rfl⟩;have hda:d<=a0:=by omega
    have han:a0<n:=by omega
    have eI:(d:Int)+(i:Int)=(a0:Int):=by omega
    rw[ha0]at hne;rw[eI]at hA';clear hpi e1 hA hi;refine⟨_,rfl,(by show 0<=sizeLine;decide),fun le hle=>?_⟩;have gle:=Same.new hle (.lst ([]:List V));refine Wk (ns:=[(a0:Int)]) (ms:=[]) (SqL.of (gle _ _ hA')) (SqL.of aA) ⟨_,rfl,?_⟩;rw[decide_eq_false (by intro z;cases z)];refine Yl ?_;have hA4:=gle _ _ hA';have hT4:=gle _ _ hT3;have hX4:=hX3.same gle;have g4:=g3.trans gle;generalize upd H3 le (.lst ([]:List V))=H4 at gle hA4 hT4 hX4 g4;clear gle hA' hT3 hX3 g3 gDl hX2 hT2 gla gD hX hT g1 hla hDn;obtain⟨ta,fa1,fa2,fa3⟩:=hX4.get (i:=a0) (by omega);obtain⟨td,fd1,fd2,fd3⟩:=hX4.get (i:=d) (by omega);refine⟨_,rfl,_,rfl,_,_,.inl (SqL.of hA4),rfl,_,_,.inl (SqL.of hT4),uf a0 rfl fa1,?_⟩;refine⟨_,rfl,_,rfl,_,_,.inl (SqL.of hT4),uf d rfl fd1,(by show 2<=sizeLine;decide),fun tp htp=>?_⟩;have gtp:=Same.new htp (.tup [.ref ta,.ref td]);have hP5:(upd H4 tp (.tup [.ref ta,.ref td])) tp=some (.tup [.ref ta,.ref td]):=aA;have hA5:=gtp _ _ hA4;have hT5:=gtp _ _ hT4;have hX5:=hX4.same gtp;have g5:=g4.trans gtp;have fa5:=gtp _ _ fa3;have fd5:=gtp _ _ fd3;generalize upd H4 tp (.tup [.ref ta,.ref td])=H5 at gtp hP5 hA5 hT5 hX5 g5 fa5 fd5;have Yy:la≠lt:=O9;refine⟨tp,_,rfl,SqT.of hP5,rfl,_,_,rfl,?_⟩;refine⟨_,rfl,_,rfl,lt,_,_,d,rfl,rfl,hT5,tK (by omega) (by omega),?_⟩;have k6:=Keep.upd lt H5 (.lst (xs2.set d (.ref ta)));have hT6:(upd H5 lt (.lst (xs2.set d (.ref ta)))) lt=some (.lst (xs2.set d (.ref ta))):=aA;have g6:=g5.upd fT (.lst (xs2.set d (.ref ta)));have hX6:=(Lns.set fa2 fa5 d hX5).keep (List.mem_singleton.mpr rfl) k6;have hA6:=k6 _ _ O9 hA5;have fd6:=k6 _ _ (fun z=>fd2 (List.mem_singleton.mpr z)) fd5;generalize upd H5 lt (.lst (xs2.set d (.ref ta)))=H6 at k6 hT6 g6 hX6 hA6 fd6;refine⟨_,_,rfl,?_⟩;refine⟨_,rfl,_,rfl,_,_,.inl (SqL.of hA6),rfl,lt,_,_,a0,rfl,rfl,hT6,tK (by omega) (by rw[List.length_set];omega),rfl,?_⟩;have k7:=Keep.upd lt H6 (.lst ((xs2.set d (.ref ta)).set a0 (.ref td)));have hT7:(upd H6 lt (.lst ((xs2.set d (.ref ta)).set a0 (.ref td)))) lt=some (.lst ((xs2.set d (.ref ta)).set a0 (.ref td))):=aA;have g7:=g6.upd fT (.lst ((xs2.set d (.ref ta)).set a0 (.ref td)));have hX7:=(Lns.set fd2 fd6 a0 hX6).keep (List.mem_singleton.mpr rfl) k7;generalize upd H6 lt (.lst ((xs2.set d (.ref ta)).set a0 (.ref td)))=H7 at k7 hT7 g7 hX7;generalize (xs2.set d (.ref ta)).set a0 (.ref td)=xs7 at hT7 hX7;have lT1:((t.set d (Dm.ln t a0)).set a0 (Dm.ln t d)).length=n:=by rw[List.length_set,List.length_set];omega
    have eT1:∀k,Dm.ln ((t.set d (Dm.ln t a0)).set a0 (Dm.ln t d)) k=if k=d then Dm.ln t a0 else if k=a0 then Dm.ln t d else Dm.ln t k:=fun k=>by
     rw[wZ _ (by rw[List.length_set];omega),wZ _ (by omega)];by_cases z1:k=d
     ·rw[if_pos z1,if_pos z1];by_cases z2:k=a0
      ·rw[if_pos z2,<-z1,z2]
      ·rw[if_neg z2]
     ·rw[if_neg z1,if_neg z1]
    generalize (t.set d (Dm.ln t a0)).set a0 (Dm.ln t d)=t1 at hX7 lT1 eT1;clear k6 hT6 hA6 fd6 g6 hX6 k7 hA5 hT5 hX5 hP5 fa5 fd5 fa3 fd3 hA4 hT4 hX4 g4 g5 gtp;obtain⟨th,fh1,fh2,fh3⟩:=hX7.get (i:=d) (by omega);rw[eT1,if_pos rfl]at fh3;refine⟨_,rfl,_,rfl,_,_,.inl (SqL.of hT7),uf d rfl fh1,?_⟩;have lh:(Dm.ln t a0).length=n:=R.wd a0 han;refine⟨_,rfl,_,rfl,(d:Int)+1,(n:Int),rfl,⟨by omega,by omega,by omega,by omega⟩,?_⟩;refine fP (lo:=(d:Int)+1) (n:=((n:Int)-((d:Int)+1)).toNat) (fun m σ' H'=>∃(xs':List V) (t':List (List Int)) (o8 o10 o11:Option V),σ'=[some (.int b),some (.int (n:Int)),some (.ref l),some (.ref lt),some (.int (d:Int)),some (.int last),some (.int (0+(d:Int))),some (.ref la),o8,some (.ref th),o10,o11]/\Same H H'/\H' lt=some (.lst xs')/\Lns H' [lt] xs' t'/\H' th=some (.lst ((Dm.ln t a0).map V.int))/\t'.length=n/\(∀k,k<n->(Dm.ln t' k).length=n)/\
     (∀k,d+1+m<=k->k<n->Dm.ln t' k=Dm.ln t (if k=a0 then d else k))/\∀k,d<k->k<d+1+m->∀j,j<n->Pm.co (Dm.ln t' k) j=Dm.sh b (Pm.co (Dm.ln t a0) d*Pm.co (Dm.ln t (if k=a0 then d else k)) j-Pm.co (Dm.ln t (if k=a0 then d else k)) d*Pm.co (Dm.ln t a0) j) last)
     ⟨xs7,t1,_,_,_,rfl,g7,hT7,hX7,fh3,lT1,fun k hk=>?_,fun k h1 h2=>?_,fun k h1 h2=>by omega⟩ ?_ ?_
    ·rw[eT1];split
     ·exact lh
     ·split
      ·exact R.wd d (by omega)
      ·exact R.wd k hk
    ·rw[eT1,if_neg (by omega)];split<;>rfl
    ·rintro m σ' H8 hm ⟨xs8,t8,o8,o10,o11,rfl,g8,hT8,hX8,hh8,l8,w8,e8,f8⟩;obtain⟨k,hk⟩:∃k,d+1+m=k:=⟨_,rfl⟩;have hkn:k<n:=by omega
     have eK:(d:Int)+1+(m:Int)=(k:Int):=by omega
     rw[eK];obtain⟨tr,r1,r2,r3⟩:=hX8.get (i:=k) (by omega);have eR:=e8 k (by omega) hkn;have bR:∀j,j<n->Rm.Bd 100000 (Pm.co (Dm.ln t8 k) j):=fun j hj=>by
      rw[eR];refine(R.bd hb0 hb1 (i:=if k=a0 then d else k) ?_ ?_ n12 hj).mono ?_
      ·split<;>omega
      ·split<;>omega
      ·have:14*(ua+14)<=14*(885+14):=Nat.mul_le_mul_left _ (by omega);omega
     have bH:∀j,j<n->Rm.Bd 100000 (Pm.co (Dm.ln t a0) j):=fun j hj=>by
      refine(R.bd hb0 hb1 hda han n12 hj).mono ?_;have:14*(ua+14)<=14*(885+14):=Nat.mul_le_mul_left _ (by omega);omega
     have lr:(Dm.ln t8 k).length=n:=w8 k hkn;refine⟨_,rfl,_,rfl,_,_,.inl (SqL.of hT8),uf k rfl r1,?_⟩;refine⟨_,rfl,(n:Int),rfl,(by omega:-(2^62)<=(n:Int)),(by omega:(n:Int)<2^62),?_⟩;rw[Int.toNat_natCast];refine mj (n:=n) (by omega) rfl (fun j=>Pm.co (Dm.ln t a0) d*Pm.co (Dm.ln t8 k) j-Pm.co (Dm.ln t8 k) d*Pm.co (Dm.ln t a0) j) ?_ ?_
     ·intro H9 j g9 hj kk hkk;have ix0:(0:Int)<=0+(d:Int):=by omega
      have ix1:(0:Int)<=0+(j:Int):=by omega
      refine⟨_,rfl,_,rfl,_,_,.inl (SqL.of (g9 _ _ hh8)),aV (ns:=Dm.ln t a0) ix0 (by omega),?_⟩;refine⟨_,rfl,_,rfl,_,_,.inl (SqL.of (g9 _ _ r3)),aV (ns:=Dm.ln t8 k) ix1 (by omega),?_⟩;rw[show(0+(d:Int)).toNat=d by omega,show(0+(j:Int)).toNat=j by omega];refine⟨tU (bH d (by omega)) (bR j hj) (by decide),?_⟩;refine⟨_,rfl,_,rfl,_,_,.inl (SqL.of (g9 _ _ r3)),aV (ns:=Dm.ln t8 k) ix0 (by omega),?_⟩;refine⟨_,rfl,_,rfl,_,_,.inl (SqL.of (g9 _ _ hh8)),aV (ns:=Dm.ln t a0) ix1 (by omega),?_⟩;rw[show(0+(d:Int)).toNat=d by omega,show(0+(j:Int)).toNat=j by omega];exact⟨tU (bR d (by omega)) (bH j hj) (by decide),_,_,rfl,rfl,hkk⟩
     ·intro D9 hD9;have g9:=Same.new hD9 (.lst ((Pm.ofF n fun j=>Pm.co (Dm.ln t a0) d*Pm.co (Dm.ln t8 k) j-Pm.co (Dm.ln t8 k) d*Pm.co (Dm.ln t a0) j).map V.int));have h9:(upd H8 D9 (.lst ((Pm.ofF n fun j=>Pm.co (Dm.ln t a0) d*Pm.co (Dm.ln t8 k) j-Pm.co (Dm.ln t8 k) d*Pm.co (Dm.ln t a0) j).map V.int))) D9=some (.lst ((Pm.ofF n fun j=>Pm.co (Dm.ln t a0) d*Pm.co (Dm.ln t8 k) j-Pm.co (Dm.ln t8 k) d*Pm.co (Dm.ln t a0) j).map V.int)):=aA;generalize upd H8 D9 (.lst ((Pm.ofF n fun j=>Pm.co (Dm.ln t a0) d*Pm.co (Dm.ln t8 k) j-Pm.co (Dm.ln t8 k) d*Pm.co (Dm.ln t a0) j).map V.int))=H9 at g9 h9;refine⟨_,rfl,D9,rfl,.inl ⟨⟨_,SqL.of h9⟩,Ay h9 (by rw[Pm.aP];omega) rfl (fun x=>Dm.sh b x last) ?_ ?_⟩⟩
      ·intro H10 x g10 hx kk hkk;exact⟨_,rfl,_,rfl,_,rfl,b,x,last,rfl,hb0,fun z=>RkI.Lw R z (by omega) hua,hkk⟩
      ·intro D10 UC;have g10:=Same.new UC (.lst (((Pm.ofF n fun j=>Pm.co (Dm.ln t a0) d*Pm.co (Dm.ln t8 k) j-Pm.co (Dm.ln t8 k) d*Pm.co (Dm.ln t a0) j).map fun x=>Dm.sh b x last).map V.int));have h10:(upd H9 D10 (.lst (((Pm.ofF n fun j=>Pm.co (Dm.ln t a0) d*Pm.co (Dm.ln t8 k) j-Pm.co (Dm.ln t8 k) d*Pm.co (Dm.ln t a0) j).map fun x=>Dm.sh b x last).map V.int))) D10=some (.lst (((Pm.ofF n fun j=>Pm.co (Dm.ln t a0) d*Pm.co (Dm.ln t8 k) j-Pm.co (Dm.ln t8 k) d*Pm.co (Dm.ln t a0) j).map fun x=>Dm.sh b x last).map V.int)):=aA;have aam:D10∉[lt]:=fun z=>by
        rw[List.mem_singleton.mp z,g9 _ _ hT8]at UC;cases UC
       generalize upd H9 D10 (.lst (((Pm.ofF n fun j=>Pm.co (Dm.ln t a0) d*Pm.co (Dm.ln t8 k) j-Pm.co (Dm.ln t8 k) d*Pm.co (Dm.ln t a0) j).map fun x=>Dm.sh b x last).map V.int))=H10 at g10 h10;have Rr:=g9.trans g10;have Zf:=Rr _ _ hT8;have aay:=hX8.same Rr;have lx8:=hX8.len;have RM:th≠lt:=fun z=>fh2 (List.mem_singleton.mpr z);refine⟨_,rfl,_,rfl,lt,_,_,k,rfl,rfl,Zf,tK (by omega) (by omega),?_⟩;have k11:=Keep.upd lt H10 (.lst (xs8.set k (.ref D10)));have en:(Pm.ofF n fun j=>Pm.co (Dm.ln t a0) d*Pm.co (Dm.ln t8 k) j-Pm.co (Dm.ln t8 k) d*Pm.co (Dm.ln t a0) j).map (fun x=>Dm.sh b x last)=Pm.ofF n fun j=>Dm.sh b (Pm.co (Dm.ln t a0) d*Pm.co (Dm.ln t8 k) j-Pm.co (Dm.ln t8 k) d*Pm.co (Dm.ln t a0) j) last:=by
        rw[Pm.ofF,Pm.ofF,List.map_map];rfl
       rw[en]at h10;refine⟨xs8.set k (.ref D10),t8.set k (Pm.ofF n fun j=>Dm.sh b (Pm.co (Dm.ln t a0) d*Pm.co (Dm.ln t8 k) j-Pm.co (Dm.ln t8 k) d*Pm.co (Dm.ln t a0) j) last),_,_,_,rfl,(g8.trans Rr).upd fT _,aA,(Lns.set aam h10 k aay).keep (List.mem_singleton.mpr rfl) k11,k11 _ _ RM (Rr _ _ hh8),by rw[List.length_set];exact l8,fun k' hk'=>?_,fun k' h1 h2=>?_,fun k' h1 h2 j hj=>?_⟩
       ·rw[wZ _ (by omega)];split
        ·exact Pm.aP ..
        ·exact w8 k' hk'
       ·rw[wZ _ (by omega),if_neg (by omega)];exact e8 k' (by omega) h2
       ·rw[wZ _ (by omega)];by_cases z:k'=k
        ·rw[if_pos z,Pm.bV,if_pos hj,z,eR]
        ·rw[if_neg z];exact f8 k' h1 (by omega) j hj
    ·rintro σ' H8 ⟨xs8,t8,o8,o10,o11,rfl,g8,hT8,hX8,hh8,l8,w8,e8,f8⟩;refine⟨_,rfl,_,rfl,_,_,.inl (SqL.of hh8),aV (ns:=Dm.ln t a0) (by omega:(0:Int)<=0+(d:Int)) (by omega),?_⟩;rw[show(0+(d:Int)).toNat=d by omega];have S:=R.step hD hda han hne l8 w8 (fun k h1 h2 j hj=>f8 k h1 (by omega) j hj);refine⟨_,rfl,xs8,t8,Pm.co (Dm.ln t a0) d,Dm.xch A d a0,some (.int (0+(d:Int))),some (.ref la),o8,some (.ref th),o10,o11,?_,g8,hT8,hX8,?_⟩
     ·rw[show min (d+1) (L.length-1)=d+1 by omega];rfl
     ·rw[show min (d+1) (L.length-1)=d+1 by omega];exact S
  ·rintro σ' H2 ⟨xs2,t,last,A,o6,o7,o8,o9,o10,o11,rfl,g2,hT2,hX2,R⟩;refine⟨_,rfl,?_⟩;rw[show min (n:Int).toNat (L.length-1)=L.length-1 by omega];exact q _ g2
theorem CQ(F:Fn K mg "_law_length" sX ["_law_row"])(pW:Ag P w K mg base)(cY:kO P w K mg base):wV P w K mg base:=by
 refine F.cal BL (fun vs H Q E h=>?_) (fun f cdv A outer s H vs Q E hr h=>?_)
 ·obtain⟨v,b,r,ua,u,L,rfl,_⟩:=h;rfl
 ·obtain⟨v,b,r,ua,u,L,rfl,hR,hM,hua,lst,ll,q⟩:=h;refine⟨_,(aF (aU (aB pW hr rfl (aG (aY (xix K) (pv 0) aq (fun _ _=>rfl)) (aG (aK (jL K) rfl B.cT boot_len (aG (aY (xix K) (pv 0) aq (fun _ _=>rfl)) ak)) (aG (aB cY hr rfl (aM (pv 0) (mO (aH v_mul aq (aK (jL K) rfl B.cT boot_len (aG (aY (xix K) (pv 0) aq (fun _ _=>rfl)) ak))) ak))) ak)))))),?_⟩;obtain⟨a,p,p2,rfl,hA,hP,hS⟩:=id hR;have h12:=hM.E6;have lP:(r.rule.map V.int).length=r.rule.length:=List.length_map _;refine⟨_,rfl,_,_,.inr (SqT.of hA),rfl,_,rfl,_,_,.inr (SqT.of hA),rfl,.ref p,r.rule.length,rfl,.inr ⟨_,SqT.of hP,lP.symm⟩,?_⟩;refine⟨_,rfl,_,rfl,_,_,.inr (SqT.of hA),rfl,.ref p,r.rule.length,rfl,.inr ⟨_,SqT.of hP,lP.symm⟩,mulL (by decide) (by decide),?_⟩;refine⟨.ref a,r,2*(r.rule.length:Int),rfl,hR,hM.ok.w (by omega),by omega,by omega,fun l1 H1 g1 f1 h1=>?_⟩;rw[show(2*(r.rule.length:Int)).toNat=2*r.rule.length by omega]at h1;refine⟨r.b,r.rule.length,l1,r.row (2*r.rule.length),r.at,L,ua,rfl,h1,by rw[Rw.dU];omega,fun i hi=>by rw[Rw.dU]at hi;exact Rm.vO _ _ _ hi,hM.byp,by rw[hM.by_];exact lst,ll,h12,fun i=>hM.ok.Fd i,hua,hM.Nu,fun i hi=>hM.at_ i (by omega),fun H2 g2=>q _ (g1.trans g2)⟩
theorem CV(F:Fn K mg "_law_is_row" rZ ["_law_found","_law_by"])(cX:mD P w K mg base):wI P w K mg base:=by
 refine F.cal uW (fun vs H Q E h=>?_) (fun f cdv A outer s H vs Q E hr h=>?_)
 ·obtain⟨v,r,rfl,_⟩:=h;rfl
 ·obtain⟨v,r,rfl,hR,ok,q⟩:=h;refine⟨_,(ao (iV (PW.pt (m6 (ji (gF (aK dG rfl B.cg boot_isinstance (aM (pv 0) (aM (qw rfl B.d7 boot_tuple) ak))))) (m6 (bh (xne K hr) (aK (jL K) rfl B.cT boot_len (aM (pv 0) ak)) aq (bF _)) (m6 (ji (gF (aK dG rfl B.cg boot_isinstance (aG (aY (xix K) (pv 0) aq (fun _ _=>rfl)) (aM (qw rfl B.KD boot_int) ak))))) (qC (gF (aK dG rfl B.cg boot_isinstance (aG (aY (xix K) (pv 0) aq (fun _ _=>rfl)) (aM (qw rfl B.Ko boot_bool) ak)))))))))
   (aF (aU qm))
   cF)
   (ao (iV (PW.pt (m6 (ji (gF (aK dG rfl B.cg boot_isinstance (aG (aY (xix K) (pv 0) aq (fun _ _=>rfl)) (aM (qw rfl B.d7 boot_tuple) ak))))) (m6 (ji (gF (aK dG rfl B.cg boot_isinstance (aG (aY (xix K) (pv 0) aq (fun _ _=>rfl)) (aM (qw rfl B.d7 boot_tuple) ak))))) (qC (bh (xne K hr) (aK (jL K) rfl B.cT boot_len (aG (aY (xix K) (pv 0) aq (fun _ _=>rfl)) ak)) (aK (jL K) rfl B.cT boot_len (aG (aY (xix K) (pv 0) aq (fun _ _=>rfl)) ak)) (bF _))))))
   (aF (aU qm))
   cF)
   (ao (j8 PassesOwn.never rfl (Ho K (aH (iW K) (aY (xix K) (pv 0) aq (fun _ _=>rfl)) (aY (xix K) (pv 0) aq (fun _ _=>rfl)))) (aX (i:=2) uW.nd rfl (Or.inl rfl))
   (aF (iV (PW.pt (m6 (ji (gF (aK dG rfl B.cg boot_isinstance (aM (pv 2) (aM (qw rfl B.KD boot_int) ak))))) (m6 (gF (aK dG rfl B.cg boot_isinstance (aM (pv 2) (aM (qw rfl B.Ko boot_bool) ak)))) (qC (bh (xne K hr) (pv 2) (aB cX hr rfl (aM (pv 1) (aM (pv 2) ak))) (bF _))))))
   (aF (aU qm))
   cF)))
   (aF (aU (lZ (xeq K hr) (aY (xix K) (pv 0) aq (fun _ _=>rfl)) (pv 1) (bF _))))))),?_⟩
  obtain⟨a,p,p2,rfl,hA,hP,hS⟩:=id hR;have hl:=ok.len;have hs:=ok.short;have ty:Hf H (.ref a)=some "tuple" := by simp only[Hf,hA]
  have ty1:Hf H (.ref p)=some "tuple" := by simp only[Hf,hP]
  have ty2:Hf H (.ref p2)=some "tuple" := by simp only[Hf,hS]
  have lP:(r.rule.map V.int).length=r.rule.length:=List.length_map _;have lS:(r.starts.map V.int).length=r.starts.length:=List.length_map _;refine⟨_,rfl,.ref a,"tuple","tuple",rfl,ty,by simp,_,rfl,uQ ?_⟩;refine⟨_,rfl,.ref a,3,rfl,.inr ⟨_,SqT.of hA,rfl⟩,_,rfl,uQ ?_⟩;refine⟨_,rfl,_,_,.inr (SqT.of hA),rfl,.int r.b,"int","int",rfl,rfl,by simp,_,rfl,uQ ?_⟩;refine⟨_,rfl,_,_,.inr (SqT.of hA),rfl,.int r.b,"bool","int",rfl,rfl,by simp,_,rfl,uQ ?_⟩;refine⟨_,rfl,_,_,.inr (SqT.of hA),rfl,.ref p,"tuple","tuple",rfl,ty1,by simp,_,rfl,uQ ?_⟩;refine⟨_,rfl,_,_,.inr (SqT.of hA),rfl,.ref p2,"tuple","tuple",rfl,ty2,by simp,_,rfl,uQ ?_⟩;refine⟨_,rfl,_,_,.inr (SqT.of hA),rfl,.ref p,r.rule.length,rfl,.inr ⟨_,SqT.of hP,lP.symm⟩,_,rfl,_,_,.inr (SqT.of hA),rfl,.ref p2,r.starts.length,rfl,.inr ⟨_,SqT.of hS,lS.symm⟩,_,rfl,?_⟩;rw[decide_eq_true (by rw[hl])];refine uQ ?_;have fin:∀(o:Option V) (H':Hp),Same H H'->(tOp (Gg K id) (fun σ H Q=>Rk 0 σ H fun x H1=>tC (.int 0) σ H1 fun y H2=>Ru K x y H2 Q) (Rk 1)) [some (.ref a),some (.int r.b),o] H' Q:=fun o H' g=>by
   refine⟨_,rfl,_,_,.inr (SqT.of (g _ _ hA)),rfl,_,rfl,?_⟩;dsimp only[Gg,id];rw[decide_eq_true rfl];exact q _ g
  refine⟨_,rfl,_,_,.inr (SqT.of hA),rfl,_,rfl,_,_,.inr (SqT.of hA),rfl,?_⟩;refine .inr ⟨_,_,SqT.of hP,SqT.of hS,by rw[lP,lS];exact Nat.le_of_lt (bI (by omega)),fun e=>?_,fun e e'=>absurd (by rw[List.map_eq_nil_iff]at e' ⊢;exact List.length_eq_zero_iff.mp (by rw[hl,e'];rfl)) e,fun e e' p3 hp3=>?_⟩
  ·have e2:r.starts=[]:=List.length_eq_zero_iff.mp (by rw[<-hl,List.map_eq_nil_iff.mp e];rfl);rw[e2]at hS;refine⟨p2,rfl,.inr ⟨⟨_,SqT.of hS⟩,Aj (wG (SqT.of hS)) (fun i σ' H'=>∃o,σ'=[some (.ref a),some (.int r.b),o]/\Same H H') ⟨_,rfl,Same.refl _⟩ (fun i σ' H' ⟨_,_,z⟩=>z) ?_ ?_⟩⟩
   ·rintro i x σ' H' hx ⟨o,rfl,g⟩;cases hx
   ·rintro σ' H' ⟨o,rfl,g⟩;exact fin o H' g
  ·have g3:=Same.new hp3 (.tup (r.rule.map V.int++r.starts.map V.int));have h3:(upd H p3 (.tup (r.rule.map V.int++r.starts.map V.int))) p3=some (.tup ((r.rule++r.starts).map V.int)):=by rw[aA,List.map_append]
   generalize upd H p3 (.tup (r.rule.map V.int++r.starts.map V.int))=H3 at g3 h3;refine⟨p3,rfl,.inr ⟨⟨_,SqT.of h3⟩,Aj (wG (SqT.of h3)) (fun i σ' H'=>∃o,σ'=[some (.ref a),some (.int r.b),o]/\Same H3 H') ⟨_,rfl,Same.refl _⟩ (fun i σ' H' ⟨_,_,z⟩=>z) ?_ ?_⟩⟩
   ·rintro i x σ' H' hx ⟨o,rfl,g⟩;obtain⟨y,hy,rfl⟩:=List.mem_map.mp (List.mem_of_getElem? hx);have hn:jD r.b y:=by
     rcases List.mem_append.mp hy with z|z
     ·exact ok.nM y z
     ·exact ok.iT y z
    refine⟨_,rfl,.int y,"int","int",rfl,rfl,by simp,_,rfl,uQ ?_⟩;refine⟨_,rfl,.int y,"bool","int",rfl,rfl,by simp,_,rfl,uQ ?_⟩;refine⟨_,rfl,_,rfl,_,rfl,r.b,y,rfl,ok.by0,?_⟩;rw[G4 hn];exact⟨_,rfl,Uj rfl ⟨_,rfl,g⟩⟩
   ·rintro σ' H' ⟨o,rfl,g⟩;exact fin o H' (g3.trans g)
theorem FP(F:Fn K mg "_law_right" vG ["_law_found","_law_by","_law_most","_law_some"])(rN:wI P w K mg base)(pW:Ag P w K mg base)(cY:kO P w K mg base):Aw P w K mg base:=by
 refine F.cal yq (fun vs H Q E h=>?_) (fun f cdv A outer s H vs Q E hr h=>?_)
 ·obtain⟨v,b,r,m,l,a,L,ua,rfl,_⟩:=h;rfl
 ·obtain⟨v,b,r,m,l,a,L,ua,rfl,hR,hT,hm,hL,q⟩:=h;refine⟨_,(ao (iV (PW.pt (m6 (ji (gF (aB rN hr rfl (aM (pv 0) (aM (pv 1) ak))))) (qC (bh vd (aK (jL K) rfl B.cT boot_len (aG (aY (xix K) (pv 0) aq (fun _ _=>rfl)) ak)) (pv 2) (bF _)))))
   (aF (aU qm))
   cF)
   (ao (aJ (i:=4) yq.nd rfl (Or.inl rfl) (aK (jL K) rfl B.cT boot_len (aG (aY (xix K) (pv 0) aq (fun _ _=>rfl)) ak)))
   (aF (aU (Ka (lZ (xeq K hr) (aB cY hr rfl (aM (pv 0) (aG (aK (jL K) rfl B.cT boot_len (aM (pv 3) ak)) ak))) (pv 3) (bF _)) (GY (lZ (xeq K hr) (aB pW hr rfl (aM (pv 1) (aM (pv 4) (aM (pv 3) ak)))) (pv 4) (bF _)))))))),?_⟩
  have eb:=hT.by_;subst eb;have h12:=hT.E6;have hp:=hT.lst.mon.pos;have hle:=hT.len;refine⟨_,rfl,_,rfl,v,r,rfl,hR,hT.ok,fun H1 g1=>⟨_,rfl,uQ ?_⟩⟩;obtain⟨ar,p,p2,rfl,hA,hP,hS⟩:=id (hR.same g1);have lP:(r.rule.map V.int).length=r.rule.length:=List.length_map _;refine⟨_,rfl,_,_,.inr (SqT.of hA),rfl,.ref p,r.rule.length,rfl,.inr ⟨_,SqT.of hP,lP.symm⟩,_,rfl,_,_,rfl,rfl,_,rfl,?_⟩;rw[decide_eq_false (by omega:¬m<(r.rule.length:Int))];refine uQ ?_;refine⟨_,rfl,_,_,.inr (SqT.of hA),rfl,.ref p,r.rule.length,rfl,.inr ⟨_,SqT.of hP,lP.symm⟩,?_⟩;have hL1:=g1 _ _ hL;have lA:((Pm.ofF 30 a).map V.int).length=30:=by rw[List.length_map,Pm.aP]
  refine⟨_,rfl,_,rfl,.ref l,30,rfl,.inl ⟨_,SqL.of hL1,lA.symm⟩,.ref ar,r,30,rfl,hR.same g1,hT.ok.w (by decide),by decide,by decide,fun l2 H2 g2 f2 h2=>?_⟩;have e30:r.row (30:Int).toNat=Pm.ofF 30 a:=by
   rw[zp];exact congrArg (Pm.ofF 30) (funext hT.same)
  rw[e30]at h2;have hL2:=g2 _ _ hL1;refine⟨_,rfl,Wk (SqL.of h2) (SqL.of hL2) ⟨_,rfl,?_⟩⟩;rw[decide_eq_true rfl];refine Yl ?_;refine⟨_,rfl,_,rfl,_,rfl,r.b,r.rule.length,l,Pm.ofF 30 a,a,L,ua,rfl,hL2,by rw[Pm.aP];omega,fun i hi=>by rw[Pm.aP]at hi;rw[Pm.bV,if_pos hi],hT.hB.p,hT.lst,by omega,h12,fun i=>by rw[<-hT.same i];exact hT.ok.Fd i,hT.hua,hT.Nu,hT.bd,fun H3 g3=>?_⟩;refine⟨_,rfl,?_⟩;dsimp only[Gg,id];rw[decide_eq_true (by rw[hle])];exact q _ (g1.trans (g2.trans g3))
theorem zO(F:Fn K mg "told_row" pO ["by","rule","starts"])(bw:iQ P w K mg base)(iB:oX P w K mg base):uF P w K mg base:=by
 refine F.cal nq (fun vs H Q E h=>?_) (fun f cdv A outer s H vs Q E hr h=>?_)
 ·obtain⟨b,a,c,ns,ms,rfl,_⟩:=h;rfl
 ·obtain⟨b,a,c,ns,ms,rfl,hA,hC,zn,zm,hb0,hok,hbp,htm,q⟩:=h;refine⟨_,(ao (aJ (i:=3) nq.nd rfl (Or.inl rfl) (bQ (jF K) rfl B.d7 boot_tuple (aG (dJ (sc:=wU) (N:=["number","by"]) (ix:=[none,some 0]) cN rfl (Ho K (pv 1)) (fun cl C s₀ H₀ ex=>⟨(aX (i:=0) iZ rfl (Or.inl rfl)),cO,(aB bw hr rfl (aM (pv 1) (aM (pv 0) ak)))⟩)) ak)))
   (ao (aJ (i:=4) nq.nd rfl (Or.inl rfl) (bQ (jF K) rfl B.d7 boot_tuple (aG (dJ (sc:=xG) (N:=["number","by"]) (ix:=[none,some 0]) cN rfl (Ho K (pv 2)) (fun cl C s₀ H₀ ex=>⟨(aX (i:=0) iZ rfl (Or.inl rfl)),cO,(aB bw hr rfl (aM (pv 1) (aM (pv 0) ak)))⟩)) ak)))
   (aF (aU (aB iB hr rfl (Ik (gW (aM (pv 0) (aM (pv 3) (aM (pv 4) ak)))) ak)))))),?_⟩
  refine⟨_,rfl,xW hA zn rfl (Rm.tk b) ?_ ?_⟩
  ·intro H2 x g2 hx kk hkk;exact⟨_,rfl,_,rfl,b,x,rfl,hb0,hkk⟩
  intro D hD;have gD:=Same.new hD (.lst ((ns.map (Rm.tk b)).map V.int));refine⟨D,_,rfl,.inl ⟨SqL.of aA,fun t1 ht1=>?_⟩⟩;have g1:=Same.new ht1 (.tup ((ns.map (Rm.tk b)).map V.int));have h1:(upd (upd H D (.lst ((ns.map (Rm.tk b)).map V.int))) t1 (.tup ((ns.map (Rm.tk b)).map V.int))) t1=some (.tup ((ns.map (Rm.tk b)).map V.int)):=aA;have gD1:=gD.trans g1;generalize upd (upd H D (.lst ((ns.map (Rm.tk b)).map V.int))) t1 (.tup ((ns.map (Rm.tk b)).map V.int))=H1 at gD1 h1;refine⟨_,rfl,xW (hC.same gD1) zm rfl (Rm.tk b) ?_ ?_⟩
  ·intro H2 x g2 hx kk hkk;exact⟨_,rfl,_,rfl,b,x,rfl,hb0,hkk⟩
  intro D2 hD2;have gD2:=Same.new hD2 (.lst ((ms.map (Rm.tk b)).map V.int));refine⟨D2,_,rfl,.inl ⟨SqL.of aA,fun t2 ht2=>?_⟩⟩;have g2:=Same.new ht2 (.tup ((ms.map (Rm.tk b)).map V.int));have h2:(upd (upd H1 D2 (.lst ((ms.map (Rm.tk b)).map V.int))) t2 (.tup ((ms.map (Rm.tk b)).map V.int))) t2=some (.tup ((ms.map (Rm.tk b)).map V.int)):=aA;have Yd:=gD2.trans g2;have h12:=Yd _ _ h1;generalize upd (upd H1 D2 (.lst ((ms.map (Rm.tk b)).map V.int))) t2 (.tup ((ms.map (Rm.tk b)).map V.int))=H2 at Yd h2 h12;refine⟨_,rfl,_,rfl,_,rfl,(by show 3<=sizeLine;decide),fun t3 ht3=>?_⟩;have g3:=Same.new ht3 (.tup [.int b,.ref t1,.ref t2]);refine⟨.ref t3,⟨b,ns.map (Rm.tk b),ms.map (Rm.tk b)⟩,rfl,⟨t3,t1,t2,rfl,aA,g3 _ _ h12,g3 _ _ h2⟩,hok,hbp,htm,fun v' L H4 g4 hR lst ll=>?_⟩;exact q v' L H4 (gD1.trans (Yd.trans (g3.trans g4))) hR lst (by have:(ns.map (Rm.tk b)).length=ns.length:=List.length_map _;rw[<-this];exact ll)
theorem qY(F:Fn K mg "behind_first" ju ["rule","sums","k"]):jm P w K mg base:=by
 refine F.cal kY (fun vs H Q E h=>?_) (fun f cdv A outer s H vs Q E hr h=>?_)
 ·obtain⟨a,c,rule,sums,k,rfl,_⟩:=h;rfl
 ·obtain⟨a,c,rule,sums,k,rfl,hA,hC,k1,k24,hl,b1,b2,q⟩:=h;refine⟨_,(ao (aJ (i:=3) kY.nd rfl (Or.inl rfl) (aK (Ep rfl) rfl B.Yc boot_min (mO (aH bN (pv 2) aq) (aG (aK (jL K) rfl B.cT boot_len (aM (pv 0) ak)) ak))))
   (aF (aU (aK (WQ K rfl) rfl B.MG boot_sum (aG (dJ (sc:=qL) (N:=["i","k","rule","sums"]) (ix:=[none,some 2,some 0,some 1]) cN rfl (bJ rfl B.bW (aM (pv 3) ak)) (fun cl C s₀ H₀ ex=>⟨(aX (i:=0) iZ rfl (Or.inl rfl)),cO,(aH v_mul (aY (xix K) (pv 2) (pv 0) (fun _ _=>rfl)) (aY (xix K) (pv 3) (aH bN (aH bN (pv 1) aq) (pv 0)) (fun _ _=>rfl)))⟩)) ak))))),?_⟩
  have lR:(rule.map V.int).length=rule.length:=List.length_map _;refine⟨_,rfl,_,_,rfl,rfl,_,rfl,.ref a,rule.length,rfl,hA.elim (fun h=> .inl ⟨_,SqL.of h,lR.symm⟩) (fun h=> .inr ⟨_,SqT.of h,lR.symm⟩),(k:Int)-1,(rule.length:Int),rfl,?_⟩;have em:(if(rule.length:Int)<(k:Int)-1 then(rule.length:Int)else(k:Int)-1)=((min (k-1) rule.length:Nat):Int):=by split<;>omega
  rw[em];refine⟨_,rfl,((min (k-1) rule.length:Nat):Int),rfl,(by omega:-(2^62)<=((min (k-1) rule.length:Nat):Int)),(by omega:((min (k-1) rule.length:Nat):Int)<2^62),?_⟩;rw[Int.toNat_natCast];refine tY (n:=min (k-1) rule.length) (by omega) rfl (fun i=>Pm.co rule i*Pm.co sums (k-2-i)) ?_ ?_
  ·intro H2 i g2 hi kk hkk;exact⟨_,rfl,_,rfl,_,V.int (Pm.co rule i),(hA.same g2).imp SqL.of SqT.of,(by rw[Int.zero_add];exact yK (by omega)),_,rfl,_,rfl,_,_,rfl,rfl,_,rfl,_,_,rfl,rfl,_,V.int (Pm.co sums (k-2-i)),(hC.same g2).imp SqL.of SqT.of,(by rw[Int.zero_add,show(k:Int)-2-(i:Int)=((k-2-i:Nat):Int)by omega];exact yK (by omega)),tU (Pm.pD b1 i) (Pm.pD b2 (k-2-i)) (by decide),hkk _ (Same.refl _)⟩
  ·intro D H8 hD g8 h8;refine⟨D,Pm.ofF (min (k-1) rule.length) fun i=>Pm.co rule i*Pm.co sums (k-2-i),rfl,SqL.of h8,?_⟩;rw[MJ];exact q _ g8
theorem u0(F:Fn K mg "power_sums" lu ["rule","count"])(dh:jm P w K mg base):qF P w K mg base:=by
 refine F.cal gY (fun vs H Q E h=>?_) (fun f cdv A outer s H vs Q E hr h=>?_)
 ·obtain⟨a,rule,n,w,rfl,_⟩:=h;rfl
 ·obtain⟨a,rule,n,w,rfl,hA,n12,hnw,hw,br,q⟩:=h;refine⟨_,(ao (aJ (i:=2) gY.nd rfl (Or.inl rfl) (jf ak))
   (ao (j8 PassesOwn.never rfl (jG rfl B.bW (fK aq (mO (aH (iW K) (pv 1) aq) ak))) (aX (i:=3) gY.nd rfl (Or.inl rfl))
   (ao (aJ (i:=4) gY.nd rfl (Or.inl rfl) (D8 (vD (bh PV (pv 3) (aK (jL K) rfl B.cT boot_len (aM (pv 0) ak)) (bF _)) (aH v_mul (pv 3) (aY (xix K) (pv 0) (aH bN (pv 3) aq) (fun _ _=>rfl))) aq)))
   (aF (oN (sH K (pv 2) (aH (iW K) (pv 4) (aB dh hr rfl (aM (pv 0) (aM (pv 2) (aM (pv 3) ak))))))))))
   (aF (aU (pv 2))))),?_⟩
  have lR:(rule.map V.int).length=rule.length:=List.length_map _;have b1:∀x∈rule,Rm.Bd 30000 x:=fun x hx=>by
   obtain⟨k,hk,e⟩:=List.mem_iff_getElem.mp hx;have:=br k;rw[Pm.ux hk,e]at this;exact this.bd.mono (by omega)
  refine⟨(by show 0<=sizeLine;decide),fun l hl=>?_⟩;refine⟨_,rfl,1,(n:Int)+1,rfl,⟨by omega,by omega,by omega,by omega⟩,?_⟩;rw[show((n:Int)+1-1).toNat=n by omega];refine fP (lo:=1) (n:=n) (fun i σ' H'=>∃(o3 o4:Option V) (sums:List Int),σ'=[some (.ref a),some (.int (n:Int)),some (.ref l),o3,o4]/\Same H H'/\H' l=some (.lst (sums.map V.int))/\sums.length=i/\(∀j,j<i->Le (Pm.co sums j) ((2^(w+3))^(j+1)))/\∀k,k<i->Pm.co sums k=(if k+1<=rule.length then((k+1:Nat):Int)*Pm.co rule k else 0)+bhd rule sums (k+1)) ⟨none,none,[],rfl,Same.new hl _,aA,rfl,fun j hj=>absurd hj (by omega),fun j hj=>absurd hj (by omega)⟩ ?_ ?_
  ·rintro i σ' H' hi ⟨o3,o4,sums,rfl,g,hL,ls,bd,eqs⟩;rw[show(1:Int)+(i:Int)=((i+1:Nat):Int)by omega];have hA':=g _ _ hA;refine Bar.by (fun v H1=>v = .int (if i+1<=rule.length then((i+1:Nat):Int)*Pm.co rule i else 0)/\H1=H') (fun kk hkk=>?_) ?_
   ·refine⟨_,rfl,_,rfl,.ref a,rule.length,rfl,.inr ⟨_,SqT.of hA',lR.symm⟩,_,_,rfl,rfl,_,rfl,?_⟩;refine mZ (fun c=>?_) (fun c=>?_)
    ·have c':i+1<=rule.length:=by have:=dec_true c;omega
     have hk:=hkk (.int (if i+1<=rule.length then((i+1:Nat):Int)*Pm.co rule i else 0)) H' ⟨rfl,rfl⟩;rw[if_pos c']at hk;exact⟨_,rfl,_,rfl,_,rfl,_,_,rfl,rfl,_,V.int (Pm.co rule i),.inr (SqT.of hA'),(by rw[show((i+1:Nat):Int)-1=(i:Int)by omega];exact yK (by omega)),tU (m:=10) (Rm.Bd.of (by omega) (by omega)) (Pm.pD b1 i) (by decide),hk⟩
    ·have c':¬i+1<=rule.length:=by have:=dec_false c;omega
     have hk:=hkk (.int (if i+1<=rule.length then((i+1:Nat):Int)*Pm.co rule i else 0)) H' ⟨rfl,rfl⟩;rw[if_neg c']at hk;exact hk
   rintro _ _ ⟨rfl,rfl⟩;have st:=Lz (w:=w) (rule:=rule) (sums:=sums) (k:=i+1) (by omega) (by omega) br (fun j hj=>bd j (by omega));rw[Nat.add_sub_cancel]at st;have aaQ:sums.length*(w+3)<=n*(w+3):=Nat.mul_le_mul_right _ (by omega);refine⟨_,rfl,.inl ⟨rfl,_,SqL.of hL⟩,_,rfl,_,rfl,_,rfl,_,rfl,a,l,rule,sums,i+1,rfl,.inr hA',.inl hL,by omega,by omega,by omega,b1,Le.list (w:=w+3) (by omega) (fun j hj=>bd j (by omega)),fun H2 g2=>?_⟩;have hL2:=g2 _ _ hL;refine⟨l,_,_,rfl,rfl,hL2,?_,?_⟩
   ·rw[List.length_map,ls];exact bI (by omega)
   ·refine⟨_,_,sums++[(if i+1<=rule.length then((i+1:Nat):Int)*Pm.co rule i else 0)+bhd rule sums (i+1)],rfl,(g.trans g2).upd hl _,by rw[aA,List.map_append];rfl,by rw[List.length_append,ls];rfl,Le.grow ls bd st,fun k hk=>?_⟩;rw[MK (by omega)];by_cases d:k<i
    ·rw[Pm.bZ,if_pos (by omega)];exact eqs k d
    ·have e:k=i:=by omega
     subst e;rw[Pm.bZ,if_neg (by omega),ls,Nat.sub_self];rfl
  ·rintro σ' H' ⟨o3,o4,sums,rfl,g,hL,ls,bd,eqs⟩;exact⟨_,rfl,q l sums H' g hL ls bd eqs⟩
theorem tH(F:Fn K mg "rule_of_sums" jA ["sums"])(dh:jm P w K mg base):mY P w K mg base:=by
 refine F.cal iI (fun vs H Q E h=>?_) (fun f cdv A outer s H vs Q E hr h=>?_)
 ·obtain⟨c,sums,n,z,rfl,_⟩:=h;rfl
 ·obtain⟨c,sums,n,z,rfl,hC,hn,n12,hz,bs,q⟩:=h;refine⟨_,(ao (aJ (i:=1) iI.nd rfl (Or.inl rfl) (jf ak))
   (ao (j8 PassesOwn.never rfl (jG rfl B.bW (fK aq (mO (aH (iW K) (aK (jL K) rfl B.cT boot_len (aM (pv 0) ak)) aq) ak))) (aX (i:=2) iI.nd rfl (Or.inl rfl))
   (aF (oN (sH K (pv 1) (aH Ab (aH bN (aY (xix K) (pv 0) (aH bN (pv 2) aq) (fun _ _=>rfl)) (aB dh hr rfl (aM (pv 1) (aM (pv 0) (aM (pv 2) ak))))) (pv 2))))))
   (aF (aU (pv 1))))),?_⟩
  have lS:(sums.map V.int).length=n:=by rw[List.length_map,hn]
  have aaL:sums.length*z<=n*z:=Nat.mul_le_mul_right _ (by omega);have b2:∀x∈sums,Rm.Bd 30000 x:=Le.list (w:=z) (by omega) (fun j hj=>bs j (by omega));refine⟨(by show 0<=sizeLine;decide),fun l hl=>?_⟩;have gl:=Same.new hl (.lst []);refine⟨_,rfl,.ref c,n,rfl,.inl ⟨_,SqL.of (gl _ _ hC),lS.symm⟩,1,(n:Int)+1,rfl,⟨by omega,by omega,by omega,by omega⟩,?_⟩;rw[show((n:Int)+1-1).toNat=n by omega];refine fP (lo:=1) (n:=n) (fun i σ' H'=>∃(o2:Option V) (rule:List Int),σ'=[some (.ref c),some (.ref l),o2]/\Same H H'/\H' l=some (.lst (rule.map V.int))/\rule.length=i/\(∀j,j<i->Le (Pm.co rule j) ((2^z)^(j+1)))/\∀k,k<i->Pm.co rule k=(Pm.co sums k-bhd rule sums (k+1))/((k+1:Nat):Int)) ⟨none,[],rfl,gl,aA,rfl,fun j hj=>absurd hj (by omega),fun j hj=>absurd hj (by omega)⟩ ?_ ?_
  ·rintro i σ' H' hi ⟨o2,rule,rfl,g,hL,lr,bd,eqs⟩;rw[show(1:Int)+(i:Int)=((i+1:Nat):Int)by omega];have hC':=g _ _ hC;have st:=Iv (Z:=2^z) (rule:=rule) (sums:=sums) (k:=i+1) (by omega) (by omega) (fun j hj=>bd j (by omega)) (fun j hj=>bs j (by omega));rw[Nat.add_sub_cancel]at st;have aaM:rule.length*z<=n*z:=Nat.mul_le_mul_right _ (by omega);refine⟨_,rfl,.inl ⟨rfl,_,SqL.of hL⟩,_,rfl,_,rfl,_,_,rfl,rfl,_,V.int (Pm.co sums i),.inl (SqL.of hC'),(by rw[show((i+1:Nat):Int)-1=(i:Int)by omega];exact yK (by omega)),_,rfl,_,rfl,_,rfl,l,c,rule,sums,i+1,rfl,.inl hL,.inl hC',by omega,by omega,by omega,Le.list (w:=z) (by omega) (fun j hj=>bd j (by omega)),b2,fun H2 g2=>?_⟩;have hL2:=g2 _ _ hL;refine⟨_,_,rfl,rfl,_,rfl,_,_,rfl,rfl,⟨by omega,by show((i+1:Nat):Int)<1073741824;omega⟩,l,_,_,rfl,rfl,hL2,?_,?_⟩
   ·rw[List.length_map,lr];exact bI (by omega)
   ·refine⟨_,rule++[(Pm.co sums i-bhd rule sums (i+1))/((i+1:Nat):Int)],rfl,(g.trans g2).upd hl _,by rw[aA,List.map_append];rfl,by rw[List.length_append,lr];rfl,Le.grow lr bd st,fun k hk=>?_⟩;rw[HX (by omega)];by_cases d:k<i
    ·rw[Pm.bZ,if_pos (by omega)];exact eqs k d
    ·have e:k=i:=by omega
     subst e;rw[Pm.bZ,if_neg (by omega),lr,Nat.sub_self];rfl
  ·rintro σ' H' ⟨o2,rule,rfl,g,hL,lr,bd,eqs⟩;exact⟨_,rfl,q l rule H' g hL lr bd eqs⟩
theorem nD(F:Fn K mg "refuse_far_steps" fB ["start","step"]):jd P w K mg base aL:=by
 refine F.Ys nJ (fun vs H Q E h=>?_) (fun f cdv A outer s H vs Q E hr h=>?_)
 ·obtain⟨st,e,rfl,_⟩:=h;rfl
 ·obtain⟨st,e,rfl,q1,q2⟩:=h;refine⟨_,(aF (iV (PW.pt (m6 (bh wH (pv 0) aq (bF _)) (m6 (bh vd (pv 0) (vo rfl B.dg) (bF _)) (m6 (bh wH (pv 1) aq (bF _)) (qC (bh vd (pv 1) (vo rfl B.fH) (bF _)))))))
   (aF (JB M.Iz rfl (fK Oa ak)))
   cF)),?_⟩
  have no:¬J0 st e->Ku aL E (xV (tC (.str "a start is from 0 to 100, a step from 1 to 10")) XM) { nx:=fun _ H'=>Q .non H',rt:=Q } (start ["start","step"] [.int st,.int e]) H:=fun h=>⟨(by show 1<=sizeLine;decide),q2 h⟩;refine⟨_,rfl,_,_,rfl,rfl,_,rfl,?_⟩;refine mZ (fun c=>no fun z=>by have:=dec_true c;have:=z.1;omega) (fun c1=>?_);refine⟨_,rfl,_,_,rfl,rfl,_,rfl,?_⟩;refine mZ (fun c=>no fun z=>by have:=dec_true c;have:=z.2.1;omega) (fun c2=>?_);refine⟨_,rfl,_,_,rfl,rfl,_,rfl,?_⟩;refine mZ (fun c=>no fun z=>by have:=dec_true c;have:=z.2.2.1;omega) (fun c3=>?_);refine⟨_,rfl,_,_,rfl,rfl,_,rfl,?_⟩;refine mZ (fun c=>no fun z=>by have:=dec_true c;have:=z.2.2.2;omega) (fun c4=>q1 ?_);have:=dec_false c1;have:=dec_false c2;have:=dec_false c3;have:=dec_false c4;exact⟨by omega,by omega,by omega,by omega⟩
theorem Jb(F:Fn K mg "every" zj ["row","start","step"])(fZ:jd P w K mg base aL)(iB:oX P w K mg base)(lB:qF P w K mg base)(jB:mW P w K mg base)(jr:mY P w K mg base)(pN:uF P w K mg base):zW P w K mg base aL:=by
 refine F.Ys mK (fun vs H Q E h=>?_) (fun f cdv A outer s H vs Q E hr h=>?_)
 ·obtain⟨v,st,e,rfl,_⟩:=h;rfl
 ·obtain⟨v,st0,e0,rfl,q2,q1⟩:=h;refine⟨_,(ao (oN (FQ fZ hr rfl (aM (pv 1) (aM (pv 2) ak))))
   (ao (aJ (i:=3) mK.nd rfl (Or.inl rfl) (aB iB hr rfl (aM (pv 0) ak)))
   (ao (aJ (i:=4) mK.nd rfl (Or.inl rfl) (aK (jL K) rfl B.cT boot_len (aG (aY (xix K) (pv 3) aq (fun _ _=>rfl)) ak)))
   (ao (aJ (i:=5) mK.nd rfl (Or.inr rfl) (aB lB hr rfl (aG (aY (xix K) (pv 3) aq (fun _ _=>rfl)) (mO (aH v_mul (pv 2) (pv 4)) ak))))
   (ao (aJ (i:=6) mK.nd rfl (Or.inr rfl) (aB jB hr rfl (aM (pv 3) (mO (aH (iW K) (pv 1) (aH v_mul (pv 2) (pv 4))) ak))))
   (ao (aJ (i:=7) mK.nd rfl (Or.inl rfl) (aB jr hr rfl (aG (dJ (sc:=EJ) (N:=["k","step","sums"]) (ix:=[none,some 2,some 5]) cN rfl (jG rfl B.bW (fK aq (mO (aH (iW K) (pv 4) aq) ak))) (fun cl C s₀ H₀ ex=>⟨(aX (i:=0) iZ rfl (Or.inl rfl)),cO,(aY (xix K) (pv 2) (aH bN (aH v_mul (pv 1) (pv 0)) aq) (fun _ _=>rfl))⟩)) ak)))
   (aF (aU (aB pN hr rfl (aG (aY (xix K) (pv 0) aq (fun _ _=>rfl)) (aM (pv 7) (aG (dJ (sc:=Dg) (N:=["k","found","start","step"]) (ix:=[none,some 6,some 1,some 2]) cN rfl (bJ rfl B.bW (aM (pv 4) ak)) (fun cl C s₀ H₀ ex=>⟨(aX (i:=0) iZ rfl (Or.inl rfl)),cO,(aY (xix K) (pv 1) (aH (iW K) (pv 2) (aH v_mul (pv 3) (pv 0))) (fun _ _=>rfl))⟩)) ak)))))))))))),?_⟩
  refine⟨_,rfl,_,rfl,st0,e0,rfl,fun hg=>?_,q2⟩;obtain⟨st,rfl⟩:∃n:Nat,st0=(n:Int):=⟨st0.toNat,by have:=hg.1;omega⟩;obtain⟨e,rfl⟩:∃n:Nat,e0=(n:Int):=⟨e0.toNat,by have:=hg.2.2.1;omega⟩;obtain⟨r,b,n,u,ua,P,hR,ok,eb,hb,tame,hm,hK,hPl,n12,u10,u18,hu,hsz,ha,Nu,hua,hsz2,q⟩:=q1 hg;rw[Int.toNat_natCast]at hsz ha q;rw[Int.toNat_natCast]at ha q;have hst:st<=100:=by have:=hg.2.1;omega
  have e1:1<=e:=by have:=hg.2.2.1;omega
  have e10:e<=10:=by have:=hg.2.2.2;omega
  clear q1 q2;subst eb;refine⟨_,rfl,v,r,rfl,hR,ok,hb.p,tame,fun x1 L H1 g1 hS lst ll=>?_⟩;have bl:=rA hb hm hK lst hPl n12 u10 hu;have lL:L.length<=n+1:=Nat.le_trans (lst.le hb.one hm hK) hPl;have lp:=lst.mon.pos;obtain⟨l1,l2⟩:=oR ll ok;obtain⟨okS,bdS⟩:=Bc hb ok ll (U:=u+13*(n+1)) (by omega) (by omega) bl;have eaS:(gQ r L).at=r.at:=funext fun n=>yC ok.Fd lst (by have:=ok.len;omega) n;obtain⟨c1,p1,t1,rfl,hC1,hP1,hT1⟩:=id hS;have lS:((gQ r L).rule.map V.int).length=L.length-1:=by rw[List.length_map,l1]
  generalize hN:L.length-1=N at l1 l2 lS;have Nn:N<=n:=by omega
  have eN:e*N<=e*n:=Nat.mul_le_mul_left _ Nn;have eN2:e*N<=10*12:=Nat.mul_le_mul e10 (by omega);have NeN:N<=e*N:=Nat.le_mul_of_pos_left _ e1;refine⟨_,rfl,_,_,.inr (SqT.of hC1),rfl,.ref p1,N,rfl,.inr ⟨_,SqT.of hP1,lS.symm⟩,?_⟩;have sz1:(e*N)*(u+13*(n+1)+3)+1<=30000:=by
   have:(e*N)*(u+13*(n+1)+3)<=(u+13*(n+1)+3)*(e*n):=by rw[Nat.mul_comm];exact Nat.mul_le_mul_left _ eN
   omega
  refine⟨_,rfl,_,_,.inr (SqT.of hC1),rfl,_,rfl,_,rfl,mulL (by omega) (by omega),p1,(gQ r L).rule,e*N,u+13*(n+1),by rw[Int.natCast_mul];rfl,hP1,by omega,sz1,by omega,fun i=>Nat.le_of_lt (Pm.pD bdS i),fun l5 sums H5 g5 h5 ls bs eqs=>?_⟩;have hS5:=hS.same g5;refine⟨_,rfl,_,rfl,_,rfl,_,rfl,mulL (by omega) (by omega),.ref c1,gQ r L,(st:Int)+(e:Int)*(N:Int),rfl,hS5,okS,by rw[<-Int.natCast_mul];omega,by rw[<-Int.natCast_mul];omega,fun l6 H6 g6 f6 h6=>?_⟩;rw[show((st:Int)+(e:Int)*(N:Int)).toNat=st+e*N by rw[<-Int.natCast_mul];omega,zp,eaS]at h6;have h56:=g6 _ _ h5;refine⟨_,rfl,1,(N:Int)+1,rfl,⟨by omega,by omega,by omega,by omega⟩,?_⟩;rw[show((N:Int)+1-1).toNat=N by omega];refine yh (lo:=1) (n:=N) (by omega) rfl (fun k=>Pm.co sums (e*(k+1)-1)) ?_ ?_
  ·intro H7 k g7 hk kk hkk;have t1:1<=e*(k+1):=Nat.mul_pos e1 (by omega);have t2:(e:Int)*(1+(k:Int))=((e*(k+1):Nat):Int):=by rw[Int.natCast_mul,Int.natCast_add,Int.add_comm];rfl
   have t3:e*(k+1)<=e*N:=Nat.mul_le_mul_left _ hk;refine⟨_,rfl,_,rfl,_,rfl,mulL (by omega) (by omega),_,_,rfl,rfl,_,V.int (Pm.co sums (e*(k+1)-1)),.inl (SqL.of (g7 _ _ h56)),?_,hkk⟩;rw[t2,show((e*(k+1):Nat):Int)-1=((e*(k+1)-1:Nat):Int)by omega];exact yK (by omega)
  intro D hD;have gD:=Same.new hD (.lst ((Pm.ofF N fun k=>Pm.co sums (e*(k+1)-1)).map V.int));refine⟨D,Pm.ofF N fun k=>Pm.co sums (e*(k+1)-1),N,(u+13*(n+1)+3)*e,rfl,aA,Pm.aP ..,by omega,?_,fun i hi=>?_,fun l7 R H7 g7 h7 lr br eq3=>?_⟩
  ·rw[Nat.mul_comm,Nat.mul_assoc,Nat.mul_comm _ (e*N)];exact sz1
  ·rw[Pm.bV,if_pos hi];have t1:1<=e*(i+1):=Nat.mul_pos e1 (by omega);have t3:e*(i+1)<=e*N:=Nat.mul_le_mul_left _ hi;have:=bs (e*(i+1)-1) (by omega);rw[Nat.sub_add_cancel t1,<-Nat.pow_mul]at this;rw[<-Nat.pow_mul,Nat.mul_assoc];exact this
  have g17:=g1.trans (g5.trans (g6.trans (gD.trans g7)));have h67:=g7 _ _ (gD _ _ h6);obtain⟨a0,q1,q2,rfl,hA0,_,_⟩:=id (hR.same g17);refine⟨_,rfl,_,_,.inr (SqT.of hA0),rfl,_,rfl,_,rfl,(N:Int),rfl,(by omega:-(2^62)<=(N:Int)),(by omega:(N:Int)<2^62),?_⟩;rw[Int.toNat_natCast];refine tY (n:=N) (by omega) rfl (fun k=>r.at (st+e*k)) ?_ ?_
  ·intro H8 k g8 hk kk hkk;have t3:e*(k+1)<=e*N:=Nat.mul_le_mul_left _ hk;rw[Nat.mul_succ]at t3;refine⟨_,rfl,_,rfl,_,rfl,_,rfl,mulL (by omega) (by omega),_,V.int (r.at (st+e*k)),.inl (SqL.of (g8 _ _ h67)),?_,hkk _ (Same.refl _)⟩;rw[show(st:Int)+(e:Int)*(0+(k:Int))=((st+e*k:Nat):Int)by rw[Int.zero_add,Int.natCast_add,Int.natCast_mul]];rw[yK (by rw[Pm.aP];omega),Pm.bV,if_pos (by omega)]
  intro D2 H8 hD2 g8 h8;have hzz:R.length*((u+13*(n+1)+3)*e)+1<=(u+13*(n+1)+3)*(e*n)+10:=by
   rw[lr,Nat.mul_comm,Nat.mul_assoc];have:=Nat.mul_le_mul_left (u+13*(n+1)+3) eN;omega
  have bR:∀x∈R,Rm.Bd ((u+13*(n+1)+3)*(e*n)+10) x:=Le.list hzz fun i hi=>br i (by omega);have e0:evR r.b R r st e=⟨r.b,R.map (Rm.tk r.b),(Pm.ofF N fun k=>r.at (st+e*k)).map (Rm.tk r.b)⟩:=by unfold evR;rw[lr]
  have okE:mV (evR r.b R r st e):=Oc hb (by omega) n12 bR (by omega) (by omega) hua Nu ha;have hev:=Jx (b:=r.b) (c:=(gQ r L).rule) (s1:=(gQ r L).starts) (u:=sums) (R:=R) (e:=e) (st:=st) (N:=N) e1 okS.len okS.nM okS.iT l1.symm lr eqs eq3;have f1:Rm.at_ r.b (gQ r L).rule (gQ r L).starts=r.at:=by rw[<-eaS];rfl
  rw[f1]at hev;have he:∀k,(evR r.b R r st e).at k=r.at (st+e*k):=fun k=>by
   rw[e0,show(Pm.ofF N fun k=>r.at (st+e*k)).map (Rm.tk r.b)=Pm.ofF N fun k=>Rm.tk r.b (r.at (st+e*k))from List.map_map ..,hev k,ok.Fd]
  have tm:=Jd hb okE (by omega) bR (by omega) he ha (by omega);have PB:=okE;rw[e0]at okE tm;refine⟨r.b,l7,D2,R,_,rfl,.inl (g8 _ _ h7),.inl h8,by omega,by rw[Pm.aP];omega,hb.lo,okE,hb.p,tm,fun v' L' H9 g9 hR9 Rx ll9=>?_⟩;rw[<-e0]at hR9 Rx;have lE:(evR r.b R r st e).rule.length=R.length:=List.length_map _;have bl9:=rA (L:=L') hb (Pm.eY r.b (evR r.b R r st e).rule) PB.kp Rx (u:=(u+13*(n+1)+3)*(e*n)+10) (n:=n) (by rw[Pm.bB,lE];omega) n12 (by omega) (fun _=>Pm.pD (Pm.oM hb.lo hb.hi (by omega) fun x hx=>by
   obtain⟨y,hy,rfl⟩:=List.mem_map.mp hx;exact m5 hb (by omega) (bR y hy)))
  have Yt:L'.length<=(evR r.b R r st e).rule.length+1:=by rw[lE];exact ll9
  obtain⟨ok9,bd9⟩:=Bc (r:=evR r.b R r st e) hb PB Yt (by omega) (by omega) bl9;obtain⟨m1,m2⟩:=oR Yt PB;exact q v' _ L L' H9 (g17.trans (g8.trans g9)) hR9 ok9 rfl lst (by omega) lL (fun k=>by rw[yC PB.Fd Rx (by have:=PB.len;omega),he]) (Rx.congr he) m1
theorem zG(F:Fn K mg "_law_refused" ql ["_law_row","_law_start","_law_step"])(lF:zW P w K mg base aL):uY P w K mg base:=by
 refine F.cal j6 (fun vs H Q E h=>?_) (fun f cdv A outer s H vs Q E hr h=>?_)
 ·obtain⟨v,st,e,rfl,_⟩:=h;rfl
 ·obtain⟨v,st,e,rfl,hg,q⟩:=h;refine⟨_,(ao (aJ (i:=3) j6.nd rfl (Or.inl rfl) O6)
   (ao (Cm (j:=4) lF hr rfl rfl rfl rfl (aM (pv 0) (aM (pv 1) (aM (pv 2) ak))) j6.nd rfl rfl rfl M.yU (fun a=>(aF (aJ (i:=3) j6.nd rfl (Or.inl rfl) (pv 4)))))
   (ao (iV (PW.pt (m6 (gF (aK (MH K) rfl B.cg boot_isinstance (aM (pv 3) (Ik (gW (aM (qH rfl M.Qt) (aM (qH rfl M.HJ) (aM (qH rfl M.CY) (aM (qH rfl M.Nj) (aM (qH rfl M.Jv) (aM (qH rfl M.Ia) (aM (qH rfl M.Fg) ak)))))))) ak)))) (qC (ji (gF (aK (MH K) rfl B.cg boot_isinstance (aM (pv 3) (aM (qw rfl B.wR sW) ak))))))))
   (aF (aU qm))
   cF)
   (aF (aU (aK (MH K) rfl B.cg boot_isinstance (aM (pv 3) (aM (qH rfl M.Jq) ak)))))))),?_⟩
  refine⟨_,rfl,_,rfl,_,rfl,v,st,e,rfl,fun _=>⟨_,rfl,M.n8,fun a ha=>?_⟩,fun z=>absurd z hg⟩;have g0:=Same.new ha (MF a aL);have hA:=aA (H:=H) (a:=a) (o:=MF a aL);generalize upd H a (MF a aL)=H2 at g0 hA;refine⟨_,rfl,?_⟩;refine⟨_,rfl,(by show 7<=sizeLine;decide),fun p hp=>?_⟩;have g1:=Same.new hp (.tup [.ref lX,.ref fL,.ref cR,.ref iR,.ref fD,.ref fY,.ref dH]);replace hA:=g1 _ _ hA;refine⟨a,aL,.ref p,false,rfl,hA,M.wg,.inr (.inr ⟨p,[lX,fL,cR,iR,fD,fY,dH],rfl,aA,?_⟩),?_⟩
  ·simp only[List.map,W.kitAny,M.fW,M.dD,M.cQ,M.d9,M.dM,M.dF,M.cZ]
  ·generalize upd H2 p (.tup [.ref lX,.ref fL,.ref cR,.ref iR,.ref fD,.ref fY,.ref dH])=H4 at g1 hA;refine⟨_,rfl,uQ ?_⟩;refine⟨_,rfl,a,aL,_,true,rfl,hA,M.wg,.inr (.inl ⟨_,rfl,M.cA⟩),_,rfl,uQ ?_⟩;exact⟨_,rfl,a,aL,_,true,rfl,hA,M.wg,.inl ⟨_,rfl,M.dR⟩,q _ (g0.trans g1)⟩
theorem O7{f:Addr}{fd:FuncData}(F:Fun K "law" "law" yS f fd)(nA:ud P w K mg base)(eZ:qg P w K mg base)(kJ:qz P w K mg base)(gb:yr P w K mg base)(sO:wV P w K mg base)(cY:kO P w K mg base)(qO:Aw P w K mg base)(lF:zW P w K mg base aL)(mC:uY P w K mg base):G8 P w K mg base (qM P w) XQ f fd ["_law_script"] (Ld K):=by
 refine F.okN (k:=17) lW (fun vs H Q E h=>?_) (fun cdv A outer s H vs Q E hr h=>?_)
 ·obtain⟨a,ns,rfl,_⟩:=h;rfl
 ·obtain⟨a,ns,rfl,hS,hlen,hBt,q⟩:=h;refine⟨_,(ao (aJ (i:=1) lW.nd rfl (Or.inl rfl) (aB nA hr rfl (aG (aB eZ hr rfl (aM (pv 0) (fK aq ak))) ak)))
   (ao (aJ (i:=2) lW.nd rfl (Or.inl rfl) (aB kJ hr rfl (aM (pv 0) (fK aq (aM (pv 1) (fK aq ak))))))
   (ao (aJ (i:=3) lW.nd rfl (Or.inl rfl) (aB eZ hr rfl (aM (pv 0) (fK aq ak))))
   (ao (aJ (i:=4) lW.nd rfl (Or.inr rfl) (aY (xix K) (jf (mO (aH eE (aB gb hr rfl (aM (pv 3) (fK aq ak))) aq) (fK aq (fK aq ak)))) (aH eE (aB gb hr rfl (aM (pv 3) (fK aq ak))) aq) (fun _ _=>rfl)))
   (ao (aJ (i:=5) lW.nd rfl (Or.inr rfl) (aH (iW K) aq (aH eE (aB gb hr rfl (aM (pv 3) (fK aq ak))) aq)))
   (ao (aJ (i:=6) lW.nd rfl (Or.inl rfl) (aB sO hr rfl (aM (pv 2) ak)))
   (ao (aJ (i:=7) lW.nd rfl (Or.inr rfl) (aB cY hr rfl (aM (pv 2) (fK aq ak))))
   (ao (vA (i:=8) (hN:=lW.nd) (hi':=rfl) (hx:=(Or.inl rfl)) (sc:=MN) (N:=["_law_k","_law_start","_law_step","_law_whole"]) (ix:=[none,some 4,some 5,some 7]) cN rfl (bJ rfl B.bW (fK aq ak)) (fun cl C s₀ H₀ ex=>⟨(aX (i:=0) iZ rfl (Or.inl rfl)),cO,(aY (xix K) (pv 3) (aH (iW K) (pv 1) (aH v_mul (pv 0) (pv 2))) (fun _ _=>rfl))⟩))
   (ao (iV (ji (gF (aB qO hr rfl (aG (aB lF hr rfl (aM (pv 2) (aM (pv 4) (aM (pv 5) ak)))) (aM (pv 1) (aM (pv 6) (aM (pv 8) ak)))))))
   (aF (aU qm))
   cF)
   (ao (iV (PW.pt (m6 (ji (gF (aB qO hr rfl (aG (aB lF hr rfl (aM (pv 2) (fK aq (fK aq ak)))) (aM (pv 1) (aM (pv 6) (aG (mq (xsl K) (pv 7) pB (pI aq)) ak))))))) (qC (bh (xne K hr) (aK (jL K) rfl B.cT boot_len (aG (aY (xix K) (aB lF hr rfl (aM (pv 2) (fK aq (fK aq ak)))) aq (fun _ _=>rfl)) ak)) (pv 6) (bF _)))))
   (aF (aU qm))
   cF)
   (ao (aJ (i:=9) lW.nd rfl (Or.inl rfl) (aH eE (aH v_mul (aB gb hr rfl (aM (pv 3) (fK aq ak))) (pv 3)) (aH Ao aq aq)))
   (ao (j8 PassesOwn.never rfl (Ho K (jf (Ik (gW (NW (Af uh aq) (aM (pv 5) ak))) (Ik (gW (fK aq (aM (pv 5) ak))) (Ik (gW (mO (aH (iW K) aq (pv 9)) (fK aq ak))) (Ik (gW (mO (aH bN (Af uh aq) (pv 9)) (fK aq ak))) (Ik (gW (aM (pv 4) (fK aq ak))) (Ik (gW (aM (pv 4) (fK aq ak))) (Ik (gW (aM (pv 4) (mO (aH (iW K) aq (pv 9)) ak))) ak))))))))) (aX (i:=10) lW.nd rfl (Or.inl rfl))
   (aF (iV (ji (gF (aB mC hr rfl (aM (pv 2) (aG (aY (xix K) (pv 10) aq (fun _ _=>rfl)) (aG (aY (xix K) (pv 10) aq (fun _ _=>rfl)) ak))))))
   (aF (aU qm))
   cF)))
   (aF (aU (aB mC hr rfl (aM (pv 2) (aM (pv 4) (mO (aH bN aq (pv 5)) ak)))))))))))))))))),?_⟩
  refine⟨_,rfl,a,ns,0,rfl,hS,by decide,by decide,hBt,fun c hc=>?_⟩;refine⟨c,rfl,fun b H1 g1 hb=>?_⟩;refine⟨_,rfl,_,rfl,a,ns,1,b,12,rfl,g1.seq hS,by decide,by decide,hBt,hb,by decide,by decide,fun v r0 s r H2 g2 hR h0 hRs hs _ h5=>?_⟩;refine⟨_,rfl,a,ns,3,rfl,g2.seq (g1.seq hS),by decide,by decide,hBt,fun c3 hc3=>?_⟩;have M0:=hRs.mr hb h0 hs;have es:r.at=r0.at:=funext hRs.same;have eb:=hRs.by_;have hat:∀n,Rm.Bd (31+n*17) (r.at n):=fun n=>by rw[es];exact h0.Gh hb n
  have six:∀n,n<=320->Rm.Bd 864 (r.at n):=fun n hn=>by
   by_cases z:b=0
   ·have:=PY h0.len (h5 z) h0.jT hn;rw[es];show Rm.Bd 864 (Rm.at_ r0.b r0.rule r0.starts n);rw[h0.by_,z];exact this
   ·have:=M0.ok.Az n;rw[eb]at this;exact Ey hb (by decide) z this
  obtain⟨L,lst,ll⟩:=M0.ex;clear g1 hS;refine⟨_,rfl,c3,1,rfl,by decide,by decide,fun x1 _ _=>?_⟩;refine⟨_,_,rfl,rfl,(by decide:(0:Int)<101),(by show 3<=sizeLine;decide),fun p3 hp3=>?_⟩;refine⟨_,rfl,c3,2,rfl,by decide,by decide,fun x2 _ _=>?_⟩;have a0:=dO x1 (show(0:Int)<101 by decide);have a1:=dZ x1 (show(0:Int)<101 by decide);have b0:=dO x2 (show(0:Int)<3 by decide);have b1:=dZ x2 (show(0:Int)<3 by decide);refine⟨_,_,rfl,rfl,(by decide:(0:Int)<3),_,_,.inl (SqL.of aA),aV (ns:=[x1%101,0,100]) b0 b1,?_⟩;obtain⟨s0,s1⟩:=CK (x1%101) a0 (by omega) (x2%3).toNat (by omega);have g3:=Same.new hp3 (.lst [.int (x1%101),.int 0,.int 100]);generalize upd H2 p3 (.lst [.int (x1%101),.int 0,.int 100])=H3 at g3;generalize ([x1%101,0,100]:List Int).getD (x2%3).toNat 0=st0 at s0 s1;obtain⟨st,rfl⟩:∃n:Nat,st0=(n:Int):=⟨st0.toNat,by omega⟩;refine⟨_,rfl,c3,3,rfl,by decide,by decide,fun x3 _ _=>?_⟩;have d0:=dO x3 (show(0:Int)<10 by decide);have d1:=dZ x3 (show(0:Int)<10 by decide);refine⟨_,_,rfl,rfl,(by decide:(0:Int)<10),?_⟩;obtain⟨e,ee⟩:∃n:Nat,(n:Int)=1+x3%10:=⟨_,Int.toNat_of_nonneg (by omega)⟩;dsimp only[Iw];rw[<-ee];have e1:1<=e:=by omega
  have e10:e<=10:=by omega
  have hgo:J0 (st:Int) (e:Int):=⟨by omega,by omega,by omega,by omega⟩;have hR3:=hR.same g3;refine⟨_,rfl,v,b,r,439,49,L,rfl,hR3,M0,by decide,lst,ll,fun H4 g4=>?_⟩;refine⟨_,rfl,v,r,400,rfl,hR3.same g4,M0.ok.w (by decide),by decide,by decide,fun lw H5 g5 f5 h5'=>?_⟩;rw[show r.row (400:Int).toNat=Pm.ofF 400 r.at from zp r 400]at h5';have hR5:=hR3.same (g4.trans g5);have aap:∀{k:Nat},k<30->st+e*k<=390:=fun {k} hk=>by
   have:e*k<=10*29:=Nat.mul_le_mul e10 (by omega);omega
  refine⟨(30:Int),rfl,(by decide:-(2^62)<=(30:Int)),(by decide:(30:Int)<2^62),?_⟩;rw[show(30:Int).toNat=30 from rfl];refine tY (n:=30) (by decide) rfl (fun k=>r.at (st+e*k)) ?_ ?_
  ·intro H6 k g6 hk kk hkk;have t0:=aap hk;have t1:(0+(k:Int))*(e:Int)=((e*k:Nat):Int):=by rw[Int.zero_add,Int.natCast_mul,Int.mul_comm]
   refine⟨_,rfl,_,rfl,_,rfl,_,rfl,mulR (by omega) (by omega),_,V.int (r.at (st+e*k)),.inl (SqL.of (g6 _ _ h5')),?_,hkk _ (Same.refl _)⟩;rw[t1,<-Int.natCast_add,yK (by rw[Pm.aP];omega),Pm.bV,if_pos (by omega)]
  intro D H6 hD g6 h6;have hR6:=hR5.same g6;have hw6:=g6 _ _ h5';have hlr:=h0.len;have M00:=RwS.mr hb h0 (s:=0) (r:=r0) ⟨h0.by_,h0.len,by have:=h0.short;have:=h0.m12;omega,h0.nM,fun x hx=>(h0.f9 x hx).mono (by decide),fun _=>rfl⟩ (by decide);have hK0:=M00.ok.kp;rw[h0.by_,<-es]at hK0;have lp:=lst.mon.pos;have h12:=M0.E6;have ev:∀(H:Hp) (Q:VK) (st e:Nat),st<=100->1<=e->e<=10->iU H v r->(∀v' r' L' H',Same H H'->iU H' v' r'->Rt b r' (fun k=>r.at (st+e*k)) L' 864->r'.rule.length<=L.length-1->Q v' H')->EvM v st e H Q:=fun H Q st e hst he1 Yo hR k=>by
   have szE:(13+13*(12+1)+3)*(e*12)<=185*120:=Nat.mul_le_mul_left _ (by omega);refine⟨r,b,12,13,5820,Pm.aN b r0.rule,hR,M0.ok,eb,hb,M0.tame,Pm.eY _ _,hK0,by rw[Pm.bB];have:=h0.short;have:(12:Int).toNat=12:=rfl;omega,by decide,by decide,by decide,fun _=>Pm.pD (Pm.oM hb.lo hb.hi (by decide) h0.f9),by omega,fun k hk=>(hat _).mono (by have:e*k<=10*24:=Nat.mul_le_mul Yo (by omega);omega),by decide,by decide,by decide,fun v' r' L1 L' H' g' hR' ok' eb' ZG hl1 _ hat' aat hl'=>?_⟩;have eL:L1=L:=ZG.uniq hb.one lst;subst eL;exact k v' r' L' H' g' hR' ⟨hb,eb',ok',hat',aat,hl',by omega,by decide,by decide,fun i hi=>six _ (by have:e*i<=10*22:=Nat.mul_le_mul Yo hi;omega)⟩ hl1
  refine⟨_,rfl,_,rfl,_,rfl,v,st,e,rfl,fun z=>absurd hgo z,fun _=>?_⟩;rw[Int.toNat_natCast,Int.toNat_natCast];refine ev _ _ st e (by omega) e1 e10 hR6 fun v7 r7 L7 H7 g7 hR7 hT7 hl7=>?_;refine⟨_,rfl,_,rfl,_,rfl,v7,b,r7,_,D,_,L7,864,rfl,hR7,hT7,by omega,g7 _ _ h6,fun H8 g8=>⟨_,rfl,uQ ?_⟩⟩;have g68:=g7.trans g8;have hR8:=hR6.same g68;have hw8:=g68 _ _ hw6;have eat:(fun k=>r.at (0+1*k))=r.at:=funext fun k=>by rw[Nat.one_mul,Nat.zero_add]
  refine⟨_,rfl,v,0,1,rfl,fun z=>absurd ⟨by decide,by decide,by decide,by decide⟩ z,fun _=>?_⟩;refine ev _ _ 0 1 (by decide) (by decide) (by decide) hR8 fun v9 r9 L9 H9 g9 hR9 hT9 hl9=>?_;rw[eat]at hT9;refine⟨_,rfl,_,rfl,_,rfl,_,rfl,.inl ⟨_,SqL.of (g9 _ _ hw8),fun l10 Zg=>?_⟩⟩;have Zr:vI ((Pm.ofF 400 r.at).map V.int) none (some 30)=(Pm.ofF 30 r.at).map V.int:=by
   rw[show(30:Int)=((30:Nat):Int)from rfl,wO,<-List.map_take];unfold Pm.ofF;rw[<-List.map_take,List.take_range];rfl
  rw[Zr];have g10:=Same.new Zg (.lst ((Pm.ofF 30 r.at).map V.int));refine⟨v9,b,r9,_,l10,_,L9,864,rfl,hR9.same g10,hT9,by omega,aA,fun H11 g11=>⟨_,rfl,uQ ?_⟩⟩;have aac:=g9.trans (g10.trans g11);have ZV:=hR8.same aac;refine⟨_,rfl,v,0,1,rfl,fun z=>absurd ⟨by decide,by decide,by decide,by decide⟩ z,fun _=>?_⟩;refine ev _ _ 0 1 (by decide) (by decide) (by decide) ZV fun v12 r12 L12 H12 g12 aax Xg aaN=>?_;rw[eat]at Xg;have eL:L12=L:=Xg.lst.uniq hb.one lst;subst eL;obtain⟨a12,p12,q12,rfl,Z0,Y9,_⟩:=id aax;refine⟨_,_,.inr (SqT.of Z0),rfl,.ref p12,r12.rule.length,rfl,.inr ⟨_,SqT.of Y9,(List.length_map _).symm⟩,_,rfl,?_⟩;rw[Xg.len];refine⟨_,rfl,?_⟩;rw[decide_eq_true rfl];refine uQ ?_;refine⟨_,rfl,c3,4,rfl,by decide,by decide,fun x4 y0 y1=>?_⟩;refine⟨_,rfl,tU (m:=31) (n:=1048576) (Rm.Bd.of (by omega) (by omega)) hc3 (by decide),?_⟩;refine⟨_,_,rfl,rfl,⟨by decide,by decide,by decide⟩,_,_,rfl,rfl,(by decide:(0:Int)<10^(59:Int).toNat),?_⟩;have f0:=dO (x4*c3) (show(0:Int)<10^(59:Int).toNat by decide);dsimp only;generalize x4*c3%10^(59:Int).toNat=far at f0;refine⟨_,rfl,_,rfl,(by show 2<=sizeLine;decide),fun t1 ht1=>?_⟩;have k1:=Same.new ht1 (.tup [.int (-1),.int (e:Int)]);have o1:Gr (upd H12 t1 (.tup [.int (-1),.int (e:Int)])) (.ref t1):=⟨_,_,_,rfl,aA,fun z=>by have:=z.1;omega⟩;generalize upd H12 t1 (.tup [.int (-1),.int (e:Int)])=J1 at k1 o1;refine⟨_,rfl,(by show 2<=sizeLine;decide),fun t2 ht2=>?_⟩;have k2:=Same.new ht2 (.tup [.int 101,.int (e:Int)]);have o2:Gr (upd J1 t2 (.tup [.int 101,.int (e:Int)])) (.ref t2):=⟨_,_,_,rfl,aA,fun z=>by have:=z.2.1;omega⟩;generalize upd J1 t2 (.tup [.int 101,.int (e:Int)])=J2 at k2 o2;replace o1:=o1.same k2;refine⟨_,rfl,(by show 2<=sizeLine;decide),fun t3 ht3=>?_⟩;have k3:=Same.new ht3 (.tup [.int (101+far),.int 1]);have o3:Gr (upd J2 t3 (.tup [.int (101+far),.int 1])) (.ref t3):=⟨_,_,_,rfl,aA,fun z=>by have:=z.2.1;omega⟩;generalize upd J2 t3 (.tup [.int (101+far),.int 1])=J3 at k3 o3;replace o1:=o1.same k3;replace o2:=o2.same k3;refine⟨_,rfl,_,rfl,_,_,rfl,rfl,(by show 2<=sizeLine;decide),fun t4 ht4=>?_⟩;have k4:=Same.new ht4 (.tup [.int (-1-far),.int 1]);have o4:Gr (upd J3 t4 (.tup [.int (-1-far),.int 1])) (.ref t4):=⟨_,_,_,rfl,aA,fun z=>by have:=z.1;omega⟩;generalize upd J3 t4 (.tup [.int (-1-far),.int 1])=J4 at k4 o4;replace o1:=o1.same k4;replace o2:=o2.same k4;replace o3:=o3.same k4;refine⟨_,rfl,(by show 2<=sizeLine;decide),fun t5 ht5=>?_⟩;have k5:=Same.new ht5 (.tup [.int (st:Int),.int 0]);have o5:Gr (upd J4 t5 (.tup [.int (st:Int),.int 0])) (.ref t5):=⟨_,_,_,rfl,aA,fun z=>by have:=z.2.2.1;omega⟩;generalize upd J4 t5 (.tup [.int (st:Int),.int 0])=J5 at k5 o5;replace o1:=o1.same k5;replace o2:=o2.same k5;replace o3:=o3.same k5;replace o4:=o4.same k5;refine⟨_,rfl,(by show 2<=sizeLine;decide),fun t6 ht6=>?_⟩;have k6:=Same.new ht6 (.tup [.int (st:Int),.int 11]);have o6:Gr (upd J5 t6 (.tup [.int (st:Int),.int 11])) (.ref t6):=⟨_,_,_,rfl,aA,fun z=>by have:=z.2.2.2;omega⟩;generalize upd J5 t6 (.tup [.int (st:Int),.int 11])=J6 at k6 o6;replace o1:=o1.same k6;replace o2:=o2.same k6;replace o3:=o3.same k6;replace o4:=o4.same k6;replace o5:=o5.same k6;refine⟨_,rfl,_,rfl,(by show 2<=sizeLine;decide),fun t7 ht7=>?_⟩;have k7:=Same.new ht7 (.tup [.int (st:Int),.int (11+far)]);have o7:Gr (upd J6 t7 (.tup [.int (st:Int),.int (11+far)])) (.ref t7):=⟨_,_,_,rfl,aA,fun z=>by have:=z.2.2.2;omega⟩;generalize upd J6 t7 (.tup [.int (st:Int),.int (11+far)])=J7 at k7 o7;replace o1:=o1.same k7;replace o2:=o2.same k7;replace o3:=o3.same k7;replace o4:=o4.same k7;replace o5:=o5.same k7;replace o6:=o6.same k7;have kk:=k1.trans (k2.trans (k3.trans (k4.trans (k5.trans (k6.trans k7)))));refine⟨(by show 7<=sizeLine;decide),fun l8 hl8=>?_⟩;have k8:=Same.new hl8 (.lst [.ref t1,.ref t2,.ref t3,.ref t4,.ref t5,.ref t6,.ref t7]);have h8:(upd J7 l8 (.lst [.ref t1,.ref t2,.ref t3,.ref t4,.ref t5,.ref t6,.ref t7])) l8=some (.lst [.ref t1,.ref t2,.ref t3,.ref t4,.ref t5,.ref t6,.ref t7]):=aA;have all:∀x∈([.ref t1,.ref t2,.ref t3,.ref t4,.ref t5,.ref t6,.ref t7]:List V),Gr (upd J7 l8 (.lst [.ref t1,.ref t2,.ref t3,.ref t4,.ref t5,.ref t6,.ref t7])) x:=fun x hx=>by
   simp only[List.mem_cons,List.not_mem_nil,or_false]at hx;rcases hx with rfl|rfl|rfl|rfl|rfl|rfl|rfl
   ·exact o1.same k8
   ·exact o2.same k8
   ·exact o3.same k8
   ·exact o4.same k8
   ·exact o5.same k8
   ·exact o6.same k8
   ·exact o7.same k8
  generalize upd J7 l8 (.lst [.ref t1,.ref t2,.ref t3,.ref t4,.ref t5,.ref t6,.ref t7])=J8 at k8 h8 all;refine⟨l8,rfl,.inl ⟨⟨_,SqL.of h8⟩,?_⟩⟩;refine Aj (vL (SqL.of h8)) (fun i σ' H'=>∃(o10:Option V),σ'=[some (.ref a),some (.int b),some v,some (.int c3),some (.int (st:Int)),some (.int (e:Int)),some (.int ((L12.length-1:Nat):Int)),some (.ref lw),some (.ref D),some (.int far),o10]/\Same J8 H') ⟨_,rfl,Same.refl _⟩ (fun i σ' H' ⟨_,_,z⟩=>z) ?_ ?_
  ·rintro i x σ' H' hx ⟨o10,rfl,g⟩;obtain⟨t,p,q',rfl,ht,hno⟩:=(all x (List.mem_of_getElem? hx)).same g;refine⟨_,rfl,_,rfl,_,_,.inr (SqT.of ht),rfl,_,rfl,_,_,.inr (SqT.of ht),rfl,v,p,q',rfl,hno,fun H13 g13=>⟨_,rfl,uQ ⟨_,rfl,g.trans g13⟩⟩⟩
  rintro σ' H' ⟨o10,rfl,g⟩;exact⟨_,rfl,_,rfl,_,rfl,_,_,rfl,rfl,v,(st:Int),0-(e:Int),rfl,fun z=>by have:=z.2.2.1;omega,fun H13 g13=>q _⟩
end
theorem all_mk{l:W.OpenLaw}{w:World}{K:W.Frag}{h:Heap}{mg:Str->Option Value}{fa:Addr}(X:K.In h)(G:h.Ns mainGlobals mg)(hfa:mg "law" = some (.ref fa))
  (F0:iD K "is_prime" pK) (F1:iD K "taken" yZ) (F2:iD K "inverse" rD) (F3:iD K "over" Ew) (F4:iD K "next_place" lU) (F5:iD K "first_places" jl) (F6:iD K "trimmed" ug) (F7:iD K "divided" qU) (F8:iD K "monic" yL) (F9:iD K "greatest" qb) (F10:iD K "of_rule" rK) (F11:iD K "rule_of" su) (F12:iD K "behind_first" ju) (F13:iD K "power_sums" lu) (F14:iD K "rule_of_sums" jA) (F15:iD K "prime_above" jV) (F16:iD K "divides" qX) (F17:iD K "taken_poly" kZ) (F18:iD K "nearest" sU) (F19:iD K "joined" vZ) (F20:iD K "whole_greatest" gJ) (F21:iD K "shared_divisor" gK) (F22:iD K "top_of" wu) (F23:iD K "least_of" qe) (F24:iD K "shortest" oO) (F25:iD K "refuse_far_steps" fB) (F26:iD K "told_row" pO) (F27:iD K "every" zj) (F28:iD K "_law_cell_at" oU) (F29:iD K "_law_mix" Gb) (F30:iD K "_law_drawn_by" m9) (F31:iD K "_law_taken" vm) (F32:iD K "_law_one_number" jY) (F33:iD K "_law_places" rz) (F34:iD K "_law_made_longer" jz) (F35:iD K "_law_drawn_row" lJ) (F36:iD K "_law_shorter" qd) (F37:iD K "_law_rank" zV) (F38:iD K "_law_length" sX) (F39:iD K "_law_is_row" rZ) (F40:iD K "_law_right" vG) (F41:iD K "_law_refused" ql) (FL:iD K "law" yS) (lQ:W.nsIn K mainGlobals "ValueError" = some none) (Gd:W.nsIn K mainGlobals "bool" = some none) (Ly:W.nsIn K mainGlobals "int" = some none) (lV:W.nsIn K mainGlobals "isinstance" = some none) (Mf:W.nsIn K mainGlobals "len" = some none) (Eb:W.nsIn K mainGlobals "list" = some none) (MP:W.nsIn K mainGlobals "max" = some none) (MS:W.nsIn K mainGlobals "min" = some none) (zy:W.nsIn K mainGlobals "range" = some none) (Ml:W.nsIn K mainGlobals "sum" = some none) (zR:W.nsIn K mainGlobals "tuple" = some none) (cI:∃t,W.nsIn K mainGlobals "BELOW_THE_PRIMES" = some (some (.int 1000000 t))) (dg:∃t,W.nsIn K mainGlobals "FARTHEST_START" = some (some (.int 100 t))) (fH:∃t,W.nsIn K mainGlobals "WIDEST_STEP" = some (some (.int 10 t))) {lX:Addr} (EV:W.nsIn K mainGlobals "NoBy" = some (some (.ref lX))) {fL:Addr} (wC:W.nsIn K mainGlobals "NoName" = some (some (.ref fL))) {cR:Addr} (oY:W.nsIn K mainGlobals "NoNumber" = some (some (.ref cR))) {iR:Addr} (yR:W.nsIn K mainGlobals "NoRow" = some (some (.ref iR))) {fD:Addr} (vp:W.nsIn K mainGlobals "NoText" = some (some (.ref fD))) {cu:Addr} (nO:W.nsIn K mainGlobals "RuleError" = some (some (.ref cu))) {fY:Addr} (vW:W.nsIn K mainGlobals "TooBig" = some (some (.ref fY))) {aL:Addr} (qR:W.nsIn K mainGlobals "TooFar" = some (some (.ref aL))) {dH:Addr} (rH:W.nsIn K mainGlobals "TooLong" = some (some (.ref dH))) (u6:W.excIn K aL [.type "ValueError",.type "Exception",.type "BaseException",.type "object"] "ValueError.__new__" = true) (fJ:Dk K aL cu=true) (fG:W.ktsIn K cu "BaseException" = true) (tZ:W.findIn K (.ref aL) "__getattribute__" = some (some (.builtin "BaseException.__getattribute__"))) (tu:W.findIn K (.ref aL) "__getattr__" = some none) (sY:W.findIn K (.ref aL) "__class__" = some (some (.builtin "object.__class__"))) (rm:W.mroIn K aL (.type "BaseException")=some true) (uc:W.mroIn K aL (.type "object")=some true) (tM:(W.clsIn K aL).isSome=true) (fW:W.kitOne K (.ref aL) (.ref lX)=some false) (dD:W.kitOne K (.ref aL) (.ref fL)=some false) (cQ:W.kitOne K (.ref aL) (.ref cR)=some false) (d9:W.kitOne K (.ref aL) (.ref iR)=some false) (dM:W.kitOne K (.ref aL) (.ref fD)=some false) (dz:W.kitOne K (.ref aL) (.ref cu)=some true) (dF:W.kitOne K (.ref aL) (.ref fY)=some false) (dR:W.kitOne K (.ref aL) (.ref aL)=some true) (cZ:W.kitOne K (.ref aL) (.ref dH)=some false) (cA:W.kitOne K (.ref aL) (.type "ValueError")=some true):
  ∃fd:FuncData,(∀(s:Shared) (v:Value),BindsTo s fd ⟨[v],[]⟩ [("_law_script",v)])/\∀base:Heap,K.In base->base.Ns mainGlobals mg->G8 l.prog w K mg base (qM l.prog w) XQ fa fd ["_law_script"] (Ld K):=by
 obtain⟨f,oc,od,kV,doc,pm,an,cdv,ct,sl,e1,e2,e3,e4⟩:=FL.ex;have e:=hfa.symm.trans (W.mg_of X G e1);cases e;have FF:=Kg (st:=yS) e2 e3 e4;have B:Bt mg:=⟨W.mg_none_of X G lQ,W.mg_none_of X G Gd,W.mg_none_of X G Ly,W.mg_none_of X G lV,W.mg_none_of X G Mf,W.mg_none_of X G Eb,W.mg_none_of X G MP,W.mg_none_of X G MS,W.mg_none_of X G zy,W.mg_none_of X G Ml,W.mg_none_of X G zR,(let⟨t,q⟩:=cI;⟨t,W.mg_of X G q⟩),(let⟨t,q⟩:=dg;⟨t,W.mg_of X G q⟩),(let⟨t,q⟩:=fH;⟨t,W.mg_of X G q⟩)⟩;refine⟨W.fnOf "law" "law" (aD yS) (aC yS) (aj yS) .none kV doc pm an cdv ct,fun s v=> .of_eq rfl,fun base kB gB=>?_⟩;have M:Ms K mg base lX fL cR iR fD cu fY aL dH:=⟨W.mg_of X G EV,W.mg_of X G wC,W.mg_of X G oY,W.mg_of X G yR,W.mg_of X G vp,W.mg_of X G nO,W.mg_of X G vW,W.mg_of X G qR,W.mg_of X G rH,OB kB gB qR u6 F.excBase_ValueError (by decide),Nz kB fJ fG,⟨tZ,tu,sY,rm,uc,tM⟩,fW,dD,cQ,d9,dM,dz,dF,dR,cZ,cA⟩;have qj:=zf (P:=l.prog) (w:=w) B M (F0.fnA X G);have bw:=HM (P:=l.prog) (w:=w) B M (F1.fnA X G);have rC:=Ce (P:=l.prog) (w:=w) B M (F2.fnA X G) bw;have uN:=Mj (P:=l.prog) (w:=w) B M (F3.fnA X G) bw rC;have lD:=wA (P:=l.prog) (w:=w) B M (F4.fnA X G) bw;have jB:=rR (P:=l.prog) (w:=w) B M (F5.fnA X G) lD;have eG:=Cy (P:=l.prog) (w:=w) B M (F6.fnA X G);have fX:=CM (P:=l.prog) (w:=w) B M (F7.fnA X G) bw eG;have tQ:=Ji (P:=l.prog) (w:=w) B M (F8.fnA X G) uN;have iG:=yO (P:=l.prog) (w:=w) B M (F9.fnA X G) tQ fX;have rW:=Cw (P:=l.prog) (w:=w) B M (F10.fnA X G) bw;have sZ:=BR (P:=l.prog) (w:=w) B M (F11.fnA X G) bw;have dh:=qY (P:=l.prog) (w:=w) B M (F12.fnA X G);have lB:=u0 (P:=l.prog) (w:=w) B M (F13.fnA X G) dh;have jr:=tH (P:=l.prog) (w:=w) B M (F14.fnA X G) dh;have jX:=ur (P:=l.prog) (w:=w) B M (F15.fnA X G) qj;have oB:=B6 (P:=l.prog) (w:=w) B M (F16.fnA X G) fX;have jg:=wk (P:=l.prog) (w:=w) B M (F17.fnA X G) eG bw;have jC:=B4 (P:=l.prog) (w:=w) B M (F18.fnA X G);have vY:=EW (P:=l.prog) (w:=w) B M (F19.fnA X G) uN bw jC;have gM:=oZ (P:=l.prog) (w:=w) B M (F20.fnA X G) oB jX iG jg jC vY;have gP:=oW (P:=l.prog) (w:=w) B M (F21.fnA X G) gM iG;have vh:=GN (P:=l.prog) (w:=w) B M (F22.fnA X G) bw eG;have pU:=za (P:=l.prog) (w:=w) B M (F23.fnA X G) rW vh fX gP;have iB:=zJ (P:=l.prog) (w:=w) B M (F24.fnA X G) pU sZ;have fZ:=nD (P:=l.prog) (w:=w) B M (F25.fnA X G);have pN:=zO (P:=l.prog) (w:=w) B M (F26.fnA X G) bw iB;have lF:=Jb (P:=l.prog) (w:=w) B M (F27.fnA X G) fZ iB lB jB jr pN;have eZ:=zX (P:=l.prog) (w:=w) B M (F28.fnA X G);have gb:=K1 (P:=l.prog) (w:=w) B M (F29.fnA X G);have nA:=wW (P:=l.prog) (w:=w) B M (F30.fnA X G) gb;have cX:=GP (P:=l.prog) (w:=w) B M (F31.fnA X G);have iy:=um (P:=l.prog) (w:=w) B M (F32.fnA X G) gb cX;have cY:=BW (P:=l.prog) (w:=w) B M (F33.fnA X G) cX;have jt:=rT (P:=l.prog) (w:=w) B M (F34.fnA X G) cY cX;have kJ:=vN (P:=l.prog) (w:=w) B M (F35.fnA X G) eZ gb iy jt cX;have pY:=yX (P:=l.prog) (w:=w) B M (F36.fnA X G);have pW:=Ju (P:=l.prog) (w:=w) B M (F37.fnA X G) pY;have sO:=CQ (P:=l.prog) (w:=w) B M (F38.fnA X G) pW cY;have rN:=CV (P:=l.prog) (w:=w) B M (F39.fnA X G) cX;have qO:=FP (P:=l.prog) (w:=w) B M (F40.fnA X G) rN pW cY;have mC:=zG (P:=l.prog) (w:=w) B M (F41.fnA X G) lF;exact O7 B M FF nA eZ kJ gb sO cY qO lF mC
end K33
namespace L2
open PySem PySem.W W.X
theorem IW{q:Program}{loose:List Str}{XP:(Str->Option Value)->Heap->Prop}{K:Params->Frag}{as:List Addr}{n t:Nat}{r:RowW}{d:DefRec}{kwd:List (Str×PySem.Expr)}{run:Value->List Value->Sem Value}(keys:∀P,as=(K P).map (·.1))
  (W:WalkO q loose XP (fun w h=>(K w.params).In h) r d kwd run):WalkX q loose XP (obsZ as) (valZ K n t) r d kwd run:=
 fun w s0 s1 mg mb G y a o pm cd doc dV kV h1 h2 h3 h4 h5 h6 args vals as' L p1 p2 p3 p4 p5=>W w s0 s1 mg mb G (InK.keeps w _ _ (z_facts keys y).2.1 L.keeps) a o pm cd doc dV kV h1 h2 h3 h4 h5 h6 args vals as' p1 p2 p3 p4 p5
end L2
namespace K33
def topF(i:Nat):PySem.Stmt:=PySem.Challenge.pw_nextbyrule_k33_every_so_many.main.body.getD i (.Pass ⟨0,0,0,0⟩)
def pwL:PySem.Program:={ PySem.Challenge.pw_nextbyrule_k33_every_so_many with main:={ PySem.Challenge.pw_nextbyrule_k33_every_so_many.main with body:=[topF 0,topF 1,topF 2,topF 3,topF 4,topF 5,topF 6,topF 7,topF 8,topF 9,topF 10,topF 11,topF 12,topF 13,topF 14,topF 15,topF 16,topF 17,topF 18,topF 19,topF 20,topF 21,topF 22,topF 23,topF 24,topF 25,topF 26,topF 27,topF 28,topF 29,topF 30,topF 31,topF 32,topF 33,topF 34,topF 35,topF 36,topF 37,topF 38,topF 39,topF 40,topF 41,topF 42,topF 43,topF 44,topF 45,topF 46,topF 47,topF 48,topF 49,topF 50,topF 51,topF 52,topF 53,topF 54,topF 55,topF 56,topF 57,topF 58,topF 59,topF 60,topF 61,topF 62,topF 63] } }
def rwL:PySem.W.OpenLaw:={ PySem.Challenge.rw_nextbyrule_k33_every_so_many with prog:=pwL }
end K33
namespace K33
namespace H
noncomputable section
open PySem PySem.W PySem.Calls PyProof.Rows
theorem warm:(K33.pwL.main.body.isEmpty||true)=true:=by k_qdec
abbrev nd(v:Obj)(l r:BT):BT:= .node v l r
abbrev e:BT:= .nil
abbrev kh:=PyData.keyHash
abbrev tt(i:Nat):Stmt:=PySem.W.Fast.tw1727613896926939729 i
def z0:Str:=⟨⟨[95,95,110,97,109,101,95,95]⟩⟩
def z1:Str:=⟨⟨[108,97,119,95,110,101,120,116,98,121,114,117,108,101,95,107,51,51,95,101,118,101,114,121,95,115,111,95,109,97,110,121]⟩⟩
def z2:Str:=⟨⟨[95,95,100,111,99,95,95]⟩⟩
def z3:Str:=⟨⟨[95,95,112,97,99,107,97,103,101,95,95]⟩⟩
def z4:Str:=⟨⟨[95,95,108,111,97,100,101,114,95,95]⟩⟩
def z5:Str:=⟨⟨[95,95,115,112,101,99,95,95]⟩⟩
def z6:Str:=⟨⟨[95,95,97,110,110,111,116,97,116,105,111,110,115,95,95]⟩⟩
def z7:Str:=⟨⟨[95,95,98,117,105,108,116,105,110,115,95,95]⟩⟩
def z8:Str:=⟨⟨[95,95,102,105,108,101,95,95]⟩⟩
def z9:Str:=⟨⟨[47,99,108,97,105,109,47,99,117,116,46,112,121]⟩⟩
def z10:Str:=⟨⟨[95,95,99,97,99,104,101,100,95,95]⟩⟩
def z11:Str:=⟨⟨[82,117,108,101,69,114,114,111,114]⟩⟩
def z12:Str:=⟨⟨[78,111,78,117,109,98,101,114]⟩⟩
def z13:Str:=⟨⟨[78,111,66,121]⟩⟩
def z14:Str:=⟨⟨[78,111,84,101,120,116]⟩⟩
def z15:Str:=⟨⟨[84,111,111,70,97,114]⟩⟩
def z16:Str:=⟨⟨[84,111,111,76,111,110,103]⟩⟩
def z17:Str:=⟨⟨[84,111,111,66,105,103]⟩⟩
def z18:Str:=⟨⟨[78,111,82,111,119]⟩⟩
def z19:Str:=⟨⟨[78,111,78,97,109,101]⟩⟩
def z20:Str:=⟨⟨[105,115,95,112,114,105,109,101]⟩⟩
def z21:Str:=⟨⟨[116,97,107,101,110]⟩⟩
def z22:Str:=⟨⟨[105,110,118,101,114,115,101]⟩⟩
def z23:Str:=⟨⟨[111,118,101,114]⟩⟩
def z24:Str:=⟨⟨[110,101,120,116,95,112,108,97,99,101]⟩⟩
def z25:Str:=⟨⟨[102,105,114,115,116,95,112,108,97,99,101,115]⟩⟩
def z26:Str:=⟨⟨[116,114,105,109,109,101,100]⟩⟩
def z27:Str:=⟨⟨[100,105,118,105,100,101,100]⟩⟩
def z28:Str:=⟨⟨[109,111,110,105,99]⟩⟩
def z29:Str:=⟨⟨[103,114,101,97,116,101,115,116]⟩⟩
def z30:Str:=⟨⟨[111,102,95,114,117,108,101]⟩⟩
def z31:Str:=⟨⟨[114,117,108,101,95,111,102]⟩⟩
def z32:Str:=⟨⟨[98,101,104,105,110,100,95,102,105,114,115,116]⟩⟩
def z33:Str:=⟨⟨[112,111,119,101,114,95,115,117,109,115]⟩⟩
def z34:Str:=⟨⟨[114,117,108,101,95,111,102,95,115,117,109,115]⟩⟩
def z35:Str:=⟨⟨[66,69,76,79,87,95,84,72,69,95,80,82,73,77,69,83]⟩⟩
def z36:Str:=⟨⟨[112,114,105,109,101,95,97,98,111,118,101]⟩⟩
def z37:Str:=⟨⟨[100,105,118,105,100,101,115]⟩⟩
def z38:Str:=⟨⟨[116,97,107,101,110,95,112,111,108,121]⟩⟩
def z39:Str:=⟨⟨[110,101,97,114,101,115,116]⟩⟩
def z40:Str:=⟨⟨[106,111,105,110,101,100]⟩⟩
def z41:Str:=⟨⟨[119,104,111,108,101,95,103,114,101,97,116,101,115,116]⟩⟩
def z42:Str:=⟨⟨[115,104,97,114,101,100,95,100,105,118,105,115,111,114]⟩⟩
def z43:Str:=⟨⟨[116,111,112,95,111,102]⟩⟩
def z44:Str:=⟨⟨[108,101,97,115,116,95,111,102]⟩⟩
def z45:Str:=⟨⟨[115,104,111,114,116,101,115,116]⟩⟩
def z46:Str:=⟨⟨[70,65,82,84,72,69,83,84,95,83,84,65,82,84]⟩⟩
def z47:Str:=⟨⟨[87,73,68,69,83,84,95,83,84,69,80]⟩⟩
def z48:Str:=⟨⟨[114,101,102,117,115,101,95,102,97,114,95,115,116,101,112,115]⟩⟩
def z49:Str:=⟨⟨[116,111,108,100,95,114,111,119]⟩⟩
def z50:Str:=⟨⟨[101,118,101,114,121]⟩⟩
def z51:Str:=⟨⟨[95,108,97,119,95,99,101,108,108,95,97,116]⟩⟩
def z52:Str:=⟨⟨[95,108,97,119,95,109,105,120]⟩⟩
def z53:Str:=⟨⟨[95,108,97,119,95,100,114,97,119,110,95,98,121]⟩⟩
def z54:Str:=⟨⟨[95,108,97,119,95,116,97,107,101,110]⟩⟩
def z55:Str:=⟨⟨[95,108,97,119,95,111,110,101,95,110,117,109,98,101,114]⟩⟩
def z56:Str:=⟨⟨[95,108,97,119,95,109,97,100,101,95,108,111,110,103,101,114]⟩⟩
def z57:Str:=⟨⟨[95,108,97,119,95,100,114,97,119,110,95,114,111,119]⟩⟩
def z58:Str:=⟨⟨[95,108,97,119,95,112,108,97,99,101,115]⟩⟩
def z59:Str:=⟨⟨[95,108,97,119,95,114,97,110,107]⟩⟩
def z60:Str:=⟨⟨[95,108,97,119,95,115,104,111,114,116,101,114]⟩⟩
def z61:Str:=⟨⟨[95,108,97,119,95,108,101,110,103,116,104]⟩⟩
def z62:Str:=⟨⟨[95,108,97,119,95,105,115,95,114,111,119]⟩⟩
def z63:Str:=⟨⟨[95,108,97,119,95,114,105,103,104,116]⟩⟩
def z64:Str:=⟨⟨[95,108,97,119,95,114,101,102,117,115,101,100]⟩⟩
def z65:Str:=⟨⟨[108,97,119]⟩⟩
def z66:Str:=⟨⟨[60,109,111,100,117,108,101,62]⟩⟩
def z67:Str:=⟨⟨[95,95,109,97,105,110,95,95]⟩⟩
def z68:Str:=⟨⟨[95,95,109,111,100,117,108,101,95,95]⟩⟩
def z69:Str:=⟨⟨[110,101,120,116,98,121,114,117,108,101,46,101,114,114,111,114,115]⟩⟩
def z70:Str:=⟨⟨[95,95,113,117,97,108,110,97,109,101,95,95]⟩⟩
def z71:Str:=⟨⟨[95,95,102,105,114,115,116,108,105,110,101,110,111,95,95]⟩⟩
def z72:Str:=⟨⟨[95,95,115,116,97,116,105,99,95,97,116,116,114,105,98,117,116,101,115,95,95]⟩⟩
def z73:Str:=⟨⟨[95,95,119,101,97,107,114,101,102,95,95]⟩⟩
def z74:Str:=⟨⟨[110,117,109,98,101,114]⟩⟩
def z75:Str:=⟨⟨[100,105,118,105,115,111,114]⟩⟩
def z76:Str:=⟨⟨[110,101,120,116,98,121,114,117,108,101,46,110,117,109,98,101,114,115]⟩⟩
def z77:Str:=⟨⟨[98,121]⟩⟩
def z78:Str:=⟨⟨[112,114,105,109,101]⟩⟩
def z79:Str:=⟨⟨[112,111,119,101,114]⟩⟩
def z80:Str:=⟨⟨[115,113,117,97,114,101]⟩⟩
def z81:Str:=⟨⟨[108,101,102,116]⟩⟩
def z82:Str:=⟨⟨[111,110,101]⟩⟩
def z83:Str:=⟨⟨[111,116,104,101,114]⟩⟩
def z84:Str:=⟨⟨[114,117,108,101]⟩⟩
def z85:Str:=⟨⟨[98,101,102,111,114,101]⟩⟩
def z86:Str:=⟨⟨[116,111,116,97,108]⟩⟩
def z87:Str:=⟨⟨[107]⟩⟩
def z88:Str:=⟨⟨[110,101,120,116,98,121,114,117,108,101,46,114,111,119,115]⟩⟩
def z89:Str:=⟨⟨[114,111,119]⟩⟩
def z90:Str:=⟨⟨[99,111,117,110,116]⟩⟩
def z91:Str:=⟨⟨[115,116,97,114,116,115]⟩⟩
def z92:Str:=⟨⟨[102,111,117,110,100]⟩⟩
def z93:Str:=⟨⟨[110,117,109,98,101,114,115]⟩⟩
def z94:Str:=⟨⟨[101,110,100]⟩⟩
def z95:Str:=⟨⟨[110,101,120,116,98,121,114,117,108,101,46,112,111,108,121,115]⟩⟩
def z96:Str:=⟨⟨[116,111,112]⟩⟩
def z97:Str:=⟨⟨[111,102,116,101,110]⟩⟩
def z98:Str:=⟨⟨[115,104,105,102,116]⟩⟩
def z99:Str:=⟨⟨[102,97,99,116,111,114]⟩⟩
def Zy:Str:=⟨⟨[103,114,101,97,116]⟩⟩
def aad:Str:=⟨⟨[115,109,97,108,108]⟩⟩
def Us:Str:=⟨⟨[110,101,120,116,98,121,114,117,108,101,46,112,111,119,101,114,115]⟩⟩
def Yj:Str:=⟨⟨[115,117,109,115]⟩⟩
def aar:Str:=⟨⟨[111,119,110]⟩⟩
def Kl:Str:=⟨⟨[110,101,120,116,98,121,114,117,108,101,46,119,104,111,108,101,115]⟩⟩
def Z2:Str:=⟨⟨[109,111,110,105,99,95,111,110,101]⟩⟩
def YL:Str:=⟨⟨[112,111,108,121]⟩⟩
def Y6:Str:=⟨⟨[109,111,100,117,108,117,115]⟩⟩
def Yn:Str:=⟨⟨[114,101,115,116]⟩⟩
def Z9:Str:=⟨⟨[109,111,114,101]⟩⟩
def Wj:Str:=⟨⟨[110,101,120,116,98,121,114,117,108,101,46,115,104,111,114,116,101,115,116]⟩⟩
def Zd:Str:=⟨⟨[108,101,97,115,116]⟩⟩
def aav:Str:=⟨⟨[115,116,97,114,116]⟩⟩
def ZK:Str:=⟨⟨[115,116,101,112]⟩⟩
def Tn:Str:=⟨⟨[110,101,120,116,98,121,114,117,108,101,46,109,105,120,101,115]⟩⟩
def Y8:Str:=⟨⟨[95,108,97,119,95,115,99,114,105,112,116]⟩⟩
def WT:Str:=⟨⟨[95,108,97,119,95,107]⟩⟩
def Vr:Str:=⟨⟨[95,108,97,119,95,99,101,108,108]⟩⟩
def Rv:Str:=⟨⟨[95,108,97,119,95,110,117,109,98,101,114]⟩⟩
def PF:Str:=⟨⟨[95,108,97,119,95,98,121]⟩⟩
def Zq:Str:=⟨⟨[95,108,97,119,95,102,97,114]⟩⟩
def Z4:Str:=⟨⟨[95,108,97,119,95,115,109,97,108,108]⟩⟩
def Z6:Str:=⟨⟨[95,108,97,119,95,108,97,115,116]⟩⟩
def YF:Str:=⟨⟨[95,108,97,119,95,114,111,119]⟩⟩
def YJ:Str:=⟨⟨[95,108,97,119,95,102,111,117,110,100]⟩⟩
def Ze:Str:=⟨⟨[95,108,97,119,95,109,111,115,116]⟩⟩
def aaf:Str:=⟨⟨[95,108,97,119,95,115,111,109,101]⟩⟩
def aaK:Str:=⟨⟨[95,108,97,119,95,115,105,122,101]⟩⟩
def Zt:Str:=⟨⟨[95,108,97,119,95,115,116,97,114,116]⟩⟩
def aaw:Str:=⟨⟨[95,108,97,119,95,115,116,101,112]⟩⟩
def aao:Str:=⟨⟨[95,108,97,119,95,107,101,112,116]⟩⟩
def aai:Str:=⟨⟨[101]⟩⟩
noncomputable abbrev t0:String:=PySem.W.SL.s14018661285674007319x4
noncomputable abbrev t1:String:=PySem.W.SL.s7097527257260152453x26
noncomputable abbrev t2:String:=PySem.W.SL.s2766695959194262286x5
noncomputable abbrev t3:String:=PySem.W.SL.s5856160107412720595x4
noncomputable abbrev t4:String:=PySem.W.SL.s658472552662922059x5
noncomputable abbrev t5:String:=PySem.W.SL.s6070975301684473832x10
noncomputable abbrev t6:String:=PySem.W.SL.s11030030927630378310x26
noncomputable abbrev t7:String:=PySem.W.SL.s10062305145149207511x16
noncomputable abbrev t8:String:=PySem.W.SL.s17162191345867700912x4
noncomputable abbrev t9:String:=PySem.W.SL.s4209523147560561109x18
noncomputable abbrev t10:String:=PySem.W.SL.s5946037652744460706x9
noncomputable abbrev t11:String:=PySem.W.SL.s4278001404047624695x13
noncomputable abbrev t12:String:=PySem.W.SL.s2742458400755230247x6
noncomputable abbrev t13:String:=PySem.W.SL.s14755015743595814543x17
noncomputable abbrev t14:String:=PySem.W.SL.s10220274742760427390x26
noncomputable abbrev t15:String:=PySem.W.SL.s4290257624100764138x5
noncomputable abbrev t16:String:=PySem.W.SL.s4860613602091757760x24
noncomputable abbrev t17:String:=PySem.W.SL.s7174869446012820540x8
def l3(P:Params):List DictEntry:=[⟨kh P z0,.str z0 165,.str z1 595⟩,⟨kh P z2,.str z2 166,.none⟩,⟨kh P z3,.str z3 167,.none⟩,⟨kh P z4,.str z4 168,.builtin t1⟩,⟨kh P z5,.str z5 169,.none⟩,⟨kh P z6,.str z6 170,.ref 6⟩,⟨kh P z7,.str z7 171,.ref 4⟩,⟨kh P z8,.str z8 173,.str z9 172⟩,⟨kh P z10,.str z10 174,.none⟩,⟨kh P z11,.str z11 206,.ref 24⟩,⟨kh P z12,.str z12 222,.ref 37⟩,⟨kh P z13,.str z13 238,.ref 49⟩,⟨kh P z14,.str z14 254,.ref 61⟩,⟨kh P z15,.str z15 270,.ref 73⟩,⟨kh P z16,.str z16 286,.ref 85⟩,⟨kh P z17,.str z17 302,.ref 97⟩,⟨kh P z18,.str z18 318,.ref 109⟩,⟨kh P z19,.str z19 334,.ref 121⟩,⟨kh P z20,.str z20 344,.ref 130⟩,⟨kh P z21,.str z21 352,.ref 137⟩,⟨kh P z22,.str z22 363,.ref 144⟩,⟨kh P z23,.str z23 372,.ref 151⟩,⟨kh P z24,.str z24 385,.ref 158⟩,⟨kh P z25,.str z25 397,.ref 165⟩,⟨kh P z26,.str z26 407,.ref 172⟩,⟨kh P z27,.str z27 422,.ref 179⟩,⟨kh P z28,.str z28 428,.ref 184⟩,⟨kh P z29,.str z29 440,.ref 191⟩,⟨kh P z30,.str z30 446,.ref 196⟩,⟨kh P z31,.str z31 452,.ref 201⟩,⟨kh P z32,.str z32 460,.ref 206⟩,⟨kh P z33,.str z33 471,.ref 213⟩,⟨kh P z34,.str z34 480,.ref 220⟩,⟨kh P z35,.str z35 484,.int 1000000 483⟩,⟨kh P z36,.str z36 492,.ref 227⟩,⟨kh P z37,.str z37 500,.ref 234⟩,⟨kh P z38,.str z38 506,.ref 239⟩,⟨kh P z39,.str z39 515,.ref 246⟩,⟨kh P z40,.str z40 526,.ref 253⟩,⟨kh P z41,.str z41 532,.ref 258⟩,⟨kh P z42,.str z42 541,.ref 265⟩,⟨kh P z43,.str z43 549,.ref 270⟩,⟨kh P z44,.str z44 559,.ref 277⟩,⟨kh P z45,.str z45 568,.ref 284⟩,⟨kh P z46,.str z46 572,.int 100 571⟩,⟨kh P z47,.str z47 574,.int 10 573⟩,⟨kh P z48,.str z48 582,.ref 291⟩,⟨kh P z49,.str z49 588,.ref 296⟩,⟨kh P z50,.str z50 594,.ref 301⟩,⟨kh P z51,.str z51 604,.ref 308⟩,⟨kh P z52,.str z52 613,.ref 315⟩,⟨kh P z53,.str z53 620,.ref 322⟩,⟨kh P z54,.str z54 628,.ref 329⟩,⟨kh P z55,.str z55 639,.ref 336⟩,⟨kh P z56,.str z56 645,.ref 341⟩,⟨kh P z57,.str z57 651,.ref 346⟩,⟨kh P z58,.str z58 657,.ref 351⟩,⟨kh P z59,.str z59 663,.ref 356⟩,⟨kh P z60,.str z60 672,.ref 363⟩,⟨kh P z61,.str z61 679,.ref 370⟩,⟨kh P z62,.str z62 688,.ref 377⟩,⟨kh P z63,.str z63 699,.ref 384⟩,⟨kh P z64,.str z64 710,.ref 391⟩,⟨kh P z65,.str z65 716,.ref 396⟩]
def o3(P:Params):Obj:=⟨.type t0,.none,.dict ⟨l3 P⟩ 64,⟨[]⟩⟩
def aaq(P:Params):Obj:=⟨.type t0,.none,.dict ⟨[⟨kh P z0,.str z0 165,.str z69 187⟩,⟨kh P z2,.str z2 166,.none⟩,⟨kh P z3,.str z3 167,.none⟩,⟨kh P z4,.str z4 168,.builtin t1⟩,⟨kh P z5,.str z5 169,.none⟩,⟨kh P z6,.str z6 170,.ref 6⟩,⟨kh P z7,.str z7 171,.ref 4⟩,⟨kh P z8,.str z8 173,.str z9 172⟩,⟨kh P z10,.str z10 174,.none⟩,⟨kh P z11,.str z11 206,.ref 24⟩]⟩ 10,⟨[]⟩⟩
def aaj(P:Params):Obj:=⟨.type t0,.none,.dict ⟨[⟨kh P z0,.str z0 165,.str z69 187⟩,⟨kh P z2,.str z2 166,.none⟩,⟨kh P z3,.str z3 167,.none⟩,⟨kh P z4,.str z4 168,.builtin t1⟩,⟨kh P z5,.str z5 169,.none⟩,⟨kh P z6,.str z6 170,.ref 6⟩,⟨kh P z7,.str z7 171,.ref 4⟩,⟨kh P z8,.str z8 173,.str z9 172⟩,⟨kh P z10,.str z10 174,.none⟩,⟨kh P z11,.str z11 206,.ref 24⟩,⟨kh P z12,.str z12 222,.ref 37⟩]⟩ 11,⟨[]⟩⟩
def aaF(P:Params):Obj:=⟨.type t0,.none,.dict ⟨[⟨kh P z0,.str z0 165,.str z69 187⟩,⟨kh P z2,.str z2 166,.none⟩,⟨kh P z3,.str z3 167,.none⟩,⟨kh P z4,.str z4 168,.builtin t1⟩,⟨kh P z5,.str z5 169,.none⟩,⟨kh P z6,.str z6 170,.ref 6⟩,⟨kh P z7,.str z7 171,.ref 4⟩,⟨kh P z8,.str z8 173,.str z9 172⟩,⟨kh P z10,.str z10 174,.none⟩,⟨kh P z11,.str z11 206,.ref 24⟩,⟨kh P z12,.str z12 222,.ref 37⟩,⟨kh P z13,.str z13 238,.ref 49⟩]⟩ 12,⟨[]⟩⟩
def V0(P:Params):Obj:=⟨.type t0,.none,.dict ⟨[⟨kh P z0,.str z0 165,.str z69 187⟩,⟨kh P z2,.str z2 166,.none⟩,⟨kh P z3,.str z3 167,.none⟩,⟨kh P z4,.str z4 168,.builtin t1⟩,⟨kh P z5,.str z5 169,.none⟩,⟨kh P z6,.str z6 170,.ref 6⟩,⟨kh P z7,.str z7 171,.ref 4⟩,⟨kh P z8,.str z8 173,.str z9 172⟩,⟨kh P z10,.str z10 174,.none⟩,⟨kh P z11,.str z11 206,.ref 24⟩,⟨kh P z12,.str z12 222,.ref 37⟩,⟨kh P z13,.str z13 238,.ref 49⟩,⟨kh P z14,.str z14 254,.ref 61⟩]⟩ 13,⟨[]⟩⟩
def Ug(P:Params):Obj:=⟨.type t0,.none,.dict ⟨[⟨kh P z0,.str z0 165,.str z69 187⟩,⟨kh P z2,.str z2 166,.none⟩,⟨kh P z3,.str z3 167,.none⟩,⟨kh P z4,.str z4 168,.builtin t1⟩,⟨kh P z5,.str z5 169,.none⟩,⟨kh P z6,.str z6 170,.ref 6⟩,⟨kh P z7,.str z7 171,.ref 4⟩,⟨kh P z8,.str z8 173,.str z9 172⟩,⟨kh P z10,.str z10 174,.none⟩,⟨kh P z11,.str z11 206,.ref 24⟩,⟨kh P z12,.str z12 222,.ref 37⟩,⟨kh P z13,.str z13 238,.ref 49⟩,⟨kh P z14,.str z14 254,.ref 61⟩,⟨kh P z15,.str z15 270,.ref 73⟩]⟩ 14,⟨[]⟩⟩
def VB(P:Params):Obj:=⟨.type t0,.none,.dict ⟨[⟨kh P z0,.str z0 165,.str z69 187⟩,⟨kh P z2,.str z2 166,.none⟩,⟨kh P z3,.str z3 167,.none⟩,⟨kh P z4,.str z4 168,.builtin t1⟩,⟨kh P z5,.str z5 169,.none⟩,⟨kh P z6,.str z6 170,.ref 6⟩,⟨kh P z7,.str z7 171,.ref 4⟩,⟨kh P z8,.str z8 173,.str z9 172⟩,⟨kh P z10,.str z10 174,.none⟩,⟨kh P z11,.str z11 206,.ref 24⟩,⟨kh P z12,.str z12 222,.ref 37⟩,⟨kh P z13,.str z13 238,.ref 49⟩,⟨kh P z14,.str z14 254,.ref 61⟩,⟨kh P z15,.str z15 270,.ref 73⟩,⟨kh P z16,.str z16 286,.ref 85⟩]⟩ 15,⟨[]⟩⟩
def X4(P:Params):Obj:=⟨.type t0,.none,.dict ⟨[⟨kh P z0,.str z0 165,.str z69 187⟩,⟨kh P z2,.str z2 166,.none⟩,⟨kh P z3,.str z3 167,.none⟩,⟨kh P z4,.str z4 168,.builtin t1⟩,⟨kh P z5,.str z5 169,.none⟩,⟨kh P z6,.str z6 170,.ref 6⟩,⟨kh P z7,.str z7 171,.ref 4⟩,⟨kh P z8,.str z8 173,.str z9 172⟩,⟨kh P z10,.str z10 174,.none⟩,⟨kh P z11,.str z11 206,.ref 24⟩,⟨kh P z12,.str z12 222,.ref 37⟩,⟨kh P z13,.str z13 238,.ref 49⟩,⟨kh P z14,.str z14 254,.ref 61⟩,⟨kh P z15,.str z15 270,.ref 73⟩,⟨kh P z16,.str z16 286,.ref 85⟩,⟨kh P z17,.str z17 302,.ref 97⟩]⟩ 16,⟨[]⟩⟩
def U4(P:Params):Obj:=⟨.type t0,.none,.dict ⟨[⟨kh P z0,.str z0 165,.str z69 187⟩,⟨kh P z2,.str z2 166,.none⟩,⟨kh P z3,.str z3 167,.none⟩,⟨kh P z4,.str z4 168,.builtin t1⟩,⟨kh P z5,.str z5 169,.none⟩,⟨kh P z6,.str z6 170,.ref 6⟩,⟨kh P z7,.str z7 171,.ref 4⟩,⟨kh P z8,.str z8 173,.str z9 172⟩,⟨kh P z10,.str z10 174,.none⟩,⟨kh P z11,.str z11 206,.ref 24⟩,⟨kh P z12,.str z12 222,.ref 37⟩,⟨kh P z13,.str z13 238,.ref 49⟩,⟨kh P z14,.str z14 254,.ref 61⟩,⟨kh P z15,.str z15 270,.ref 73⟩,⟨kh P z16,.str z16 286,.ref 85⟩,⟨kh P z17,.str z17 302,.ref 97⟩,⟨kh P z18,.str z18 318,.ref 109⟩]⟩ 17,⟨[]⟩⟩
def V9(P:Params):Obj:=⟨.type t0,.none,.dict ⟨[⟨kh P z0,.str z0 165,.str z88 373⟩,⟨kh P z2,.str z2 166,.none⟩,⟨kh P z3,.str z3 167,.none⟩,⟨kh P z4,.str z4 168,.builtin t1⟩,⟨kh P z5,.str z5 169,.none⟩,⟨kh P z6,.str z6 170,.ref 6⟩,⟨kh P z7,.str z7 171,.ref 4⟩,⟨kh P z8,.str z8 173,.str z9 172⟩,⟨kh P z10,.str z10 174,.none⟩,⟨kh P z11,.str z11 206,.ref 24⟩,⟨kh P z12,.str z12 222,.ref 37⟩,⟨kh P z13,.str z13 238,.ref 49⟩,⟨kh P z14,.str z14 254,.ref 61⟩,⟨kh P z15,.str z15 270,.ref 73⟩,⟨kh P z16,.str z16 286,.ref 85⟩,⟨kh P z17,.str z17 302,.ref 97⟩,⟨kh P z18,.str z18 318,.ref 109⟩,⟨kh P z19,.str z19 334,.ref 121⟩,⟨kh P z20,.str z20 344,.ref 130⟩,⟨kh P z21,.str z21 352,.ref 137⟩,⟨kh P z22,.str z22 363,.ref 144⟩,⟨kh P z23,.str z23 372,.ref 151⟩,⟨kh P z24,.str z24 385,.ref 158⟩]⟩ 23,⟨[]⟩⟩
def SR(P:Params):Obj:=⟨.type t0,.none,.dict ⟨[⟨kh P z0,.str z0 165,.str Kl 481⟩,⟨kh P z2,.str z2 166,.none⟩,⟨kh P z3,.str z3 167,.none⟩,⟨kh P z4,.str z4 168,.builtin t1⟩,⟨kh P z5,.str z5 169,.none⟩,⟨kh P z6,.str z6 170,.ref 6⟩,⟨kh P z7,.str z7 171,.ref 4⟩,⟨kh P z8,.str z8 173,.str z9 172⟩,⟨kh P z10,.str z10 174,.none⟩,⟨kh P z11,.str z11 206,.ref 24⟩,⟨kh P z12,.str z12 222,.ref 37⟩,⟨kh P z13,.str z13 238,.ref 49⟩,⟨kh P z14,.str z14 254,.ref 61⟩,⟨kh P z15,.str z15 270,.ref 73⟩,⟨kh P z16,.str z16 286,.ref 85⟩,⟨kh P z17,.str z17 302,.ref 97⟩,⟨kh P z18,.str z18 318,.ref 109⟩,⟨kh P z19,.str z19 334,.ref 121⟩,⟨kh P z20,.str z20 344,.ref 130⟩,⟨kh P z21,.str z21 352,.ref 137⟩,⟨kh P z22,.str z22 363,.ref 144⟩,⟨kh P z23,.str z23 372,.ref 151⟩,⟨kh P z24,.str z24 385,.ref 158⟩,⟨kh P z25,.str z25 397,.ref 165⟩,⟨kh P z26,.str z26 407,.ref 172⟩,⟨kh P z27,.str z27 422,.ref 179⟩,⟨kh P z28,.str z28 428,.ref 184⟩,⟨kh P z29,.str z29 440,.ref 191⟩,⟨kh P z30,.str z30 446,.ref 196⟩,⟨kh P z31,.str z31 452,.ref 201⟩,⟨kh P z32,.str z32 460,.ref 206⟩,⟨kh P z33,.str z33 471,.ref 213⟩,⟨kh P z34,.str z34 480,.ref 220⟩,⟨kh P z35,.str z35 484,.int 1000000 483⟩,⟨kh P z36,.str z36 492,.ref 227⟩,⟨kh P z37,.str z37 500,.ref 234⟩]⟩ 36,⟨[]⟩⟩
def TR(P:Params):Obj:=⟨.type t0,.none,.dict ⟨(l3 P).take 50⟩ 50,⟨[]⟩⟩
def Wl(P:Params):Obj:=⟨.type t0,.none,.dict ⟨(l3 P).take 63⟩ 63,⟨[]⟩⟩
def o11:Obj:=⟨.type t2,.none,.seq ⟨[]⟩ 0,⟨[]⟩⟩
def l12:List Value:=[.int 2 0,.int 0 0,.ref 20,.int 4 0,.int 0 0,.ref 33,.int 6 0,.int 0 0,.ref 45,.int 8 0,.int 0 0,.ref 57,.int 10 0,.int 0 0,.ref 69,.int 12 0,.int 0 0,.ref 81,.int 14 0,.int 0 0,.ref 93,.int 16 0,.int 0 0,.ref 105,.int 18 0,.int 0 0,.ref 117,.int 21 0,.int 0 0,.ref 129,.int 30 0,.int 0 0,.ref 136,.int 34 0,.int 0 0,.ref 143,.int 44 0,.int 0 0,.ref 150,.int 51 0,.int 0 0,.ref 157,.int 56 0,.int 0 0,.ref 164,.int 65 0,.int 0 0,.ref 171,.int 70 0,.int 0 0,.ref 178,.int 80 0,.int 0 0,.ref 183,.int 85 0,.int 0 0,.ref 190,.int 93 0,.int 0 0,.ref 195,.int 97 0,.int 0 0,.ref 200,.int 101 0,.int 0 0,.ref 205,.int 104 0,.int 0 0,.ref 212,.int 110 0,.int 0 0,.ref 219,.int 117 0,.int 0 0,.ref 226,.int 122 0,.int 0 0,.ref 233,.int 124 0,.int 0 0,.ref 238,.int 126 0,.int 0 0,.ref 245,.int 129 0,.int 0 0,.ref 252,.int 132 0,.int 0 0,.ref 257,.int 150 0,.int 0 0,.ref 264,.int 153 0,.int 0 0,.ref 269,.int 161 0,.int 0 0,.ref 276,.int 166 0,.int 0 0,.ref 283,.int 173 0,.int 0 0,.ref 290,.int 176 0,.int 0 0,.ref 295,.int 180 0,.int 0 0,.ref 300,.int 189 0,.int 0 0,.ref 307,.int 193 0,.int 0 0,.ref 314,.int 197 0,.int 0 0,.ref 321,.int 199 0,.int 0 0,.ref 328,.int 203 0,.int 0 0,.ref 335,.int 207 0,.int 0 0,.ref 340,.int 215 0,.int 0 0,.ref 345,.int 225 0,.int 0 0,.ref 350,.int 232 0,.int 0 0,.ref 355,.int 248 0,.int 0 0,.ref 362,.int 252 0,.int 0 0,.ref 369,.int 254 0,.int 0 0,.ref 376,.int 263 0,.int 0 0,.ref 383,.int 268 0,.int 0 0,.ref 390,.int 277 0,.int 0 0,.ref 395]
def o12:Obj:=⟨.none,.none,.fields ⟨l12⟩,⟨[]⟩⟩
def O3:Obj:=⟨.none,.none,.fields ⟨l12.take 0⟩,⟨[]⟩⟩
def W4:Obj:=⟨.none,.none,.fields ⟨l12.take 3⟩,⟨[]⟩⟩
def X6:Obj:=⟨.none,.none,.fields ⟨l12.take 6⟩,⟨[]⟩⟩
def WH:Obj:=⟨.none,.none,.fields ⟨l12.take 9⟩,⟨[]⟩⟩
def Qh:Obj:=⟨.none,.none,.fields ⟨l12.take 12⟩,⟨[]⟩⟩
def PK:Obj:=⟨.none,.none,.fields ⟨l12.take 15⟩,⟨[]⟩⟩
def Ri:Obj:=⟨.none,.none,.fields ⟨l12.take 18⟩,⟨[]⟩⟩
def PL:Obj:=⟨.none,.none,.fields ⟨l12.take 21⟩,⟨[]⟩⟩
def N7:Obj:=⟨.none,.none,.fields ⟨l12.take 24⟩,⟨[]⟩⟩
def QJ:Obj:=⟨.none,.none,.fields ⟨l12.take 42⟩,⟨[]⟩⟩
def OD:Obj:=⟨.none,.none,.fields ⟨l12.take 78⟩,⟨[]⟩⟩
def Qj:Obj:=⟨.none,.none,.fields ⟨l12.take 114⟩,⟨[]⟩⟩
def PN:Obj:=⟨.none,.none,.fields ⟨l12.take 153⟩,⟨[]⟩⟩
def o13:Obj:=⟨.type t3,.none,.fields ⟨[.str z66 182,.str z66 183,.str z9 184,.int 1 0,.int 0 0,.int 0 0,.int 0 0,.int 0 0,.ref 11,.bool false,.int 181 0,.ref 12,.none,.none,.none,.none,.int 185 0,.int 1 0,.str z9 186]⟩,⟨[]⟩⟩
def o14:Obj:=⟨.type t4,.none,.plain,⟨[.some (.ref 13),.some (.ref 3),.some (.ref 3),.none,.some (.str z67 164),.none,.some (.ref 0)]⟩⟩
def o15:Obj:=⟨.type t2,.none,.seq ⟨[.type t5]⟩ 0,⟨[]⟩⟩
def o16:Obj:=⟨.type t6,.none,.fields ⟨[.builtin t7,.type t8]⟩,⟨[]⟩⟩
def o17(P:Params):Obj:=⟨.type t0,.none,.dict ⟨[⟨kh P z68,.str z68 196,.str z69 187⟩,⟨kh P z70,.str z70 198,.str z11 197⟩,⟨kh P z71,.str z71 200,.int 2 199⟩,⟨kh P z72,.str z72 201,.ref 22⟩]⟩ 4,⟨[]⟩⟩
def o19:Obj:=⟨.none,.none,.fields ⟨[]⟩,⟨[]⟩⟩
def o20:Obj:=⟨.type t3,.none,.fields ⟨[.str z11 191,.str z11 192,.str z9 193,.int 2 0,.int 0 0,.int 0 0,.int 0 0,.int 0 0,.ref 18,.bool false,.int 181 0,.ref 19,.none,.none,.none,.none,.int 194 0,.int 2 0,.str z9 195]⟩,⟨[]⟩⟩
def o21:Obj:=⟨.type t4,.none,.plain,⟨[.some (.ref 20),.some (.ref 3),.some (.ref 17),.none,.some (.str z69 187),.none,.some (.ref 0)]⟩⟩
def o23(P:Params):Obj:=⟨.type t0,.none,.dict ⟨[⟨kh P z68,.str z68 196,.str z69 187⟩,⟨kh P z71,.str z71 200,.int 2 199⟩,⟨kh P z72,.str z72 201,.ref 22⟩,⟨kh P z73,.str z73 203,.ref 25⟩,⟨kh P z2,.str z2 204,.none⟩]⟩ 3,⟨[]⟩⟩
def o24:Obj:=⟨.type t8,.none,.cls ⟨z11,[.type t5],[.ref 24,.type t5,.type t10,.type t11,.type t12],23,z11,true,[],[.ref 37,.ref 49,.ref 61,.ref 73,.ref 85,.ref 97,.ref 109,.ref 121],false,.none,false⟩,⟨[.some (.ref 15),.none,.some (.str z11 189),.some (.str z11 197),.some (.builtin t9),.some (.bool true)]⟩⟩
def Wv:Obj:=⟨.type t8,.none,.cls ⟨z11,[.type t5],[.ref 24,.type t5,.type t10,.type t11,.type t12],23,z11,true,[],[],false,.none,false⟩,⟨[.some (.ref 15),.none,.some (.str z11 189),.some (.str z11 197),.some (.builtin t9),.some (.bool true)]⟩⟩
def Wm:Obj:=⟨.type t8,.none,.cls ⟨z11,[.type t5],[.ref 24,.type t5,.type t10,.type t11,.type t12],23,z11,true,[],[.ref 37],false,.none,false⟩,⟨[.some (.ref 15),.none,.some (.str z11 189),.some (.str z11 197),.some (.builtin t9),.some (.bool true)]⟩⟩
def TJ:Obj:=⟨.type t8,.none,.cls ⟨z11,[.type t5],[.ref 24,.type t5,.type t10,.type t11,.type t12],23,z11,true,[],[.ref 37,.ref 49],false,.none,false⟩,⟨[.some (.ref 15),.none,.some (.str z11 189),.some (.str z11 197),.some (.builtin t9),.some (.bool true)]⟩⟩
def N6:Obj:=⟨.type t8,.none,.cls ⟨z11,[.type t5],[.ref 24,.type t5,.type t10,.type t11,.type t12],23,z11,true,[],[.ref 37,.ref 49,.ref 61],false,.none,false⟩,⟨[.some (.ref 15),.none,.some (.str z11 189),.some (.str z11 197),.some (.builtin t9),.some (.bool true)]⟩⟩
def Rf:Obj:=⟨.type t8,.none,.cls ⟨z11,[.type t5],[.ref 24,.type t5,.type t10,.type t11,.type t12],23,z11,true,[],[.ref 37,.ref 49,.ref 61,.ref 73],false,.none,false⟩,⟨[.some (.ref 15),.none,.some (.str z11 189),.some (.str z11 197),.some (.builtin t9),.some (.bool true)]⟩⟩
def Qi:Obj:=⟨.type t8,.none,.cls ⟨z11,[.type t5],[.ref 24,.type t5,.type t10,.type t11,.type t12],23,z11,true,[],[.ref 37,.ref 49,.ref 61,.ref 73,.ref 85],false,.none,false⟩,⟨[.some (.ref 15),.none,.some (.str z11 189),.some (.str z11 197),.some (.builtin t9),.some (.bool true)]⟩⟩
def NK:Obj:=⟨.type t8,.none,.cls ⟨z11,[.type t5],[.ref 24,.type t5,.type t10,.type t11,.type t12],23,z11,true,[],[.ref 37,.ref 49,.ref 61,.ref 73,.ref 85,.ref 97],false,.none,false⟩,⟨[.some (.ref 15),.none,.some (.str z11 189),.some (.str z11 197),.some (.builtin t9),.some (.bool true)]⟩⟩
def O5:Obj:=⟨.type t8,.none,.cls ⟨z11,[.type t5],[.ref 24,.type t5,.type t10,.type t11,.type t12],23,z11,true,[],[.ref 37,.ref 49,.ref 61,.ref 73,.ref 85,.ref 97,.ref 109],false,.none,false⟩,⟨[.some (.ref 15),.none,.some (.str z11 189),.some (.str z11 197),.some (.builtin t9),.some (.bool true)]⟩⟩
def o25:Obj:=⟨.type t13,.none,.fields ⟨[.str z73 202,.ref 24,.builtin t14,.none]⟩,⟨[]⟩⟩
def o26:Obj:=⟨.type t15,.none,.fields ⟨[.ref 24,.ref 24,.ref 24]⟩,⟨[]⟩⟩
def o27:Obj:=⟨.type t6,.none,.fields ⟨[.builtin t16,.ref 24]⟩,⟨[]⟩⟩
def o28:Obj:=⟨.type t2,.none,.seq ⟨[.ref 24]⟩ 0,⟨[]⟩⟩
def o30(P:Params):Obj:=⟨.type t0,.none,.dict ⟨[⟨kh P z68,.str z68 214,.str z69 187⟩,⟨kh P z70,.str z70 216,.str z12 215⟩,⟨kh P z71,.str z71 218,.int 4 217⟩,⟨kh P z72,.str z72 219,.ref 35⟩]⟩ 4,⟨[]⟩⟩
def o33:Obj:=⟨.type t3,.none,.fields ⟨[.str z12 209,.str z12 210,.str z9 211,.int 4 0,.int 0 0,.int 0 0,.int 0 0,.int 0 0,.ref 31,.bool false,.int 181 0,.ref 32,.none,.none,.none,.none,.int 212 0,.int 4 0,.str z9 213]⟩,⟨[]⟩⟩
def o34:Obj:=⟨.type t4,.none,.plain,⟨[.some (.ref 33),.some (.ref 3),.some (.ref 30),.none,.some (.str z69 187),.none,.some (.ref 0)]⟩⟩
def o36(P:Params):Obj:=⟨.type t0,.none,.dict ⟨[⟨kh P z68,.str z68 214,.str z69 187⟩,⟨kh P z71,.str z71 218,.int 4 217⟩,⟨kh P z72,.str z72 219,.ref 35⟩,⟨kh P z2,.str z2 220,.none⟩]⟩ 2,⟨[]⟩⟩
def o37:Obj:=⟨.type t8,.none,.cls ⟨z12,[.ref 24],[.ref 37,.ref 24,.type t5,.type t10,.type t11,.type t12],36,z12,true,[],[],false,.none,false⟩,⟨[.some (.ref 28),.none,.some (.str z12 207),.some (.str z12 215),.some (.builtin t9),.some (.bool true)]⟩⟩
def o38:Obj:=⟨.type t15,.none,.fields ⟨[.ref 37,.ref 37,.ref 37]⟩,⟨[]⟩⟩
def o39:Obj:=⟨.type t6,.none,.fields ⟨[.builtin t16,.ref 37]⟩,⟨[]⟩⟩
def o42(P:Params):Obj:=⟨.type t0,.none,.dict ⟨[⟨kh P z68,.str z68 230,.str z69 187⟩,⟨kh P z70,.str z70 232,.str z13 231⟩,⟨kh P z71,.str z71 234,.int 6 233⟩,⟨kh P z72,.str z72 235,.ref 47⟩]⟩ 4,⟨[]⟩⟩
def o45:Obj:=⟨.type t3,.none,.fields ⟨[.str z13 225,.str z13 226,.str z9 227,.int 6 0,.int 0 0,.int 0 0,.int 0 0,.int 0 0,.ref 43,.bool false,.int 181 0,.ref 44,.none,.none,.none,.none,.int 228 0,.int 6 0,.str z9 229]⟩,⟨[]⟩⟩
def o46:Obj:=⟨.type t4,.none,.plain,⟨[.some (.ref 45),.some (.ref 3),.some (.ref 42),.none,.some (.str z69 187),.none,.some (.ref 0)]⟩⟩
def o48(P:Params):Obj:=⟨.type t0,.none,.dict ⟨[⟨kh P z68,.str z68 230,.str z69 187⟩,⟨kh P z71,.str z71 234,.int 6 233⟩,⟨kh P z72,.str z72 235,.ref 47⟩,⟨kh P z2,.str z2 236,.none⟩]⟩ 2,⟨[]⟩⟩
def o49:Obj:=⟨.type t8,.none,.cls ⟨z13,[.ref 24],[.ref 49,.ref 24,.type t5,.type t10,.type t11,.type t12],48,z13,true,[],[],false,.none,false⟩,⟨[.some (.ref 40),.none,.some (.str z13 223),.some (.str z13 231),.some (.builtin t9),.some (.bool true)]⟩⟩
def o50:Obj:=⟨.type t15,.none,.fields ⟨[.ref 49,.ref 49,.ref 49]⟩,⟨[]⟩⟩
def o51:Obj:=⟨.type t6,.none,.fields ⟨[.builtin t16,.ref 49]⟩,⟨[]⟩⟩
def o54(P:Params):Obj:=⟨.type t0,.none,.dict ⟨[⟨kh P z68,.str z68 246,.str z69 187⟩,⟨kh P z70,.str z70 248,.str z14 247⟩,⟨kh P z71,.str z71 250,.int 8 249⟩,⟨kh P z72,.str z72 251,.ref 59⟩]⟩ 4,⟨[]⟩⟩
def o57:Obj:=⟨.type t3,.none,.fields ⟨[.str z14 241,.str z14 242,.str z9 243,.int 8 0,.int 0 0,.int 0 0,.int 0 0,.int 0 0,.ref 55,.bool false,.int 181 0,.ref 56,.none,.none,.none,.none,.int 244 0,.int 8 0,.str z9 245]⟩,⟨[]⟩⟩
def o58:Obj:=⟨.type t4,.none,.plain,⟨[.some (.ref 57),.some (.ref 3),.some (.ref 54),.none,.some (.str z69 187),.none,.some (.ref 0)]⟩⟩
def o60(P:Params):Obj:=⟨.type t0,.none,.dict ⟨[⟨kh P z68,.str z68 246,.str z69 187⟩,⟨kh P z71,.str z71 250,.int 8 249⟩,⟨kh P z72,.str z72 251,.ref 59⟩,⟨kh P z2,.str z2 252,.none⟩]⟩ 2,⟨[]⟩⟩
def o61:Obj:=⟨.type t8,.none,.cls ⟨z14,[.ref 24],[.ref 61,.ref 24,.type t5,.type t10,.type t11,.type t12],60,z14,true,[],[],false,.none,false⟩,⟨[.some (.ref 52),.none,.some (.str z14 239),.some (.str z14 247),.some (.builtin t9),.some (.bool true)]⟩⟩
def o62:Obj:=⟨.type t15,.none,.fields ⟨[.ref 61,.ref 61,.ref 61]⟩,⟨[]⟩⟩
def o63:Obj:=⟨.type t6,.none,.fields ⟨[.builtin t16,.ref 61]⟩,⟨[]⟩⟩
def o66(P:Params):Obj:=⟨.type t0,.none,.dict ⟨[⟨kh P z68,.str z68 262,.str z69 187⟩,⟨kh P z70,.str z70 264,.str z15 263⟩,⟨kh P z71,.str z71 266,.int 10 265⟩,⟨kh P z72,.str z72 267,.ref 71⟩]⟩ 4,⟨[]⟩⟩
def o69:Obj:=⟨.type t3,.none,.fields ⟨[.str z15 257,.str z15 258,.str z9 259,.int 10 0,.int 0 0,.int 0 0,.int 0 0,.int 0 0,.ref 67,.bool false,.int 181 0,.ref 68,.none,.none,.none,.none,.int 260 0,.int 10 0,.str z9 261]⟩,⟨[]⟩⟩
def o70:Obj:=⟨.type t4,.none,.plain,⟨[.some (.ref 69),.some (.ref 3),.some (.ref 66),.none,.some (.str z69 187),.none,.some (.ref 0)]⟩⟩
def o72(P:Params):Obj:=⟨.type t0,.none,.dict ⟨[⟨kh P z68,.str z68 262,.str z69 187⟩,⟨kh P z71,.str z71 266,.int 10 265⟩,⟨kh P z72,.str z72 267,.ref 71⟩,⟨kh P z2,.str z2 268,.none⟩]⟩ 2,⟨[]⟩⟩
def o73:Obj:=⟨.type t8,.none,.cls ⟨z15,[.ref 24],[.ref 73,.ref 24,.type t5,.type t10,.type t11,.type t12],72,z15,true,[],[],false,.none,false⟩,⟨[.some (.ref 64),.none,.some (.str z15 255),.some (.str z15 263),.some (.builtin t9),.some (.bool true)]⟩⟩
def o74:Obj:=⟨.type t15,.none,.fields ⟨[.ref 73,.ref 73,.ref 73]⟩,⟨[]⟩⟩
def o75:Obj:=⟨.type t6,.none,.fields ⟨[.builtin t16,.ref 73]⟩,⟨[]⟩⟩
def o78(P:Params):Obj:=⟨.type t0,.none,.dict ⟨[⟨kh P z68,.str z68 278,.str z69 187⟩,⟨kh P z70,.str z70 280,.str z16 279⟩,⟨kh P z71,.str z71 282,.int 12 281⟩,⟨kh P z72,.str z72 283,.ref 83⟩]⟩ 4,⟨[]⟩⟩
def o81:Obj:=⟨.type t3,.none,.fields ⟨[.str z16 273,.str z16 274,.str z9 275,.int 12 0,.int 0 0,.int 0 0,.int 0 0,.int 0 0,.ref 79,.bool false,.int 181 0,.ref 80,.none,.none,.none,.none,.int 276 0,.int 12 0,.str z9 277]⟩,⟨[]⟩⟩
def o82:Obj:=⟨.type t4,.none,.plain,⟨[.some (.ref 81),.some (.ref 3),.some (.ref 78),.none,.some (.str z69 187),.none,.some (.ref 0)]⟩⟩
def o84(P:Params):Obj:=⟨.type t0,.none,.dict ⟨[⟨kh P z68,.str z68 278,.str z69 187⟩,⟨kh P z71,.str z71 282,.int 12 281⟩,⟨kh P z72,.str z72 283,.ref 83⟩,⟨kh P z2,.str z2 284,.none⟩]⟩ 2,⟨[]⟩⟩
def o85:Obj:=⟨.type t8,.none,.cls ⟨z16,[.ref 24],[.ref 85,.ref 24,.type t5,.type t10,.type t11,.type t12],84,z16,true,[],[],false,.none,false⟩,⟨[.some (.ref 76),.none,.some (.str z16 271),.some (.str z16 279),.some (.builtin t9),.some (.bool true)]⟩⟩
def o86:Obj:=⟨.type t15,.none,.fields ⟨[.ref 85,.ref 85,.ref 85]⟩,⟨[]⟩⟩
def o87:Obj:=⟨.type t6,.none,.fields ⟨[.builtin t16,.ref 85]⟩,⟨[]⟩⟩
def o90(P:Params):Obj:=⟨.type t0,.none,.dict ⟨[⟨kh P z68,.str z68 294,.str z69 187⟩,⟨kh P z70,.str z70 296,.str z17 295⟩,⟨kh P z71,.str z71 298,.int 14 297⟩,⟨kh P z72,.str z72 299,.ref 95⟩]⟩ 4,⟨[]⟩⟩
def o93:Obj:=⟨.type t3,.none,.fields ⟨[.str z17 289,.str z17 290,.str z9 291,.int 14 0,.int 0 0,.int 0 0,.int 0 0,.int 0 0,.ref 91,.bool false,.int 181 0,.ref 92,.none,.none,.none,.none,.int 292 0,.int 14 0,.str z9 293]⟩,⟨[]⟩⟩
def o94:Obj:=⟨.type t4,.none,.plain,⟨[.some (.ref 93),.some (.ref 3),.some (.ref 90),.none,.some (.str z69 187),.none,.some (.ref 0)]⟩⟩
def o96(P:Params):Obj:=⟨.type t0,.none,.dict ⟨[⟨kh P z68,.str z68 294,.str z69 187⟩,⟨kh P z71,.str z71 298,.int 14 297⟩,⟨kh P z72,.str z72 299,.ref 95⟩,⟨kh P z2,.str z2 300,.none⟩]⟩ 2,⟨[]⟩⟩
def o97:Obj:=⟨.type t8,.none,.cls ⟨z17,[.ref 24],[.ref 97,.ref 24,.type t5,.type t10,.type t11,.type t12],96,z17,true,[],[],false,.none,false⟩,⟨[.some (.ref 88),.none,.some (.str z17 287),.some (.str z17 295),.some (.builtin t9),.some (.bool true)]⟩⟩
def o98:Obj:=⟨.type t15,.none,.fields ⟨[.ref 97,.ref 97,.ref 97]⟩,⟨[]⟩⟩
def o99:Obj:=⟨.type t6,.none,.fields ⟨[.builtin t16,.ref 97]⟩,⟨[]⟩⟩
def YZ(P:Params):Obj:=⟨.type t0,.none,.dict ⟨[⟨kh P z68,.str z68 310,.str z69 187⟩,⟨kh P z70,.str z70 312,.str z18 311⟩,⟨kh P z71,.str z71 314,.int 16 313⟩,⟨kh P z72,.str z72 315,.ref 107⟩]⟩ 4,⟨[]⟩⟩
def YS:Obj:=⟨.type t3,.none,.fields ⟨[.str z18 305,.str z18 306,.str z9 307,.int 16 0,.int 0 0,.int 0 0,.int 0 0,.int 0 0,.ref 103,.bool false,.int 181 0,.ref 104,.none,.none,.none,.none,.int 308 0,.int 16 0,.str z9 309]⟩,⟨[]⟩⟩
def YW:Obj:=⟨.type t4,.none,.plain,⟨[.some (.ref 105),.some (.ref 3),.some (.ref 102),.none,.some (.str z69 187),.none,.some (.ref 0)]⟩⟩
def Vc(P:Params):Obj:=⟨.type t0,.none,.dict ⟨[⟨kh P z68,.str z68 310,.str z69 187⟩,⟨kh P z71,.str z71 314,.int 16 313⟩,⟨kh P z72,.str z72 315,.ref 107⟩,⟨kh P z2,.str z2 316,.none⟩]⟩ 2,⟨[]⟩⟩
def Xj:Obj:=⟨.type t8,.none,.cls ⟨z18,[.ref 24],[.ref 109,.ref 24,.type t5,.type t10,.type t11,.type t12],108,z18,true,[],[],false,.none,false⟩,⟨[.some (.ref 100),.none,.some (.str z18 303),.some (.str z18 311),.some (.builtin t9),.some (.bool true)]⟩⟩
def Yu:Obj:=⟨.type t15,.none,.fields ⟨[.ref 109,.ref 109,.ref 109]⟩,⟨[]⟩⟩
def o111:Obj:=⟨.type t6,.none,.fields ⟨[.builtin t16,.ref 109]⟩,⟨[]⟩⟩
def Ym(P:Params):Obj:=⟨.type t0,.none,.dict ⟨[⟨kh P z68,.str z68 326,.str z69 187⟩,⟨kh P z70,.str z70 328,.str z19 327⟩,⟨kh P z71,.str z71 330,.int 18 329⟩,⟨kh P z72,.str z72 331,.ref 119⟩]⟩ 4,⟨[]⟩⟩
def Yk:Obj:=⟨.type t3,.none,.fields ⟨[.str z19 321,.str z19 322,.str z9 323,.int 18 0,.int 0 0,.int 0 0,.int 0 0,.int 0 0,.ref 115,.bool false,.int 181 0,.ref 116,.none,.none,.none,.none,.int 324 0,.int 18 0,.str z9 325]⟩,⟨[]⟩⟩
def YB:Obj:=⟨.type t4,.none,.plain,⟨[.some (.ref 117),.some (.ref 3),.some (.ref 114),.none,.some (.str z69 187),.none,.some (.ref 0)]⟩⟩
def U0(P:Params):Obj:=⟨.type t0,.none,.dict ⟨[⟨kh P z68,.str z68 326,.str z69 187⟩,⟨kh P z71,.str z71 330,.int 18 329⟩,⟨kh P z72,.str z72 331,.ref 119⟩,⟨kh P z2,.str z2 332,.none⟩]⟩ 2,⟨[]⟩⟩
def VF:Obj:=⟨.type t8,.none,.cls ⟨z19,[.ref 24],[.ref 121,.ref 24,.type t5,.type t10,.type t11,.type t12],120,z19,true,[],[],false,.none,false⟩,⟨[.some (.ref 112),.none,.some (.str z19 319),.some (.str z19 327),.some (.builtin t9),.some (.bool true)]⟩⟩
def Yg:Obj:=⟨.type t15,.none,.fields ⟨[.ref 121,.ref 121,.ref 121]⟩,⟨[]⟩⟩
def YM:Obj:=⟨.type t6,.none,.fields ⟨[.builtin t16,.ref 121]⟩,⟨[]⟩⟩
def W7:Obj:=⟨.type t2,.none,.seq ⟨[.str z74 340,.str z75 341]⟩ 0,⟨[]⟩⟩
def RQ:Obj:=⟨.none,.none,.func ⟨z20,z20,L2.aD (tt 11),.stmts (L2.aC (tt 11)),L2.aj (tt 11),0,[],.none,.none,.none,.none,.none,.none,.none,0⟩,⟨[]⟩⟩
def Uz:Obj:=⟨.type t3,.none,.fields ⟨[.str z20 337,.str z20 338,.str z9 339,.int 21 0,.int 1 0,.int 0 0,.int 0 0,.int 3 0,.ref 124,.bool true,.int 181 0,.ref 125,.none,.ref 126,.ref 127,.ref 128,.int 342 0,.int 21 0,.str z9 343]⟩,⟨[]⟩⟩
def Xq:Obj:=⟨.type t17,.none,.func ⟨z20,z20,L2.aD (tt 11),.stmts (L2.aC (tt 11)),L2.aj (tt 11),3,[],.none,.none,.none,.str z76 335,.none,.ref 129,.none,0⟩,⟨[]⟩⟩
def Wr:Obj:=⟨.type t2,.none,.seq ⟨[.str z77 348,.str z74 349]⟩ 0,⟨[]⟩⟩
def Ui:Obj:=⟨.none,.none,.func ⟨z21,z21,L2.aD (tt 12),.stmts (L2.aC (tt 12)),L2.aj (tt 12),0,[],.none,.none,.none,.none,.none,.none,.none,0⟩,⟨[]⟩⟩
def Wh:Obj:=⟨.type t3,.none,.fields ⟨[.str z21 345,.str z21 346,.str z9 347,.int 30 0,.int 2 0,.int 0 0,.int 0 0,.int 3 0,.ref 131,.bool true,.int 181 0,.ref 132,.none,.ref 133,.ref 134,.ref 135,.int 350 0,.int 30 0,.str z9 351]⟩,⟨[]⟩⟩
def XY:Obj:=⟨.type t17,.none,.func ⟨z21,z21,L2.aD (tt 12),.stmts (L2.aC (tt 12)),L2.aj (tt 12),3,[],.none,.none,.none,.str z76 335,.none,.ref 136,.none,0⟩,⟨[]⟩⟩
def Vs:Obj:=⟨.type t2,.none,.seq ⟨[.str z78 356,.str z74 357,.str z79 358,.str z80 359,.str z81 360]⟩ 0,⟨[]⟩⟩
def Ws:Obj:=⟨.none,.none,.func ⟨z22,z22,L2.aD (tt 13),.stmts (L2.aC (tt 13)),L2.aj (tt 13),0,[],.none,.none,.none,.none,.none,.none,.none,0⟩,⟨[]⟩⟩
def XD:Obj:=⟨.type t3,.none,.fields ⟨[.str z22 353,.str z22 354,.str z9 355,.int 34 0,.int 2 0,.int 0 0,.int 0 0,.int 3 0,.ref 138,.bool true,.int 181 0,.ref 139,.none,.ref 140,.ref 141,.ref 142,.int 361 0,.int 34 0,.str z9 362]⟩,⟨[]⟩⟩
def Tg:Obj:=⟨.type t17,.none,.func ⟨z22,z22,L2.aD (tt 13),.stmts (L2.aC (tt 13)),L2.aj (tt 13),3,[],.none,.none,.none,.str z76 335,.none,.ref 143,.none,0⟩,⟨[]⟩⟩
def Td:Obj:=⟨.type t2,.none,.seq ⟨[.str z77 367,.str z82 368,.str z83 369]⟩ 0,⟨[]⟩⟩
def Tq:Obj:=⟨.none,.none,.func ⟨z23,z23,L2.aD (tt 14),.stmts (L2.aC (tt 14)),L2.aj (tt 14),0,[],.none,.none,.none,.none,.none,.none,.none,0⟩,⟨[]⟩⟩
def Xl:Obj:=⟨.type t3,.none,.fields ⟨[.str z23 364,.str z23 365,.str z9 366,.int 44 0,.int 3 0,.int 0 0,.int 0 0,.int 3 0,.ref 145,.bool true,.int 181 0,.ref 146,.none,.ref 147,.ref 148,.ref 149,.int 370 0,.int 44 0,.str z9 371]⟩,⟨[]⟩⟩
def W8:Obj:=⟨.type t17,.none,.func ⟨z23,z23,L2.aD (tt 14),.stmts (L2.aC (tt 14)),L2.aj (tt 14),3,[],.none,.none,.none,.str z76 335,.none,.ref 150,.none,0⟩,⟨[]⟩⟩
def SV:Obj:=⟨.type t2,.none,.seq ⟨[.str z77 378,.str z84 379,.str z85 380,.str z86 381,.str z87 382]⟩ 0,⟨[]⟩⟩
def V7:Obj:=⟨.none,.none,.func ⟨z24,z24,L2.aD (tt 16),.stmts (L2.aC (tt 16)),L2.aj (tt 16),0,[],.none,.none,.none,.none,.none,.none,.none,0⟩,⟨[]⟩⟩
def Vp:Obj:=⟨.type t3,.none,.fields ⟨[.str z24 375,.str z24 376,.str z9 377,.int 51 0,.int 3 0,.int 0 0,.int 0 0,.int 3 0,.ref 152,.bool true,.int 181 0,.ref 153,.none,.ref 154,.ref 155,.ref 156,.int 383 0,.int 51 0,.str z9 384]⟩,⟨[]⟩⟩
def SQ:Obj:=⟨.type t17,.none,.func ⟨z24,z24,L2.aD (tt 16),.stmts (L2.aC (tt 16)),L2.aj (tt 16),3,[],.none,.none,.none,.str z88 373,.none,.ref 157,.none,0⟩,⟨[]⟩⟩
def Xf:Obj:=⟨.type t2,.none,.seq ⟨[.str z89 389,.str z90 390,.str z77 391,.str z84 392,.str z91 393,.str z92 394]⟩ 0,⟨[]⟩⟩
def VQ:Obj:=⟨.none,.none,.func ⟨z25,z25,L2.aD (tt 17),.stmts (L2.aC (tt 17)),L2.aj (tt 17),0,[],.none,.none,.none,.none,.none,.none,.none,0⟩,⟨[]⟩⟩
def VX:Obj:=⟨.type t3,.none,.fields ⟨[.str z25 386,.str z25 387,.str z9 388,.int 56 0,.int 2 0,.int 0 0,.int 0 0,.int 3 0,.ref 159,.bool true,.int 181 0,.ref 160,.none,.ref 161,.ref 162,.ref 163,.int 395 0,.int 56 0,.str z9 396]⟩,⟨[]⟩⟩
def R8:Obj:=⟨.type t17,.none,.func ⟨z25,z25,L2.aD (tt 17),.stmts (L2.aC (tt 17)),L2.aj (tt 17),3,[],.none,.none,.none,.str z88 373,.none,.ref 164,.none,0⟩,⟨[]⟩⟩
def Xi:Obj:=⟨.type t2,.none,.seq ⟨[.str z93 403,.str z94 404]⟩ 0,⟨[]⟩⟩
def Te:Obj:=⟨.none,.none,.func ⟨z26,z26,L2.aD (tt 19),.stmts (L2.aC (tt 19)),L2.aj (tt 19),0,[],.none,.none,.none,.none,.none,.none,.none,0⟩,⟨[]⟩⟩
def Ub:Obj:=⟨.type t3,.none,.fields ⟨[.str z26 400,.str z26 401,.str z9 402,.int 65 0,.int 1 0,.int 0 0,.int 0 0,.int 3 0,.ref 166,.bool true,.int 181 0,.ref 167,.none,.ref 168,.ref 169,.ref 170,.int 405 0,.int 65 0,.str z9 406]⟩,⟨[]⟩⟩
def XI:Obj:=⟨.type t17,.none,.func ⟨z26,z26,L2.aD (tt 19),.stmts (L2.aC (tt 19)),L2.aj (tt 19),3,[],.none,.none,.none,.str z95 398,.none,.ref 171,.none,0⟩,⟨[]⟩⟩
def WM:Obj:=⟨.type t2,.none,.seq ⟨[.str z77 411,.str z82 412,.str z83 413,.str z96 414,.str z97 415,.str z81 416,.str z98 417,.str z99 418,.str z87 419]⟩ 0,⟨[]⟩⟩
def Xn:Obj:=⟨.none,.none,.func ⟨z27,z27,L2.aD (tt 20),.stmts (L2.aC (tt 20)),L2.aj (tt 20),0,[],.none,.none,.none,.none,.none,.none,.none,0⟩,⟨[]⟩⟩
def V2:Obj:=⟨.type t3,.none,.fields ⟨[.str z27 408,.str z27 409,.str z9 410,.int 70 0,.int 3 0,.int 0 0,.int 0 0,.int 3 0,.ref 173,.bool true,.int 181 0,.ref 174,.none,.ref 175,.ref 176,.ref 177,.int 420 0,.int 70 0,.str z9 421]⟩,⟨[]⟩⟩
def Xu:Obj:=⟨.type t17,.none,.func ⟨z27,z27,L2.aD (tt 20),.stmts (L2.aC (tt 20)),L2.aj (tt 20),3,[],.none,.none,.none,.str z95 398,.none,.ref 178,.none,0⟩,⟨[]⟩⟩
def Wc:Obj:=⟨.none,.none,.func ⟨z28,z28,L2.aD (tt 21),.stmts (L2.aC (tt 21)),L2.aj (tt 21),0,[],.none,.none,.none,.none,.none,.none,.none,0⟩,⟨[]⟩⟩
def Xp:Obj:=⟨.type t3,.none,.fields ⟨[.str z28 423,.str z28 424,.str z9 425,.int 80 0,.int 2 0,.int 0 0,.int 0 0,.int 3 0,.ref 180,.bool true,.int 181 0,.ref 181,.none,.none,.none,.ref 182,.int 426 0,.int 80 0,.str z9 427]⟩,⟨[]⟩⟩
def WD:Obj:=⟨.type t17,.none,.func ⟨z28,z28,L2.aD (tt 21),.stmts (L2.aC (tt 21)),L2.aj (tt 21),3,[],.none,.none,.none,.str z95 398,.none,.ref 183,.none,0⟩,⟨[]⟩⟩
def Ux:Obj:=⟨.type t2,.none,.seq ⟨[.str z77 432,.str z82 433,.str z83 434,.str Zy 435,.str aad 436,.str z81 437]⟩ 0,⟨[]⟩⟩
def RN:Obj:=⟨.none,.none,.func ⟨z29,z29,L2.aD (tt 22),.stmts (L2.aC (tt 22)),L2.aj (tt 22),0,[],.none,.none,.none,.none,.none,.none,.none,0⟩,⟨[]⟩⟩
def RH:Obj:=⟨.type t3,.none,.fields ⟨[.str z29 429,.str z29 430,.str z9 431,.int 85 0,.int 3 0,.int 0 0,.int 0 0,.int 3 0,.ref 185,.bool true,.int 181 0,.ref 186,.none,.ref 187,.ref 188,.ref 189,.int 438 0,.int 85 0,.str z9 439]⟩,⟨[]⟩⟩
def TQ:Obj:=⟨.type t17,.none,.func ⟨z29,z29,L2.aD (tt 22),.stmts (L2.aC (tt 22)),L2.aj (tt 22),3,[],.none,.none,.none,.str z95 398,.none,.ref 190,.none,0⟩,⟨[]⟩⟩
def Wq:Obj:=⟨.none,.none,.func ⟨z30,z30,L2.aD (tt 23),.stmts (L2.aC (tt 23)),L2.aj (tt 23),0,[],.none,.none,.none,.none,.none,.none,.none,0⟩,⟨[]⟩⟩
def VN:Obj:=⟨.type t3,.none,.fields ⟨[.str z30 441,.str z30 442,.str z9 443,.int 93 0,.int 2 0,.int 0 0,.int 0 0,.int 3 0,.ref 192,.bool true,.int 181 0,.ref 193,.none,.none,.none,.ref 194,.int 444 0,.int 93 0,.str z9 445]⟩,⟨[]⟩⟩
def XE:Obj:=⟨.type t17,.none,.func ⟨z30,z30,L2.aD (tt 23),.stmts (L2.aC (tt 23)),L2.aj (tt 23),3,[],.none,.none,.none,.str z95 398,.none,.ref 195,.none,0⟩,⟨[]⟩⟩
def UW:Obj:=⟨.none,.none,.func ⟨z31,z31,L2.aD (tt 24),.stmts (L2.aC (tt 24)),L2.aj (tt 24),0,[],.none,.none,.none,.none,.none,.none,.none,0⟩,⟨[]⟩⟩
def o200:Obj:=⟨.type t3,.none,.fields ⟨[.str z31 447,.str z31 448,.str z9 449,.int 97 0,.int 2 0,.int 0 0,.int 0 0,.int 3 0,.ref 197,.bool true,.int 181 0,.ref 198,.none,.none,.none,.ref 199,.int 450 0,.int 97 0,.str z9 451]⟩,⟨[]⟩⟩
def UU:Obj:=⟨.type t17,.none,.func ⟨z31,z31,L2.aD (tt 24),.stmts (L2.aC (tt 24)),L2.aj (tt 24),3,[],.none,.none,.none,.str z95 398,.none,.ref 200,.none,0⟩,⟨[]⟩⟩
def V5:Obj:=⟨.none,.none,.func ⟨z32,z32,L2.aD (tt 26),.stmts (L2.aC (tt 26)),L2.aj (tt 26),0,[],.none,.none,.none,.none,.none,.none,.none,0⟩,⟨[]⟩⟩
def Vl:Obj:=⟨.type t3,.none,.fields ⟨[.str z32 455,.str z32 456,.str z9 457,.int 101 0,.int 3 0,.int 0 0,.int 0 0,.int 3 0,.ref 202,.bool true,.int 181 0,.ref 203,.none,.none,.none,.ref 204,.int 458 0,.int 101 0,.str z9 459]⟩,⟨[]⟩⟩
def Vb:Obj:=⟨.type t17,.none,.func ⟨z32,z32,L2.aD (tt 26),.stmts (L2.aC (tt 26)),L2.aj (tt 26),3,[],.none,.none,.none,.str Us 453,.none,.ref 205,.none,0⟩,⟨[]⟩⟩
def Xo:Obj:=⟨.type t2,.none,.seq ⟨[.str z84 464,.str z90 465,.str Yj 466,.str z87 467,.str aar 468]⟩ 0,⟨[]⟩⟩
def Uo:Obj:=⟨.none,.none,.func ⟨z33,z33,L2.aD (tt 27),.stmts (L2.aC (tt 27)),L2.aj (tt 27),0,[],.none,.none,.none,.none,.none,.none,.none,0⟩,⟨[]⟩⟩
def Tz:Obj:=⟨.type t3,.none,.fields ⟨[.str z33 461,.str z33 462,.str z9 463,.int 104 0,.int 2 0,.int 0 0,.int 0 0,.int 3 0,.ref 207,.bool true,.int 181 0,.ref 208,.none,.ref 209,.ref 210,.ref 211,.int 469 0,.int 104 0,.str z9 470]⟩,⟨[]⟩⟩
def RL:Obj:=⟨.type t17,.none,.func ⟨z33,z33,L2.aD (tt 27),.stmts (L2.aC (tt 27)),L2.aj (tt 27),3,[],.none,.none,.none,.str Us 453,.none,.ref 212,.none,0⟩,⟨[]⟩⟩
def UL:Obj:=⟨.type t2,.none,.seq ⟨[.str Yj 475,.str z84 476,.str z87 477]⟩ 0,⟨[]⟩⟩
def Ti:Obj:=⟨.none,.none,.func ⟨z34,z34,L2.aD (tt 28),.stmts (L2.aC (tt 28)),L2.aj (tt 28),0,[],.none,.none,.none,.none,.none,.none,.none,0⟩,⟨[]⟩⟩
def VL:Obj:=⟨.type t3,.none,.fields ⟨[.str z34 472,.str z34 473,.str z9 474,.int 110 0,.int 1 0,.int 0 0,.int 0 0,.int 3 0,.ref 214,.bool true,.int 181 0,.ref 215,.none,.ref 216,.ref 217,.ref 218,.int 478 0,.int 110 0,.str z9 479]⟩,⟨[]⟩⟩
def Vm:Obj:=⟨.type t17,.none,.func ⟨z34,z34,L2.aD (tt 28),.stmts (L2.aC (tt 28)),L2.aj (tt 28),3,[],.none,.none,.none,.str Us 453,.none,.ref 219,.none,0⟩,⟨[]⟩⟩
def SW:Obj:=⟨.type t2,.none,.seq ⟨[.str z74 488,.str z92 489]⟩ 0,⟨[]⟩⟩
def UO:Obj:=⟨.none,.none,.func ⟨z36,z36,L2.aD (tt 31),.stmts (L2.aC (tt 31)),L2.aj (tt 31),0,[],.none,.none,.none,.none,.none,.none,.none,0⟩,⟨[]⟩⟩
def R3:Obj:=⟨.type t3,.none,.fields ⟨[.str z36 485,.str z36 486,.str z9 487,.int 117 0,.int 1 0,.int 0 0,.int 0 0,.int 3 0,.ref 221,.bool true,.int 181 0,.ref 222,.none,.ref 223,.ref 224,.ref 225,.int 490 0,.int 117 0,.str z9 491]⟩,⟨[]⟩⟩
def Xz:Obj:=⟨.type t17,.none,.func ⟨z36,z36,L2.aD (tt 31),.stmts (L2.aC (tt 31)),L2.aj (tt 31),3,[],.none,.none,.none,.str Kl 481,.none,.ref 226,.none,0⟩,⟨[]⟩⟩
def Xk:Obj:=⟨.type t2,.none,.seq ⟨[.str Z2 496,.str YL 497]⟩ 0,⟨[]⟩⟩
def VP:Obj:=⟨.none,.none,.func ⟨z37,z37,L2.aD (tt 32),.stmts (L2.aC (tt 32)),L2.aj (tt 32),0,[],.none,.none,.none,.none,.none,.none,.none,0⟩,⟨[]⟩⟩
def SD:Obj:=⟨.type t3,.none,.fields ⟨[.str z37 493,.str z37 494,.str z9 495,.int 122 0,.int 2 0,.int 0 0,.int 0 0,.int 3 0,.ref 228,.bool true,.int 181 0,.ref 229,.none,.ref 230,.ref 231,.ref 232,.int 498 0,.int 122 0,.str z9 499]⟩,⟨[]⟩⟩
def WL:Obj:=⟨.type t17,.none,.func ⟨z37,z37,L2.aD (tt 32),.stmts (L2.aC (tt 32)),L2.aj (tt 32),3,[],.none,.none,.none,.str Kl 481,.none,.ref 233,.none,0⟩,⟨[]⟩⟩
def VR:Obj:=⟨.none,.none,.func ⟨z38,z38,L2.aD (tt 33),.stmts (L2.aC (tt 33)),L2.aj (tt 33),0,[],.none,.none,.none,.none,.none,.none,.none,0⟩,⟨[]⟩⟩
def RD:Obj:=⟨.type t3,.none,.fields ⟨[.str z38 501,.str z38 502,.str z9 503,.int 124 0,.int 2 0,.int 0 0,.int 0 0,.int 3 0,.ref 235,.bool true,.int 181 0,.ref 236,.none,.none,.none,.ref 237,.int 504 0,.int 124 0,.str z9 505]⟩,⟨[]⟩⟩
def U3:Obj:=⟨.type t17,.none,.func ⟨z38,z38,L2.aD (tt 33),.stmts (L2.aC (tt 33)),L2.aj (tt 33),3,[],.none,.none,.none,.str Kl 481,.none,.ref 238,.none,0⟩,⟨[]⟩⟩
def Sh:Obj:=⟨.type t2,.none,.seq ⟨[.str Y6 510,.str z74 511,.str Yn 512]⟩ 0,⟨[]⟩⟩
def Wn:Obj:=⟨.none,.none,.func ⟨z39,z39,L2.aD (tt 34),.stmts (L2.aC (tt 34)),L2.aj (tt 34),0,[],.none,.none,.none,.none,.none,.none,.none,0⟩,⟨[]⟩⟩
def UY:Obj:=⟨.type t3,.none,.fields ⟨[.str z39 507,.str z39 508,.str z9 509,.int 126 0,.int 2 0,.int 0 0,.int 0 0,.int 3 0,.ref 240,.bool true,.int 181 0,.ref 241,.none,.ref 242,.ref 243,.ref 244,.int 513 0,.int 126 0,.str z9 514]⟩,⟨[]⟩⟩
def Ye:Obj:=⟨.type t17,.none,.func ⟨z39,z39,L2.aD (tt 34),.stmts (L2.aC (tt 34)),L2.aj (tt 34),3,[],.none,.none,.none,.str Kl 481,.none,.ref 245,.none,0⟩,⟨[]⟩⟩
def TN:Obj:=⟨.type t2,.none,.seq ⟨[.str Y6 519,.str z74 520,.str z78 521,.str Yn 522,.str Z9 523]⟩ 0,⟨[]⟩⟩
def WW:Obj:=⟨.none,.none,.func ⟨z40,z40,L2.aD (tt 35),.stmts (L2.aC (tt 35)),L2.aj (tt 35),0,[],.none,.none,.none,.none,.none,.none,.none,0⟩,⟨[]⟩⟩
def Xw:Obj:=⟨.type t3,.none,.fields ⟨[.str z40 516,.str z40 517,.str z9 518,.int 129 0,.int 4 0,.int 0 0,.int 0 0,.int 3 0,.ref 247,.bool true,.int 181 0,.ref 248,.none,.ref 249,.ref 250,.ref 251,.int 524 0,.int 129 0,.str z9 525]⟩,⟨[]⟩⟩
def Yb:Obj:=⟨.type t17,.none,.func ⟨z40,z40,L2.aD (tt 35),.stmts (L2.aC (tt 35)),L2.aj (tt 35),3,[],.none,.none,.none,.str Kl 481,.none,.ref 252,.none,0⟩,⟨[]⟩⟩
def Wb:Obj:=⟨.none,.none,.func ⟨z41,z41,L2.aD (tt 36),.stmts (L2.aC (tt 36)),L2.aj (tt 36),0,[],.none,.none,.none,.none,.none,.none,.none,0⟩,⟨[]⟩⟩
def Vg:Obj:=⟨.type t3,.none,.fields ⟨[.str z41 527,.str z41 528,.str z9 529,.int 132 0,.int 2 0,.int 0 0,.int 0 0,.int 3 0,.ref 254,.bool true,.int 181 0,.ref 255,.none,.none,.none,.ref 256,.int 530 0,.int 132 0,.str z9 531]⟩,⟨[]⟩⟩
def WV:Obj:=⟨.type t17,.none,.func ⟨z41,z41,L2.aD (tt 36),.stmts (L2.aC (tt 36)),L2.aj (tt 36),3,[],.none,.none,.none,.str Kl 481,.none,.ref 257,.none,0⟩,⟨[]⟩⟩
def SX:Obj:=⟨.type t2,.none,.seq ⟨[.str z77 536,.str z82 537,.str z83 538]⟩ 0,⟨[]⟩⟩
def Wu:Obj:=⟨.none,.none,.func ⟨z42,z42,L2.aD (tt 37),.stmts (L2.aC (tt 37)),L2.aj (tt 37),0,[],.none,.none,.none,.none,.none,.none,.none,0⟩,⟨[]⟩⟩
def Wz:Obj:=⟨.type t3,.none,.fields ⟨[.str z42 533,.str z42 534,.str z9 535,.int 150 0,.int 3 0,.int 0 0,.int 0 0,.int 3 0,.ref 259,.bool true,.int 181 0,.ref 260,.none,.ref 261,.ref 262,.ref 263,.int 539 0,.int 150 0,.str z9 540]⟩,⟨[]⟩⟩
def Vn:Obj:=⟨.type t17,.none,.func ⟨z42,z42,L2.aD (tt 37),.stmts (L2.aC (tt 37)),L2.aj (tt 37),3,[],.none,.none,.none,.str Kl 481,.none,.ref 264,.none,0⟩,⟨[]⟩⟩
def V1:Obj:=⟨.none,.none,.func ⟨z43,z43,L2.aD (tt 39),.stmts (L2.aC (tt 39)),L2.aj (tt 39),0,[],.none,.none,.none,.none,.none,.none,.none,0⟩,⟨[]⟩⟩
def UZ:Obj:=⟨.type t3,.none,.fields ⟨[.str z43 544,.str z43 545,.str z9 546,.int 153 0,.int 2 0,.int 0 0,.int 0 0,.int 3 0,.ref 266,.bool true,.int 181 0,.ref 267,.none,.none,.none,.ref 268,.int 547 0,.int 153 0,.str z9 548]⟩,⟨[]⟩⟩
def Wt:Obj:=⟨.type t17,.none,.func ⟨z43,z43,L2.aD (tt 39),.stmts (L2.aC (tt 39)),L2.aj (tt 39),3,[],.none,.none,.none,.str Wj 542,.none,.ref 269,.none,0⟩,⟨[]⟩⟩
def Vj:Obj:=⟨.type t2,.none,.seq ⟨[.str z89 553,.str z77 554,.str YL 555,.str z96 556]⟩ 0,⟨[]⟩⟩
def RB:Obj:=⟨.none,.none,.func ⟨z44,z44,L2.aD (tt 40),.stmts (L2.aC (tt 40)),L2.aj (tt 40),0,[],.none,.none,.none,.none,.none,.none,.none,0⟩,⟨[]⟩⟩
def Uq:Obj:=⟨.type t3,.none,.fields ⟨[.str z44 550,.str z44 551,.str z9 552,.int 161 0,.int 1 0,.int 0 0,.int 0 0,.int 3 0,.ref 271,.bool true,.int 181 0,.ref 272,.none,.ref 273,.ref 274,.ref 275,.int 557 0,.int 161 0,.str z9 558]⟩,⟨[]⟩⟩
def Tv:Obj:=⟨.type t17,.none,.func ⟨z44,z44,L2.aD (tt 40),.stmts (L2.aC (tt 40)),L2.aj (tt 40),3,[],.none,.none,.none,.str Wj 542,.none,.ref 276,.none,0⟩,⟨[]⟩⟩
def Uc:Obj:=⟨.type t2,.none,.seq ⟨[.str z89 563,.str Zd 564,.str z84 565]⟩ 0,⟨[]⟩⟩
def Sy:Obj:=⟨.none,.none,.func ⟨z45,z45,L2.aD (tt 41),.stmts (L2.aC (tt 41)),L2.aj (tt 41),0,[],.none,.none,.none,.none,.none,.none,.none,0⟩,⟨[]⟩⟩
def WZ:Obj:=⟨.type t3,.none,.fields ⟨[.str z45 560,.str z45 561,.str z9 562,.int 166 0,.int 1 0,.int 0 0,.int 0 0,.int 3 0,.ref 278,.bool true,.int 181 0,.ref 279,.none,.ref 280,.ref 281,.ref 282,.int 566 0,.int 166 0,.str z9 567]⟩,⟨[]⟩⟩
def Ww:Obj:=⟨.type t17,.none,.func ⟨z45,z45,L2.aD (tt 41),.stmts (L2.aC (tt 41)),L2.aj (tt 41),3,[],.none,.none,.none,.str Wj 542,.none,.ref 283,.none,0⟩,⟨[]⟩⟩
def Vz:Obj:=⟨.type t2,.none,.seq ⟨[.str aav 578,.str ZK 579]⟩ 0,⟨[]⟩⟩
def Tw:Obj:=⟨.none,.none,.func ⟨z48,z48,L2.aD (tt 45),.stmts (L2.aC (tt 45)),L2.aj (tt 45),0,[],.none,.none,.none,.none,.none,.none,.none,0⟩,⟨[]⟩⟩
def XO:Obj:=⟨.type t3,.none,.fields ⟨[.str z48 575,.str z48 576,.str z9 577,.int 173 0,.int 2 0,.int 0 0,.int 0 0,.int 3 0,.ref 285,.bool true,.int 181 0,.ref 286,.none,.ref 287,.ref 288,.ref 289,.int 580 0,.int 173 0,.str z9 581]⟩,⟨[]⟩⟩
def Xd:Obj:=⟨.type t17,.none,.func ⟨z48,z48,L2.aD (tt 45),.stmts (L2.aC (tt 45)),L2.aj (tt 45),3,[],.none,.none,.none,.str Tn 569,.none,.ref 290,.none,0⟩,⟨[]⟩⟩
def XG:Obj:=⟨.none,.none,.func ⟨z49,z49,L2.aD (tt 46),.stmts (L2.aC (tt 46)),L2.aj (tt 46),0,[],.none,.none,.none,.none,.none,.none,.none,0⟩,⟨[]⟩⟩
def Ve:Obj:=⟨.type t3,.none,.fields ⟨[.str z49 583,.str z49 584,.str z9 585,.int 176 0,.int 3 0,.int 0 0,.int 0 0,.int 3 0,.ref 292,.bool true,.int 181 0,.ref 293,.none,.none,.none,.ref 294,.int 586 0,.int 176 0,.str z9 587]⟩,⟨[]⟩⟩
def VW:Obj:=⟨.type t17,.none,.func ⟨z49,z49,L2.aD (tt 46),.stmts (L2.aC (tt 46)),L2.aj (tt 46),3,[],.none,.none,.none,.str Tn 569,.none,.ref 295,.none,0⟩,⟨[]⟩⟩
def Rz:Obj:=⟨.none,.none,.func ⟨z50,z50,L2.aD (tt 47),.stmts (L2.aC (tt 47)),L2.aj (tt 47),0,[],.none,.none,.none,.none,.none,.none,.none,0⟩,⟨[]⟩⟩
def o300:Obj:=⟨.type t3,.none,.fields ⟨[.str z50 589,.str z50 590,.str z9 591,.int 180 0,.int 3 0,.int 0 0,.int 0 0,.int 3 0,.ref 297,.bool true,.int 181 0,.ref 298,.none,.none,.none,.ref 299,.int 592 0,.int 180 0,.str z9 593]⟩,⟨[]⟩⟩
def R7:Obj:=⟨.type t17,.none,.func ⟨z50,z50,L2.aD (tt 47),.stmts (L2.aC (tt 47)),L2.aj (tt 47),3,[],.none,.none,.none,.str Tn 569,.none,.ref 300,.none,0⟩,⟨[]⟩⟩
def Xx:Obj:=⟨.type t2,.none,.seq ⟨[.str Y8 600,.str WT 601]⟩ 0,⟨[]⟩⟩
def Xe:Obj:=⟨.none,.none,.func ⟨z51,z51,L2.aD (tt 49),.stmts (L2.aC (tt 49)),L2.aj (tt 49),0,[],.none,.none,.none,.none,.none,.none,.none,0⟩,⟨[]⟩⟩
def RV:Obj:=⟨.type t3,.none,.fields ⟨[.str z51 597,.str z51 598,.str z9 599,.int 189 0,.int 2 0,.int 0 0,.int 0 0,.int 3 0,.ref 302,.bool true,.int 181 0,.ref 303,.none,.ref 304,.ref 305,.ref 306,.int 602 0,.int 189 0,.str z9 603]⟩,⟨[]⟩⟩
def XF:Obj:=⟨.type t17,.none,.func ⟨z51,z51,L2.aD (tt 49),.stmts (L2.aC (tt 49)),L2.aj (tt 49),3,[],.none,.none,.none,.str z1 595,.none,.ref 307,.none,0⟩,⟨[]⟩⟩
def Um:Obj:=⟨.type t2,.none,.seq ⟨[.str Vr 608,.str WT 609,.str Rv 610]⟩ 0,⟨[]⟩⟩
def RW:Obj:=⟨.none,.none,.func ⟨z52,z52,L2.aD (tt 50),.stmts (L2.aC (tt 50)),L2.aj (tt 50),0,[],.none,.none,.none,.none,.none,.none,.none,0⟩,⟨[]⟩⟩
def Xy:Obj:=⟨.type t3,.none,.fields ⟨[.str z52 605,.str z52 606,.str z9 607,.int 193 0,.int 2 0,.int 0 0,.int 0 0,.int 3 0,.ref 309,.bool true,.int 181 0,.ref 310,.none,.ref 311,.ref 312,.ref 313,.int 611 0,.int 193 0,.str z9 612]⟩,⟨[]⟩⟩
def VH:Obj:=⟨.type t17,.none,.func ⟨z52,z52,L2.aD (tt 50),.stmts (L2.aC (tt 50)),L2.aj (tt 50),3,[],.none,.none,.none,.str z1 595,.none,.ref 314,.none,0⟩,⟨[]⟩⟩
def RT:Obj:=⟨.type t2,.none,.seq ⟨[.str Vr 617]⟩ 0,⟨[]⟩⟩
def Uh:Obj:=⟨.none,.none,.func ⟨z53,z53,L2.aD (tt 51),.stmts (L2.aC (tt 51)),L2.aj (tt 51),0,[],.none,.none,.none,.none,.none,.none,.none,0⟩,⟨[]⟩⟩
def Wd:Obj:=⟨.type t3,.none,.fields ⟨[.str z53 614,.str z53 615,.str z9 616,.int 197 0,.int 1 0,.int 0 0,.int 0 0,.int 3 0,.ref 316,.bool true,.int 181 0,.ref 317,.none,.ref 318,.ref 319,.ref 320,.int 618 0,.int 197 0,.str z9 619]⟩,⟨[]⟩⟩
def U8:Obj:=⟨.type t17,.none,.func ⟨z53,z53,L2.aD (tt 51),.stmts (L2.aC (tt 51)),L2.aj (tt 51),3,[],.none,.none,.none,.str z1 595,.none,.ref 321,.none,0⟩,⟨[]⟩⟩
def W2:Obj:=⟨.type t2,.none,.seq ⟨[.str PF 624,.str Rv 625]⟩ 0,⟨[]⟩⟩
def RX:Obj:=⟨.none,.none,.func ⟨z54,z54,L2.aD (tt 52),.stmts (L2.aC (tt 52)),L2.aj (tt 52),0,[],.none,.none,.none,.none,.none,.none,.none,0⟩,⟨[]⟩⟩
def Wi:Obj:=⟨.type t3,.none,.fields ⟨[.str z54 621,.str z54 622,.str z9 623,.int 199 0,.int 2 0,.int 0 0,.int 0 0,.int 3 0,.ref 323,.bool true,.int 181 0,.ref 324,.none,.ref 325,.ref 326,.ref 327,.int 626 0,.int 199 0,.str z9 627]⟩,⟨[]⟩⟩
def VD:Obj:=⟨.type t17,.none,.func ⟨z54,z54,L2.aD (tt 52),.stmts (L2.aC (tt 52)),L2.aj (tt 52),3,[],.none,.none,.none,.str z1 595,.none,.ref 328,.none,0⟩,⟨[]⟩⟩
def Tc:Obj:=⟨.type t2,.none,.seq ⟨[.str PF 632,.str Vr 633,.str WT 634,.str Zq 635,.str Z4 636]⟩ 0,⟨[]⟩⟩
def Sd:Obj:=⟨.none,.none,.func ⟨z55,z55,L2.aD (tt 53),.stmts (L2.aC (tt 53)),L2.aj (tt 53),0,[],.none,.none,.none,.none,.none,.none,.none,0⟩,⟨[]⟩⟩
def Vx:Obj:=⟨.type t3,.none,.fields ⟨[.str z55 629,.str z55 630,.str z9 631,.int 203 0,.int 3 0,.int 0 0,.int 0 0,.int 3 0,.ref 330,.bool true,.int 181 0,.ref 331,.none,.ref 332,.ref 333,.ref 334,.int 637 0,.int 203 0,.str z9 638]⟩,⟨[]⟩⟩
def Wo:Obj:=⟨.type t17,.none,.func ⟨z55,z55,L2.aD (tt 53),.stmts (L2.aC (tt 53)),L2.aj (tt 53),3,[],.none,.none,.none,.str z1 595,.none,.ref 335,.none,0⟩,⟨[]⟩⟩
def R6:Obj:=⟨.none,.none,.func ⟨z56,z56,L2.aD (tt 54),.stmts (L2.aC (tt 54)),L2.aj (tt 54),0,[],.none,.none,.none,.none,.none,.none,.none,0⟩,⟨[]⟩⟩
def XU:Obj:=⟨.type t3,.none,.fields ⟨[.str z56 640,.str z56 641,.str z9 642,.int 207 0,.int 2 0,.int 0 0,.int 0 0,.int 3 0,.ref 337,.bool true,.int 181 0,.ref 338,.none,.none,.none,.ref 339,.int 643 0,.int 207 0,.str z9 644]⟩,⟨[]⟩⟩
def VG:Obj:=⟨.type t17,.none,.func ⟨z56,z56,L2.aD (tt 54),.stmts (L2.aC (tt 54)),L2.aj (tt 54),3,[],.none,.none,.none,.str z1 595,.none,.ref 340,.none,0⟩,⟨[]⟩⟩
def WB:Obj:=⟨.none,.none,.func ⟨z57,z57,L2.aD (tt 55),.stmts (L2.aC (tt 55)),L2.aj (tt 55),0,[],.none,.none,.none,.none,.none,.none,.none,0⟩,⟨[]⟩⟩
def Xh:Obj:=⟨.type t3,.none,.fields ⟨[.str z57 646,.str z57 647,.str z9 648,.int 215 0,.int 4 0,.int 0 0,.int 0 0,.int 3 0,.ref 342,.bool true,.int 181 0,.ref 343,.none,.none,.none,.ref 344,.int 649 0,.int 215 0,.str z9 650]⟩,⟨[]⟩⟩
def SN:Obj:=⟨.type t17,.none,.func ⟨z57,z57,L2.aD (tt 55),.stmts (L2.aC (tt 55)),L2.aj (tt 55),3,[],.none,.none,.none,.str z1 595,.none,.ref 345,.none,0⟩,⟨[]⟩⟩
def Uw:Obj:=⟨.none,.none,.func ⟨z58,z58,L2.aD (tt 56),.stmts (L2.aC (tt 56)),L2.aj (tt 56),0,[],.none,.none,.none,.none,.none,.none,.none,0⟩,⟨[]⟩⟩
def R9:Obj:=⟨.type t3,.none,.fields ⟨[.str z58 652,.str z58 653,.str z9 654,.int 225 0,.int 2 0,.int 0 0,.int 0 0,.int 3 0,.ref 347,.bool true,.int 181 0,.ref 348,.none,.none,.none,.ref 349,.int 655 0,.int 225 0,.str z9 656]⟩,⟨[]⟩⟩
def Uk:Obj:=⟨.type t17,.none,.func ⟨z58,z58,L2.aD (tt 56),.stmts (L2.aC (tt 56)),L2.aj (tt 56),3,[],.none,.none,.none,.str z1 595,.none,.ref 350,.none,0⟩,⟨[]⟩⟩
def U9:Obj:=⟨.none,.none,.func ⟨z59,z59,L2.aD (tt 57),.stmts (L2.aC (tt 57)),L2.aj (tt 57),0,[],.none,.none,.none,.none,.none,.none,.none,0⟩,⟨[]⟩⟩
def VJ:Obj:=⟨.type t3,.none,.fields ⟨[.str z59 658,.str z59 659,.str z9 660,.int 232 0,.int 3 0,.int 0 0,.int 0 0,.int 3 0,.ref 352,.bool true,.int 181 0,.ref 353,.none,.none,.none,.ref 354,.int 661 0,.int 232 0,.str z9 662]⟩,⟨[]⟩⟩
def Vf:Obj:=⟨.type t17,.none,.func ⟨z59,z59,L2.aD (tt 57),.stmts (L2.aC (tt 57)),L2.aj (tt 57),3,[],.none,.none,.none,.str z1 595,.none,.ref 355,.none,0⟩,⟨[]⟩⟩
def Vk:Obj:=⟨.type t2,.none,.seq ⟨[.str PF 667,.str Rv 668,.str Z6 669]⟩ 0,⟨[]⟩⟩
def X5:Obj:=⟨.none,.none,.func ⟨z60,z60,L2.aD (tt 58),.stmts (L2.aC (tt 58)),L2.aj (tt 58),0,[],.none,.none,.none,.none,.none,.none,.none,0⟩,⟨[]⟩⟩
def XJ:Obj:=⟨.type t3,.none,.fields ⟨[.str z60 664,.str z60 665,.str z9 666,.int 248 0,.int 3 0,.int 0 0,.int 0 0,.int 3 0,.ref 357,.bool true,.int 181 0,.ref 358,.none,.ref 359,.ref 360,.ref 361,.int 670 0,.int 248 0,.str z9 671]⟩,⟨[]⟩⟩
def V8:Obj:=⟨.type t17,.none,.func ⟨z60,z60,L2.aD (tt 58),.stmts (L2.aC (tt 58)),L2.aj (tt 58),3,[],.none,.none,.none,.str z1 595,.none,.ref 362,.none,0⟩,⟨[]⟩⟩
def Sq:Obj:=⟨.type t2,.none,.seq ⟨[.str YF 676]⟩ 0,⟨[]⟩⟩
def WY:Obj:=⟨.none,.none,.func ⟨z61,z61,L2.aD (tt 59),.stmts (L2.aC (tt 59)),L2.aj (tt 59),0,[],.none,.none,.none,.none,.none,.none,.none,0⟩,⟨[]⟩⟩
def W9:Obj:=⟨.type t3,.none,.fields ⟨[.str z61 673,.str z61 674,.str z9 675,.int 252 0,.int 1 0,.int 0 0,.int 0 0,.int 3 0,.ref 364,.bool true,.int 181 0,.ref 365,.none,.ref 366,.ref 367,.ref 368,.int 677 0,.int 252 0,.str z9 678]⟩,⟨[]⟩⟩
def Vi:Obj:=⟨.type t17,.none,.func ⟨z61,z61,L2.aD (tt 59),.stmts (L2.aC (tt 59)),L2.aj (tt 59),3,[],.none,.none,.none,.str z1 595,.none,.ref 369,.none,0⟩,⟨[]⟩⟩
def Ue:Obj:=⟨.type t2,.none,.seq ⟨[.str YJ 683,.str PF 684,.str Rv 685]⟩ 0,⟨[]⟩⟩
def Tp:Obj:=⟨.none,.none,.func ⟨z62,z62,L2.aD (tt 60),.stmts (L2.aC (tt 60)),L2.aj (tt 60),0,[],.none,.none,.none,.none,.none,.none,.none,0⟩,⟨[]⟩⟩
def Ud:Obj:=⟨.type t3,.none,.fields ⟨[.str z62 680,.str z62 681,.str z9 682,.int 254 0,.int 2 0,.int 0 0,.int 0 0,.int 3 0,.ref 371,.bool true,.int 181 0,.ref 372,.none,.ref 373,.ref 374,.ref 375,.int 686 0,.int 254 0,.str z9 687]⟩,⟨[]⟩⟩
def o377:Obj:=⟨.type t17,.none,.func ⟨z62,z62,L2.aD (tt 60),.stmts (L2.aC (tt 60)),L2.aj (tt 60),3,[],.none,.none,.none,.str z1 595,.none,.ref 376,.none,0⟩,⟨[]⟩⟩
def Wy:Obj:=⟨.type t2,.none,.seq ⟨[.str YJ 692,.str PF 693,.str Ze 694,.str aaf 695,.str aaK 696]⟩ 0,⟨[]⟩⟩
def RK:Obj:=⟨.none,.none,.func ⟨z63,z63,L2.aD (tt 61),.stmts (L2.aC (tt 61)),L2.aj (tt 61),0,[],.none,.none,.none,.none,.none,.none,.none,0⟩,⟨[]⟩⟩
def UN:Obj:=⟨.type t3,.none,.fields ⟨[.str z63 689,.str z63 690,.str z9 691,.int 263 0,.int 4 0,.int 0 0,.int 0 0,.int 3 0,.ref 378,.bool true,.int 181 0,.ref 379,.none,.ref 380,.ref 381,.ref 382,.int 697 0,.int 263 0,.str z9 698]⟩,⟨[]⟩⟩
def Wg:Obj:=⟨.type t17,.none,.func ⟨z63,z63,L2.aD (tt 61),.stmts (L2.aC (tt 61)),L2.aj (tt 61),3,[],.none,.none,.none,.str z1 595,.none,.ref 383,.none,0⟩,⟨[]⟩⟩
def Sx:Obj:=⟨.type t2,.none,.seq ⟨[.str YF 703,.str Zt 704,.str aaw 705,.str aao 706,.str aai 707]⟩ 0,⟨[]⟩⟩
def Tr:Obj:=⟨.none,.none,.func ⟨z64,z64,L2.aD (tt 62),.stmts (L2.aC (tt 62)),L2.aj (tt 62),0,[],.none,.none,.none,.none,.none,.none,.none,0⟩,⟨[]⟩⟩
def V4:Obj:=⟨.type t3,.none,.fields ⟨[.str z64 700,.str z64 701,.str z9 702,.int 268 0,.int 3 0,.int 0 0,.int 0 0,.int 3 0,.ref 385,.bool true,.int 181 0,.ref 386,.none,.ref 387,.ref 388,.ref 389,.int 708 0,.int 268 0,.str z9 709]⟩,⟨[]⟩⟩
def Vw:Obj:=⟨.type t17,.none,.func ⟨z64,z64,L2.aD (tt 62),.stmts (L2.aC (tt 62)),L2.aj (tt 62),3,[],.none,.none,.none,.str z1 595,.none,.ref 390,.none,0⟩,⟨[]⟩⟩
def XR:Obj:=⟨.none,.none,.func ⟨z65,z65,L2.aD (tt 63),.stmts (L2.aC (tt 63)),L2.aj (tt 63),0,[],.none,.none,.none,.none,.none,.none,.none,0⟩,⟨[]⟩⟩
def Ut:Obj:=⟨.type t3,.none,.fields ⟨[.str z65 711,.str z65 712,.str z9 713,.int 277 0,.int 1 0,.int 0 0,.int 0 0,.int 3 0,.ref 392,.bool true,.int 181 0,.ref 393,.none,.none,.none,.ref 394,.int 714 0,.int 277 0,.str z9 715]⟩,⟨[]⟩⟩
def Sw:Obj:=⟨.type t17,.none,.func ⟨z65,z65,L2.aD (tt 63),.stmts (L2.aC (tt 63)),L2.aj (tt 63),3,[],.none,.none,.none,.str z1 595,.none,.ref 395,.none,0⟩,⟨[]⟩⟩
def TF(P:Params):BT:=(nd (PySem.W.boot_o_0 P) (nd (PySem.W.boot_o_1 P) (nd (o3 P) (nd (PySem.W.boot_o_7 P) (nd o15 (nd o11 (nd o63 (nd o11 (nd o19 e e) (nd UN e e)) (nd TQ (nd o11 e e) e)) (nd o11 (nd o11 (nd Vz e e) e) (nd SW (nd Uk e e) e))) (nd o11 (nd o11 (nd XD (nd o11 e e) e) (nd o11 (nd Vx e e) e)) (nd o111 (nd WM (nd o19 e e) e) (nd U3 (nd o11 e e) e)))) (nd (o23 P) (nd o39 (nd o11 (nd Ui (nd Wu e e) (nd Vw e e)) (nd UW (nd RX e e) e)) (nd o11 (nd o19 (nd Ve e e) e) (nd o11 (nd Vk e e) e))) (nd o11 (nd o87 (nd W8 (nd o19 e e) e) (nd o19 (nd o19 e e) e)) (nd o11 (nd Xp (nd Um e e) e) (nd o11 (nd Tp e e) e))))) (nd o11 (nd o19 (nd o11 (nd o11 (nd o11 (nd o11 e e) (nd Sx e e)) (nd VN (nd o11 e e) e)) (nd o99 (nd VQ (nd Xd e e) e) (nd Xz (nd VJ e e) e))) (nd o51 (nd o11 (nd Td (nd RB e e) e) (nd Uo (nd R6 e e) e)) (nd o11 (nd Xu (nd RV e e) e) (nd o11 (nd o11 e e) e)))) (nd o27 (nd o11 (nd o75 (nd o19 (nd o19 e e) (nd Ut e e)) (nd o19 (nd o19 e e) e)) (nd o11 (nd Ub (nd Rz e e) e) (nd o11 (nd V8 e e) e))) (nd o11 (nd o11 (nd o11 (nd WZ e e) e) (nd VL (nd o11 e e) e)) (nd YM (nd Ux (nd VH e e) e) (nd WW (nd o19 e e) e)))))) (nd (PySem.W.boot_o_5 P) (nd (PySem.W.boot_o_9 P) (nd (o17 P) (nd o33 (nd o16 (nd Uz (nd Vg e e) (nd o11 e e)) (nd o19 (nd Wd e e) e)) (nd o97 (nd Xf (nd Tw e e) e) (nd UO (nd o19 e e) e))) (nd o49 (nd o81 (nd o11 (nd Vj e e) e) (nd Xo (nd o11 e e) e)) (nd o16 (nd Xn (nd o11 e e) e) (nd o19 (nd W9 e e) e)))) (nd o25 (nd o16 (nd o73 (nd XY (nd Vn e e) (nd o19 e e)) (nd UU (nd VD e e) e)) (nd YS (nd o11 (nd o11 e e) e) (nd SD (nd X5 e e) e))) (nd o57 (nd o16 (nd o19 (nd o11 e e) e) (nd o11 (nd Xh e e) e)) (nd VF (nd o11 (nd RW e e) e) (nd TN (nd o377 e e) e))))) (nd o13 (nd o21 (nd o37 (nd o69 (nd Wr (nd SX e e) (nd Tr e e)) (nd o11 (nd W2 e e) e)) (nd o16 (nd R8 (nd o19 e e) e) (nd o19 (nd o11 e e) e))) (nd o16 (nd o85 (nd Tq (nd Tv e e) e) (nd RL (nd VG e e) e)) (nd Yk (nd o19 (nd o11 e e) e) (nd UY (nd Ue e e) e)))) (nd o16 (nd o45 (nd o16 (nd o11 (nd UZ e e) e) (nd Vl (nd o11 e e) e)) (nd Xj (nd o11 (nd R7 e e) e) (nd VR (nd o19 e e) e))) (nd o61 (nd o93 (nd Vp (nd o11 e e) e) (nd o11 (nd Uw e e) e)) (nd o19 (nd RN (nd o19 e e) e) (nd Yb (nd o11 e e) e))))))) (nd (PySem.W.boot_o_2 P) (nd (PySem.W.boot_o_4 P) (nd (PySem.W.boot_o_8 P) (nd o16 (nd o19 (nd o28 (nd RQ (nd Wb e e) (nd Wg e e)) (nd o11 (nd Uh e e) e)) (nd (o96 P) (nd o19 (nd o11 e e) e) (nd o11 (nd o11 e e) e))) (nd (o48 P) (nd o19 (nd Tg (nd o19 e e) e) (nd o19 (nd Wo e e) e)) (nd o28 (nd o11 (nd Xx e e) e) (nd o11 (nd WY e e) e)))) (nd o24 (nd o28 (nd (o72 P) (nd Wh (nd Wz e e) (nd o11 e e)) (nd o200 (nd Wi e e) e)) (nd o19 (nd Xi (nd VW e e) e) (nd VP (nd o11 e e) e))) (nd o19 (nd o28 (nd o11 (nd Uc e e) e) (nd UL (nd WB e e) e)) (nd (U0 P) (nd WD (nd o11 e e) e) (nd o19 (nd Ud e e) e))))) (nd o12 (nd o20 (nd (o36 P) (nd o19 (nd o19 (nd o19 e e) (nd o11 e e)) (nd XE (nd o19 e e) e)) (nd o28 (nd VX (nd o11 e e) e) (nd o11 (nd Vf e e) e))) (nd o28 (nd (o84 P) (nd o11 (nd Uq e e) e) (nd Tz (nd XU e e) e)) (nd o19 (nd o11 (nd XF e e) e) (nd Wn (nd o19 e e) e)))) (nd o28 (nd o19 (nd o28 (nd Vs (nd V1 e e) (nd Sw e e)) (nd V5 (nd Tc e e) e)) (nd (Vc P) (nd XI (nd o300 e e) e) (nd o19 (nd o11 e e) e))) (nd (o60 P) (nd o19 (nd V7 (nd Ww e e) e) (nd Vm (nd o19 e e) e)) (nd o11 (nd o11 (nd o11 e e) e) (nd Xw (nd Wy e e) e)))))) (nd (PySem.W.boot_o_6 P) (nd (PySem.W.boot_o_10 P) (nd o11 (nd o34 (nd (o66 P) (nd Xq (nd WV e e) (nd o19 e e)) (nd Wq (nd U8 e e) e)) (nd o98 (nd o11 (nd XO e e) e) (nd R3 (nd U9 e e) e))) (nd o50 (nd o82 (nd o19 (nd o11 e e) e) (nd o11 (nd o19 e e) e)) (nd (Ym P) (nd V2 (nd Xe e e) e) (nd Sh (nd Vi e e) e)))) (nd o26 (nd (o42 P) (nd o74 (nd o11 (nd o11 e e) (nd XR e e)) (nd o11 (nd o11 e e) e)) (nd YW (nd Te (nd o19 e e) e) (nd WL (nd XJ e e) e))) (nd o58 (nd (o90 P) (nd SV (nd Sy e e) e) (nd Ti (nd SN e e) e)) (nd Yg (nd o19 (nd Xy e e) e) (nd o11 (nd o11 e e) e))))) (nd o14 (nd o11 (nd o38 (nd o70 (nd o11 (nd o11 e e) (nd V4 e e)) (nd o19 (nd o11 e e) e)) (nd (YZ P) (nd o11 (nd XG e e) e) (nd Xk (nd o19 e e) e))) (nd (o54 P) (nd o86 (nd Xl (nd o11 e e) e) (nd o11 (nd o11 e e) e)) (nd YB (nd Wc (nd o19 e e) e) (nd Ye (nd o11 e e) e)))) (nd (o30 P) (nd o46 (nd (o78 P) (nd Ws (nd Wt e e) e) (nd Vb (nd Sd e e) e)) (nd Yu (nd o19 (nd o11 e e) e) (nd RD (nd Sq e e) e))) (nd o62 (nd o94 (nd SQ (nd o19 e e) e) (nd o19 (nd R9 e e) e)) (nd W7 (nd RH (nd RT e e) e) (nd o11 (nd RK e e) e))))))))
def HF(P:Params):Heap:=⟨⟨[PySem.W.boot_o_0 P,PySem.W.boot_o_1 P,PySem.W.boot_o_2 P,o3 P,PySem.W.boot_o_4 P,PySem.W.boot_o_5 P,PySem.W.boot_o_6 P,PySem.W.boot_o_7 P,PySem.W.boot_o_8 P,PySem.W.boot_o_9 P,PySem.W.boot_o_10 P,o11,o12,o13,o14,o15,o16,o17 P,o11,o19,o20,o21,o11,o23 P,o24,o25,o26,o27,o28,o16,o30 P,o11,o19,o33,o34,o11,o36 P,o37,o38,o39,o28,o16,o42 P,o11,o19,o45,o46,o11,o48 P,o49,o50,o51,o28,o16,o54 P,o11,o19,o57,o58,o11,o60 P,o61,o62,o63,o28,o16,o66 P,o11,o19,o69,o70,o11,o72 P,o73,o74,o75,o28,o16,o78 P,o11,o19,o81,o82,o11,o84 P,o85,o86,o87,o28,o16,o90 P,o11,o19,o93,o94,o11,o96 P,o97,o98,o99,o28,o16,YZ P,o11,o19,YS,YW,o11,Vc P,Xj,Yu,o111,o28,o16,Ym P,o11,o19,Yk,YB,o11,U0 P,VF,Yg,YM,o11,o19,W7,o11,RQ,Uz,Xq,o11,o19,Wr,o11,Ui,Wh,XY,o11,o19,Vs,o11,Ws,XD,Tg,o11,o19,Td,o11,Tq,Xl,W8,o11,o19,SV,o11,V7,Vp,SQ,o11,o19,Xf,o11,VQ,VX,R8,o11,o19,Xi,o11,Te,Ub,XI,o11,o19,WM,o11,Xn,V2,Xu,o11,o19,Wc,Xp,WD,o11,o19,Ux,o11,RN,RH,TQ,o11,o19,Wq,VN,XE,o11,o19,UW,o200,UU,o11,o19,V5,Vl,Vb,o11,o19,Xo,o11,Uo,Tz,RL,o11,o19,UL,o11,Ti,VL,Vm,o11,o19,SW,o11,UO,R3,Xz,o11,o19,Xk,o11,VP,SD,WL,o11,o19,VR,RD,U3,o11,o19,Sh,o11,Wn,UY,Ye,o11,o19,TN,o11,WW,Xw,Yb,o11,o19,Wb,Vg,WV,o11,o19,SX,o11,Wu,Wz,Vn,o11,o19,V1,UZ,Wt,o11,o19,Vj,o11,RB,Uq,Tv,o11,o19,Uc,o11,Sy,WZ,Ww,o11,o19,Vz,o11,Tw,XO,Xd,o11,o19,XG,Ve,VW,o11,o19,Rz,o300,R7,o11,o19,Xx,o11,Xe,RV,XF,o11,o19,Um,o11,RW,Xy,VH,o11,o19,RT,o11,Uh,Wd,U8,o11,o19,W2,o11,RX,Wi,VD,o11,o19,Tc,o11,Sd,Vx,Wo,o11,o19,R6,XU,VG,o11,o19,WB,Xh,SN,o11,o19,Uw,R9,Uk,o11,o19,U9,VJ,Vf,o11,o19,Vk,o11,X5,XJ,V8,o11,o19,Sq,o11,WY,W9,Vi,o11,o19,Ue,o11,Tp,Ud,o377,o11,o19,Wy,o11,RK,UN,Wg,o11,o19,Sx,o11,Tr,V4,Vw,o11,o19,XR,Ut,Sw]⟩,{}⟩
def K(P:Params):Frag:=(nat_lit 0,PySem.W.boot_o_0 P)::(nat_lit 1,PySem.W.boot_o_1 P)::(nat_lit 2,PySem.W.boot_o_2 P)::(nat_lit 3,o3 P)::(nat_lit 4,PySem.W.boot_o_4 P)::(nat_lit 5,PySem.W.boot_o_5 P)::(nat_lit 6,PySem.W.boot_o_6 P)::(nat_lit 7,PySem.W.boot_o_7 P)::(nat_lit 8,PySem.W.boot_o_8 P)::(nat_lit 9,PySem.W.boot_o_9 P)::(nat_lit 10,PySem.W.boot_o_10 P)::(nat_lit 11,o11)::(nat_lit 12,o12)::(nat_lit 13,o13)::(nat_lit 14,o14)::(nat_lit 15,o15)::(nat_lit 22,o11)::(nat_lit 23,o23 P)::(nat_lit 24,o24)::(nat_lit 25,o25)::(nat_lit 28,o28)::(nat_lit 35,o11)::(nat_lit 36,o36 P)::(nat_lit 37,o37)::(nat_lit 40,o28)::(nat_lit 47,o11)::(nat_lit 48,o48 P)::(nat_lit 49,o49)::(nat_lit 52,o28)::(nat_lit 59,o11)::(nat_lit 60,o60 P)::(nat_lit 61,o61)::(nat_lit 64,o28)::(nat_lit 71,o11)::(nat_lit 72,o72 P)::(nat_lit 73,o73)::(nat_lit 76,o28)::(nat_lit 83,o11)::(nat_lit 84,o84 P)::(nat_lit 85,o85)::(nat_lit 88,o28)::(nat_lit 95,o11)::(nat_lit 96,o96 P)::(nat_lit 97,o97)::(nat_lit 100,o28)::(nat_lit 107,o11)::(nat_lit 108,Vc P)::(nat_lit 109,Xj)::(nat_lit 112,o28)::(nat_lit 119,o11)::(nat_lit 120,U0 P)::(nat_lit 121,VF)::(nat_lit 124,o11)::(nat_lit 125,o19)::(nat_lit 126,W7)::(nat_lit 127,o11)::(nat_lit 128,RQ)::(nat_lit 129,Uz)::(nat_lit 130,Xq)::(nat_lit 131,o11)::(nat_lit 132,o19)::(nat_lit 133,Wr)::(nat_lit 134,o11)::(nat_lit 135,Ui)::(nat_lit 136,Wh)::(nat_lit 137,XY)::(nat_lit 138,o11)::(nat_lit 139,o19)::(nat_lit 140,Vs)::(nat_lit 141,o11)::(nat_lit 142,Ws)::(nat_lit 143,XD)::(nat_lit 144,Tg)::(nat_lit 145,o11)::(nat_lit 146,o19)::(nat_lit 147,Td)::(nat_lit 148,o11)::(nat_lit 149,Tq)::(nat_lit 150,Xl)::(nat_lit 151,W8)::(nat_lit 152,o11)::(nat_lit 153,o19)::(nat_lit 154,SV)::(nat_lit 155,o11)::(nat_lit 156,V7)::(nat_lit 157,Vp)::(nat_lit 158,SQ)::(nat_lit 159,o11)::(nat_lit 160,o19)::(nat_lit 161,Xf)::(nat_lit 162,o11)::(nat_lit 163,VQ)::(nat_lit 164,VX)::(nat_lit 165,R8)::(nat_lit 166,o11)::(nat_lit 167,o19)::(nat_lit 168,Xi)::(nat_lit 169,o11)::(nat_lit 170,Te)::(nat_lit 171,Ub)::(nat_lit 172,XI)::(nat_lit 173,o11)::(nat_lit 174,o19)::(nat_lit 175,WM)::(nat_lit 176,o11)::(nat_lit 177,Xn)::(nat_lit 178,V2)::(nat_lit 179,Xu)::(nat_lit 180,o11)::(nat_lit 181,o19)::(nat_lit 182,Wc)::(nat_lit 183,Xp)::(nat_lit 184,WD)::(nat_lit 185,o11)::(nat_lit 186,o19)::(nat_lit 187,Ux)::(nat_lit 188,o11)::(nat_lit 189,RN)::(nat_lit 190,RH)::(nat_lit 191,TQ)::(nat_lit 192,o11)::(nat_lit 193,o19)::(nat_lit 194,Wq)::(nat_lit 195,VN)::(nat_lit 196,XE)::(nat_lit 197,o11)::(nat_lit 198,o19)::(nat_lit 199,UW)::(nat_lit 200,o200)::(nat_lit 201,UU)::(nat_lit 202,o11)::(nat_lit 203,o19)::(nat_lit 204,V5)::(nat_lit 205,Vl)::(nat_lit 206,Vb)::(nat_lit 207,o11)::(nat_lit 208,o19)::(nat_lit 209,Xo)::(nat_lit 210,o11)::(nat_lit 211,Uo)::(nat_lit 212,Tz)::(nat_lit 213,RL)::(nat_lit 214,o11)::(nat_lit 215,o19)::(nat_lit 216,UL)::(nat_lit 217,o11)::(nat_lit 218,Ti)::(nat_lit 219,VL)::(nat_lit 220,Vm)::(nat_lit 221,o11)::(nat_lit 222,o19)::(nat_lit 223,SW)::(nat_lit 224,o11)::(nat_lit 225,UO)::(nat_lit 226,R3)::(nat_lit 227,Xz)::(nat_lit 228,o11)::(nat_lit 229,o19)::(nat_lit 230,Xk)::(nat_lit 231,o11)::(nat_lit 232,VP)::(nat_lit 233,SD)::(nat_lit 234,WL)::(nat_lit 235,o11)::(nat_lit 236,o19)::(nat_lit 237,VR)::(nat_lit 238,RD)::(nat_lit 239,U3)::(nat_lit 240,o11)::(nat_lit 241,o19)::(nat_lit 242,Sh)::(nat_lit 243,o11)::(nat_lit 244,Wn)::(nat_lit 245,UY)::(nat_lit 246,Ye)::(nat_lit 247,o11)::(nat_lit 248,o19)::(nat_lit 249,TN)::(nat_lit 250,o11)::(nat_lit 251,WW)::(nat_lit 252,Xw)::(nat_lit 253,Yb)::(nat_lit 254,o11)::(nat_lit 255,o19)::(nat_lit 256,Wb)::(nat_lit 257,Vg)::(nat_lit 258,WV)::(nat_lit 259,o11)::(nat_lit 260,o19)::(nat_lit 261,SX)::(nat_lit 262,o11)::(nat_lit 263,Wu)::(nat_lit 264,Wz)::(nat_lit 265,Vn)::(nat_lit 266,o11)::(nat_lit 267,o19)::(nat_lit 268,V1)::(nat_lit 269,UZ)::(nat_lit 270,Wt)::(nat_lit 271,o11)::(nat_lit 272,o19)::(nat_lit 273,Vj)::(nat_lit 274,o11)::(nat_lit 275,RB)::(nat_lit 276,Uq)::(nat_lit 277,Tv)::(nat_lit 278,o11)::(nat_lit 279,o19)::(nat_lit 280,Uc)::(nat_lit 281,o11)::(nat_lit 282,Sy)::(nat_lit 283,WZ)::(nat_lit 284,Ww)::(nat_lit 285,o11)::(nat_lit 286,o19)::(nat_lit 287,Vz)::(nat_lit 288,o11)::(nat_lit 289,Tw)::(nat_lit 290,XO)::(nat_lit 291,Xd)::(nat_lit 292,o11)::(nat_lit 293,o19)::(nat_lit 294,XG)::(nat_lit 295,Ve)::(nat_lit 296,VW)::(nat_lit 297,o11)::(nat_lit 298,o19)::(nat_lit 299,Rz)::(nat_lit 300,o300)::(nat_lit 301,R7)::(nat_lit 302,o11)::(nat_lit 303,o19)::(nat_lit 304,Xx)::(nat_lit 305,o11)::(nat_lit 306,Xe)::(nat_lit 307,RV)::(nat_lit 308,XF)::(nat_lit 309,o11)::(nat_lit 310,o19)::(nat_lit 311,Um)::(nat_lit 312,o11)::(nat_lit 313,RW)::(nat_lit 314,Xy)::(nat_lit 315,VH)::(nat_lit 316,o11)::(nat_lit 317,o19)::(nat_lit 318,RT)::(nat_lit 319,o11)::(nat_lit 320,Uh)::(nat_lit 321,Wd)::(nat_lit 322,U8)::(nat_lit 323,o11)::(nat_lit 324,o19)::(nat_lit 325,W2)::(nat_lit 326,o11)::(nat_lit 327,RX)::(nat_lit 328,Wi)::(nat_lit 329,VD)::(nat_lit 330,o11)::(nat_lit 331,o19)::(nat_lit 332,Tc)::(nat_lit 333,o11)::(nat_lit 334,Sd)::(nat_lit 335,Vx)::(nat_lit 336,Wo)::(nat_lit 337,o11)::(nat_lit 338,o19)::(nat_lit 339,R6)::(nat_lit 340,XU)::(nat_lit 341,VG)::(nat_lit 342,o11)::(nat_lit 343,o19)::(nat_lit 344,WB)::(nat_lit 345,Xh)::(nat_lit 346,SN)::(nat_lit 347,o11)::(nat_lit 348,o19)::(nat_lit 349,Uw)::(nat_lit 350,R9)::(nat_lit 351,Uk)::(nat_lit 352,o11)::(nat_lit 353,o19)::(nat_lit 354,U9)::(nat_lit 355,VJ)::(nat_lit 356,Vf)::(nat_lit 357,o11)::(nat_lit 358,o19)::(nat_lit 359,Vk)::(nat_lit 360,o11)::(nat_lit 361,X5)::(nat_lit 362,XJ)::(nat_lit 363,V8)::(nat_lit 364,o11)::(nat_lit 365,o19)::(nat_lit 366,Sq)::(nat_lit 367,o11)::(nat_lit 368,WY)::(nat_lit 369,W9)::(nat_lit 370,Vi)::(nat_lit 371,o11)::(nat_lit 372,o19)::(nat_lit 373,Ue)::(nat_lit 374,o11)::(nat_lit 375,Tp)::(nat_lit 376,Ud)::(nat_lit 377,o377)::(nat_lit 378,o11)::(nat_lit 379,o19)::(nat_lit 380,Wy)::(nat_lit 381,o11)::(nat_lit 382,RK)::(nat_lit 383,UN)::(nat_lit 384,Wg)::(nat_lit 385,o11)::(nat_lit 386,o19)::(nat_lit 387,Sx)::(nat_lit 388,o11)::(nat_lit 389,Tr)::(nat_lit 390,V4)::(nat_lit 391,Vw)::(nat_lit 392,o11)::(nat_lit 393,o19)::(nat_lit 394,XR)::(nat_lit 395,Ut)::(nat_lit 396,Sw)::[]
def as:List Nat:=[nat_lit 0,nat_lit 1,nat_lit 2,nat_lit 3,nat_lit 4,nat_lit 5,nat_lit 6,nat_lit 7,nat_lit 8,nat_lit 9,nat_lit 10,nat_lit 11,nat_lit 12,nat_lit 13,nat_lit 14,nat_lit 15,nat_lit 22,nat_lit 23,nat_lit 24,nat_lit 25,nat_lit 28,nat_lit 35,nat_lit 36,nat_lit 37,nat_lit 40,nat_lit 47,nat_lit 48,nat_lit 49,nat_lit 52,nat_lit 59,nat_lit 60,nat_lit 61,nat_lit 64,nat_lit 71,nat_lit 72,nat_lit 73,nat_lit 76,nat_lit 83,nat_lit 84,nat_lit 85,nat_lit 88,nat_lit 95,nat_lit 96,nat_lit 97,nat_lit 100,nat_lit 107,nat_lit 108,nat_lit 109,nat_lit 112,nat_lit 119,nat_lit 120,nat_lit 121,nat_lit 124,nat_lit 125,nat_lit 126,nat_lit 127,nat_lit 128,nat_lit 129,nat_lit 130,nat_lit 131,nat_lit 132,nat_lit 133,nat_lit 134,nat_lit 135,nat_lit 136,nat_lit 137,nat_lit 138,nat_lit 139,nat_lit 140,nat_lit 141,nat_lit 142,nat_lit 143,nat_lit 144,nat_lit 145,nat_lit 146,nat_lit 147,nat_lit 148,nat_lit 149,nat_lit 150,nat_lit 151,nat_lit 152,nat_lit 153,nat_lit 154,nat_lit 155,nat_lit 156,nat_lit 157,nat_lit 158,nat_lit 159,nat_lit 160,nat_lit 161,nat_lit 162,nat_lit 163,nat_lit 164,nat_lit 165,nat_lit 166,nat_lit 167,nat_lit 168,nat_lit 169,nat_lit 170,nat_lit 171,nat_lit 172,nat_lit 173,nat_lit 174,nat_lit 175,nat_lit 176,nat_lit 177,nat_lit 178,nat_lit 179,nat_lit 180,nat_lit 181,nat_lit 182,nat_lit 183,nat_lit 184,nat_lit 185,nat_lit 186,nat_lit 187,nat_lit 188,nat_lit 189,nat_lit 190,nat_lit 191,nat_lit 192,nat_lit 193,nat_lit 194,nat_lit 195,nat_lit 196,nat_lit 197,nat_lit 198,nat_lit 199,nat_lit 200,nat_lit 201,nat_lit 202,nat_lit 203,nat_lit 204,nat_lit 205,nat_lit 206,nat_lit 207,nat_lit 208,nat_lit 209,nat_lit 210,nat_lit 211,nat_lit 212,nat_lit 213,nat_lit 214,nat_lit 215,nat_lit 216,nat_lit 217,nat_lit 218,nat_lit 219,nat_lit 220,nat_lit 221,nat_lit 222,nat_lit 223,nat_lit 224,nat_lit 225,nat_lit 226,nat_lit 227,nat_lit 228,nat_lit 229,nat_lit 230,nat_lit 231,nat_lit 232,nat_lit 233,nat_lit 234,nat_lit 235,nat_lit 236,nat_lit 237,nat_lit 238,nat_lit 239,nat_lit 240,nat_lit 241,nat_lit 242,nat_lit 243,nat_lit 244,nat_lit 245,nat_lit 246,nat_lit 247,nat_lit 248,nat_lit 249,nat_lit 250,nat_lit 251,nat_lit 252,nat_lit 253,nat_lit 254,nat_lit 255,nat_lit 256,nat_lit 257,nat_lit 258,nat_lit 259,nat_lit 260,nat_lit 261,nat_lit 262,nat_lit 263,nat_lit 264,nat_lit 265,nat_lit 266,nat_lit 267,nat_lit 268,nat_lit 269,nat_lit 270,nat_lit 271,nat_lit 272,nat_lit 273,nat_lit 274,nat_lit 275,nat_lit 276,nat_lit 277,nat_lit 278,nat_lit 279,nat_lit 280,nat_lit 281,nat_lit 282,nat_lit 283,nat_lit 284,nat_lit 285,nat_lit 286,nat_lit 287,nat_lit 288,nat_lit 289,nat_lit 290,nat_lit 291,nat_lit 292,nat_lit 293,nat_lit 294,nat_lit 295,nat_lit 296,nat_lit 297,nat_lit 298,nat_lit 299,nat_lit 300,nat_lit 301,nat_lit 302,nat_lit 303,nat_lit 304,nat_lit 305,nat_lit 306,nat_lit 307,nat_lit 308,nat_lit 309,nat_lit 310,nat_lit 311,nat_lit 312,nat_lit 313,nat_lit 314,nat_lit 315,nat_lit 316,nat_lit 317,nat_lit 318,nat_lit 319,nat_lit 320,nat_lit 321,nat_lit 322,nat_lit 323,nat_lit 324,nat_lit 325,nat_lit 326,nat_lit 327,nat_lit 328,nat_lit 329,nat_lit 330,nat_lit 331,nat_lit 332,nat_lit 333,nat_lit 334,nat_lit 335,nat_lit 336,nat_lit 337,nat_lit 338,nat_lit 339,nat_lit 340,nat_lit 341,nat_lit 342,nat_lit 343,nat_lit 344,nat_lit 345,nat_lit 346,nat_lit 347,nat_lit 348,nat_lit 349,nat_lit 350,nat_lit 351,nat_lit 352,nat_lit 353,nat_lit 354,nat_lit 355,nat_lit 356,nat_lit 357,nat_lit 358,nat_lit 359,nat_lit 360,nat_lit 361,nat_lit 362,nat_lit 363,nat_lit 364,nat_lit 365,nat_lit 366,nat_lit 367,nat_lit 368,nat_lit 369,nat_lit 370,nat_lit 371,nat_lit 372,nat_lit 373,nat_lit 374,nat_lit 375,nat_lit 376,nat_lit 377,nat_lit 378,nat_lit 379,nat_lit 380,nat_lit 381,nat_lit 382,nat_lit 383,nat_lit 384,nat_lit 385,nat_lit 386,nat_lit 387,nat_lit 388,nat_lit 389,nat_lit 390,nat_lit 391,nat_lit 392,nat_lit 393,nat_lit 394,nat_lit 395,nat_lit 396]
def cut(n:Nat)(t:BT):Nat->Nat->BT:=BT.rec (motive:=fun _=>Nat->Nat->BT) (fun _ _=> .nil) (fun v _ _ l r a b=>cond (Nat.blt b n) (.node v (l (Nat.mul 2 a) (Nat.add a b)) (r (Nat.mul 2 a) (Nat.add (Nat.mul 2 a) b))) .nil) t
def HA(P:Params):Heap:=⟨⟨[PySem.W.boot_o_0 P,PySem.W.boot_o_1 P,PySem.W.boot_o_2 P,PySem.W.boot_o_3 P,PySem.W.boot_o_4 P,PySem.W.boot_o_5 P,PySem.W.boot_o_6 P,PySem.W.boot_o_7 P,PySem.W.boot_o_8 P,PySem.W.boot_o_9 P,PySem.W.boot_o_10 P,o11,O3,o13,o14]⟩,{}⟩
def SA(w:World)(os:OsState):Shared:=⟨HA w.params,⟨[]⟩,{},187,os⟩
def T1(P:Params):BT:=((cut 15 (TF P) 1 0).set 3 fun _=>PySem.W.boot_o_3 P).set 12 fun _=>O3
def S1(w:World)(os:OsState):SharedT:=⟨T1 w.params,15,{},⟨[]⟩,{},187,os⟩
def T2(P:Params):BT:=(((cut 28 (TF P) 1 0).set 3 fun _=>aaq P).set 12 fun _=>W4).set 24 fun _=>Wv
def S2(w:World)(os:OsState):SharedT:=⟨T2 w.params,28,{},⟨[]⟩,{},207,os⟩
def T3(P:Params):BT:=(((cut 40 (TF P) 1 0).set 3 fun _=>aaj P).set 12 fun _=>X6).set 24 fun _=>Wm
def S3(w:World)(os:OsState):SharedT:=⟨T3 w.params,40,{},⟨[]⟩,{},223,os⟩
def T4(P:Params):BT:=(((cut 52 (TF P) 1 0).set 3 fun _=>aaF P).set 12 fun _=>WH).set 24 fun _=>TJ
def S4(w:World)(os:OsState):SharedT:=⟨T4 w.params,52,{},⟨[]⟩,{},239,os⟩
def T5(P:Params):BT:=(((cut 64 (TF P) 1 0).set 3 fun _=>V0 P).set 12 fun _=>Qh).set 24 fun _=>N6
def S5(w:World)(os:OsState):SharedT:=⟨T5 w.params,64,{},⟨[]⟩,{},255,os⟩
def T6(P:Params):BT:=(((cut 76 (TF P) 1 0).set 3 fun _=>Ug P).set 12 fun _=>PK).set 24 fun _=>Rf
def S6(w:World)(os:OsState):SharedT:=⟨T6 w.params,76,{},⟨[]⟩,{},271,os⟩
def T7(P:Params):BT:=(((cut 88 (TF P) 1 0).set 3 fun _=>VB P).set 12 fun _=>Ri).set 24 fun _=>Qi
def S7(w:World)(os:OsState):SharedT:=⟨T7 w.params,88,{},⟨[]⟩,{},287,os⟩
def T8(P:Params):BT:=(((cut 100 (TF P) 1 0).set 3 fun _=>X4 P).set 12 fun _=>PL).set 24 fun _=>NK
def S8(w:World)(os:OsState):SharedT:=⟨T8 w.params,100,{},⟨[]⟩,{},303,os⟩
def T9(P:Params):BT:=(((cut 112 (TF P) 1 0).set 3 fun _=>U4 P).set 12 fun _=>N7).set 24 fun _=>O5
def S9(w:World)(os:OsState):SharedT:=⟨T9 w.params,112,{},⟨[]⟩,{},319,os⟩
def T10(P:Params):BT:=((cut 159 (TF P) 1 0).set 3 fun _=>V9 P).set 12 fun _=>QJ
def S10(w:World)(os:OsState):SharedT:=⟨T10 w.params,159,{},⟨[]⟩,{},386,os⟩
def T11(P:Params):BT:=((cut 235 (TF P) 1 0).set 3 fun _=>SR P).set 12 fun _=>OD
def S11(w:World)(os:OsState):SharedT:=⟨T11 w.params,235,{},⟨[]⟩,{},501,os⟩
def T12(P:Params):BT:=((cut 309 (TF P) 1 0).set 3 fun _=>TR P).set 12 fun _=>Qj
def S12(w:World)(os:OsState):SharedT:=⟨T12 w.params,309,{},⟨[]⟩,{},605,os⟩
def T13(P:Params):BT:=((cut 392 (TF P) 1 0).set 3 fun _=>Wl P).set 12 fun _=>PN
def S13(w:World)(os:OsState):SharedT:=⟨T13 w.params,392,{},⟨[]⟩,{},711,os⟩
def T14(P:Params):BT:=cut 397 (TF P) 1 0
def S14(w:World)(os:OsState):SharedT:=⟨T14 w.params,397,{},⟨[]⟩,{},717,os⟩
def SF(w:World)(os:OsState):Shared:=⟨HF w.params,⟨[]⟩,{},717,os⟩
def ann:Option Value:=some (.ref 6)
def env:Env:={ scope:=pwL.main.scope,locals:=mainNs,globals:=mainNs,cells:=[],code:= .ref 13,frame:=some 14 }
def cE:Code:= .body (behindTheImports pwL) env
abbrev BB:List Frame:=[topFrame ⟨0,0,0,0⟩]
def q:Program:={ pwL with main:={ pwL.main with body:=[topF 1,topF 2,topF 3,topF 4,topF 5,topF 6,topF 7,topF 8,topF 9,topF 11,topF 12,topF 13,topF 14,topF 16,topF 17,topF 19,topF 20,topF 21,topF 22,topF 23,topF 24,topF 26,topF 27,topF 28,topF 30,topF 31,topF 32,topF 33,topF 34,topF 35,topF 36,topF 37,topF 39,topF 40,topF 41,topF 43,topF 44,topF 45,topF 46,topF 47,topF 49,topF 50,topF 51,topF 52,topF 53,topF 54,topF 55,topF 56,topF 57,topF 58,topF 59,topF 60,topF 61,topF 62,topF 63] } }
theorem warm2:((fun(_:Env) (_:Code) (_:Program)=>true) env cE q)=true:=by k_qdec
theorem a0:@segRunT=PySem.W.Fast.tw10110043849684766642:=PySem.W.Fast.te10110043849684766642
theorem a1:@treeTable=PySem.W.Fast.tw14364793385576792824:=PySem.W.Fast.te14364793385576792824
theorem a2:@topGo=PySem.W.Fast.tw15667345088766844465:=PySem.W.Fast.te15667345088766844465
theorem a3:@topRun=PySem.W.Fast.tw14082659384304107361:=PySem.W.Fast.te14082659384304107361
theorem a4:@segRun=PySem.W.Fast.tw14374325043358763698:=PySem.W.Fast.te14374325043358763698
theorem a5:@denote=PySem.W.Fast.tw11892475500146522536:=PySem.W.Fast.te11892475500146522536
theorem a6:@cE=PySem.W.Fast.tw5657127346518454708:=PySem.W.Fast.te5657127346518454708
theorem a7:@env=PySem.W.Fast.tw15001960598227786567:=PySem.W.Fast.te15001960598227786567
theorem a8:@q=PySem.W.Fast.tw3368881920843626231:=PySem.W.Fast.te3368881920843626231
theorem a9:@pwL=PySem.W.Fast.tw1202540722407383275:=PySem.W.Fast.te1202540722407383275
theorem a10:@topF=PySem.W.Fast.tw1727613896926939729:=PySem.W.Fast.te1727613896926939729
theorem a11:@importedModules=PySem.W.Fast.tw5923862056798008813:=PySem.W.Fast.te5923862056798008813
theorem a12:@openSeen=PySem.W.Fast.tw4187177175401517315:=PySem.W.Fast.te4187177175401517315
theorem a13:@Heap.nsMap=PySem.W.Fast.tw8920871248978507458:=PySem.W.Fast.te8920871248978507458
set_option maxHeartbeats 0
theorem pre(w:World)(os:OsState):topGo treeTable pwL w 11 ann 12 ⟨boot_heap w.params,⟨[]⟩,boot_drawn,boot_toks,os⟩ (topStub pwL)=some (SA w os,⟨denote treeTable cE,cE,⟨0,0,0,0⟩,BB⟩):=by
 (try rw[a0]);(try rw[a1]);(try rw[a2]);(try rw[a3]);(try rw[a4]);(try rw[a5]);(try rw[a6]);(try rw[a7]);(try rw[a8]);(try rw[a9]);(try rw[a10]);kernel_rfl
theorem blk(w:World)(os:OsState):segRun treeTable pwL w 11 ann 1 1 (SA w os) (blockOf (behindTheImports pwL) env cE ⟨0,0,0,0⟩ BB)=some (.next,(S1 w os).abs,cE,⟨0,0,0,0⟩):=by
 (try rw[a0]);(try rw[a1]);(try rw[a2]);(try rw[a3]);(try rw[a4]);(try rw[a5]);(try rw[a6]);(try rw[a7]);(try rw[a8]);(try rw[a9]);(try rw[a10]);kernel_rfl
abbrev c1:List Stmt:=[topF 0,topF 1]
theorem p1(w:World)(os:OsState):segRunT treeTable pwL w 11 ann 1 196 (S1 w os) (piecesOf c1 env cE ⟨0,0,0,0⟩ BB)=some (.next,S2 w os,cE,⟨2,0,3,8⟩):=by
 unfold c1;(try rw[a0]);(try rw[a1]);(try rw[a2]);(try rw[a3]);(try rw[a4]);(try rw[a5]);(try rw[a6]);(try rw[a7]);(try rw[a8]);(try rw[a9]);(try rw[a10]);kernel_rfl
abbrev c2:List Stmt:=[topF 2]
theorem p2(w:World)(os:OsState):segRunT treeTable pwL w 11 ann 1 214 (S2 w os) (piecesOf c2 env cE ⟨2,0,3,8⟩ BB)=some (.next,S3 w os,cE,⟨4,0,5,8⟩):=by
 unfold c2;(try rw[a0]);(try rw[a1]);(try rw[a2]);(try rw[a3]);(try rw[a4]);(try rw[a5]);(try rw[a6]);(try rw[a7]);(try rw[a8]);(try rw[a9]);(try rw[a10]);kernel_rfl
abbrev c3:List Stmt:=[topF 3]
theorem p3(w:World)(os:OsState):segRunT treeTable pwL w 11 ann 1 214 (S3 w os) (piecesOf c3 env cE ⟨4,0,5,8⟩ BB)=some (.next,S4 w os,cE,⟨6,0,7,8⟩):=by
 unfold c3;(try rw[a0]);(try rw[a1]);(try rw[a2]);(try rw[a3]);(try rw[a4]);(try rw[a5]);(try rw[a6]);(try rw[a7]);(try rw[a8]);(try rw[a9]);(try rw[a10]);kernel_rfl
abbrev c4:List Stmt:=[topF 4]
theorem p4(w:World)(os:OsState):segRunT treeTable pwL w 11 ann 1 214 (S4 w os) (piecesOf c4 env cE ⟨6,0,7,8⟩ BB)=some (.next,S5 w os,cE,⟨8,0,9,8⟩):=by
 unfold c4;(try rw[a0]);(try rw[a1]);(try rw[a2]);(try rw[a3]);(try rw[a4]);(try rw[a5]);(try rw[a6]);(try rw[a7]);(try rw[a8]);(try rw[a9]);(try rw[a10]);kernel_rfl
abbrev c5:List Stmt:=[topF 5]
theorem p5(w:World)(os:OsState):segRunT treeTable pwL w 11 ann 1 214 (S5 w os) (piecesOf c5 env cE ⟨8,0,9,8⟩ BB)=some (.next,S6 w os,cE,⟨10,0,11,8⟩):=by
 unfold c5;(try rw[a0]);(try rw[a1]);(try rw[a2]);(try rw[a3]);(try rw[a4]);(try rw[a5]);(try rw[a6]);(try rw[a7]);(try rw[a8]);(try rw[a9]);(try rw[a10]);kernel_rfl
abbrev c6:List Stmt:=[topF 6]
theorem p6(w:World)(os:OsState):segRunT treeTable pwL w 11 ann 1 214 (S6 w os) (piecesOf c6 env cE ⟨10,0,11,8⟩ BB)=some (.next,S7 w os,cE,⟨12,0,13,8⟩):=by
 unfold c6;(try rw[a0]);(try rw[a1]);(try rw[a2]);(try rw[a3]);(try rw[a4]);(try rw[a5]);(try rw[a6]);(try rw[a7]);(try rw[a8]);(try rw[a9]);(try rw[a10]);kernel_rfl
abbrev c7:List Stmt:=[topF 7]
theorem p7(w:World)(os:OsState):segRunT treeTable pwL w 11 ann 1 214 (S7 w os) (piecesOf c7 env cE ⟨12,0,13,8⟩ BB)=some (.next,S8 w os,cE,⟨14,0,15,8⟩):=by
 unfold c7;(try rw[a0]);(try rw[a1]);(try rw[a2]);(try rw[a3]);(try rw[a4]);(try rw[a5]);(try rw[a6]);(try rw[a7]);(try rw[a8]);(try rw[a9]);(try rw[a10]);kernel_rfl
abbrev c8:List Stmt:=[topF 8]
theorem p8(w:World)(os:OsState):segRunT treeTable pwL w 11 ann 1 214 (S8 w os) (piecesOf c8 env cE ⟨14,0,15,8⟩ BB)=some (.next,S9 w os,cE,⟨16,0,17,8⟩):=by
 unfold c8;(try rw[a0]);(try rw[a1]);(try rw[a2]);(try rw[a3]);(try rw[a4]);(try rw[a5]);(try rw[a6]);(try rw[a7]);(try rw[a8]);(try rw[a9]);(try rw[a10]);kernel_rfl
abbrev c9:List Stmt:=[topF 9,topF 10,topF 11,topF 12,topF 13,topF 14,topF 15,topF 16]
theorem p9(w:World)(os:OsState):segRunT treeTable pwL w 11 ann 1 389 (S9 w os) (piecesOf c9 env cE ⟨16,0,17,8⟩ BB)=some (.next,S10 w os,cE,⟨51,0,55,27⟩):=by
 unfold c9;(try rw[a0]);(try rw[a1]);(try rw[a2]);(try rw[a3]);(try rw[a4]);(try rw[a5]);(try rw[a6]);(try rw[a7]);(try rw[a8]);(try rw[a9]);(try rw[a10]);kernel_rfl
abbrev c10:List Stmt:=[topF 17,topF 18,topF 19,topF 20,topF 21,topF 22,topF 23,topF 24,topF 25,topF 26,topF 27,topF 28,topF 29,topF 30,topF 31,topF 32]
theorem p10(w:World)(os:OsState):segRunT treeTable pwL w 11 ann 1 400 (S10 w os) (piecesOf c10 env cE ⟨51,0,55,27⟩ BB)=some (.next,S11 w os,cE,⟨122,0,123,47⟩):=by
 unfold c10;(try rw[a0]);(try rw[a1]);(try rw[a2]);(try rw[a3]);(try rw[a4]);(try rw[a5]);(try rw[a6]);(try rw[a7]);(try rw[a8]);(try rw[a9]);(try rw[a10]);kernel_rfl
abbrev c11:List Stmt:=[topF 33,topF 34,topF 35,topF 36,topF 37,topF 38,topF 39,topF 40,topF 41,topF 42,topF 43,topF 44,topF 45,topF 46,topF 47,topF 48,topF 49]
theorem p11(w:World)(os:OsState):segRunT treeTable pwL w 11 ann 1 394 (S11 w os) (piecesOf c11 env cE ⟨122,0,123,47⟩ BB)=some (.next,S12 w os,cE,⟨189,0,192,46⟩):=by
 unfold c11;(try rw[a0]);(try rw[a1]);(try rw[a2]);(try rw[a3]);(try rw[a4]);(try rw[a5]);(try rw[a6]);(try rw[a7]);(try rw[a8]);(try rw[a9]);(try rw[a10]);kernel_rfl
abbrev c12:List Stmt:=[topF 50,topF 51,topF 52,topF 53,topF 54,topF 55,topF 56,topF 57,topF 58,topF 59,topF 60,topF 61,topF 62]
theorem p12(w:World)(os:OsState):segRunT treeTable pwL w 11 ann 1 385 (S12 w os) (piecesOf c12 env cE ⟨189,0,192,46⟩ BB)=some (.next,S13 w os,cE,⟨268,0,276,40⟩):=by
 unfold c12;(try rw[a0]);(try rw[a1]);(try rw[a2]);(try rw[a3]);(try rw[a4]);(try rw[a5]);(try rw[a6]);(try rw[a7]);(try rw[a8]);(try rw[a9]);(try rw[a10]);kernel_rfl
abbrev c13:List Stmt:=[topF 63]
theorem p13(w:World)(os:OsState):segRunT treeTable pwL w 11 ann 1 27 (S13 w os) (piecesOf c13 env cE ⟨268,0,276,40⟩ BB)=some (.next,S14 w os,cE,⟨277,0,294,60⟩):=by
 unfold c13;(try rw[a0]);(try rw[a1]);(try rw[a2]);(try rw[a3]);(try rw[a4]);(try rw[a5]);(try rw[a6]);(try rw[a7]);(try rw[a8]);(try rw[a9]);(try rw[a10]);kernel_rfl
theorem fin(w:World)(os:OsState):topRun treeTable pwL w 11 ann 2 (S14 w os).abs ⟨doneF .next,cE,⟨277,0,294,60⟩,BB⟩=some (SF w os):=by
 (try rw[a0]);(try rw[a1]);(try rw[a2]);(try rw[a3]);(try rw[a4]);(try rw[a5]);(try rw[a6]);(try rw[a7]);(try rw[a8]);(try rw[a9]);(try rw[a10]);kernel_rfl
theorem body:behindTheImports pwL=c1++(c2++(c3++(c4++(c5++(c6++(c7++(c8++(c9++(c10++(c11++(c12++(c13++([]))))))))))))):=by
 (try rw[a6]);(try rw[a7]);(try rw[a8]);(try rw[a9]);(try rw[a10]);kernel_rfl
theorem run(w:World)(os:OsState):topRun treeTable pwL w 11 ann (12+(1+(196+(214+(214+(214+(214+(214+(214+(214+(389+(400+(394+(385+(27+(2)))))))))))))))) ⟨boot_heap w.params,⟨[]⟩,boot_drawn,boot_toks,os⟩ (topStub pwL)=some (SF w os):=
 go_top (pre w os) (piece_block (blk w os) (by rw[body];exact piece_app (segRun_of (p1 w os)) (piece_app (segRun_of (p2 w os)) (piece_app (segRun_of (p3 w os)) (piece_app (segRun_of (p4 w os)) (piece_app (segRun_of (p5 w os)) (piece_app (segRun_of (p6 w os)) (piece_app (segRun_of (p7 w os)) (piece_app (segRun_of (p8 w os)) (piece_app (segRun_of (p9 w os)) (piece_app (segRun_of (p10 w os)) (piece_app (segRun_of (p11 w os)) (piece_app (segRun_of (p12 w os)) (piece_app (segRun_of (p13 w os)) (piece_nil (fin w os))))))))))))))))
theorem size(w:World):((boot_heap w.params).isNs mainGlobals&&(Array.mk ([]:List GenState)).size==0,(boot_heap w.params).objs.size,(boot_heap w.params).nsMap mainGlobals "__annotations__")=(true,11,ann):=by
 (try rw[a11]);(try rw[a12]);(try rw[a13]);kernel_rfl
abbrev Xt(s:Shared):Bool:=xlAt q [] s&&recOk [] s
theorem lk1(w:World)(os:OsState):(staticsOk (importedModules pwL.main.body) (boot_heap w.params) (HF w.params)&&namesBound pwL (HF w.params)&&gensDone (SF w os)&&laidKept (boot_heap w.params) (HF w.params))=true:=by
 (try rw[a11]);(try rw[a12]);(try rw[a13]);(try rw[a6]);(try rw[a7]);(try rw[a8]);(try rw[a9]);(try rw[a10]);kernel_rfl
theorem lk2(w:World)(os:OsState):openSeen q [] (importedModules pwL.main.body) Xt true (SF w os)=openGood q []:=by
 (try rw[a11]);(try rw[a12]);(try rw[a13]);(try rw[a6]);(try rw[a7]);(try rw[a8]);(try rw[a9]);(try rw[a10]);kernel_rfl
theorem lk3(w:World)(os:OsState):PySem.W.X.obsZ as (SF w os)=PySem.W.X.valZ K 397 717 w:=by
 (try rw[a11]);(try rw[a12]);(try rw[a13]);(try rw[a6]);(try rw[a7]);(try rw[a8]);(try rw[a9]);(try rw[a10]);kernel_rfl
theorem imports:opening pwL=plainProg pwL.main.scope.names:=by kernel_rfl
theorem left:LeftO pwL q [] Xt (PySem.W.X.obsZ as) (PySem.W.X.valZ K 397 717) 6678:=
 LeftO.of_pieces (boot_open imports (by rfl) (fun s=>by kernel_rfl)) size run (by rfl) fun w=>funext fun os=>looks_pair (lk1 w os) (looks_pair (lk2 w os) (lk3 w os))
end
end H
end K33
open PySem PySem.W PyProof.Rows
set_option maxRecDepth 100000 in
set_option maxHeartbeats 0 in
theorem PySem.Challenge.cw_nextbyrule_k33_every_so_many_holds : PySem.Challenge.rw_nextbyrule_k33_every_so_many.Holds := by
 change K33.rwL.Holds
 w_on;o_law;rename_i said
 refine holds_openX (d:=?d) (kwd:=?kwd) K33.H.left (fun s h=>xl_of s (Bool.and_eq_true_iff.mp h).1) XL.keeps (by rfl) (by rfl) (by rfl) (fun s h=>recFacts_of (Bool.and_eq_true_iff.mp h).2) (by rfl) said (by decide +kernel) ⟨rfl,rfl,rfl,rfl,rfl,by decide +kernel⟩ ?hw ?hc;case hw=>w_witness2
 k_fill
 refine L2.IW (fun _=>by kernel_rfl) ?_;refine L2.Jo (l:=K33.rwL) (n:=63) (k:=K33.XQ) (x:= "_law_script") (CX:=fun w=>L2.qM K33.rwL.prog w) (sp:=fun _=>K33.Ld _) rfl (by decide) rfl ⟨rfl,by decide,by decide⟩ (fun w h Y=>Y) ?F (fun w H a ns hl hb _ hS=>⟨a,ns,rfl,hS,hl,hb,fun _=>rfl⟩) (fun _ _ _ _ _ z=>L2.uE z);case F=>
  intro w mg fa h KX G hmg
  refine' K33.all_mk KX G hmg ?F0 ?F1 ?F2 ?F3 ?F4 ?F5 ?F6 ?F7 ?F8 ?F9 ?F10 ?F11 ?F12 ?F13 ?F14 ?F15 ?F16 ?F17 ?F18 ?F19 ?F20 ?F21 ?F22 ?F23 ?F24 ?F25 ?F26 ?F27 ?F28 ?F29 ?F30 ?F31 ?F32 ?F33 ?F34 ?F35 ?F36 ?F37 ?F38 ?F39 ?F40 ?F41 ?FL ?lQ ?Gd ?Ly ?lV ?Mf ?Eb ?MP ?MS ?zy ?Ml ?zR ?cI ?dg ?fH ?EV ?wC ?oY ?yR ?vp ?nO ?vW ?qR ?rH ?u6 ?fJ ?fG ?tZ ?tu ?sY ?rm ?uc ?tM ?fW ?dD ?cQ ?d9 ?dM ?dz ?dF ?dR ?cZ ?cA
  (case F0|F1|F2|F3|F4|F5|F6|F7|F8|F9|F10|F11|F12|F13|F14|F15|F16|F17|F18|F19|F20|F21|F22|F23|F24|F25|F26|F27|F28|F29|F30|F31|F32|F33|F34|F35|F36|F37|F38|F39|F40|F41|FL=>(refine' L2.M7 ?a ?l ?c ?k;(case a|l|c|k=>k_is)))
  (case lQ|Gd|Ly|lV|Mf|Eb|MP|MS|zy|Ml|zR|EV|wC|oY|yR|vp|nO|vW|qR|rH|tZ|tu|sY|rm|uc=>k_is)
  (case cI|dg|fH=>exact⟨_,by k_is⟩)
  (case u6=>k_exc)
  (case fJ|fG|tM=>kernel_rfl)
  (case fW|dD|cQ|d9|dM|dz|dF|dR|cZ|cA=>kit_is)
