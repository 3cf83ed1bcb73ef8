import PyProof.Rows.All
import Wide.All
import OpenK.AllK
import Wide.FinOn
import Lean
import PyProof.EqAt
import PyProof.EqKinds
import PyProof.TupleCall
import PySem.Challenge.RW_nextbyrule_k35_mixes_refused
local macro_rules | `(tactic| omega)=>`(tactic| lia)
set_option Elab.async false
set_option linter.all false
set_option maxRecDepth 100000
noncomputable section
namespace L2
open PySem PySem.Spec PyProof.Rows
abbrev Key:=Sum Int Str
def JN:Key->Value->Bool
 |.inl k,v=>Value.isInt k v
 |.inr x,v=>Value.isStrOf x v
def Zb(w:World):Key->Int
 |.inl k=>hashInt k
 |.inr x=>hashStr w x
theorem cY:∀{k:Key} {v:Value},JN k v=true->(∃i t,k=Sum.inl i/\v=Value.int i t)∨(∃x t,k=Sum.inr x/\v=Value.str x t)
 |.inl i,v,h=>by
  obtain⟨t,e⟩:=Value.isInt_shape (k:=i) (v:=v) h;exact .inl ⟨i,t,rfl,e⟩
 |.inr x,v,h=>by
  obtain⟨t,e⟩:=Value.isStrOf_shape (x:=x) (v:=v) h;exact .inr ⟨x,t,rfl,e⟩
theorem MB(a b:Int):decide ((Sum.inl a:Key)=Sum.inl b)=(a==b):=by
 by_cases e:a=b
 ·subst e;simp
 ·have h:¬(Sum.inl a:Key)=Sum.inl b:=fun q=>e (Sum.inl.inj q);rw[decide_eq_false h];exact(beq_eq_false_iff_ne.mpr e).symm
theorem Kh(a b:Str):decide ((Sum.inr a:Key)=Sum.inr b)=decide (a=b):=by
 by_cases e:a=b
 ·subst e;simp
 ·have h:¬(Sum.inr a:Key)=Sum.inr b:=fun q=>e (Sum.inr.inj q);rw[decide_eq_false h,decide_eq_false e]
theorem LD(a:Int)(b:Str):decide ((Sum.inl a:Key)=Sum.inr b)=false:=decide_eq_false (fun q=>nomatch q)
theorem KR(a:Str)(b:Int):decide ((Sum.inr a:Key)=Sum.inl b)=false:=decide_eq_false (fun q=>nomatch q)
def nK(prog:Program)(w:World):PySem.KeyKind prog w Key where
 is:=JN
 hash:=Zb w
 inj:=fun v a b ha hb=>by
  rcases cY ha with⟨i,t,rfl,rfl⟩|⟨x,t,rfl,rfl⟩
  ·rcases cY hb with⟨j,u,rfl,e⟩|⟨y,u,rfl,e⟩
   ·injection e with e1 _;rw[e1]
   ·exact nomatch e
  ·rcases cY hb with⟨j,u,rfl,e⟩|⟨y,u,rfl,e⟩
   ·exact nomatch e
   ·injection e with e1 _;rw[e1]
 byValue:=fun k v h=>by
  rcases cY h with⟨i,t,rfl,rfl⟩|⟨x,t,rfl,rfl⟩<;>rfl
 pyHash:=fun hv h=>by
  rcases cY hv with⟨i,t,rfl,rfl⟩|⟨x,t,rfl,rfl⟩
  ·exact wpAny_pyHash_int h
  ·exact wpAny_pyHash_str h
 eqBool:=fun hu hv h=>by
  rcases cY hu with⟨i,t,rfl,rfl⟩|⟨x,t,rfl,rfl⟩
  ·rcases cY hv with⟨j,u,rfl,rfl⟩|⟨y,u,rfl,rfl⟩
   ·rw[MB]at h;exact wpAny_eqBool_int h
   ·rw[LD]at h;exact SeqAt.EqAt.int_str i t y u _ _ _ _ h
  ·rcases cY hv with⟨j,u,rfl,rfl⟩|⟨y,u,rfl,rfl⟩
   ·rw[KR]at h;exact SeqAt.EqAt.str_int x t j u _ _ _ _ h
   ·rw[Kh]at h;exact wpAny_eqBool_str h
 «strs»:=fun k x t v h=>by
  rcases cY h with⟨i,u,rfl,e⟩|⟨y,u,rfl,e⟩
  ·exact nomatch e
  ·injection e with e1 _;subst e1;cases v<;>rfl
inductive V where
 |non|bl (b:Bool)|int (i:Int)|str (x:Str)|byt (b:Array UInt8)|flt (b:UInt64)|ref (a:Addr)|ty (n:String)
 deriving DecidableEq
def RelV:V->Value->Prop
 |.non,u=>u=Value.none
 |.bl b,u=>u=Value.bool b
 |.int i,u=>∃t,u=Value.int i t
 |.str x,u=>∃t,u=Value.str x t
 |.byt b,u=>∃t,u=Value.bytes b t
 |.flt b,u=>∃t,u=Value.float b t
 |.ref a,u=>u=Value.ref a
 |.ty n,u=>u=Value.type n
abbrev Vals:List V->List Value->Prop:=Paired RelV
theorem Vals.length{xs:List V}{us:List Value}(r:Vals xs us):xs.length=us.length:=Paired.length r
theorem Vals.get:∀{xs:List V} {us:List Value} {i:Nat} {x:V},Vals xs us->xs[i]?=some x->∃u,us[i]?=some u/\RelV x u
 |_,_,_,_,.nil,e=>by simp at e
 |_,_,0,_,.cons r _,e=>by simp at e;subst e;exact⟨_,rfl,r⟩
 |_,_,i+1,x,.cons _ t,e=>by
  obtain⟨u,h1,h2⟩:=Vals.get (i:=i) (x:=x) t (by simpa using e);exact⟨u,by simpa using h1,h2⟩
theorem Vals.set{x:V}{u:Value}(r:RelV x u):∀{xs:List V} {us:List Value} (i:Nat),Vals xs us->Vals (xs.set i x) (us.set i u)
 |_,_,_,.nil=> .nil
 |_,_,0,.cons _ t=> .cons r t
 |_,_,i+1,.cons q t=> .cons q (Vals.set r i t)
theorem Vals.append:∀{xs ys:List V} {us ws:List Value},Vals xs us->Vals ys ws->Vals (xs++ys) (us++ws)
 |_,_,_,_,.nil,s=>s
 |_,_,_,_,.cons r t,s=> .cons r (Vals.append t s)
theorem Vals.take:∀{xs:List V} {us:List Value} (n:Nat),Vals xs us->Vals (xs.take n) (us.take n)
 |_,_,0,_=> .nil
 |_,_,_+1,.nil=> .nil
 |_,_,n+1,.cons r t=> .cons r (Vals.take n t)
theorem Vals.drop:∀{xs:List V} {us:List Value} (n:Nat),Vals xs us->Vals (xs.drop n) (us.drop n)
 |_,_,0,r=>r
 |_,_,_+1,.nil=> .nil
 |_,_,n+1,.cons _ t=>Vals.drop n t
def Ef:Option V->Option Value->Prop
 |some v,some u=>RelV v u
 |none,none=>True
 |_,_=>False
def KV{κ:Type}:List (κ×V)->List (κ×Value)->Prop:=Paired fun(p:κ×V) (q:κ×Value)=>p.1=q.1/\RelV p.2 q.2
def kV:Key->V
 |.inl i=> .int i
 |.inr x=> .str x
inductive HO where
 /-- a list -/
 |lst (xs:List V)
 /-- a tuple (never changes) -/
 |tup (xs:List V)
 /-- a dict whose keys are ints and texts;one whose keys are tuples of ints and texts (the empty one is both) -/
 |dK (kvs:List (Key×V))|dT (kvs:List (List Key×V))
 /-- a set of ints: its members,its size -/
 |set (S:Int->Bool) (n:Nat)
 /-- an instance of the class at C,its dict at dx,its attributes -/
 |ins (C dx:Addr) (fs:List (Str×V))
 /-- the dict of the instance at x -/
 |own (x:Addr)
 /-- the dict of an exception -/
 |xd (fs:List (Str×V))
 /-- a bound method,f of x -/
 |met (f x:Addr)
 /-- a range object lo,lo+1,.. below hi -/
 |rng (lo hi:Int)
 /-- a thing that is known to the object (the script;a dict while a loop walks it): read,never written while it is so -/
 |frz (o:Obj) (u:HO)
 /-- a code object's table -/
 |tbl (ps:Array Value)
 /-- any other thing,by what is true of its one object (a def of one's own: SetO a S n:=HO.ext fun h=> ..) -/
 |ext (φ:Heap->Prop)
abbrev Hp:=Addr->Option HO
def upd(H:Hp)(a:Addr)(o:HO):Hp:=fun b=>if b=a then some o else H b
theorem au{H:Hp}{a:Addr}{o:HO}:upd H a o a=some o:=by unfold upd;rw[if_pos rfl]
theorem bD{H:Hp}{a b:Addr}{o:HO}(h:b≠a):upd H a o b=H b:=by unfold upd;rw[if_neg h]
theorem Jj{H:Hp}{a:Addr}{o u:HO}:upd (upd H a o) a u=upd H a u:=by
 funext b;unfold upd;split<;>rfl
theorem dN{H:Hp}{a b:Addr}{o:HO}(h:H a=some o)(h':H b=none):a≠b:=by
 intro e;subst e;rw[h]at h';cases h'
section
variable (P:Program) (w:World)
def jP(H:Hp)(h:Heap)(a:Addr):HO->Prop
 |.lst xs=>xs.length<=sizeLine/\∃(its:List Value) (n:Nat),Vals xs its/\h.get? a=some { cls:= .type "list",data:= .seq its.toArray n }
 |.tup xs=>xs.length<=sizeLine/\∃its:List Value,Vals xs its/\IsTup h a its.toArray
 |.dK kvs=>kvs.length<=sizeLine/\(a==sysModules)=false/\∃vs,KV kvs vs/\h.DictOf (nK P w) a vs
 |.dT kvs=>kvs.length<=sizeLine/\(a==sysModules)=false/\∃xs:List (List Key×Addr×Value),
   Paired (fun(p:List Key×V) (q:List Key×Addr×Value)=>p.1=q.1/\H q.2.1=some (.tup (p.1.map kV))/\RelV p.2 q.2.2) kvs xs/\
   ∃o es ep,h.get? a=some o/\o.ExactDict/\o.data = .dict es ep/\es.toList=xs.map (entryOfKey (tupleKind (nK P w)))/\(xs.map (·.1)).Nodup
 |.set S n=>h.SetOf (intKind P w) a S n
 |.ins C dx fs=>H dx=some (.own a)/\fs.length<=1000/\dx≠a/\h.get? a=some (PySem.W.instObj C dx)/\
   ∃mA,h.Ns1 dx mA/\(∀f,Ef (fs.lookup f) (mA f))/\PySem.Within mA (fs.map (·.1))
 |.own _=>∃o,h.get? a=some o
 |.xd fs=>∃mA,h.Ns1 a mA/\∀f,Ef (fs.lookup f) (mA f)
 |.rng lo hi=>∃t u v,h.get? a=some { cls:= .type "range",data:= .fields #[.int lo t,.int hi u,.int 1 v] }
 |.frz o u=>h.get? a=some o/\jP H h a u
 |.tbl ps=>h.get? a=some { cls:= .none,data:= .fields ps }
 |.met f x=>h.get? a=some (PySem.W.methodObj (.ref f) (.ref x))
 |.ext φ=>φ h/\(∃o,h.get? a=some o)/\∀h1 h2:Heap,φ h1->(∀o,h1.get? a=some o->h2.get? a=some o)->φ h2
def HOk(H:Hp)(h:Heap):Prop:=∀a o,H a=some o->jP P w H h a o
end
section
variable {P:Program} {w:World} {H H':Hp} {h h':Heap} {a:Addr} {o:HO}
theorem jP.lt(x:jP P w H h a o):a<h.objs.size:=by
 cases o with
 |lst xs=>obtain⟨_,_,_,_,e⟩:=x;exact Heap.lt_size e
 |tup xs=>obtain⟨_,_,_,p⟩:=x;exact p.lt
 |dK kvs=>obtain⟨_,_,_,_,o,_,_,e,_⟩:=x;exact Heap.lt_size e
 |dT kvs=>obtain⟨_,_,_,_,o,_,_,e,_⟩:=x;exact Heap.lt_size e
 |set S n=>obtain⟨o,_,_,_,e,_⟩:=x;exact Heap.lt_size e
 |ins C dx fs=>obtain⟨_,_,_,e,_⟩:=x;exact Heap.lt_size e
 |own y=>obtain⟨_,e⟩:=x;exact Heap.lt_size e
 |xd fs=>obtain⟨_,⟨_,_,_,e,_⟩,_⟩:=x;exact Heap.lt_size e
 |rng lo hi=>obtain⟨_,_,_,e⟩:=x;exact Heap.lt_size e
 |frz ob u=>obtain⟨e,_⟩:=x;exact Heap.lt_size e
 |tbl ps=>exact Heap.lt_size (show h.get? a=some _ from x)
 |met f y=>exact Heap.lt_size (show h.get? a=some _ from x)
 |ext φ=>obtain⟨_,⟨_,e⟩,_⟩:=x;exact Heap.lt_size e
theorem Paired.XI{α β:Type}{F G:α->β->Prop}:∀{l₁:List α} {l₂:List β},Paired F l₁ l₂->(∀a b,F a b->G a b)->Paired G l₁ l₂
 |_,_,.nil,_=> .nil
 |_,_,.cons r t,f=> .cons (f _ _ r) (Paired.XI t f)
theorem jP.stay(x:jP P w H h a o)(k:∀b u,(b=a∨H b=some (.own a))->h.get? b=some u->h'.get? b=some u)
  (ho:∀b,H b=some (.own a)->H' b=some (.own a)) (ht:∀b xs,H b=some (.tup xs)->H' b=some (.tup xs)):jP P w H' h' a o:=by
 induction o with
 |lst xs=>obtain⟨z,its,n,r,e⟩:=x;exact⟨z,its,n,r,k _ _ (.inl rfl) e⟩
 |tup xs=>obtain⟨z,its,r,ob,e,c⟩:=x;exact⟨z,its,r,ob,k _ _ (.inl rfl) e,c⟩
 |dK kvs=>obtain⟨z,y,vs,r,ob,es,ep,e,c⟩:=x;exact⟨z,y,vs,r,ob,es,ep,k _ _ (.inl rfl) e,c⟩
 |dT kvs=>
  obtain⟨z,y,xs,r,ob,es,ep,e,c⟩:=x;exact⟨z,y,xs,Paired.XI r fun p q z=>⟨z.1,ht _ _ z.2.1,z.2.2⟩,ob,es,ep,k _ _ (.inl rfl) e,c⟩
 |set S n=>obtain⟨ob,es,ep,t,e,c⟩:=x;exact⟨ob,es,ep,t,k _ _ (.inl rfl) e,c⟩
 |ins C dx fs=>
  obtain⟨d,z,ne,e,mA,⟨od,es,ep,e2,c⟩,r⟩:=x;exact⟨ho _ d,z,ne,k _ _ (.inl rfl) e,mA,⟨od,es,ep,k _ _ (.inr d) e2,c⟩,r⟩
 |own y=>obtain⟨ob,e⟩:=x;exact⟨ob,k _ _ (.inl rfl) e⟩
 |xd fs=>obtain⟨mA,⟨od,es,ep,e,c⟩,r⟩:=x;exact⟨mA,⟨od,es,ep,k _ _ (.inl rfl) e,c⟩,r⟩
 |rng lo hi=>obtain⟨t,u,v,e⟩:=x;exact⟨t,u,v,k _ _ (.inl rfl) e⟩
 |frz ob u ih=>obtain⟨e,q⟩:=x;exact⟨k _ _ (.inl rfl) e,ih q⟩
 |tbl ps=>
  have e:h.get? a=some { cls:= .none,data:= .fields ps }:=x;show h'.get? a=some { cls:= .none,data:= .fields ps };exact k a _ (.inl rfl) e
 |met f y=>
  have e:h.get? a=some (PySem.W.methodObj (.ref f) (.ref y)):=x;show h'.get? a=some (PySem.W.methodObj (.ref f) (.ref y));exact k a _ (.inl rfl) e
 |ext φ=>obtain⟨p,⟨o,e⟩,st⟩:=x;exact⟨st _ _ p fun o q=>k _ _ (.inl rfl) q,⟨o,k _ _ (.inl rfl) e⟩,st⟩
theorem HOk.lt(x:HOk P w H h)(e:H a=some o):a<h.objs.size:=(x a o e).lt
theorem HOk.fresh(x:HOk P w H h)(e:h.objs.size<=a):H a=none:=by
 cases q:H a with
 |none=>rfl
 |some u=>exact absurd (Nat.lt_of_lt_of_le (x.lt q) e) (Nat.lt_irrefl _)
theorem HOk.kept(x:HOk P w H h)(k:∀b u,h.get? b=some u->h'.get? b=some u):HOk P w H h':=fun a o e=>
 (x a o e).stay (fun b u _ q=>k b u q) (fun _ q=>q) fun _ _ q=>q
theorem HOk.laid(x:HOk P w H h)(k:∀b u,h.get? b=some u->h'.get? b=some u)(hp:h.objs.size<=a)(new:jP P w (upd H a o) h' a o):HOk P w (upd H a o) h':=fun b u e=>by
 have hn:=x.fresh hp;by_cases hb:b=a
 ·subst hb;rw[au]at e;cases e;exact new
 ·rw[bD hb]at e;exact(x b u e).stay (fun c v _ q=>k c v q) (fun c q=>by rw[bD (dN q hn)];exact q) fun c xs q=>by rw[bD (dN q hn)];exact q
end
def Rd(H:Hp)(a:Addr)(u:HO):Prop:=H a=some u∨∃o,H a=some (.frz o u)
theorem Rd.ok{P:Program}{w:World}{H:Hp}{h:Heap}{a:Addr}{u:HO}(r:Rd H a u)(x:HOk P w H h):jP P w H h a u:=by
 rcases r with r|⟨o,r⟩
 ·exact x a u r
 ·obtain⟨_,q⟩:=x a _ r;exact q
def Mut:Option HO->Prop
 |some (.lst _)=>True
 |some (.dK _)=>True
 |some (.dT _)=>True
 |some (.set _ _)=>True
 |some (.ins _ _ _)=>True
 |some (.ext _)=>True
 |_=>False
section
variable {P:Program} {w:World} {H:Hp} {h h':Heap} {x e:Addr} {o':HO}
theorem HOk.write(ok:HOk P w H h)(mu:Mut (H x))(he:e=x∨H e=some (.own x))(k:∀b u,b≠e->h.get? b=some u->h'.get? b=some u)(heo:∃u,h'.get? e=some u)
  (new:jP P w (upd H x o') h' x o'):HOk P w (upd H x o') h':=fun b u q=>by
 have nown:∀c y,H c=some (.own y)->c≠x:=fun c y r z=>by subst z;rw[r]at mu;exact mu
 have ntup:∀c xs,H c=some (.tup xs)->c≠x:=fun c xs r z=>by subst z;rw[r]at mu;exact mu
 by_cases hb:b=x
 ·subst hb;rw[au]at q;cases q;exact new
 ·rw[bD hb]at q;by_cases hbe:b=e
  ·have q':H b=some (.own x):=by
    rcases he with z|z
    ·exact absurd (hbe.trans z) hb
    ·rw[hbe];exact z
   rw[q]at q';cases q';obtain⟨v,hv⟩:=heo;exact⟨v,by rw[hbe];exact hv⟩
  ·refine(ok b u q).stay (fun c v hc r=>k c v ?_ r) (fun c r=>by rw[bD (nown c b r)];exact r) fun c xs r=>by rw[bD (ntup c xs r)];exact r
   rcases hc with rfl|hc
   ·exact hbe
   ·rintro rfl;rcases he with z|z
    ·exact nown c b hc z
    ·rw[hc]at z;cases z;exact hb rfl
end
structure Un(fs ex:List Addr)(H H':Hp)(h h':Heap):Prop where
 keep:∀b o,h.get? b=some o->H b=none->b∉fs->b∉ex->h'.get? b=some o
 slot:∀b o,h.get? b=some o->H b=none->b∈fs->b∉ex->∃sl,h'.get? b=some { o with slots:=sl }
 free:∀b o,h.get? b=some o->H b=none->b∉ex->H' b=none
 there:∀b o,h.get? b=some o->b∉ex->∃o',h'.get? b=some o'
 tups:∀b xs,H b=some (.tup xs)->H' b=some (.tup xs)
 frzs:∀b o u,H b=some (.frz o u)->H' b=some (.frz o u)
 tbls:∀b ps,H b=some (.tbl ps)->∃more,H' b=some (.tbl (ps++more))
section
variable {fs fs' ex ex':List Addr} {H H1 H2:Hp} {h h1 h2 h':Heap} {a x e:Addr} {o:HO}
theorem Un.any(u:Un fs ex H H1 h h1){b:Addr}{ob:Obj}(q:h.get? b=some ob)(n:H b=none)(hx:b∉ex):∃sl,h1.get? b=some { ob with slots:=sl }:=by
 by_cases hb:b∈fs
 ·exact u.slot b ob q n hb hx
 ·exact⟨ob.slots,u.keep b ob q n hb hx⟩
theorem Un.kept(k:∀b u,h.get? b=some u->h'.get? b=some u):Un fs ex H H h h':=
 ⟨fun b ob q _ _ _=>k b ob q,fun b ob q _ _ _=>⟨ob.slots,k b ob q⟩,fun _ _ _ n _=>n,fun b ob q _=>⟨ob,k b ob q⟩,fun _ _ q=>q,fun _ _ _ q=>q,fun _ ps q=>⟨#[],by rw[q];simp⟩⟩
theorem Un.refl:Un fs ex H H h h:=Un.kept fun _ _ q=>q
theorem Un.laid(k:∀b u,h.get? b=some u->h'.get? b=some u)(hp:h.objs.size<=a)(hn:H a=none):Un fs ex H (upd H a o) h h' where
 keep:=fun b u q _ _ _=>k b u q
 slot:=fun b u q _ _ _=>⟨u.slots,k b u q⟩
 free:=fun b u q n _=>by rw[bD (Nat.ne_of_lt (Nat.lt_of_lt_of_le (Heap.lt_size q) hp))];exact n
 there:=fun b u q _=>⟨u,k b u q⟩
 tups:=fun b xs q=>by rw[bD (dN q hn)];exact q
 frzs:=fun b u xs q=>by rw[bD (dN q hn)];exact q
 tbls:=fun b ps q=>⟨#[],by rw[bD (dN q hn),q];simp⟩
theorem Un.write(mu:Mut (H x))(he:e=x∨H e=some (.own x))(k:∀b u,b≠e->h.get? b=some u->h'.get? b=some u)(heo:∃u,h'.get? e=some u):Un fs ex H (upd H x o) h h':=by
 have hx:∀b,H b=none->b≠x:=fun b n z=>by subst z;rw[n]at mu;exact mu
 have hb:∀b,H b=none->b≠e:=fun b n z=>by
  subst z;rcases he with r|r
  ·exact hx b n r
  ·rw[n]at r;cases r
 have hm:∀b u,H b=some u->¬Mut (some u)->b≠x:=fun b u q nm z=>by subst z;rw[q]at mu;exact nm mu
 refine⟨fun b u q n _ _=>k b u (hb b n) q,fun b u q n _ _=>⟨u.slots,k b u (hb b n) q⟩,fun b u q n _=>by rw[bD (hx b n)];exact n,fun b u q _=>?_,
  fun b xs q=>by rw[bD (hm b _ q fun z=>z)];exact q,fun b u xs q=>by rw[bD (hm b _ q fun z=>z)];exact q,fun b ps q=>⟨#[],by rw[bD (hm b _ q fun z=>z),q];simp⟩⟩
 by_cases hbe:b=e
 ·subst hbe;exact heo
 ·exact⟨u,k b u hbe q⟩
end
def trk(h:Heap)(H:Hp):List Addr:=(List.range h.objs.size).filter fun a=>(H a).isSome
def Ec(h:Heap)(H:Hp):Heap:=PySem.W.hideAll h (trk h H)
theorem Du(h:Heap)(H:Hp):(Ec h H).objs.size=h.objs.size:=PySem.W.hideAll_size _ _
theorem Fw{h:Heap}{H:Hp}{b:Addr}{o:Obj}(e:h.get? b=some o)(n:H b=none):(Ec h H).get? b=some o:=
 PySem.W.hideAll_get _ e fun hm=>by
  have q:(H b).isSome=true:=(List.mem_filter.mp hm).2;rw[n]at q;simp at q
theorem Jo{h:Heap}{H:Hp}{b:Addr}{o:Obj}(e:(Ec h H).get? b=some o):h.get? b=some o/\H b=none:=by
 have e':h.get? b=some o:=PySem.W.of_hideAll (trk h H) e;refine⟨e',?_⟩;cases q:H b with
 |none=>rfl
 |some x=>
  have hm:b∈trk h H:=List.mem_filter.mpr ⟨List.mem_range.mpr (Heap.lt_size e'),by simp[q]⟩;have z:(Ec h H).get? b=none:=PySem.W.hideAll_none (trk h H) hm;rw[z]at e;cases e
structure Mod(K:PySem.W.Frag)(mg:Str->Option Value)(base:Heap):Prop where
 kin:K.In base
 glob:base.Ns mainGlobals mg
 blt:∃mb,base.Ns builtinsNs mb/\∀x:Str,x≠ "__name__" -> mb x=bootBuiltins x
 nolimit:base.NoLimit
 digits:base.NoDigits
structure Cx where
 prog:Program
 w:World
 K:PySem.W.Frag
 mg:Str->Option Value
 base:Heap
 A:Around
 N:List Str
 s₀:Shared
 H₀:Hp
 env:Env
 outer:List Env
 stack:List Env
 ex:List Addr
 fn:Str->Bool
 calm:Bool
 pn:List (Addr×Obj)
 xe:Value->Shared->Prop
def frs(l:List Env):List Addr:=l.filterMap (·.frame)
abbrev Cx.fs(X:Cx):List Addr:=frs X.outer
def Vis(sc:Scope)(x:Str):Prop:=sc.names.lookup x=some .local∨sc.names.lookup x=some .cell∨sc.names.lookup x=some .free
def Loc(sc:Scope)(x:Str):Prop:=sc.names.lookup x=some .local∨sc.names.lookup x=some .cell
def Look(env:Env)(h:Heap)(m:Str->Option Value)(x:Str)(u:Value):Prop:=
 (env.kindOf x=some .local/\m x=some u)∨((env.kindOf x=some .cell∨env.kindOf x=some .free)/\∃c,env.cells.lookup x=some c/\h.IsCell c (some u))
structure Cx.Ok(X:Cx):Prop where
 mod:Mod X.K X.mg X.base
 kind:X.env.scope.kind = .function
 glob:X.env.globals=mainGlobals
 blt:X.env.builtins=builtinsNs
 above:X.s₀.heap.objs.size<=X.env.locals
 inj:∀x y c,X.env.cells.lookup x=some c->X.env.cells.lookup y=some c->x=y
 has:∀x,(X.env.kindOf x=some .cell∨X.env.kindOf x=some .free)->∃c,X.env.cells.lookup x=some c
 cab:∀x c,X.fn x=true->X.env.cells.lookup x=some c->X.s₀.heap.objs.size<=c
 hd:X.calm=true->X.A.handled=none
 frames:X.A.frames=some X.stack
 stk:X.stack=X.outer∨(X.stack=X.env::X.outer/\X.env.frame=some X.env.locals)
 exf:∀b∈X.ex,b≠X.env.locals/\∀x c,X.env.cells.lookup x=some c->c≠b
 bs:∀b o,X.base.get? b=some o->X.s₀.heap.get? b=some o/\X.H₀ b=none
 bsz:X.base.objs.size<=X.s₀.heap.objs.size
 noex:∀b o,X.base.get? b=some o->b∉X.ex
 exfs:∀b∈X.ex,b∉X.fs
 Al:X.s₀.heap.FunFrames X.base X.outer
 frf:∀b∈X.fs,X.H₀ b=none
structure Inv(X:Cx)(pins:List (Addr×Obj))(σ:List (Option V))(H:Hp)(s:Shared):Prop where
 ok:X.Ok
 os:s.os=X.s₀.os
 bare:AllBare s.gens
 base:Un X.fs X.ex X.H₀ H X.s₀.heap s.heap
 loc:∃m,s.heap.Ns X.env.locals m/\∀(i:Nat) (x:Str) (v:V),X.N[i]?=some x->σ[i]?=some (some v)->Vis X.env.scope x->∃u,RelV v u/\Look X.env s.heap m x u
 cell:∀x c,X.env.cells.lookup x=some c->∃v,s.heap.IsCell c v
 free:H X.env.locals=none
 freeC:∀x c,X.env.cells.lookup x=some c->H c=none
 pin:∀p∈X.pn++pins,s.heap.get? p.1=some p.2/\H p.1=none/\p.1≠X.env.locals/\p.1∉X.fs/\∀v,p.2.data≠ .cell v
 hok:HOk X.prog X.w H s.heap
 len:σ.length=X.N.length
section
variable {X:Cx} {pins:List (Addr×Obj)} {σ:List (Option V)} {H H':Hp} {s:Shared} {h':Heap}
theorem Cx.Ok.Zi(ok:X.Ok){b:Addr}{o:Obj}(e:X.base.get? b=some o):b∉X.fs:=fun hb=>by
 have:=(ok.Al.mem hb).1;rw[e]at this;cases this
theorem Inv.bs(I:Inv X pins σ H s):∀b o,X.base.get? b=some o->s.heap.get? b=some o/\H b=none:=fun b o e=>
 ⟨I.base.keep b o (I.ok.bs b o e).1 (I.ok.bs b o e).2 (I.ok.Zi e) (I.ok.noex b o e),I.base.free b o (I.ok.bs b o e).1 (I.ok.bs b o e).2 (I.ok.noex b o e)⟩
theorem Inv.bk(I:Inv X pins σ H s):∀b o,X.base.get? b=some o->s.heap.get? b=some o:=fun b o e=>(I.bs b o e).1
theorem Inv.mod(I:Inv X pins σ H s):Mod X.K X.mg X.base:=I.ok.mod
theorem Inv.kIn(I:Inv X pins σ H s):X.K.In s.heap:=I.ok.mod.kin.keeps I.bk
theorem Inv.lt(I:Inv X pins σ H s):X.env.locals<s.heap.objs.size:=let⟨_,hn,_⟩:=I.loc;hn.lt
theorem Inv.sz(I:Inv X pins σ H s):X.s₀.heap.objs.size<=s.heap.objs.size:=Nat.le_trans I.ok.above (Nat.le_of_lt I.lt)
theorem Inv.OG(I:Inv X pins σ H s){a:Addr}(h:s.heap.objs.size<=a):a∉X.fs:=fun hb=>by
 obtain⟨_,o,ho,_⟩:=I.ok.Al.mem hb;exact absurd (Nat.lt_of_lt_of_le (Heap.lt_size ho) (Nat.le_trans I.sz h)) (Nat.lt_irrefl _)
theorem Inv.cne(I:Inv X pins σ H s):∀x c,X.env.cells.lookup x=some c->c≠X.env.locals:=fun x c e z=>by
 obtain⟨v,o,ho,hd⟩:=I.cell x c e;obtain⟨m,⟨o',es,ep,ho',hd',_⟩,_⟩:=I.loc;rw[z,ho']at ho;cases ho;rw[hd']at hd;cases hd
theorem Inv.Al(I:Inv X pins σ H s):s.heap.FunFrames X.base X.outer:=by
 have all:∀(l:List Env),(∀b∈frs l,b∈X.fs)->X.s₀.heap.FunFrames X.base l->s.heap.FunFrames X.base l:=by
  intro l;induction l with
  |nil=>intro _ _;trivial
  |cons env r ih=>
   intro hs hl;obtain⟨hk,⟨L,o,hf,hn,ho,hd⟩,hr⟩:=hl;have hL:L∈X.fs:=hs L (by unfold frs;rw[List.filterMap_cons,hf];exact List.mem_cons_self);obtain⟨sl,e⟩:=I.base.slot L o ho (I.ok.frf L hL) hL fun z=>I.ok.exfs L z hL;exact⟨hk,⟨L,_,hf,hn,e,hd⟩,ih (fun b hb=>hs b (by unfold frs;rw[List.filterMap_cons,hf];exact List.mem_cons_of_mem _ hb)) hr⟩
 exact all X.outer (fun _ hb=>hb) I.ok.Al
theorem Inv.stack(I:Inv X pins σ H s):s.heap.FunFrames X.base X.stack:=by
 rcases I.ok.stk with e|⟨e,hf⟩
 ·rw[e];exact I.Al
 ·rw[e];obtain⟨m,hn,_⟩:=I.loc;refine .cons (by rw[I.ok.kind];decide) hf hn ?_ I.Al;exact Heap.get?_none_of_le (Nat.le_trans I.ok.bsz I.ok.above)
theorem Inv.yC(I:Inv X pins σ H s):∀b∈frs X.stack,b∈X.env.locals::X.fs:=fun b hb=>by
 rcases I.ok.stk with e|⟨e,hf⟩
 ·rw[e]at hb;exact List.mem_cons_of_mem _ hb
 ·rw[e]at hb;unfold frs at hb;rw[List.filterMap_cons,hf]at hb;exact hb
theorem Inv.wk(I:Inv X pins σ H s):∀b∈frs X.stack,H b=none:=fun b hb=>by
 rcases List.mem_cons.mp (I.yC b hb)with e|hb
 ·rw[e];exact I.free
 ·obtain⟨_,o,ho,_⟩:=I.ok.Al.mem hb;exact I.base.free b o ho (I.ok.frf b hb) fun z=>I.ok.exfs b z hb
theorem Inv.step{g':Array GenState}{t':Nat}{d':Drawn}{ch:List Addr}(I:Inv X pins σ H s)
  (hch:∀b∈ch,(b∈X.ex∨X.s₀.heap.objs.size<=b)/\b≠X.env.locals/\(∀x c,X.env.cells.lookup x=some c->c≠b)/\∀p∈X.pn++pins,p.1≠b)
  (keep:∀b o,b≠X.env.locals->b∉X.fs->b∉ch->s.heap.get? b=some o->H b=none->h'.get? b=some o)
  (slot:∀b o,b≠X.env.locals->b∈X.fs->b∉ch->s.heap.get? b=some o->H b=none->∃sl,h'.get? b=some { o with slots:=sl }) (free:∀b o,b∉ch->s.heap.get? b=some o->H b=none->H' b=none)
  (there:∀b o,b∉ch->s.heap.get? b=some o->∃o',h'.get? b=some o')
  (tups:∀b xs,H b=some (.tup xs)->H' b=some (.tup xs)) (frzs:∀b o u,H b=some (.frz o u)->H' b=some (.frz o u)) (tbls:∀b ps,H b=some (.tbl ps)->∃more,H' b=some (.tbl (ps++more)))
  (ns:∀m,s.heap.Ns X.env.locals m->h'.Ns X.env.locals m) (hok:HOk X.prog X.w H' h') (hg:AllBare g'):
  Inv X pins σ H' { s with heap:=h',gens:=g',drawn:=d',toks:=t' }:=by
 have neL:∀b o,X.s₀.heap.get? b=some o->b≠X.env.locals:=fun b o e=>Nat.ne_of_lt (Nat.lt_of_lt_of_le (Heap.lt_size e) I.ok.above);have neC:∀b o,X.s₀.heap.get? b=some o->b∉X.ex->b∉ch:=fun b o e hx hb=>by
  rcases(hch b hb).1 with z|z
  ·exact hx z
  ·exact absurd (Nat.lt_of_lt_of_le (Heap.lt_size e) z) (Nat.lt_irrefl _)
 have cellK:∀x c,X.env.cells.lookup x=some c->∀v,s.heap.IsCell c v->h'.IsCell c v:=fun x c e v ⟨o,ho,hd⟩=>by
  have nch:c∉ch:=fun z=>(hch c z).2.2.1 x c e rfl;by_cases hc:c∈X.fs
  ·obtain⟨sl,q⟩:=slot c o (I.cne x c e) hc nch ho (I.freeC x c e);exact⟨_,q,hd⟩
  ·exact⟨o,keep c o (I.cne x c e) hc nch ho (I.freeC x c e),hd⟩
 refine⟨I.ok,I.os,hg,⟨fun b o e n hb hx=>?_,fun b o e n hb hx=>?_,fun b o e n hx=>?_,fun b o e hx=>?_,fun b xs e=>tups b xs (I.base.tups b xs e),fun b o xs e=>frzs b o xs (I.base.frzs b o xs e),fun b ps e=>?_⟩,?_,fun x c e=>?_,?_,fun x c e=>?_,fun p hp=>?_,hok,I.len⟩
 ·exact keep b o (neL b o e) hb (neC b o e hx) (I.base.keep b o e n hb hx) (I.base.free b o e n hx)
 ·obtain⟨sl,e1⟩:=I.base.slot b o e n hb hx;obtain⟨sl',e2⟩:=slot b _ (neL b o e) hb (neC b o e hx) e1 (I.base.free b o e n hx);exact⟨sl',e2⟩
 ·obtain⟨o',e1⟩:=I.base.there b o e hx;exact free b o' (neC b o e hx) e1 (I.base.free b o e n hx)
 ·obtain⟨o',e1⟩:=I.base.there b o e hx;exact there b o' (neC b o e hx) e1
 ·obtain⟨m1,e1⟩:=I.base.tbls b ps e;obtain⟨m2,e2⟩:=tbls b _ e1;exact⟨m1++m2,by rw[e2,Array.append_assoc]⟩
 ·obtain⟨m,hn,hl⟩:=I.loc;refine⟨m,ns m hn,fun i x v e1 e2 e3=>?_⟩;obtain⟨u,r,l⟩:=hl i x v e1 e2 e3;refine⟨u,r,?_⟩;rcases l with l|⟨k,c,e,z⟩
  ·exact .inl l
  ·exact .inr ⟨k,c,e,cellK x c e _ z⟩
 ·obtain⟨v,z⟩:=I.cell x c e;exact⟨v,cellK x c e v z⟩
 ·obtain⟨m,⟨o,_,_,ho,_⟩,_⟩:=I.loc;exact free _ o (fun z=>(hch _ z).2.1 rfl) ho I.free
 ·obtain⟨v,o,ho,hd⟩:=I.cell x c e;exact free c o (fun z=>(hch c z).2.2.1 x c e rfl) ho (I.freeC x c e)
 ·obtain⟨e,n,ne,nf,d⟩:=I.pin p hp;have nch:p.1∉ch:=fun z=>(hch p.1 z).2.2.2 p hp rfl;exact⟨keep p.1 p.2 ne nf nch e n,free p.1 p.2 nch e n,ne,nf,d⟩
theorem Inv.un{t':Nat}(I:Inv X pins σ H s)(u:Un X.fs [] H H' s.heap h')(hok:HOk X.prog X.w H' h'):Inv X pins σ H' { s with heap:=h',toks:=t' }:=by
 obtain⟨m,⟨o,es,ep,ho,r⟩,_⟩:=id I.loc;obtain⟨sl,hL⟩:=u.any ho I.free (by simp);exact I.step (g':=s.gens) (d':=s.drawn) (ch:=[]) (fun _ z=>nomatch z) (fun b o _ hb _ e n=>u.keep b o e n hb (by simp)) (fun b o _ hb _ e n=>u.slot b o e n hb (by simp)) (fun b o _ e n=>u.free b o e n (by simp)) (fun b o _ e=>u.there b o e (by simp)) u.tups u.frzs u.tbls (fun m' hm=>by
  obtain⟨o',es',ep',ho',r'⟩:=hm;rw[ho]at ho';cases ho';exact⟨_,es',ep',hL,r'⟩) hok I.bare
theorem Inv.call{g':Array GenState}{t':Nat}{d':Drawn}{ch:List Addr}(I:Inv X pins σ H s)(u:Un (frs X.stack) ch H H' s.heap h')(hok:HOk X.prog X.w H' h')(hg:AllBare g')
  (hch:∀b∈ch,(b∈X.ex∨X.s₀.heap.objs.size<=b)/\b≠X.env.locals/\(∀x c,X.env.cells.lookup x=some c->c≠b)/\∀p∈X.pn++pins,p.1≠b):
  Inv X pins σ H' { s with heap:=h',gens:=g',drawn:=d',toks:=t' }:=by
 obtain⟨m,⟨o,es,ep,ho,r⟩,_⟩:=id I.loc;obtain⟨sl,hL⟩:=u.any ho I.free fun z=>(hch _ z).2.1 rfl;exact I.step (ch:=ch) hch (fun b o hL hb hc e n=>u.keep b o e n (fun z=>(List.mem_cons.mp (I.yC b z)).elim hL hb) hc) (fun b o _ _ hc e n=>u.any e n hc) (fun b o hc e n=>u.free b o e n hc) (fun b o hc e=>u.there b o e hc) u.tups u.frzs u.tbls (fun m' hm=>by
  obtain⟨o',es',ep',ho',r'⟩:=hm;rw[ho]at ho';cases ho';exact⟨_,es',ep',hL,r'⟩) hok hg
theorem Inv.turned{t':Nat}{it:Addr}(I:Inv X pins σ H s)(k:∀b o,b≠it->s.heap.get? b=some o->h'.get? b=some o)(hn:H it=none)(hL:it≠X.env.locals)
  (h1:it∈X.ex∨X.s₀.heap.objs.size<=it) (h2:∀x c,X.env.cells.lookup x=some c->c≠it) (h3:∀p∈X.pn++pins,p.1≠it):Inv X pins σ H { s with heap:=h',toks:=t' }:=by
 have nit:∀b u,H b=some u->b≠it:=fun b u e z=>by rw[z,hn]at e;cases e
 refine I.step (g':=s.gens) (d':=s.drawn) (ch:=[it]) (fun b hb=>?_) (fun b o _ _ hc e _=>k b o (fun z=>hc (by simp[z])) e) (fun b o _ _ hc e _=>⟨o.slots,k b o (fun z=>hc (by simp[z])) e⟩) (fun _ _ _ _ n=>n)
  (fun b o hc e=>⟨o,k b o (fun z=>hc (by simp[z])) e⟩) (fun _ _ e=>e) (fun _ _ _ e=>e) (fun b ps e=>⟨#[],by rw[e];simp⟩) (fun m hm=>?_) (fun b u e=>?_) I.bare
 ·have e:b=it:=by simpa using hb
  subst e;exact⟨h1,hL,h2,h3⟩
 ·obtain⟨o,es,ep,ho,r⟩:=hm;exact⟨o,es,ep,k _ o (Ne.symm hL) ho,r⟩
 ·refine(I.hok b u e).stay (fun c v hc q=>k c v ?_ q) (fun _ q=>q) fun _ _ q=>q;rcases hc with z|z
  ·rw[z];exact nit b u e
  ·exact nit c _ z
theorem Inv.tok(I:Inv X pins σ H s)(t:Nat):Inv X pins σ H { s with toks:=t }:=I.un (h':=s.heap) (t':=t) Un.refl I.hok
theorem Inv.kept{t':Nat}(I:Inv X pins σ H s)(k:∀b u,s.heap.get? b=some u->h'.get? b=some u):Inv X pins σ H { s with heap:=h',toks:=t' }:=I.un (Un.kept k) (I.hok.kept k)
theorem Inv.laid{a:Addr}{o:HO}{t':Nat}(I:Inv X pins σ H s)(k:∀b u,s.heap.get? b=some u->h'.get? b=some u)(hp:s.heap.objs.size<=a)(new:jP X.prog X.w (upd H a o) h' a o):
  Inv X pins σ (upd H a o) { s with heap:=h',toks:=t' }:=I.un (Un.laid k hp (I.hok.fresh hp)) (I.hok.laid k hp new)
theorem Inv.write{x e:Addr}{o:HO}{t':Nat}(I:Inv X pins σ H s)(mu:Mut (H x))(he:e=x∨H e=some (.own x))(k:∀b u,b≠e->s.heap.get? b=some u->h'.get? b=some u)(heo:∃u,h'.get? e=some u)
  (new:jP X.prog X.w (upd H x o) h' x o):Inv X pins σ (upd H x o) { s with heap:=h',toks:=t' }:=I.un (Un.write mu he k heo) (I.hok.write mu he k heo new)
theorem Inv.D8{pins':List (Addr×Obj)}(I:Inv X pins σ H s)(h:∀p∈pins',s.heap.get? p.1=some p.2/\H p.1=none/\p.1≠X.env.locals/\p.1∉X.fs/\∀v,p.2.data≠ .cell v):Inv X pins' σ H s:=
 ⟨I.ok,I.os,I.bare,I.base,I.loc,I.cell,I.free,I.freeC,fun p hp=>(List.mem_append.mp hp).elim (fun z=>I.pin p (List.mem_append_left _ z)) (h p),I.hok,I.len⟩
theorem sE{N:List Str}(hN:N.Nodup){i j:Nat}{x:Str}(a:N[i]?=some x)(b:N[j]?=some x):i=j:=by
 obtain⟨h1,e1⟩:=List.getElem?_eq_some_iff.mp a;obtain⟨h2,e2⟩:=List.getElem?_eq_some_iff.mp b;exact(List.getElem_inj hN).mp (e1.trans e2.symm)
theorem DW{M:Model}{A:Around}{E:Value->Shared->Prop}{i:Nat}{x:Str}{v:V}{u:Value}{Q:Unit->Shared->Prop}(I:Inv X pins σ H s)(hN:X.N.Nodup)(hi:X.N[i]?=some x)(hx:Loc X.env.scope x)(r:RelV v u)
  (h:∀s',Inv X pins (σ.set i (some v)) H s'->(∃a,Heap.SameBut a s.heap s'.heap/\(a=X.env.locals∨X.env.cells.lookup x=some a))->Q () s') (hf:X.fn x=true∨X.env.scope.names.lookup x=some .local:=by first|exact .inl rfl|exact .inr rfl|assumption):wpAny M A (storeName X.env x u) Q E s:=by
 obtain⟨m,hn,hl⟩:=id I.loc;have hcls:(X.env.scope.kind== .class||(X.env.scope.kind== .module&&X.env.locals != X.env.globals))=false:=by rw[I.ok.kind];rfl
 have hiσ:i < σ.length:=by rw[I.len];exact(List.getElem?_eq_some_iff.mp hi).1
 have cne:=I.cne;have tracked:∀{a:Addr} {h':Heap},(∃o,s.heap.get? a=some o/\H a=none)->Heap.SameBut a s.heap h'->HOk X.prog X.w H h':=fun {a h'} ha hs b ob e=>by
  obtain⟨_,_,hfree⟩:=ha;refine(I.hok b ob e).stay (fun c w' hc q=>(hs.2 c ?_).trans q) (fun _ q=>q) fun _ _ q=>q;rintro rfl;rcases hc with rfl|hc
  ·rw[hfree]at e;cases e
  ·rw[hfree]at hc;cases hc
 rcases hx with hk|hk
 ·refine wpAny_storeName_local hk hn (fun h' hn' hs=>?_) hcls;obtain⟨oL,_,_,hoL,_⟩:=id hn;refine h _ ⟨I.ok,I.os,I.bare,⟨fun b o e n hb hx=>?_,fun b o e n hb hx=>?_,I.base.free,fun b o e hx=>?_,I.base.tups,I.base.frzs,I.base.tbls⟩,⟨_,hn',fun j y v' e1 e2 e3=>?_⟩,fun y c e=>?_,I.free,I.freeC,fun p hp=>?_,tracked ⟨oL,hoL,I.free⟩ hs,by simpa using I.len⟩ ⟨_,hs,.inl rfl⟩
  ·exact(hs.2 b (Nat.ne_of_lt (Nat.lt_of_lt_of_le (Heap.lt_size e) I.ok.above))).trans (I.base.keep b o e n hb hx)
  ·obtain⟨sl,e1⟩:=I.base.slot b o e n hb hx;exact⟨sl,(hs.2 b (Nat.ne_of_lt (Nat.lt_of_lt_of_le (Heap.lt_size e) I.ok.above))).trans e1⟩
  ·obtain⟨o',e1⟩:=I.base.there b o e hx;exact⟨o',(hs.2 b (Nat.ne_of_lt (Nat.lt_of_lt_of_le (Heap.lt_size e) I.ok.above))).trans e1⟩
  ·by_cases hj:j=i
   ·subst hj;rw[hi]at e1;cases e1;rw[List.getElem?_set_self hiσ]at e2;cases e2;exact⟨u,r,.inl ⟨hk,by simp⟩⟩
   ·rw[List.getElem?_set_ne (Ne.symm hj)]at e2;obtain⟨u',r',q⟩:=hl j y v' e1 e2 e3;refine⟨u',r',?_⟩;rcases q with⟨k,e⟩|⟨k,c,e,z⟩
    ·refine .inl ⟨k,?_⟩;have:y≠x:=fun e=>hj (sE hN e1 (e▸hi));simp[this,e]
    ·exact .inr ⟨k,c,e,z.sameBut hs (cne y c e)⟩
  ·obtain⟨w',z⟩:=I.cell y c e;exact⟨w',z.sameBut hs (cne y c e)⟩
  ·obtain⟨e,n,ne,nf,d⟩:=I.pin p hp;exact⟨(hs.2 p.1 ne).trans e,n,ne,nf,d⟩
 ·have hfn:X.fn x=true:=by
   rcases hf with z|z
   ·exact z
   ·rw[z]at hk;cases hk
  obtain⟨c,hc⟩:=I.ok.has x (.inl hk);obtain⟨w',z⟩:=I.cell x c hc;refine wpAny_storeName_cell I.ok.kind hk hc z (fun h' hc' hs=>?_);obtain⟨oc,hoc,hocd⟩:=id z;refine h { s with heap:=h' } ⟨I.ok,I.os,I.bare,⟨fun b o e n hb hx=>?_,fun b o e n hb hx=>?_,I.base.free,fun b o e hx=>?_,I.base.tups,I.base.frzs,I.base.tbls⟩,⟨m,hn.sameBut hs (Ne.symm (cne x c hc)),fun j y v' e1 e2 e3=>?_⟩,fun y c' e=>?_,I.free,I.freeC,fun p hp=>?_,tracked ⟨oc,hoc,I.freeC x c hc⟩ hs,by simpa using I.len⟩ ⟨c,hs,.inr hc⟩
  ·exact(hs.2 b (Nat.ne_of_lt (Nat.lt_of_lt_of_le (Heap.lt_size e) (I.ok.cab x c hfn hc)))).trans (I.base.keep b o e n hb hx)
  ·obtain⟨sl,e1⟩:=I.base.slot b o e n hb hx;exact⟨sl,(hs.2 b (Nat.ne_of_lt (Nat.lt_of_lt_of_le (Heap.lt_size e) (I.ok.cab x c hfn hc)))).trans e1⟩
  ·obtain⟨o',e1⟩:=I.base.there b o e hx;exact⟨o',(hs.2 b (Nat.ne_of_lt (Nat.lt_of_lt_of_le (Heap.lt_size e) (I.ok.cab x c hfn hc)))).trans e1⟩
  ·by_cases hj:j=i
   ·subst hj;rw[hi]at e1;cases e1;rw[List.getElem?_set_self hiσ]at e2;cases e2;exact⟨u,r,.inr ⟨.inl hk,c,hc,hc'⟩⟩
   ·rw[List.getElem?_set_ne (Ne.symm hj)]at e2;obtain⟨u',r',q⟩:=hl j y v' e1 e2 e3;refine⟨u',r',?_⟩;rcases q with q|⟨k,c',e,z'⟩
    ·exact .inl q
    ·refine .inr ⟨k,c',e,z'.sameBut hs ?_⟩;rintro rfl;exact hj (sE hN e1 (I.ok.inj _ _ _ e hc▸hi))
  ·by_cases hcc:c'=c
   ·subst hcc;exact⟨_,hc'⟩
   ·obtain⟨w2,z2⟩:=I.cell y c' e;exact⟨w2,z2.sameBut hs hcc⟩
  ·obtain⟨e,n,ne,nf,d⟩:=I.pin p hp;refine⟨(hs.2 p.1 ?_).trans e,n,ne,nf,d⟩;intro q;rw[q,hoc]at e;have q':oc=p.2:=Option.some.inj e;exact d w' (by rw[<-q'];exact hocd)
theorem oZ{M:Model}{A:Around}{E:Value->Shared->Prop}{i:Nat}{x:Str}{v:V}{u:Value}{Q:Unit->Shared->Prop}(I:Inv X pins σ H s)(hN:X.N.Nodup)(hi:X.N[i]?=some x)(hx:Loc X.env.scope x)(r:RelV v u)
  (h:∀s',Inv X pins (σ.set i (some v)) H s'->Q () s') (hf:X.fn x=true∨X.env.scope.names.lookup x=some .local:=by first|exact .inl rfl|exact .inr rfl|assumption):wpAny M A (storeName X.env x u) Q E s:=
 DW I hN hi hx r (fun s' I' _=>h s' I') hf
theorem Inv.JF{s':Shared}{ch:List Addr}(I:Inv X pins σ H s)(ho:s'.os=s.os)(u:Un (frs X.stack) ch H H' s.heap s'.heap)(hok:HOk X.prog X.w H' s'.heap)(hg:AllBare s'.gens)
  (hch:∀b∈ch,(b∈X.ex∨X.s₀.heap.objs.size<=b)/\b≠X.env.locals/\(∀x c,X.env.cells.lookup x=some c->c≠b)/\∀p∈X.pn++pins,p.1≠b):Inv X pins σ H' s':=by
 obtain⟨h',g',d',t',o'⟩:=s';have e:o'=s.os:=ho;subst e;exact I.call (g':=g') (t':=t') (d':=d') u hok hg hch
end
abbrev XK:=Value->Option Addr->Hp->Prop
abbrev St:=List (Option V)
abbrev VK:=V->Hp->Prop
abbrev TE:=St->Hp->VK->Prop
abbrev TT:=St->Hp->(Bool->Hp->Prop)->Prop
abbrev TA:=St->Hp->(List V->Hp->Prop)->Prop
structure Ends where
 nx:St->Hp->Prop
 rt:VK
 bk:St->Hp->Prop:=fun _ _=>False
 ct:St->Hp->Prop:=fun _ _=>False
abbrev TS:=Ends->St->Hp->Prop
def EP(X:Cx)(pins:List (Addr×Obj))(σ:St)(Q:VK)(u:Value)(s':Shared):Prop:=∃v H',Inv X pins σ H' s'/\RelV v u/\Q v H'
def TP(X:Cx)(pins:List (Addr×Obj))(σ:St)(Q:Bool->Hp->Prop)(b:Bool)(s':Shared):Prop:=∃H',Inv X pins σ H' s'/\Q b H'
def AP(X:Cx)(pins:List (Addr×Obj))(σ:St)(Q:List V->Hp->Prop)(us:List Value)(s':Shared):Prop:=∃vs H',Inv X pins σ H' s'/\Vals vs us/\Q vs H'
def SP(X:Cx)(pins:List (Addr×Obj))(D:Ends)(f:Flow)(s':Shared):Prop:=
 match f with
 |.next=>∃σ' H',Inv X pins σ' H' s'/\D.nx σ' H'
 |.brk=>∃σ' H',Inv X pins σ' H' s'/\D.bk σ' H'
 |.cont=>∃σ' H',Inv X pins σ' H' s'/\D.ct σ' H'
 |.ret u=>∃v σ' H',Inv X pins σ' H' s'/\RelV v u/\D.rt v H'
def PE(X:Cx)(e:Expr)(t:TE):Prop:=
 ∀(pins:List (Addr×Obj)) (s:Shared) (σ:St) (H:Hp) (Q:VK),Inv X pins σ H s->t σ H Q->wpAny (model X.prog X.w) X.A (eval e X.env) (EP X pins σ Q) X.xe s
def PT(X:Cx)(e:Expr)(t:TT):Prop:=
 ∀(pins:List (Addr×Obj)) (s:Shared) (σ:St) (H:Hp) (Q:Bool->Hp->Prop),Inv X pins σ H s->t σ H Q->wpAny (model X.prog X.w) X.A (isTrue e X.env (eval e X.env)) (TP X pins σ Q) X.xe s
def PW(X:Cx)(e:Expr)(t:TT):Prop:=
 ∀(whole:Sem Value) (pins:List (Addr×Obj)) (s:Shared) (σ:St) (H:Hp) (Q:Bool->Hp->Prop),Inv X pins σ H s->t σ H Q->wpAny (model X.prog X.w) X.A (isTrue e X.env whole) (TP X pins σ Q) X.xe s
theorem PW.pt{X:Cx}{e:Expr}{t:TT}(h:PW X e t):PT X e t:=h _
def PA(X:Cx)(es:List Expr)(t:TA):Prop:=
 ∀(pos:Pos) (pins:List (Addr×Obj)) (s:Shared) (σ:St) (H:Hp) (Q:List V->Hp->Prop),Inv X pins σ H s->t σ H Q->wpAny (model X.prog X.w) X.A (spliced (backTo pos (starEach es X.env))) (AP X pins σ Q) X.xe s
def PS(X:Cx)(st:Stmt)(t:TS):Prop:=
 ∀(pins:List (Addr×Obj)) (s:Shared) (σ:St) (H:Hp) (D:Ends),Inv X pins σ H s->t D σ H->wpAny (model X.prog X.w) X.A (exec st X.env) (SP X pins D) X.xe s
def PSs(X:Cx)(st:List Stmt)(t:TS):Prop:=
 ∀(pins:List (Addr×Obj)) (s:Shared) (σ:St) (H:Hp) (D:Ends),Inv X pins σ H s->t D σ H->wpAny (model X.prog X.w) X.A (execs st X.env) (SP X pins D) X.xe s
theorem thn{α:Type}{t:Sem α}{Q Q':α->Shared->Prop}{M:Model}{A:Around}{E:Value->Shared->Prop}{s:Shared}(h:wpAny M A t Q E s)(hQ:∀a s,Q a s->Q' a s):wpAny M A t Q' E s:=wpAny_mono h hQ fun _ _ x=>x
section
variable {X:Cx}
inductive Zf(i:Nat)(σ:St)(H:Hp)(Q:VK):Prop|mk (v:V) (h:σ[i]?=some (some v)) (q:Q v H)
def YS(i:Nat):TE:=fun σ H Q=>Zf i σ H Q
def tC(v:V):TE:=fun _ H Q=>Q v H
theorem GF{i:Nat}{x:Str}{pos:Pos}(hN:X.N[i]?=some x)(hv:Vis X.env.scope x)(hd:(x==("__debug__" : Str))=false:=by decide)(hcd:(x==("__classdict__" : Str))=false:=by decide):PE X (.Name x pos) (YS i):=by
 intro pins s σ H Q I h;obtain⟨v,e,h⟩:=h;obtain⟨m,hn,hl⟩:=I.loc;obtain⟨u,r,l⟩:=hl i x v hN e hv;have fin:EP X pins σ Q u s:=⟨v,H,I,r,h⟩;rcases l with⟨hk,hm⟩|⟨hk,c,hc,hcell⟩
 ·exact wpAny_Name (wpAny_loadName_local I.ok.kind hk hn hm fin) hd
 ·rcases hk with hk|hk
  ·exact wpAny_Name (wpAny_loadName_cell I.ok.kind hk hc hcell fin) hd
  ·exact wpAny_Name (wpAny_loadName_free I.ok.kind hk hc hcell fin hcd) hd
theorem aA{i j pos}:PE X (.Constant (.int i) j pos) (tC (.int i)):=fun _ _ _ H _ I h=>wpAny_Constant_int ⟨.int i,H,I.tok _,⟨_,rfl⟩,h⟩
theorem vV{b j pos}:PE X (.Constant (.bool b) j pos) (tC (.bl b)):=fun _ _ _ H _ I h=>Constant_bool ⟨.bl b,H,I,rfl,h⟩
theorem Kw{j pos}:PE X (.Constant .none j pos) (tC .non):=fun _ _ _ H _ I h=>Constant_none ⟨.non,H,I,rfl,h⟩
theorem gb{x j pos}:PE X (.Constant (.str x) j pos) (tC (.str x)):=fun _ _ _ H _ I h=>Calls.Constant_str ⟨.str x,H,I.tok _,⟨_,rfl⟩,h⟩
def Gl(X:Cx)(x:Str):Prop:=X.env.kindOf x=some .globalImplicit
theorem qI{E:Value->Shared->Prop}{pins:List (Addr×Obj)}{s:Shared}{σ:St}{H:Hp}{x:Str}{u:Value}{pos:Pos}{Q:Value->Shared->Prop}(I:Inv X pins σ H s)(hg:Gl X x)(hm:X.mg x=some u)(h:Q u s)
  (hd:(x==("__debug__" : Str))=false:=by decide):wpAny (model X.prog X.w) X.A (eval (.Name x pos) X.env) Q E s:=
 Calls.Name_function_global I.ok.kind hg (Calls.loadGlobal_global (by rw[I.ok.glob];exact I.mod.glob.keeps I.bk) hm h) hd
theorem rM{E:Value->Shared->Prop}{pins:List (Addr×Obj)}{s:Shared}{σ:St}{H:Hp}{x:Str}{u:Value}{pos:Pos}{Q:Value->Shared->Prop}(I:Inv X pins σ H s)(hg:Gl X x)(hm:X.mg x=none)(hv:bootBuiltins x=some u)(h:Q u s)
  (hn:x≠ "__name__" := by decide) (hd:(x==("__debug__" : Str))=false:=by decide):wpAny (model X.prog X.w) X.A (eval (.Name x pos) X.env) Q E s:=by
 obtain⟨mb,h1,h2⟩:=I.mod.blt;exact Calls.Name_function_global I.ok.kind hg (Calls.loadGlobal_builtin (by rw[I.ok.glob];exact I.mod.glob.keeps I.bk) hm (by rw[I.ok.blt];exact h1.keeps I.bk) ((h2 x hn).trans hv) h) hd
theorem xR{x:Str}{v:V}{u:Value}{pos:Pos}(hg:Gl X x)(hm:X.mg x=some u)(r:RelV v u)(hd:(x==("__debug__" : Str))=false:=by decide):PE X (.Name x pos) (tC v):=
 fun _ _ _ H _ I h=>qI I hg hm ⟨v,H,I,r,h⟩ hd
theorem Hr{x:Str}{v:V}{u:Value}{pos:Pos}(hg:Gl X x)(hm:X.mg x=none)(hv:bootBuiltins x=some u)(r:RelV v u)(hn:x≠ "__name__" := by decide)(hd:(x==("__debug__" : Str))=false:=by decide):PE X (.Name x pos) (tC v):=
 fun _ _ _ H _ I h=>rM I hg hm hv ⟨v,H,I,r,h⟩ hn hd
variable {a b:Expr} {ta tb:TE} {pos:Pos}
def PC(X:Cx)(op:CmpOp)(a b:Expr)(t:TE):Prop:=
 ∀(pins:List (Addr×Obj)) (s:Shared) (σ:St) (H:Hp) (Q:VK),Inv X pins σ H s->t σ H Q->
  wpAny (model X.prog X.w) X.A (eval a X.env) (fun v s₁=>wpAny (model X.prog X.w) X.A (eval b X.env) (fun u s₂=>wpAny (model X.prog X.w) X.A (compareOp op v u) (EP X pins σ Q) X.xe s₂) X.xe s₁) X.xe s
theorem Ei(b:Expr){op:CmpOp}(h:op≠ .In)(h2:op≠ .NotIn):behindInMarks op b=false:=by
 have e1:(op==CmpOp.In)=false:=by cases op<;>first|rfl|exact absurd rfl h
 have e2:(op==CmpOp.NotIn)=false:=by cases op<;>first|rfl|exact absurd rfl h2
 cases b<;>simp[behindInMarks,e1,e2]
def ZQ(ta:TE):TE:=fun σ H Q=>ta σ H fun x H1=>Q (.bl (decide (x = .non))) H1
theorem RelV.EB{x:V}{v:Value}(r:RelV x v):(v==Value.none)=decide (x = .non):=by
 cases x with
 |non=>cases r;rfl
 |bl _=>cases r;rfl
 |int _=>obtain⟨t,rfl⟩:=r;rfl
 |str _=>obtain⟨t,rfl⟩:=r;rfl
 |byt _=>obtain⟨t,rfl⟩:=r;rfl
 |flt _=>obtain⟨t,rfl⟩:=r;rfl
 |ref _=>cases r;rfl
 |ty _=>cases r;rfl
theorem J8{j pos'}(ha:PE X a ta):PC X .Is a (.Constant .none j pos') (ZQ ta):=by
 intro pins s σ H Q I h;refine thn (ha pins s σ H _ I h) fun v s1 ⟨x,H1,I1,r1,q1⟩=>?_;exact Constant_none (is_none_gen ⟨.bl _,H1,I1,by rw[r1.EB];rfl,q1⟩)
def tB(t:TE):TT:=fun σ H Q=>t σ H fun x H1=>∃c,x = .bl c/\Q c H1
theorem JG{op:CmpOp}{t:TE}(h:PC X op a b t)(h1:behindInMarks op b=false:=by first|exact Ei _ (by decide) (by decide)|rfl):PT X (.Compare a [op] [b] pos) (tB t):=by
 intro pins s σ H Q I hw;refine wpAny_isTrue_Compare1 (thn (h pins s σ H _ I hw) fun v s1 h1=>thn h1 fun u s2 h2=>thn h2 fun c s3 ⟨x,H1,I1,r1,q1⟩=>?_) h1;obtain⟨d,rfl,q⟩:=q1;cases r1;exact wpAny_truthy_bool ⟨H1,I1,q⟩
theorem rW{e:Expr}{t:TE}(h:PE X e t)(he:∀whole,isTrue e X.env whole=(do let v<-whole;standAt e.pos;holding [v] (truthy v)):=by intro _;rfl):PT X e (tB t):=by
 intro pins s σ H Q I hw;refine isTrue_plain (thn (h pins s σ H _ I hw) fun v s1 ⟨x,H1,I1,r1,q1⟩=>?_) (he _);obtain⟨d,rfl,q⟩:=q1;cases r1;exact wpAny_truthy_bool ⟨H1,I1,q⟩
variable {tA tB':TT} {rest:List Expr}
def Z9(t u:TT):TT:=fun σ H Q=>t σ H fun c H1=>if c=true then u σ H1 Q else Q false H1
def tOr(t u:TT):TT:=fun σ H Q=>t σ H fun c H1=>if c=true then Q true H1 else u σ H1 Q
def ZX(t:TT):TT:=fun σ H Q=>t σ H fun c H1=>Q (!c) H1
theorem Dg(ha:PT X a tA):PW X (.BoolOp .And [a] pos) tA:=by
 intro wh pins s σ H Q I h;refine isTrue_and (thn (ha pins s σ H Q I h) fun c s1 e=>?_);cases c with
 |true=>exact isTrue_and_nil e
 |false=>exact e
theorem Gz(ha:PT X a tA):PW X (.BoolOp .Or [a] pos) tA:=by
 intro wh pins s σ H Q I h;refine isTrue_or (thn (ha pins s σ H Q I h) fun c s1 e=>?_);cases c with
 |false=>exact isTrue_or_nil e
 |true=>exact e
theorem GY(ha:PT X a tA)(hb:PW X (.BoolOp .And (b::rest) pos) tB'):PW X (.BoolOp .And (a::b::rest) pos) (Z9 tA tB'):=by
 intro wh pins s σ H Q I h;refine isTrue_and (thn (ha pins s σ H _ I h) fun c s1 ⟨H1,I1,q1⟩=>?_);cases c with
 |true=>exact hb wh pins s1 σ H1 Q I1 q1
 |false=>exact⟨H1,I1,q1⟩
theorem IV(ha:PT X a tA)(hb:PW X (.BoolOp .Or (b::rest) pos) tB'):PW X (.BoolOp .Or (a::b::rest) pos) (tOr tA tB'):=by
 intro wh pins s σ H Q I h;refine isTrue_or (thn (ha pins s σ H _ I h) fun c s1 ⟨H1,I1,q1⟩=>?_);cases c with
 |true=>exact⟨H1,I1,q1⟩
 |false=>exact hb wh pins s1 σ H1 Q I1 q1
theorem uL(ha:PT X a tA):PT X (.UnaryOp .Not a pos) (ZX tA):=by
 intro pins s σ H Q I h;exact isTrue_not (ha pins s σ H (fun c H1=>Q (!c) H1) I h)
def Tj(ta tb:TE):TE:=fun σ H Q=>ta σ H fun x H1=>∃c,x = .bl c/\if c=true then tb σ H1 Q else Q (.bl false) H1
def Z8(ta tb:TE):TE:=fun σ H Q=>ta σ H fun x H1=>∃c,x = .bl c/\if c=true then Q (.bl true) H1 else tb σ H1 Q
theorem GV{op}{t:TE}(h:PE X a t):PE X (.BoolOp op [a] pos) t:=fun pins s σ H Q I hw=>BoolOp_one (h pins s σ H Q I hw)
theorem KN(ha:PE X a ta)(hb:PE X (.BoolOp .And (b::rest) pos) tb):PE X (.BoolOp .And (a::b::rest) pos) (Tj ta tb):=by
 intro pins s σ H Q I h;refine BoolOp_and (thn (ha pins s σ H _ I h) fun v s1 ⟨x,H1,I1,r1,q1⟩=>?_);obtain⟨c,rfl,q1⟩:=q1;cases r1;refine wpAny_truthy_bool ?_;cases c with
 |true=>exact hb pins s1 σ H1 Q I1 q1
 |false=>exact⟨.bl false,H1,I1,rfl,q1⟩
theorem SD(ha:PE X a ta)(hb:PE X (.BoolOp .Or (b::rest) pos) tb):PE X (.BoolOp .Or (a::b::rest) pos) (Z8 ta tb):=by
 intro pins s σ H Q I h;refine BoolOp_or (thn (ha pins s σ H _ I h) fun v s1 ⟨x,H1,I1,r1,q1⟩=>?_);obtain⟨c,rfl,q1⟩:=q1;cases r1;refine wpAny_truthy_bool ?_;cases c with
 |false=>exact hb pins s1 σ H1 Q I1 q1
 |true=>exact⟨.bl true,H1,I1,rfl,q1⟩
def tIf(t:TT)(ta tb:TE):TE:=fun σ H Q=>t σ H fun c H1=>if c=true then ta σ H1 Q else tb σ H1 Q
theorem sI{c:Expr}(hc:PT X c tA)(ha:PE X a ta)(hb:PE X b tb):PE X (.IfExp c a b pos) (tIf tA ta tb):=by
 intro pins s σ H Q I h;refine wpAny_IfExp (thn (hc pins s σ H _ I h) fun d s1 ⟨H1,I1,q1⟩=>?_);cases d with
 |true=>exact ha pins s1 σ H1 Q I1 q1
 |false=>exact hb pins s1 σ H1 Q I1 q1
end
def SqL(K:PySem.W.Frag)(H:Hp)(a:Addr)(xs:List V):Prop:=
 Rd H a (.lst xs)∨
  ∃(o:Obj) (its:Array Value) (n:Nat),K.lookup a=some o/\o.cls = .type "list" /\ o.dict=none/\o.data = .seq its n/\its.size<=sizeLine/\Vals xs its.toList
def SqT(K:PySem.W.Frag)(H:Hp)(a:Addr)(xs:List V):Prop:=
 Rd H a (.tup xs)∨
  ∃(o:Obj) (its:Array Value) (n:Nat),K.lookup a=some o/\o.cls = .type "tuple" /\ o.data = .seq its n/\its.size<=sizeLine/\Vals xs its.toList
def ZS:Value->Option V
 |.none=>some .non
 |.bool b=>some (.bl b)
 |.int i _=>some (.int i)
 |.str x _=>some (.str x)
 |.bytes b _=>some (.byt b)
 |.float b _=>some (.flt b)
 |.ref a=>some (.ref a)
 |.type n=>some (.ty n)
 |_=>none
theorem RelV.abs{x:V}{u:Value}(r:RelV x u):ZS u=some x:=by
 cases x with
 |non=>cases r;rfl
 |bl _=>cases r;rfl
 |int _=>obtain⟨t,rfl⟩:=r;rfl
 |str _=>obtain⟨t,rfl⟩:=r;rfl
 |byt _=>obtain⟨t,rfl⟩:=r;rfl
 |flt _=>obtain⟨t,rfl⟩:=r;rfl
 |ref _=>cases r;rfl
 |ty _=>cases r;rfl
theorem RelV.inj{x y:V}{u:Value}(r:RelV x u)(q:RelV y u):x=y:=Option.some.inj (r.abs.symm.trans q.abs)
theorem Vals.inj{xs ys:List V}{us:List Value}(h:Vals xs us)(h':Vals ys us):xs=ys:=by
 induction h generalizing ys with
 |nil=>cases h';rfl
 |cons r t ih=>
  cases h' with
  |cons r' t'=>rw[r.inj r',ih t']
section
variable {X:Cx} {pins:List (Addr×Obj)} {σ:St} {H:Hp} {s:Shared} {a:Addr} {xs ys:List V}
theorem SqL.of{K:PySem.W.Frag}(h:H a=some (.lst xs)):SqL K H a xs:= .inl (.inl h)
theorem SqT.of{K:PySem.W.Frag}(h:H a=some (.tup xs)):SqT K H a xs:= .inl (.inl h)
theorem Inv.list(I:Inv X pins σ H s)(h:SqL X.K H a xs):∃its:List Value,Vals xs its/\PlainL s.heap a its.toArray/\xs.length<=sizeLine:=by
 rcases h with h|⟨o,its,n,hk,hc,hd,hs,hz,r⟩
 ·obtain⟨z,its,n,r,e⟩:=h.ok I.hok;exact⟨its,r,⟨_,n,e,rfl,rfl,rfl⟩,z⟩
 ·refine⟨its.toList,r,⟨o,n,I.kIn a o hk,hc,hd,by simpa using hs⟩,?_⟩;have e:=r.length;simp only[Array.length_toList]at e;omega
theorem Inv.tuple(I:Inv X pins σ H s)(h:SqT X.K H a xs):∃its:List Value,Vals xs its/\IsTup s.heap a its.toArray/\xs.length<=sizeLine:=by
 rcases h with h|⟨o,its,n,hk,hc,hs,hz,r⟩
 ·obtain⟨z,its,r,p⟩:=h.ok I.hok;exact⟨its,r,p,z⟩
 ·refine⟨its.toList,r,⟨o,I.kIn a o hk,hc,n,by simpa using hs⟩,?_⟩;have e:=r.length;simp only[Array.length_toList]at e;omega
theorem Inv.E4(I:Inv X pins σ H s)(h:SqL X.K H a xs)(h':SqL X.K H a ys):xs=ys:=by
 obtain⟨its,r,⟨o,n,e,_,_,d⟩,_⟩:=I.list h;obtain⟨its',r',⟨o',n',e',_,_,d'⟩,_⟩:=I.list h';rw[e]at e';cases e';rw[d]at d';injection d' with d1 _;have:its=its':=by simpa using congrArg Array.toList d1
 subst this;exact r.inj r'
theorem Inv.DN(I:Inv X pins σ H s)(h:SqT X.K H a xs)(h':SqT X.K H a ys):xs=ys:=by
 obtain⟨its,r,⟨o,e,_,n,d⟩,_⟩:=I.tuple h;obtain⟨its',r',⟨o',e',_,n',d'⟩,_⟩:=I.tuple h';rw[e]at e';cases e';rw[d]at d';injection d' with d1 _;have:its=its':=by simpa using congrArg Array.toList d1
 subst this;exact r.inj r'
end
abbrev Cx.wish(X:Cx)(E:Value->Shared->Prop):Cx:={ X with xe:=E }
abbrev Cx.nox(X:Cx):Cx:=X.wish fun _ _=>False
theorem Cx.Ok.wish{X:Cx}(ok:X.Ok)(E:Value->Shared->Prop):(X.wish E).Ok:=
 ⟨ok.mod,ok.kind,ok.glob,ok.blt,ok.above,ok.inj,ok.has,ok.cab,ok.hd,ok.frames,ok.stk,ok.exf,ok.bs,ok.bsz,ok.noex,ok.exfs,ok.Al,ok.frf⟩
theorem Cx.Ok.mC{X:Cx}{E:Value->Shared->Prop}(ok:(X.wish E).Ok):X.Ok:=
 ⟨ok.mod,ok.kind,ok.glob,ok.blt,ok.above,ok.inj,ok.has,ok.cab,ok.hd,ok.frames,ok.stk,ok.exf,ok.bs,ok.bsz,ok.noex,ok.exfs,ok.Al,ok.frf⟩
section
variable {X:Cx} {pins:List (Addr×Obj)} {σ:St} {H:Hp} {s:Shared} {E:Value->Shared->Prop}
theorem Inv.wish(I:Inv X pins σ H s)(E:Value->Shared->Prop):Inv (X.wish E) pins σ H s:=⟨I.ok.wish E,I.os,I.bare,I.base,I.loc,I.cell,I.free,I.freeC,I.pin,I.hok,I.len⟩
theorem Inv.mC(I:Inv (X.wish E) pins σ H s):Inv X pins σ H s:=⟨I.ok.mC,I.os,I.bare,I.base,I.loc,I.cell,I.free,I.freeC,I.pin,I.hok,I.len⟩
theorem SP.mC{D:Ends}{f:Flow}{s':Shared}(h:SP (X.wish E) pins D f s'):SP X pins D f s':=by
 cases f with
 |next=>obtain⟨σ',H',I,q⟩:=h;exact⟨σ',H',I.mC,q⟩
 |brk=>obtain⟨σ',H',I,q⟩:=h;exact⟨σ',H',I.mC,q⟩
 |cont=>obtain⟨σ',H',I,q⟩:=h;exact⟨σ',H',I.mC,q⟩
 |ret u=>obtain⟨v,σ',H',I,r,q⟩:=h;exact⟨v,σ',H',I.mC,r,q⟩
theorem PSs.nox{st:List Stmt}{t:TS}(h:PSs X.nox st t):PSs X st t:=fun pins s σ H D I hw=>
 wpAny_mono (h pins s σ H D (I.wish _) hw) (fun _ _ q=>q.mC) fun _ _ z=>False.elim z
end
section
variable {X:Cx} {st:Stmt} {rest:List Stmt} {t u:TS} {e:Expr} {te:TE} {pos:Pos}
def SW:TS:=fun D σ H=>D.nx σ H
def Za(t u:TS):TS:=fun D σ H=>t { D with nx:=u D } σ H
theorem cR:PSs X [] SW:=fun _ _ σ H _ I h=>wpAny_execs_nil ⟨σ,H,I,h⟩
theorem ao(h1:PS X st t)(h2:PSs X rest u):PSs X (st::rest) (Za t u):=by
 intro pins s σ H D I h;refine wpAny_execs_cons (thn (h1 pins s σ H { D with nx:=u D } I h) fun f s1 q=>?_);cases f with
 |next=>
  obtain⟨σ',H',I',q⟩:=q;exact h2 pins s1 σ' H' D I' q
 |ret v=>exact q
 |brk=>exact q
 |cont=>exact q
theorem aJ(h1:PS X st t):PSs X [st] t:=by
 intro pins s σ H D I h;refine wpAny_execs_cons (thn (h1 pins s σ H D I h) fun f s1 q=>?_);cases f with
 |next=>exact wpAny_execs_nil q
 |ret v=>exact q
 |brk=>exact q
 |cont=>exact q
theorem Inv.quiet{pins:List (Addr×Obj)}{σ:St}{H:Hp}{s:Shared}(I:Inv X pins σ H s):interactive X.env=false:=by simp[interactive,I.ok.kind]
def WC(te:TE):TS:=fun D σ H=>te σ H fun _ H1=>D.nx σ H1
theorem iB(he:PE X e te)(hs:swapsWith e none pos.line X.env=pure false:=by rfl):PS X (.Expr e pos) (WC te):=by
 intro pins s σ H D I h;exact wpAny_Expr_any (thn (he pins s σ H _ I h) fun v s1 ⟨x,H1,I1,r1,q1⟩=>⟨σ,H1,I1,q1⟩) I.quiet hs
def ZG(te:TE):TS:=fun D σ H=>te σ H D.rt
theorem bw(he:PE X e te):PS X (.Return (some e) pos) (ZG te):=by
 intro pins s σ H D I h;exact wpAny_Return_some (thn (he pins s σ H _ I h) fun v s1 ⟨x,H1,I1,r1,q1⟩=>⟨x,σ,H1,I1,r1,q1⟩)
def Z7(c:TT)(t u:TS):TS:=fun D σ H=>c σ H fun b H1=>if b=true then t D σ H1 else u D σ H1
theorem iU{c:Expr}{a b:List Stmt}{tc:TT}(hc:PT X c tc)(ha:PSs X a t)(hb:PSs X b u):PS X (.If c a b pos) (Z7 tc t u):=by
 intro pins s σ H D I h;refine wpAny_If (thn (hc pins s σ H _ I h) fun d s1 ⟨H1,I1,q1⟩=>?_);cases d with
 |true=>exact ha pins s1 σ H1 D I1 q1
 |false=>exact hb pins s1 σ H1 D I1 q1
def Lw:TS:=fun _ _ _=>False
theorem yS:PS X st Lw:=fun _ _ _ _ _ _ h=>h.elim
end
abbrev TG:=V->St->Hp->(St->Hp->Prop)->Prop
abbrev TGs:=List V->St->Hp->(St->Hp->Prop)->Prop
def PG(X:Cx)(target:Expr)(t:TG):Prop:=
 ∀(pins:List (Addr×Obj)) (s:Shared) (σ:St) (H:Hp) (v:V) (u:Value) (Q:St->Hp->Prop),Inv X pins σ H s->RelV v u->t v σ H Q->
  wpAny (model X.prog X.w) X.A (assign target X.env u) (fun _ s'=>∃σ' H',Inv X pins σ' H' s'/\Q σ' H') X.xe s
def PGs(X:Cx)(ts:List Expr)(t:TGs):Prop:=
 ∀(pins:List (Addr×Obj)) (s:Shared) (σ:St) (H:Hp) (vs:List V) (us:List Value) (Q:St->Hp->Prop),Inv X pins σ H s->Vals vs us->t vs σ H Q->
  wpAny (model X.prog X.w) X.A (assignInOrder ((assignEach ts X.env).map (·.2)) us) (fun _ s'=>∃σ' H',Inv X pins σ' H' s'/\Q σ' H') X.xe s
abbrev Um:=V->V->V->Hp->(Hp->Prop)->Prop
def Yr(X:Cx)(t:Um):Prop:=
 ∀(pins:List (Addr×Obj)) (s:Shared) (σ:St) (H:Hp) (o i v:V) (ov iv u:Value) (Q:Hp->Prop),Inv X pins σ H s->RelV o ov->RelV i iv->RelV v u->t o i v H Q->
  wpAny (model X.prog X.w) X.A (setItem ov iv u) (fun _ s'=>∃H',Inv X pins σ H' s'/\Q H') X.xe s
section
variable {X:Cx} {pos:Pos}
def lZ(i:Nat):TG:=fun v σ H Q=>Q (σ.set i (some v)) H
theorem bG{i:Nat}{x:Str}(hN:X.N.Nodup)(hi:X.N[i]?=some x)(hx:Loc X.env.scope x)(hf:X.fn x=true∨X.env.scope.names.lookup x=some .local:=by first|exact .inl rfl|exact .inr rfl|assumption):PG X (.Name x pos) (lZ i):=by
 intro pins s σ H v u Q I r h;exact wpAny_assign_Name (oZ I hN hi hx r (fun s' I'=>⟨_,H,I',h⟩) hf)
def aag:TGs:=fun vs σ H Q=>vs=[]/\Q σ H
inductive Us(t:TG)(u:TGs)(vs:List V)(σ:St)(H:Hp)(Q:St->Hp->Prop):Prop|mk (v:V) (r:List V) (h:vs=v::r) (q:t v σ H fun σ' H'=>u r σ' H' Q)
def QK(t:TG)(u:TGs):TGs:=fun vs σ H Q=>Us t u vs σ H Q
theorem sX:PGs X [] aag:=by
 intro pins s σ H vs us Q I r h;obtain⟨e,h⟩:=h;subst e;cases r;exact assignInOrder_nil ⟨σ,H,I,h⟩
theorem fV{e:Expr}{es:List Expr}{t:TG}{u:TGs}(h1:PG X e t)(h2:PGs X es u)
  (hs:(assignEach (e::es) X.env).map (·.2)=assign e X.env::(assignEach es X.env).map (·.2):=by rfl):PGs X (e::es) (QK t u):=by
 intro pins s σ H vs us Q I r h;obtain⟨v,vr,e1,h⟩:=h;subst e1;cases r with
 |cons r rr=>
  rw[hs];refine assignInOrder_cons (thn (h1 pins s σ H _ _ _ I r h) fun _ s1 ⟨σ1,H1,I1,q1⟩=>?_);exact h2 pins s1 σ1 H1 _ _ Q I1 rr q1
def Xn(K:PySem.W.Frag)(n:Nat)(t:TGs):TG:=fun v σ H Q=>∃a xs,v = .ref a/\SqT K H a xs/\xs.length=n/\t xs σ H Q
theorem LC{es:List Expr}{k:Nat}{t:TGs}{n:Nat}(hc:X.calm=true)(h:PGs X es t)
  (hn:(assignEach es X.env).length=n:=by rfl) (hst:(assignEach es X.env).findIdx? (·.1)=none:=by rfl):PG X (.Tuple es k pos) (Xn X.K n t):=by
 intro pins s σ H v u Q I r hw;obtain⟨a,xs,e1,hq,hl,hw⟩:=hw;subst e1;cases r;obtain⟨its,rv,ht,hz⟩:=I.tuple hq;refine assign_Tuple_tuple (I.ok.hd hc) ht (by simp[hn,<-hl,rv.length]) hst fun h' hx=>?_;have I1:Inv X pins σ H { s with heap:=h' }:=I.kept (t':=s.toks) fun b o e=>hx b o (Nat.ne_of_lt (Heap.lt_size e)) e;exact h pins _ σ H xs _ Q I1 (by simpa using rv) hw
def Zj(to ti:TE)(t:Um):TG:=fun v σ H Q=>to σ H fun o H1=>ti σ H1 fun i H2=>t o i v H2 fun H3=>Q σ H3
theorem vd{o i:Expr}{to ti:TE}{t:Um}(ho:PE X o to)(hi:PE X i ti)(hs:Yr X t)
  (ha:∀v,assign (.Subscript o i pos) X.env v=(do
   let ov<-holding [v] (eval o X.env)
   let iv<-holding [v,ov] (eval i X.env)
   standAt pos
   holding [v,ov,iv] (setItem ov iv v)
   release [v,ov,iv] []):=by intro _;rfl):PG X (.Subscript o i pos) (Zj to ti t):=by
 intro pins s σ H v u Q I r h;rw[ha];refine wpAny_bind (wpAny_holding (thn (ho pins s σ H _ I h) fun ov s1 ⟨x,H1,I1,r1,q1⟩=>?_));refine wpAny_bind (wpAny_holding (thn (hi pins s1 σ H1 _ I1 q1) fun iv s2 ⟨y,H2,I2,r2,q2⟩=>?_));refine wpAny_bind (wpAny_standAt (wpAny_bind (wpAny_holding (thn (hs pins s2 σ H2 x y v ov iv u _ I2 r1 r2 r q2) fun _ s3 ⟨H3,I3,q3⟩=>?_))));exact wpAny_release ⟨σ,H3,I3,q3⟩
def UL(te:TE)(g:TG):TS:=fun D σ H=>te σ H fun x H1=>g x σ H1 D.nx
theorem oF{tg e:Expr}{te:TE}{g:TG}(he:PE X e te)(hg:PG X tg g)(hs:swapsWithSole [tg] e pos.line X.env=pure false:=by rfl)(hw:swappedStores [tg] e X.env=pure none:=by rfl)
  (h1:(assignEach [tg] X.env).map (·.2)=[assign tg X.env]:=by rfl):PS X (.Assign [tg] e pos) (UL te g):=by
 intro pins s σ H D I h;refine wpAny_Assign_stores (thn (he pins s σ H _ I h) fun v s1 ⟨x,H1,I1,r1,q1⟩=>?_) hs hw;rw[h1];exact thn (hg pins s1 σ H1 x v _ I1 r1 q1) fun _ s2 q=>q
theorem aQ{i:Nat}{x:Str}{e:Expr}{te:TE}{pos':Pos}(hN:X.N.Nodup)(hi:X.N[i]?=some x)(hx:Loc X.env.scope x)(he:PE X e te)(hs:swapsWith e (some (.Name x pos')) pos.line X.env=pure false:=by rfl)(hf:X.fn x=true∨X.env.scope.names.lookup x=some .local:=by first|exact .inl rfl|exact .inr rfl|assumption):
  PS X (.Assign [.Name x pos'] e pos) (UL te (lZ i)):=by
 intro pins s σ H D I h;refine wpAny_Assign_Name (thn (he pins s σ H _ I h) fun v s1 ⟨y,H1,I1,r1,q1⟩=>?_) hs;exact oZ I1 hN hi hx r1 (fun s2 I2=>⟨_,H1,I2,q1⟩) hf
end
section
variable {X:Cx} {pos:Pos}
def J3(c:TT)(tb:TS):TS:=fun D σ H=>∃W:Nat->St->Hp->Prop,(∃m,W m σ H)/\∀m σ H,W m σ H->
 c σ H fun b H1=>if b=true then ∃N:St->Hp->Prop,(∀σ' H',N σ' H'->∃m',m'<m/\W m' σ' H')/\tb { D with nx:=N,ct:=N,bk:=D.nx } σ H1 else D.nx σ H1
theorem iM{c:Expr}{body:List Stmt}{tc:TT}{tb:TS}(hp:PassesOwn (model X.prog X.w) X.A X.env X.xe)(hc:PT X c tc)(hb:PSs X body tb):PS X (.While c body [] pos) (J3 tc tb):=by
 intro pins s σ H D I h;obtain⟨W,⟨m0,w0⟩,turn⟩:=h;refine wpAny_While (codeAny_whileLoop (fun n s'=>∃σ' H',Inv X pins σ' H' s'/\W n σ' H') ?_ m0 ⟨σ,H,I,w0⟩);rintro n s1 ⟨σ1,H1,I1,w1⟩;refine wpAny_passesOwn hp (thn (hc pins s1 σ1 H1 _ I1 (turn n σ1 H1 w1)) fun b s2 ⟨H2,I2,q2⟩=>?_);cases b with
 |true=>
  obtain⟨N,hN,q2⟩:=q2;rw[if_pos rfl];refine wpAny_passesOwn hp (thn (hb pins s2 σ1 H2 _ I2 q2) fun f s3 q3=>?_);cases f with
  |next=>
   obtain⟨σ3,H3,I3,n3⟩:=q3;obtain⟨m',hm,w3⟩:=hN σ3 H3 n3;exact⟨m',hm,σ3,H3,I3,w3⟩
  |cont=>
   obtain⟨σ3,H3,I3,n3⟩:=q3;obtain⟨m',hm,w3⟩:=hN σ3 H3 n3;exact⟨m',hm,σ3,H3,I3,w3⟩
  |brk=>exact q3
  |ret v=>exact q3
 |false=>
  rw[if_neg Bool.false_ne_true];exact wpAny_execs_nil ⟨σ1,H2,I2,q2⟩
end
structure It where
 go:Nat->Hp->Prop
 yld:Nat->Hp->V->Hp->Prop
 stop:Nat->Hp->Prop
def Fo(X:Cx)(pins:List (Addr×Obj))(H:Hp)(b:Addr):Prop:=
 H b=none/\b≠X.env.locals/\b∉X.fs/\(b∈X.ex∨X.s₀.heap.objs.size<=b)/\(∀x c,X.env.cells.lookup x=some c->c≠b)/\∀p∈X.pn++pins,p.1≠b
theorem Inv.J0{X:Cx}{pins:List (Addr×Obj)}{σ:St}{H H':Hp}{s:Shared}{b:Addr}(I:Inv X pins σ H s)(hb:s.heap.objs.size<=b)(hn:H' b=none):Fo X pins H' b:=by
 refine⟨hn,Nat.ne_of_gt (Nat.lt_of_lt_of_le I.lt hb),I.OG hb,.inr (Nat.le_trans I.sz hb),fun x c e z=>?_,fun p hp z=>?_⟩
 ·obtain⟨v,q⟩:=I.cell x c e;exact absurd (Nat.lt_of_lt_of_le q.lt (by rw[z];exact hb)) (Nat.lt_irrefl _)
 ·exact absurd (Nat.lt_of_lt_of_le (Heap.lt_size (I.pin p hp).1) (by rw[z];exact hb)) (Nat.lt_irrefl _)
structure Turn(P:Program)(w:World)(K:PySem.W.Frag)(tg:Expr)(J:It)(fp:List Addr)(it:Addr)(tn:Nat->Heap->Prop):Prop where
 mem:it∈fp
 obj:∀i h,tn i h->∀b∈fp,∃o,h.get? b=some o/\∀v,o.data≠ .cell v
 keep:∀i h h',tn i h->(∀b∈fp,∀o,h.get? b=some o->h'.get? b=some o)->tn i h'
 item:∀(X:Cx),X.prog=P->X.w=w->X.K=K->X.calm=true->∀(i:Nat) (pins:List (Addr×Obj)) (s:Shared) (σ:St) (H:Hp) (E:Value->Shared->Prop),Inv X pins σ H s->(∀b∈fp,Fo X pins H b)->tn i s.heap->J.go i H->
  wpAny (model P w) X.A (pyNext (.ref it)) (fun r s1=>∃u,r=some u/\
   wpAny (model P w) X.A (letOwnedTupleGo tg (.ref it) u) (fun _ s2=>∃x H',Inv X pins σ H' s2/\RelV x u/\J.yld i H x H'/\tn (i+1) s2.heap/\∀b∈fp,H' b=none) E s1) E s
 done:∀(X:Cx),X.prog=P->X.w=w->X.K=K->X.calm=true->∀(i:Nat) (pins:List (Addr×Obj)) (s:Shared) (σ:St) (H:Hp) (E:Value->Shared->Prop),Inv X pins σ H s->(∀b∈fp,Fo X pins H b)->tn i s.heap->J.stop i H->
  wpAny (model P w) X.A (pyNext (.ref it)) (fun r s1=>r=none/\Inv X pins σ H s1) E s
 self:∀(A:Around) (i:Nat) (s:Shared) (Q:Value->Shared->Prop) (E:Value->Shared->Prop),tn i s.heap->Q (.ref it) s->wpAny (model P w) A (pyIter (.ref it)) Q E s
abbrev TI:=St->Hp->(It->Hp->Prop)->Prop
def PIE(X:Cx)(pins:List (Addr×Obj))(σ:St)(tg:Expr)(R:It->Hp->Prop)(itv:Value)(s2:Shared):Prop:=
 ∃(it:Addr) (fp:List Addr) (tn:Nat->Heap->Prop) (J:It) (H':Hp),itv = .ref it/\Inv X pins σ H' s2/\Turn X.prog X.w X.K tg J fp it tn/\tn 0 s2.heap/\(∀b∈fp,Fo X pins H' b)/\R J H'
def PI(X:Cx)(tg iter:Expr)(wi:TI):Prop:=
 ∀(pins:List (Addr×Obj)) (s:Shared) (σ:St) (H:Hp) (R:It->Hp->Prop),Inv X pins σ H s->wi σ H R->
  wpAny (model X.prog X.w) X.A (eval iter X.env) (fun v s1=>wpAny (model X.prog X.w) X.A (pyIter v) (PIE X pins σ tg R) X.xe s1) X.xe s
theorem FD{M:Model}{A:Around}{E:Value->Shared->Prop}{s:Shared}{tg:Expr}{it:Addr}{u:Value}{o:Obj}{n:String}{vs:Array Value}{Q:Unit->Shared->Prop}(ho:s.heap.get? it=some o)(hc:o.cls = .type n)(hd:o.data = .fields vs)
  (hn:["enumerate","zip","dict_itemiterator","dict_reverseitemiterator","odict_iterator","itertools.zip_longest","itertools.pairwise"].contains n=false) (hQ:Q () s):wpAny M A (letOwnedTupleGo tg (.ref it) u) Q E s:=by
 unfold letOwnedTupleGo;cases tg<;>first
  |exact wpAny_pure hQ
  |(cases u<;>first
    |exact wpAny_pure hQ
    |(refine wpAny_bind (wpAny_load ho ?_);rw[hc,hd];show wpAny M A (if(["enumerate","zip","dict_itemiterator","dict_reverseitemiterator","odict_iterator","itertools.zip_longest","itertools.pairwise"].contains n&&vs[0]?==some (rawInt _))=true then _ else _) Q E s;rw[if_neg (by intro h;rw[hn,Bool.false_and]at h;cases h)];exact wpAny_pure hQ))
def Itl(K:PySem.W.Frag)(a:Addr):It:=
 ⟨fun i H=>∃xs x,SqL K H a xs/\xs[i]?=some x,fun i H x H'=>H'=H/\∀xs,SqL K H a xs->xs[i]?=some x,fun i H=>∃xs,SqL K H a xs/\xs.length<=i⟩
def Itt(K:PySem.W.Frag)(a:Addr):It:=
 ⟨fun i H=>∃xs x,SqT K H a xs/\xs[i]?=some x,fun i H x H'=>H'=H/\∀xs,SqT K H a xs->xs[i]?=some x,fun i H=>∃xs,SqT K H a xs/\xs.length<=i⟩
def Itr(lo:Int)(n:Nat):It:=⟨fun i _=>i<n,fun i H x H'=>H'=H/\x = .int (lo+i),fun i _=>n<=i⟩
theorem A9{P:Program}{w:World}{K:PySem.W.Frag}{tg:Expr}(a it:Addr):Turn P w K tg (Itl K a) [it] it (fun i h=>h.IsListIter it a i) where
 mem:=by simp
 obj:=fun i h st b hb=>by
  have e:b=it:=by simpa using hb
  subst e;obtain⟨o,e,c,d⟩:=st;exact⟨o,e,fun v z=>by rw[d]at z;cases z⟩
 keep:=fun i h h' st k=>st.at fun o e=>k it (by simp) o e
 item:=by
  intro X hP hw hK hc i pins s σ H E I hf st hg;subst hP hw hK;obtain⟨xs,x,hq,hx⟩:=hg;obtain⟨its,rv,p,hz⟩:=I.list hq;obtain⟨u,hu,ru⟩:=rv.get hx;obtain⟨f0,f1,f2,f3,f4,f5⟩:=hf it (by simp);refine wpAny_pyNext_list_item st p.isList (x:=u) (by simpa using hu) fun h' st' sb=>?_;have I1:Inv X pins σ H { s with heap:=h' }:=I.turned (t':=s.toks) (fun b o hb e=>(sb.2 b hb).trans e) f0 f1 f3 f4 f5;obtain⟨o,e,c,d⟩:=id st';exact⟨u,rfl,FD (s:={ s with heap:=h' }) e c d (by decide) ⟨x,H,I1,ru,⟨rfl,fun ys hy=>by rw[I.E4 hy hq];exact hx⟩,st',fun b hb=>(hf b hb).1⟩⟩
 done:=by
  intro X hP hw hK hc i pins s σ H E I hf st hg;subst hP hw hK;obtain⟨xs,hq,hx⟩:=hg;obtain⟨its,rv,p,hz⟩:=I.list hq;obtain⟨f0,f1,f2,f3,f4,f5⟩:=hf it (by simp);have hl:=rv.length;exact wpAny_pyNext_list_end (I.ok.hd hc) st p.isList (by simp;omega) fun h' eb=>⟨rfl,I.turned (t':=s.toks) (fun b o hb e=>eb b o hb e) f0 f1 f3 f4 f5⟩
 self:=fun _ _ _ _ _ st h=>wpAny_pyIter_listiter st h
theorem Ay{P:Program}{w:World}{K:PySem.W.Frag}{tg:Expr}(a it:Addr):Turn P w K tg (Itt K a) [it] it (fun i h=>h.IsTupleIter it a i) where
 mem:=by simp
 obj:=fun i h st b hb=>by
  have e:b=it:=by simpa using hb
  subst e;obtain⟨o,e,c,d⟩:=st;exact⟨o,e,fun v z=>by rw[d]at z;cases z⟩
 keep:=fun i h h' st k=>st.at fun o e=>k it (by simp) o e
 item:=by
  intro X hP hw hK hc i pins s σ H E I hf st hg;subst hP hw hK;obtain⟨xs,x,hq,hx⟩:=hg;obtain⟨its,rv,p,hz⟩:=I.tuple hq;obtain⟨u,hu,ru⟩:=rv.get hx;obtain⟨f0,f1,f2,f3,f4,f5⟩:=hf it (by simp);refine wpAny_pyNext_tuple_item st (show s.heap.IsTuple a its.toArray from p) (x:=u) (by simpa using hu) fun h' st' sb=>?_;have I1:Inv X pins σ H { s with heap:=h' }:=I.turned (t':=s.toks) (fun b o hb e=>(sb.2 b hb).trans e) f0 f1 f3 f4 f5;obtain⟨o,e,c,d⟩:=id st';exact⟨u,rfl,FD (s:={ s with heap:=h' }) e c d (by decide) ⟨x,H,I1,ru,⟨rfl,fun ys hy=>by rw[I.DN hy hq];exact hx⟩,st',fun b hb=>(hf b hb).1⟩⟩
 done:=by
  intro X hP hw hK hc i pins s σ H E I hf st hg;subst hP hw hK;obtain⟨xs,hq,hx⟩:=hg;obtain⟨its,rv,p,hz⟩:=I.tuple hq;obtain⟨f0,f1,f2,f3,f4,f5⟩:=hf it (by simp);have hl:=rv.length;exact wpAny_pyNext_tuple_end (I.ok.hd hc) st (show s.heap.IsTuple a its.toArray from p) (by simp;omega) fun h' eb=>⟨rfl,I.turned (t':=s.toks) (fun b o hb e=>eb b o hb e) f0 f1 f3 f4 f5⟩
 self:=fun _ _ _ _ _ st h=>wpAny_pyIter_tupleiter st h
theorem Am{P:Program}{w:World}{K:PySem.W.Frag}{tg:Expr}(it:Addr)(lo:Int)(n:Nat):Turn P w K tg (Itr lo n) [it] it (fun i h=>IsRangeIter h it (lo+(i:Nat)*1) ((n:Int)-(i:Nat)) 1) where
 mem:=by simp
 obj:=fun i h st b hb=>by
  have e:b=it:=by simpa using hb
  subst e;exact⟨_,st,fun v z=>by
   have z':Data.fields _=Data.cell v:=z;cases z'⟩
 keep:=fun i h h' st k=>k it (by simp) _ st
 item:=by
  intro X hP hw hK hc i pins s σ H E I hf st hg;subst hP hw hK;obtain⟨f0,f1,f2,f3,f4,f5⟩:=hf it (by simp);have W:=Walks.range (prog:=X.prog) (w:=X.w) (I.ok.hd hc) it lo 1 n;refine W.item i s _ _ hg st fun v h' tk hv st' kk=>?_;obtain⟨t,rfl⟩:=hv;have I1:Inv X pins σ H { s with heap:=h',toks:=tk }:=I.turned (fun b o hb e=>kk b o (by simpa using hb) e) f0 f1 f3 f4 f5;refine⟨_,rfl,FD (s:={ s with heap:=h',toks:=tk }) (n:= "range_iterator") st' rfl rfl (by decide) ⟨.int (lo+i),H,I1,⟨t,?_⟩,⟨rfl,rfl⟩,st',fun b hb=>(hf b hb).1⟩⟩;rw[Int.mul_one]
 done:=by
  intro X hP hw hK hc i pins s σ H E I hf st hg;subst hP hw hK;obtain⟨f0,f1,f2,f3,f4,f5⟩:=hf it (by simp);exact wpAny_pyNext_range_end (I.ok.hd hc) st (by have:n<=i:=hg;omega) fun h' eb=>⟨rfl,I.turned (t':=s.toks) (fun b o hb e=>eb b o hb e) f0 f1 f3 f4 f5⟩
 self:=fun _ _ _ _ _ st h=>wpAny_pyIter_rangeiter st h
section
variable {X:Cx} {tg:Expr}
def Nu(K:PySem.W.Frag)(tl:TE):TI:=fun σ H R=>tl σ H fun x H1=>∃a,x = .ref a/\(∃xs,SqL K H1 a xs)/\R (Itl K a) H1
theorem yr{pins:List (Addr×Obj)}{σ:St}{H:Hp}{s:Shared}{R:It->Hp->Prop}{E:Value->Shared->Prop}{lo hi:Int}{t u v:Tok}{tk:Nat}(I:Inv X pins σ H s)(h1:-(2^62)<=lo)(h2:lo<2^62)(h3:-(2^62)<=hi)(h4:hi<2^62)
  (q:R (Itr lo (hi-lo).toNat) H):wpAny (model X.prog X.w) X.A (pyIter (.ref s.heap.objs.size)) (PIE X pins σ tg R) E { s with heap:=s.heap.push { cls:= .type "range",data:= .fields #[.int lo t,.int hi u,.int 1 v] },toks:=tk }:=by
 refine wpAny_pyIter_range (IsRange.new ..) (small_one h1 h2 h3 h4) ?_;have I1:Inv X pins σ H { s with heap:=s.heap.push { cls:= .type "range",data:= .fields #[.int lo t,.int hi u,.int 1 v] },toks:=tk }:=I.kept fun b o e=>Heap.get?_push_of_some _ e;refine⟨(s.heap.push { cls:= .type "range",data:= .fields #[.int lo t,.int hi u,.int 1 v] }).objs.size,[(s.heap.push { cls:= .type "range",data:= .fields #[.int lo t,.int hi u,.int 1 v] }).objs.size],_,_,H,rfl,
  I1.kept (t':=tk) fun b o e=>Heap.get?_push_of_some _ e,Am _ lo (hi-lo).toNat,?_,fun b hb=>?_,q⟩
 ·have e1:lo+((0:Nat):Int)*1=lo:=by simp
  have e2:(((hi-lo).toNat:Nat):Int)-((0:Nat):Int)=Builtin.Range.rangeSize lo hi 1:=by rw[rangeSize_one];split<;>omega
  show IsRangeIter _ _ (lo+((0:Nat):Int)*1) ((((hi-lo).toNat:Nat):Int)-((0:Nat):Int)) 1;rw[e1,e2];exact Heap.get?_push_size _ rfl
 ·have e:b=(s.heap.push { cls:= .type "range",data:= .fields #[.int lo t,.int hi u,.int 1 v] }).objs.size:=by simpa using hb
  subst e;exact I1.J0 (Nat.le_refl _) (I1.hok.fresh (Nat.le_refl _))
inductive N7(vs:List V)(H:Hp)(R:It->Hp->Prop):Prop|mk (j:Int) (h:vs=[.int j]) (h1:-(2^62)<=j) (h2:j<2^62) (q:R (Itr 0 j.toNat) H)
def UH(ta:TA):TI:=fun σ H R=>ta σ H fun vs H1=>N7 vs H1 R
def Qd(ta:TA):TI:=fun σ H R=>ta σ H fun vs H1=>∃i j:Int,vs=[.int i,.int j]/\(-(2^62)<=i/\i<2^62/\-(2^62)<=j/\j<2^62)/\R (Itr i (j-i).toNat) H1
theorem cg{a:Expr}{ta:TA}{p pos:Pos}(hg:Gl X "range")(hm:X.mg "range" = none)(ha:PA X [a] ta)(hs:starEach [a] X.env=[(false,eval a X.env)]:=by rfl):PI X tg (.Call (.Name "range" p) [a] [] pos) (UH ta):=by
 intro pins s σ H R I h;refine Call_ (rM I hg hm boot_range (PyProof.Rows.callWith_type1 (thn (ha pos pins s σ H _ I h) fun us s1 ⟨vs,H1,I1,r1,q1⟩=>?_) hs rfl));obtain⟨j,e,q1,q2,q⟩:=q1;subst e;cases r1 with
 |cons r rr=>
  cases rr;obtain⟨t,rfl⟩:=r;exact call_range_1 (yr I1 (by omega) (by omega) q1 q2 (by simpa using q))
theorem qL{a b:Expr}{ta:TA}{p pos:Pos}(hg:Gl X "range")(hm:X.mg "range" = none)(ha:PA X [a,b] ta)(hs:starEach [a,b] X.env=[(false,eval a X.env),(false,eval b X.env)]:=by rfl)(hs2:starEach [b] X.env=[(false,eval b X.env)]:=by rfl):
  PI X tg (.Call (.Name "range" p) [a,b] [] pos) (Qd ta):=by
 intro pins s σ H R I h;refine Call_ (rM I hg hm boot_range (PyProof.Rows.callWith_type1 (thn (ha pos pins s σ H _ I h) fun us s1 ⟨vs,H1,I1,r1,q1⟩=>?_) (by rw[hs,hs2]) (by rw[hs2];rfl)));obtain⟨i,j,e,⟨q1,q2,q3,q4⟩,q⟩:=q1;subst e;cases r1 with
 |cons r rr=>
  cases rr with
  |cons r' rr=>
   cases rr;obtain⟨t,rfl⟩:=r;obtain⟨t',rfl⟩:=r';exact call_range_2 (yr I1 q1 q2 q3 q4 q)
def Zr(wi:TI)(g:TG)(tb:TS):TS:=fun D σ H=>wi σ H fun J H1=>∃W:Nat->Nat->St->Hp->Prop,(∃m,W 0 m σ H1)/\∀i m σ H,W i m σ H->
 (J.stop i H/\D.nx σ H)∨(J.go i H/\∃N:St->Hp->Prop,(∀σ' H',N σ' H'->∃m',m'<m/\W (i+1) m' σ' H')/\∀x H',J.yld i H x H'->g x σ H' fun σ2 H2=>tb { D with nx:=N,ct:=N,bk:=D.nx } σ2 H2)
def uP(fp:List Addr)(h:Heap):List (Addr×Obj):=fp.filterMap fun b=>(h.get? b).map fun o=>(b,o)
theorem ju{fp:List Addr}{h:Heap}{b:Addr}{o:Obj}(hb:b∈fp)(e:h.get? b=some o):(b,o)∈uP fp h:=List.mem_filterMap.mpr ⟨b,hb,by rw[e];rfl⟩
theorem DB{fp:List Addr}{h:Heap}{p:Addr×Obj}(hp:p∈uP fp h):p.1∈fp/\h.get? p.1=some p.2:=by
 obtain⟨b,hb,e⟩:=List.mem_filterMap.mp hp;cases q:h.get? b with
 |none=>rw[q]at e;cases e
 |some o=>
  rw[q]at e;have e':(b,o)=p:=Option.some.inj e;subst e';exact⟨hb,q⟩
theorem Inv.pinned{pins:List (Addr×Obj)}{σ:St}{H:Hp}{s:Shared}{fp:List Addr}(I:Inv X pins σ H s)(hf:∀b∈fp,Fo X pins H b)(ho:∀b∈fp,∃o,s.heap.get? b=some o/\∀v,o.data≠ .cell v):Inv X (pins++uP fp s.heap) σ H s:=
 I.D8 fun p hp=>(List.mem_append.mp hp).elim (fun z=>I.pin p (List.mem_append_right _ z)) fun z=>by
  obtain⟨hb,e⟩:=DB z;obtain⟨f0,f1,f2,_⟩:=hf p.1 hb;obtain⟨o,e',d⟩:=ho p.1 hb;rw[e]at e';cases e';exact⟨e,f0,f1,f2,d⟩
theorem Inv.mQ{pins pl:List (Addr×Obj)}{σ:St}{H:Hp}{s:Shared}(I:Inv X (pins++pl) σ H s):Inv X pins σ H s:=I.D8 fun p hp=>I.pin p (List.mem_append_right _ (List.mem_append_left _ hp))
theorem j4{iter:Expr}{body:List Stmt}{wi:TI}{g:TG}{tb:TS}{pos:Pos}(hp:PassesOwn (model X.prog X.w) X.A X.env X.xe)(hc:X.calm=true)(hi:PI X tg iter wi)(hg:PG X tg g)(hb:PSs X body tb)
  (hs:∀x,foldedSetIterable iter X.env x=pure x:=by intro _;rfl):PS X (.For tg iter body [] pos) (Zr wi g tb):=by
 intro pins s σ H D I h;refine wpAny_For (thn (hi pins s σ H _ I h) fun v s1 h1=>thn h1 fun itv s2 h2=>?_) hs;obtain⟨it,fp,tn,J,H2,e,I2,T,st2,f2,W,⟨m0,w0⟩,turn⟩:=h2;subst e;have stat:∀{H':Hp},(∀b∈fp,H' b=none)->∀b∈fp,Fo X pins H' b:=fun hn b hb=>⟨hn b hb,(f2 b hb).2⟩;refine codeAny_forLoop_any (fun n s'=>∃i σ' H',Inv X pins σ' H' s'/\tn i s'.heap/\(∀b∈fp,H' b=none)/\W i n σ' H') ?_ m0 ⟨0,σ,H2,I2,st2,fun b hb=>(f2 b hb).1,w0⟩;rintro n s3 ⟨i,σ3,H3,I3,st3,fr3,w3⟩;rcases turn i n σ3 H3 w3 with⟨stop,qn⟩|⟨go,N,hN,step⟩
 ·refine wpAny_passesOwn hp (thn (T.done X rfl rfl rfl hc i pins s3 σ3 H3 X.xe I3 (stat fr3) st3 stop) fun r s4 ⟨hr,I4⟩=>?_);subst hr;exact wpAny_execs_nil ⟨σ3,H3,I4,qn⟩
 ·refine wpAny_passesOwn hp (thn (T.item X rfl rfl rfl hc i pins s3 σ3 H3 X.xe I3 (stat fr3) st3 go) fun r s4 ⟨u,hr,h4⟩=>?_);subst hr;refine wpAny_passesOwn hp (thn h4 fun _ s5 ⟨x,H5,I5,r5,y5,st5,fr5⟩=>?_);have I5':=I5.pinned (stat fr5) (T.obj _ _ st5);refine wpAny_passesOwn hp (thn (hg _ s5 σ3 H5 x u _ I5' r5 (step x H5 y5)) fun _ s6 ⟨σ6,H6,I6,q6⟩=>?_);refine wpAny_passesOwn hp (thn (hb _ s6 σ6 H6 _ I6 q6) fun f s7 q7=>?_);have again:∀{σ7:St} {H7:Hp},Inv X (pins++uP fp s5.heap) σ7 H7 s7->N σ7 H7->∃m,m<n/\∃i σ' H',Inv X pins σ' H' s7/\tn i s7.heap/\(∀b∈fp,H' b=none)/\W i m σ' H':=fun {σ7 H7} I7 n7=>by
   obtain⟨m',hm,w7⟩:=hN σ7 H7 n7;refine⟨m',hm,i+1,σ7,H7,I7.mQ,T.keep _ _ _ st5 fun b hb o e=>(I7.pin (b,o) (List.mem_append_right _ (List.mem_append_right _ (ju hb e)))).1,fun b hb=>?_,w7⟩;obtain⟨o,e,d⟩:=T.obj _ _ st5 b hb;exact(I7.pin (b,o) (List.mem_append_right _ (List.mem_append_right _ (ju hb e)))).2.1
  cases f with
  |next=>obtain⟨σ7,H7,I7,n7⟩:=q7;exact again I7 n7
  |cont=>obtain⟨σ7,H7,I7,n7⟩:=q7;exact again I7 n7
  |brk=>obtain⟨σ7,H7,I7,q7⟩:=q7;exact⟨σ7,H7,I7.mQ,q7⟩
  |ret v=>obtain⟨x7,σ7,H7,I7,r7,q7⟩:=q7;exact⟨x7,σ7,H7,I7.mQ,r7,q7⟩
end
theorem EA{K:PySem.W.Frag}{a:Addr}{xs:List V}{g:TG}{tb:TS}{D:Ends}{σ:St}{H:Hp}(Pv:Nat->St->Hp->Prop)(h0:Pv 0 σ H)(hl:∀i σ H,i<=xs.length->Pv i σ H->SqL K H a xs)
  (hs:∀i x σ H,xs[i]?=some x->Pv i σ H->g x σ H fun σ2 H2=>tb { D with nx:=Pv (i+1),ct:=Pv (i+1),bk:=D.nx } σ2 H2) (hd:∀σ H,Pv xs.length σ H->D.nx σ H):
  ∃W:Nat->Nat->St->Hp->Prop,(∃m,W 0 m σ H)/\∀i m σ H,W i m σ H->
   ((Itl K a).stop i H/\D.nx σ H)∨((Itl K a).go i H/\∃N:St->Hp->Prop,(∀σ' H',N σ' H'->∃m',m'<m/\W (i+1) m' σ' H')/\∀x H',(Itl K a).yld i H x H'->g x σ H' fun σ2 H2=>tb { D with nx:=N,ct:=N,bk:=D.nx } σ2 H2):=by
 refine⟨fun i m σ H=>m=xs.length-i/\i<=xs.length/\Pv i σ H,⟨xs.length,by simp,Nat.zero_le _,h0⟩,?_⟩;rintro i m σ H ⟨rfl,hi,p⟩;have q:=hl i σ H hi p;by_cases hlt:i<xs.length
 ·refine .inr ⟨⟨xs,xs[i],q,by simp[hlt]⟩,Pv (i+1),fun σ' H' p'=>⟨xs.length-(i+1),by omega,rfl,hlt,p'⟩,fun x H' y=>?_⟩;obtain⟨e,y⟩:=y;subst e;exact hs i x σ _ (y xs q) p
 ·have e:i=xs.length:=by omega
  subst e;exact .inl ⟨⟨xs,q,Nat.le_refl _⟩,hd σ H p⟩
theorem eX{lo:Int}{n:Nat}{g:TG}{tb:TS}{D:Ends}{σ:St}{H:Hp}(Pv:Nat->St->Hp->Prop)(h0:Pv 0 σ H)
  (hs:∀i σ H,i<n->Pv i σ H->g (.int (lo+i)) σ H fun σ2 H2=>tb { D with nx:=Pv (i+1),ct:=Pv (i+1),bk:=D.nx } σ2 H2) (hd:∀σ H,Pv n σ H->D.nx σ H):
  ∃W:Nat->Nat->St->Hp->Prop,(∃m,W 0 m σ H)/\∀i m σ H,W i m σ H->
   ((Itr lo n).stop i H/\D.nx σ H)∨((Itr lo n).go i H/\∃N:St->Hp->Prop,(∀σ' H',N σ' H'->∃m',m'<m/\W (i+1) m' σ' H')/\∀x H',(Itr lo n).yld i H x H'->g x σ H' fun σ2 H2=>tb { D with nx:=N,ct:=N,bk:=D.nx } σ2 H2):=by
 refine⟨fun i m σ H=>m=n-i/\i<=n/\Pv i σ H,⟨n,by simp,Nat.zero_le _,h0⟩,?_⟩;rintro i m σ H ⟨rfl,hi,p⟩;by_cases hlt:i<n
 ·refine .inr ⟨hlt,Pv (i+1),fun σ' H' p'=>⟨n-(i+1),by omega,rfl,hlt,p'⟩,fun x H' y=>?_⟩;obtain⟨e,y⟩:=y;subst e y;exact hs i σ _ hlt p
 ·have e:i=n:=by omega
  subst e;exact .inl ⟨Nat.le_refl _,hd σ H p⟩
abbrev R2:=V->V->Hp->VK->Prop
def OpR(X:Cx)(f:Value->Value->Sem Value)(r:R2):Prop:=
 ∀(pins:List (Addr×Obj)) (s:Shared) (σ:St) (H:Hp) (x y:V) (v u:Value) (Q:VK),Inv X pins σ H s->RelV x v->RelV y u->r x y H Q->
  wpAny (model X.prog X.w) X.A (f v u) (EP X pins σ Q) X.xe s
def UnR(X:Cx)(f:Value->Sem Value)(r:V->Hp->VK->Prop):Prop:=
 ∀(pins:List (Addr×Obj)) (s:Shared) (σ:St) (H:Hp) (x:V) (v:Value) (Q:VK),Inv X pins σ H s->RelV x v->r x H Q->
  wpAny (model X.prog X.w) X.A (f v) (EP X pins σ Q) X.xe s
def lU(X:Cx)(f:Value)(r:List V->Hp->VK->Prop):Prop:=
 ∀(pins:List (Addr×Obj)) (s:Shared) (σ:St) (H:Hp) (xs:List V) (us:List Value) (Q:VK),Inv X pins σ H s->Vals xs us->r xs H Q->
  wpAny (model X.prog X.w) X.A (call f us) (EP X pins σ Q) X.xe s
def tOp(r:R2)(ta tb:TE):TE:=fun σ H Q=>ta σ H fun x H1=>tb σ H1 fun y H2=>r x y H2 Q
def tUn(r:V->Hp->VK->Prop)(ta:TE):TE:=fun σ H Q=>ta σ H fun x H1=>r x H1 Q
inductive SII(C:Int->Int->Prop)(g:Int->Int->V)(x y:V)(H:Hp)(Q:VK):Prop|mk (i j:Int) (hx:x = .int i) (hy:y = .int j) (c:C i j) (q:Q (g i j) H)
def rI(C:Int->Int->Prop)(g:Int->Int->V):R2:=fun x y H Q=>SII C g x y H Q
inductive SI0(g:Int->Int->V)(x y:V)(H:Hp)(Q:VK):Prop|mk (i j:Int) (hx:x = .int i) (hy:y = .int j) (q:Q (g i j) H)
def rI0(g:Int->Int->V):R2:=fun x y H Q=>SI0 g x y H Q
inductive SU(g:Int->V)(x:V)(H:Hp)(Q:VK):Prop|mk (i:Int) (hx:x = .int i) (q:Q (g i) H)
def rU(g:Int->V):V->Hp->VK->Prop:=fun x H Q=>SU g x H Q
section
variable {X:Cx} {a b c:Expr} {ta tb tc:TE} {pos:Pos}
theorem O9(ha:PE X a ta)(hb:PE X b tb){pins:List (Addr×Obj)}{s:Shared}{σ:St}{H:Hp}{R:V->V->Hp->Prop}(I:Inv X pins σ H s)
  (h:ta σ H fun x H1=>tb σ H1 fun y H2=>R x y H2) {Q:Value->Shared->Prop} {f:Value->Value->Sem Value}
  (hf:∀v u s2 x y H2,Inv X pins σ H2 s2->RelV x v->RelV y u->R x y H2->wpAny (model X.prog X.w) X.A (f v u) Q X.xe s2):
  wpAny (model X.prog X.w) X.A (eval a X.env) (fun v s₁=>wpAny (model X.prog X.w) X.A (eval b X.env) (fun u s₂=>wpAny (model X.prog X.w) X.A (f v u) Q X.xe s₂) X.xe s₁) X.xe s:=by
 refine thn (ha pins s σ H _ I h) fun v s1 ⟨x,H1,I1,r1,q1⟩=>?_;refine thn (hb pins s1 σ H1 _ I1 q1) fun u s2 ⟨y,H2,I2,r2,q2⟩=>?_;exact hf v u s2 x y H2 I2 r1 r2 q2
theorem aR{op:Operator}{r:R2}(ho:OpR X (binaryOp op) r)(ha:PE X a ta)(hb:PE X b tb):PE X (.BinOp a op b pos) (tOp r ta tb):=by
 intro pins s σ H Q I h;exact wpAny_BinOp (O9 ha hb I h fun v u s2 x y H2 I2 rx ry q=>ho pins s2 σ H2 x y v u Q I2 rx ry q)
theorem CF{op:UnaryOp}{r:V->Hp->VK->Prop}(ho:UnR X (unaryOp op) r)(ha:PE X a ta):PE X (.UnaryOp op a pos) (tUn r ta):=by
 intro pins s σ H Q I h;exact UnaryOp_ (thn (ha pins s σ H _ I h) fun v s1 ⟨x,H1,I1,r1,q1⟩=>ho pins s1 σ H1 x v Q I1 r1 q1)
theorem opI{f:Value->Value->Sem Value}{C:Int->Int->Prop}{g:Int->Int->Int}
  (rule:∀(i j:Int) (t u:Tok) (s:Shared) (Q:Value->Shared->Prop) (E:Value->Shared->Prop),C i j->Q (.int (g i j) s.toks) { s with toks:=s.toks+1 }->wpAny (model X.prog X.w) X.A (f (.int i t) (.int j u)) Q E s):
  OpR X f (rI C fun i j=> .int (g i j)):=by
 intro pins s σ H x y v u Q I rx ry h;obtain⟨i,j,rfl,rfl,hc,q⟩:=h;obtain⟨t,rfl⟩:=rx;obtain⟨t',rfl⟩:=ry;exact rule i j t t' s _ _ hc ⟨.int (g i j),H,I.tok _,⟨_,rfl⟩,q⟩
theorem Yj{f:Value->Value->Sem Value}{g:Int->Int->Int}
  (rule:∀(i j:Int) (t u:Tok) (s:Shared) (Q:Value->Shared->Prop) (E:Value->Shared->Prop),Q (.int (g i j) s.toks) { s with toks:=s.toks+1 }->wpAny (model X.prog X.w) X.A (f (.int i t) (.int j u)) Q E s):
  OpR X f (rI0 fun i j=> .int (g i j)):=by
 intro pins s σ H x y v u Q I rx ry h;obtain⟨i,j,rfl,rfl,q⟩:=h;obtain⟨t,rfl⟩:=rx;obtain⟨t',rfl⟩:=ry;exact rule i j t t' s _ _ ⟨.int (g i j),H,I.tok _,⟨_,rfl⟩,q⟩
theorem Wf{f:Value->Value->Sem Value}{g:Int->Int->Bool}
  (rule:∀(i j:Int) (t u:Tok) (s:Shared) (Q:Value->Shared->Prop) (E:Value->Shared->Prop),Q (.bool (g i j)) s->wpAny (model X.prog X.w) X.A (f (.int i t) (.int j u)) Q E s):
  OpR X f (rI0 fun i j=> .bl (g i j)):=by
 intro pins s σ H x y v u Q I rx ry h;obtain⟨i,j,rfl,rfl,q⟩:=h;obtain⟨t,rfl⟩:=rx;obtain⟨t',rfl⟩:=ry;exact rule i j t t' s _ _ ⟨.bl (g i j),H,I,rfl,q⟩
def ZW(i j:Int):Prop:=0<j/\j<1073741824
def aad(i j:Int):Prop:=0<=j/\j<=1000000/\i.natAbs<2^64
theorem Lx:OpR X (binaryOp .Add) (rI0 fun i j=> .int (i+j)):=Yj fun _ _ _ _ _ _ _ q=>add_int q
theorem cA:OpR X (binaryOp .Sub) (rI0 fun i j=> .int (i-j)):=Yj fun _ _ _ _ _ _ _ q=>sub_int q
theorem pZ:OpR X (binaryOp .FloorDiv) (rI ZW fun i j=> .int (i/j)):=opI fun i j _ _ _ _ _ hc q=>by
 have h1:(0:Int)<j:=hc.1;have h2:j<1073741824:=hc.2;exact floordiv_int (by omega) (by rw[Int.fdiv_eq_ediv_of_nonneg i (by omega)];exact q) (.inl (PyProof.noPylong_small (by omega)))
theorem dW:OpR X (binaryOp .Mod) (rI (fun _ j=>0<j) fun i j=> .int (i%j)):=opI fun i j _ _ _ _ _ hc q=>by
 have h1:(0:Int)<j:=hc;exact mod_int' (by omega) (by rw[Int.fmod_eq_emod_of_nonneg i (by omega)];exact q)
theorem Bx:OpR X (binaryOp .Pow) (rI aad fun i j=> .int (i^j.toNat)):=opI fun _ _ _ _ _ _ _ hc q=>pow_int_small hc.1 hc.2.1 hc.2.2 q
theorem unI{f:Value->Sem Value}{g:Int->Int}
  (rule:∀(i:Int) (t:Tok) (s:Shared) (Q:Value->Shared->Prop) (E:Value->Shared->Prop),Q (.int (g i) s.toks) { s with toks:=s.toks+1 }->wpAny (model X.prog X.w) X.A (f (.int i t)) Q E s):
  UnR X f (rU fun i=> .int (g i)):=by
 intro pins s σ H x v Q I rx h;obtain⟨i,rfl,q⟩:=h;obtain⟨t,rfl⟩:=rx;exact rule i t s _ _ ⟨.int (g i),H,I.tok _,⟨_,rfl⟩,q⟩
theorem vp:UnR X (unaryOp .USub) (rU fun i=> .int (-i)):=unI fun _ _ _ _ _ q=>neg_int q
end
def Vo:V->V->Bool
 |.non,.non=>true | .non,.int _=>true | .int _,.non=>true | .non,.bl _=>true | .bl _,.non=>true | .non,.str _=>true | .str _,.non=>true
 |.int _,.int _=>true | .bl _,.bl _=>true | .str _,.str _=>true | .byt _,.byt _=>true
 |.int _,.str _=>true | .str _,.int _=>true | .bl _,.str _=>true | .str _,.bl _=>true
 |_,_=>false
def rEq:R2:=fun x y H Q=>Vo x y=true/\Q (.bl (decide (x=y))) H
def rNe:R2:=fun x y H Q=>Vo x y=true/\Q (.bl (!decide (x=y))) H
theorem CB{i j:Int}:decide (V.int i=V.int j)=(i==j):=by
 rw[Bool.eq_iff_iff];simp
theorem Gu{i j:Bool}:decide (V.bl i=V.bl j)=(i==j):=by
 rw[Bool.eq_iff_iff];simp
theorem Ck{i j:Str}:decide (V.str i=V.str j)=(i==j):=by
 rw[Bool.eq_iff_iff];simp
theorem D6{i j:Array UInt8}:decide (V.byt i=V.byt j)=(i.toList==j.toList):=by
 rw[Bool.eq_iff_iff];cases i;cases j;simp
section
variable {X:Cx} {a b c:Expr} {ta tb tc:TE} {pos:Pos}
theorem cJ{pins:List (Addr×Obj)}{σ:St}{H:Hp}{s:Shared}{Q:VK}{k k':Bool}(I:Inv X pins σ H s)(q:Q (.bl k) H)(e:k=k'):EP X pins σ Q (.bool k') s:=by
 subst e;exact⟨.bl k,H,I,rfl,q⟩
theorem Ot:OpR X (compareOp .Eq) rEq:=by
 intro pins s σ H x y v u Q I rx ry h;obtain⟨hs,q⟩:=h;cases x with
 |non=>
  cases rx;cases y with
  |non=>cases ry;exact PySem.EqNone.eq_none_none (cJ I q (by simp))
  |bl j=>cases ry;exact PySem.EqNone.eq_none_bool (cJ I q (by simp))
  |int j=>obtain⟨t',rfl⟩:=ry;exact PySem.EqNone.eq_none_int (cJ I q (by simp))
  |str j=>obtain⟨t',rfl⟩:=ry;exact PySem.EqNone.eq_none_str (cJ I q (by simp))
  |_=>exact absurd (show false=true from hs) Bool.false_ne_true
 |bl i=>
  cases rx;cases y with
  |non=>cases ry;exact PySem.EqNone.eq_bool_none (cJ I q (by simp))
  |bl j=>cases ry;exact eq_bool (cJ I q Gu)
  |str j=>obtain⟨t',rfl⟩:=ry;exact PySem.EqMixed.eq_bool_str (cJ I q (by simp))
  |_=>exact absurd (show false=true from hs) Bool.false_ne_true
 |int i=>
  obtain⟨t,rfl⟩:=rx;cases y with
  |non=>cases ry;exact PySem.EqNone.eq_int_none (cJ I q (by simp))
  |int j=>obtain⟨t',rfl⟩:=ry;exact eq_int (cJ I q CB)
  |str j=>obtain⟨t',rfl⟩:=ry;exact PySem.EqMixed.eq_int_str (cJ I q (by simp))
  |_=>exact absurd (show false=true from hs) Bool.false_ne_true
 |str i=>
  obtain⟨t,rfl⟩:=rx;cases y with
  |non=>cases ry;exact PySem.EqNone.eq_str_none (cJ I q (by simp))
  |bl j=>cases ry;exact PySem.EqMixed.eq_str_bool (cJ I q (by simp))
  |int j=>obtain⟨t',rfl⟩:=ry;exact PySem.EqMixed.eq_str_int (cJ I q (by simp))
  |str j=>obtain⟨t',rfl⟩:=ry;exact eq_str (cJ I q Ck)
  |_=>exact absurd (show false=true from hs) Bool.false_ne_true
 |byt i=>
  obtain⟨t,rfl⟩:=rx;cases y with
  |byt j=>obtain⟨t',rfl⟩:=ry;exact PySem.W.eq_bytes (cJ I q D6)
  |_=>exact absurd (show false=true from hs) Bool.false_ne_true
 |_=>cases y<;>exact absurd (show false=true from hs) Bool.false_ne_true
theorem R4:OpR X (compareOp .NotEq) rNe:=by
 intro pins s σ H x y v u Q I rx ry h;obtain⟨hs,q⟩:=h;cases x with
 |non=>
  cases rx;cases y with
  |non=>cases ry;exact PySem.EqNone.ne_none_none (cJ I q (by simp))
  |bl j=>cases ry;exact PySem.EqNone.ne_none_bool (cJ I q (by simp))
  |int j=>obtain⟨t',rfl⟩:=ry;exact PySem.EqNone.ne_none_int (cJ I q (by simp))
  |str j=>obtain⟨t',rfl⟩:=ry;exact PySem.EqNone.ne_none_str (cJ I q (by simp))
  |_=>exact absurd (show false=true from hs) Bool.false_ne_true
 |bl i=>
  cases rx;cases y with
  |non=>cases ry;exact PySem.EqNone.ne_bool_none (cJ I q (by simp))
  |bl j=>cases ry;exact ne_bool (cJ I q (congrArg not Gu))
  |str j=>obtain⟨t',rfl⟩:=ry;exact PySem.EqMixed.ne_bool_str (cJ I q (by simp))
  |_=>exact absurd (show false=true from hs) Bool.false_ne_true
 |int i=>
  obtain⟨t,rfl⟩:=rx;cases y with
  |non=>cases ry;exact PySem.EqNone.ne_int_none (cJ I q (by simp))
  |int j=>obtain⟨t',rfl⟩:=ry;exact ne_int (cJ I q (congrArg not CB))
  |str j=>obtain⟨t',rfl⟩:=ry;exact PySem.EqMixed.ne_int_str (cJ I q (by simp))
  |_=>exact absurd (show false=true from hs) Bool.false_ne_true
 |str i=>
  obtain⟨t,rfl⟩:=rx;cases y with
  |non=>cases ry;exact PySem.EqNone.ne_str_none (cJ I q (by simp))
  |bl j=>cases ry;exact PySem.EqMixed.ne_str_bool (cJ I q (by simp))
  |int j=>obtain⟨t',rfl⟩:=ry;exact PySem.EqMixed.ne_str_int (cJ I q (by simp))
  |str j=>obtain⟨t',rfl⟩:=ry;exact ne_str (cJ I q (congrArg not Ck))
  |_=>exact absurd (show false=true from hs) Bool.false_ne_true
 |byt i=>
  obtain⟨t,rfl⟩:=rx;cases y with
  |byt j=>obtain⟨t',rfl⟩:=ry;exact PySem.W.ne_bytes (cJ I q (congrArg not D6))
  |_=>exact absurd (show false=true from hs) Bool.false_ne_true
 |_=>cases y<;>exact absurd (show false=true from hs) Bool.false_ne_true
theorem zQ:OpR X (compareOp .Lt) (rI0 fun i j=> .bl (decide (i<j))):=Wf fun _ _ _ _ _ _ _ q=>lt_int q
theorem KD:OpR X (compareOp .LtE) (rI0 fun i j=> .bl (decide (i<=j))):=Wf fun _ _ _ _ _ _ _ q=>le_int q
theorem qD:OpR X (compareOp .Gt) (rI0 fun i j=> .bl (decide (j<i))):=Wf fun _ _ _ _ _ _ _ q=>gt_int q
theorem OpR.or{f:Value->Value->Sem Value}{r r':R2}(h:OpR X f r)(h':OpR X f r'):OpR X f (fun x y H Q=>r x y H Q∨r' x y H Q):=by
 intro pins s σ H x y v u Q I rx ry q;rcases q with q|q
 ·exact h pins s σ H x y v u Q I rx ry q
 ·exact h' pins s σ H x y v u Q I rx ry q
theorem bY(b:Expr){op:CmpOp}(h:op≠ .In:=by decide)(h2:op≠ .NotIn:=by decide):behindInMarks op b=false:=by
 have e1:(op==CmpOp.In)=false:=by cases op<;>first|rfl|exact absurd rfl h
 have e2:(op==CmpOp.NotIn)=false:=by cases op<;>first|rfl|exact absurd rfl h2
 cases b<;>simp[behindInMarks,e1,e2]
theorem jf{op:CmpOp}{r:R2}(ho:OpR X (compareOp op) r)(ha:PE X a ta)(hb:PE X b tb)(hm:behindInMarks op b=false):PE X (.Compare a [op] [b] pos) (tOp r ta tb):=by
 intro pins s σ H Q I h;exact wpAny_Compare1 (O9 ha hb I h fun v u s2 x y H2 I2 rx ry q=>ho pins s2 σ H2 x y v u Q I2 rx ry q) hm
inductive aaf(x:V)(H:Hp)(Q:Bool->Hp->Prop):Prop|mk (k:Bool) (hx:x = .bl k) (q:Q k H)
def QN(t:TE):TT:=fun σ H Q=>t σ H fun x H'=>aaf x H' Q
theorem bW{op:CmpOp}{r:R2}(ho:OpR X (compareOp op) r)(ha:PE X a ta)(hb:PE X b tb)(hm:behindInMarks op b=false):PT X (.Compare a [op] [b] pos) (QN (tOp r ta tb)):=by
 intro pins s σ H Q I h;refine wpAny_isTrue_Compare1 (thn (ha pins s σ H _ I h) fun v s1 ⟨x,H1,I1,r1,q1⟩=>thn (hb pins s1 σ H1 _ I1 q1) fun u s2 ⟨y,H2,I2,r2,q2⟩=>
  thn (ho pins s2 σ H2 x y v u _ I2 r1 r2 q2) fun c s3 ⟨z,H3,I3,r3,k,e,q3⟩=>?_) hm
 subst e;cases r3;exact wpAny_truthy_bool ⟨H3,I3,q3⟩
theorem JC{κ:Type}{kvs:List (κ×V)}{vs:List (κ×Value)}(r:KV kvs vs):(!vs.isEmpty)=!kvs.isEmpty:=by
 cases r<;>rfl
theorem JB{xs:List V}{its:List Value}(r:Vals xs its):(!its.toArray.isEmpty)=!xs.isEmpty:=by
 cases r<;>simp
theorem vo:(sizeLine:Nat)<2^63:=by rw[sizeLine_eq];decide
theorem Ad:OpR X (binaryOp .Add) (fun x y H Q=>∃i j,x = .str i/\y = .str j/\i.length+j.length<=sizeLine/\Q (.str (i++j)) H):=by
 intro pins s σ H x y v u Q I rx ry h;obtain⟨i,j,rfl,rfl,hz,q⟩:=h;obtain⟨t,rfl⟩:=rx;obtain⟨t',rfl⟩:=ry;exact add_str (fun t' tk=>⟨.str (i++j),H,I.tok _,⟨_,rfl⟩,q⟩) hz
theorem vals1{x:V}{us:List Value}(r:Vals [x] us):∃u,us=[u]/\RelV x u:=by
 cases r with
 |cons r1 r2=>cases r2;exact⟨_,rfl,r1⟩
theorem vals2{x y:V}{us:List Value}(r:Vals [x,y] us):∃u w',us=[u,w']/\RelV x u/\RelV y w':=by
 cases r with
 |cons r1 r2=>
  cases r2 with
  |cons r3 r4=>cases r4;exact⟨_,_,rfl,r1,r3⟩
theorem D9(hc:X.calm=true):lU X (.builtin "max") (fun xs H Q=>∃i j,xs=[.int i,.int j]/\Q (.int (if j>i then j else i)) H):=by
 intro pins s σ H xs us Q I r h;obtain⟨i,j,rfl,q⟩:=h;obtain⟨u,w',rfl,⟨t,rfl⟩,⟨t',rfl⟩⟩:=vals2 r;refine max_two_ints (I.ok.hd hc) fun h' tk k=>⟨_,H,I.kept k,?_,q⟩;by_cases hj:j>i
 ·rw[if_pos hj,if_pos hj];exact⟨_,rfl⟩
 ·rw[if_neg hj,if_neg hj];exact⟨_,rfl⟩
theorem B7(hc:X.calm=true):lU X (.builtin "min") (fun xs H Q=>∃i j,xs=[.int i,.int j]/\Q (.int (if j<i then j else i)) H):=by
 intro pins s σ H xs us Q I r h;obtain⟨i,j,rfl,q⟩:=h;obtain⟨u,w',rfl,⟨t,rfl⟩,⟨t',rfl⟩⟩:=vals2 r;refine min_two_ints (I.ok.hd hc) fun h' tk k=>⟨_,H,I.kept k,?_,q⟩;by_cases hj:j<i
 ·rw[if_pos hj,if_pos hj];exact⟨_,rfl⟩
 ·rw[if_neg hj,if_neg hj];exact⟨_,rfl⟩
theorem ji:lU X (.type "int") (fun xs H Q=>(∃i,xs=[.int i]/\Q (.int i) H)∨∃k,xs=[.bl k]/\Q (.int (if k then 1 else 0)) H):=by
 intro pins s σ H xs us Q I r h;rcases h with⟨i,rfl,q⟩|⟨k,rfl,q⟩
 ·obtain⟨u,rfl,t,rfl⟩:=vals1 r;exact call_int_int ⟨.int i,H,I,⟨_,rfl⟩,q⟩
 ·obtain⟨u,rfl,r1⟩:=vals1 r;cases r1;exact call_int_bool ⟨.int (if k then 1 else 0),H,I.tok _,⟨_,rfl⟩,q⟩
def Yo(K:PySem.W.Frag)(x:V)(H:Hp)(n:Nat):Prop:=
 match x with
 |.str y=>y.length<=sizeLine/\n=y.length
 |.byt y=>y.size<=sizeLine/\n=y.size
 |.ref p=>(∃xs,SqL K H p xs/\n=xs.length)∨∃xs,SqT K H p xs/\n=xs.length
 |_=>False
theorem E1:lU X (.builtin "len") (fun xs H Q=>∃x n,xs=[x]/\Yo X.K x H n/\Q (.int n) H):=by
 intro pins s σ H xs us Q I r h;obtain⟨x,n,rfl,e,q⟩:=h;obtain⟨u,rfl,rx⟩:=vals1 r;have hl:=vo;have hs:sizeLine=16777216:=sizeLine_eq;cases x with
 |str y=>
  obtain⟨t,rfl⟩:=rx;obtain⟨hy,e'⟩:y.length<=sizeLine/\n=y.length:=e;subst e';exact len_str (by omega) ⟨.int _,H,I.tok _,⟨_,rfl⟩,q⟩
 |byt y=>
  obtain⟨t,rfl⟩:=rx;obtain⟨hy,e'⟩:y.size<=sizeLine/\n=y.size:=e;subst e';exact PySem.W.len_bytes (by omega) ⟨.int _,H,I.tok _,⟨_,rfl⟩,q⟩
 |ref p=>
  cases rx;have e':(∃xs,SqL X.K H p xs/\n=xs.length)∨∃xs,SqT X.K H p xs/\n=xs.length:=e;rcases e' with⟨xs,hx,e'⟩|⟨xs,hx,e'⟩
  ·subst e';obtain⟨its,r',pl,hz⟩:=I.list hx;have hlen:=r'.length;exact Calls.call_len_list pl.isList (by simp only[List.size_toArray];omega) ⟨.int xs.length,H,I.tok _,⟨_,by simp only[List.size_toArray];rw[hlen]⟩,q⟩
  ·subst e';obtain⟨its,r',pl,hz⟩:=I.tuple hx;have hlen:=r'.length;exact len_tuple pl (by simp only[List.size_toArray];omega) ⟨.int xs.length,H,I.tok _,⟨_,by simp only[List.size_toArray];rw[hlen]⟩,q⟩
 |_=>exact(show False from e).elim
end
section
variable {prog:Program} {w:World} {A:Around} {E:Value->Shared->Prop} {s:Shared} {K:PySem.W.Frag} {x dx C f:Addr} {mA:Str->Option Value} {name:Str} {v:Value}
end
theorem Ef.some_of{v:V}{o:Option Value}(r:Ef (some v) o):∃u,o=some u/\RelV v u:=by
 cases o with
 |none=>exact(show False from r).elim
 |some u=>exact⟨u,rfl,r⟩
theorem Ef.none_of{o:Option Value}(r:Ef none o):o=none:=by
 cases o with
 |none=>rfl
 |some u=>exact(show False from r).elim
section
variable {P:Program} {w:World} {H H':Hp} {h h':Heap} {a C dx:Addr} {fs fs':List (Str×V)}
end
section
variable {X:Cx} {pins:List (Addr×Obj)} {σ:St} {H:Hp} {s:Shared} {a C dx:Addr} {fs:List (Str×V)} {f:Str} {v:V} {A:Around} {E:Value->Shared->Prop}
end
section
variable {X:Cx} {o e value:Expr} {f:Str} {pos pos' tpos:Pos} {ta tv:TE}
end
section
variable {X:Cx} {pins:List (Addr×Obj)} {σ:St} {H:Hp} {s:Shared} {A:Around} {E:Value->Shared->Prop} {Q:Value->Shared->Prop} {c:Value} {b:Bool}
end
structure iG(k:Nat)(A:Around):Prop where
 hd:A.handled=none
 dp:A.depth+3*k+5<recursionLimit
 un:A.units+16*k+200<cLine
theorem iG.mono{j k:Nat}{A:Around}(r:iG k A)(h:j<=k):iG j A:=⟨r.hd,by have:=r.dp;omega,by have:=r.un;omega⟩
theorem iG.deeper{k:Nat}{A:Around}(r:iG (k+1) A)(env:Env):iG k (A.deeper env):=
 ⟨r.hd,by have:=r.dp;show A.depth+1+3*k+5<_;omega,by have:=r.un;show A.units+3+16*k+200<_;omega⟩
theorem iG.depth{k:Nat}{A:Around}(r:iG k A):A.depth<recursionLimit:=by have:=r.dp;omega
theorem iG.units{k:Nat}{A:Around}(r:iG k A):A.units+64<cLine:=by have:=r.un;omega
theorem iG.Ho{k:Nat}{A:Around}(r:iG k A):A.units<cLine:=by have:=r.un;omega
def Xq:TA:=fun _ H Q=>Q [] H
def vZ(ta:TE)(tr:TA):TA:=fun σ H Q=>ta σ H fun x H1=>tr σ H1 fun xs H2=>Q (x::xs) H2
section
variable {X:Cx} {e:Expr} {es:List Expr} {te:TE} {t:TA} {pos:Pos}
theorem ak:PA X [] Xq:=fun _ _ _ _ H Q I h=>Calls.spliced_nil ⟨[],H,I,.nil,h⟩
theorem aK(ha:PE X e te)(hr:PA X es t)(hs:starEach (e::es) X.env=(false,eval e X.env)::starEach es X.env:=by rfl):PA X (e::es) (vZ te t):=by
 intro pos pins s σ H Q I h;rw[hs];show wpAny _ _ (spliced ((false,eval e X.env)::backTo pos (starEach es X.env))) _ _ s;refine Calls.spliced_cons (thn (ha pins s σ H _ I h) fun u s1 ⟨x,H1,I1,r1,q1⟩=>?_);exact thn (hr pos pins s1 σ H1 _ I1 q1) fun us s2 ⟨xs,H2,I2,r2,q2⟩=>⟨x::xs,H2,I2,.cons r1 r2,q2⟩
inductive Yt(xs:List V)(o:HO)(H:Hp)(Q:VK):Prop|mk (hz:xs.length<=sizeLine) (q:∀p,H p=none->Q (.ref p) (upd H p o))
def aac(t:TA):TE:=fun σ H Q=>t σ H fun xs H1=>Yt xs (.tup xs) H1 Q
def ZF(t:TA):TE:=fun σ H Q=>t σ H fun xs H1=>Yt xs (.lst xs) H1 Q
theorem dU{x1}(h:PA X es t):PE X (.Tuple es x1 pos) (aac t):=by
 intro pins s σ H Q I hq;refine wpAny_Tuple_spliced (thn (h pos pins s σ H _ I hq) fun us s1 ⟨xs,H1,I1,r,z,q⟩=>⟨by rw[<-r.length];exact z,?_⟩);have hf:H1 s1.heap.objs.size=none:=I1.hok.fresh (Nat.le_refl _);refine⟨.ref s1.heap.objs.size,upd H1 s1.heap.objs.size (.tup xs),I1.laid (t':=s1.toks) (fun b u e=>Heap.get?_push_of_some _ e) (Nat.le_refl _) ?_,rfl,q _ hf⟩;exact⟨z,us,r,⟨_,Heap.get?_push_size _ rfl,rfl,_,rfl⟩⟩
theorem cN(h:PA X es t):PE X (.List es pos) (ZF t):=by
 intro pins s σ H Q I hq;refine wpAny_List_spliced (thn (h pos pins s σ H _ I hq) fun us s1 ⟨xs,H1,I1,r,z,q⟩=>⟨by rw[<-r.length];exact z,?_⟩);have hf:H1 s1.heap.objs.size=none:=I1.hok.fresh (Nat.le_refl _);refine⟨.ref s1.heap.objs.size,upd H1 s1.heap.objs.size (.lst xs),I1.laid (t':=s1.toks) (fun b u e=>Heap.get?_push_of_some _ e) (Nat.le_refl _) ?_,rfl,q _ hf⟩;exact⟨z,us,0,r,Heap.get?_push_size _ rfl⟩
end
abbrev Sp:=List V->Hp->VK->XK->Prop
abbrev CXT:=List Env->Hp->Shared->XK->Value->Shared->Prop
structure IW(P:Program)(w:World)(K:PySem.W.Frag)(mg:Str->Option Value)(base:Heap)(A:Around)(outer:List Env)(s:Shared)(H:Hp):Prop where
 frames:A.frames=some outer
 mod:Mod K mg base
 bs:∀b o,base.get? b=some o->s.heap.get? b=some o/\H b=none
 bsz:base.objs.size<=s.heap.objs.size
 Al:s.heap.FunFrames base outer
 frf:∀b∈frs outer,H b=none
 hok:HOk P w H s.heap
 bare:AllBare s.gens
def CE(outer:List Env)(P:Program)(w:World)(H:Hp)(s:Shared)(Q:VK)(u:Value)(s':Shared):Prop:=
 ∃v H',s'.os=s.os/\AllBare s'.gens/\Un (frs outer) [] H H' s.heap s'.heap/\HOk P w H' s'.heap/\RelV v u/\Q v H'
def CR(CX:CXT)(outer:List Env)(P:Program)(w:World)(H:Hp)(s:Shared)(Q:VK)(E:XK)(r:Result)(s':Shared):Prop:=
 match r with
 |.ok (.ret u)=>CE outer P w H s Q u s'
 |.ok _=>False
 |.error e=>CX outer H s E e s'
structure CP(P:Program)(w:World)(K:PySem.W.Frag)(mg:Str->Option Value)(base:Heap)(CX:CXT)(k:Nat)(f:Addr)(fd:FuncData)(ps:List Str)(sp:Sp):Prop where
 len:∀vs H Q E,sp vs H Q E->vs.length=ps.length
 run:∀(A:Around) (outer:List Env) (s:Shared) (H:Hp) (args:Args) (us:List Value) (vs:List V) (Q:VK) (E:XK),iG k A->IW P w K mg base A outer s H->BindsTo s fd args (ps.zip us)->Vals vs us->sp vs H Q E->
  codeAny (model P w) A (.call (.ref f) args) (CR CX outer P w H s Q E) s
section
variable {X:Cx} {pins:List (Addr×Obj)} {σ:St} {H:Hp} {s s':Shared}
theorem Inv.env0(I:Inv X pins σ H s):IW X.prog X.w X.K X.mg X.base X.A X.stack s H:=
 ⟨I.ok.frames,I.ok.mod,I.bs,Nat.le_trans I.ok.bsz I.sz,I.stack,I.wk,I.hok,I.bare⟩
theorem Inv.after{Q:VK}{u:Value}(I:Inv X pins σ H s)(h:CE X.stack X.prog X.w H s Q u s'):EP X pins σ Q u s':=by
 obtain⟨v,H',os,bare,un,hok,r,q⟩:=h;obtain⟨hh,g,d,t,os'⟩:=s';obtain rfl:os'=s.os:=os;exact⟨v,H',I.call (h':=hh) (g':=g) (d':=d) (t':=t) (ch:=[]) un hok bare (fun b z=>absurd z (by simp)),r,q⟩
end
def FJ(sp:Sp)(dvs:List V)(E:XK)(t:TA):TE:=fun σ H Q=>t σ H fun vs H1=>sp (vs++dvs) H1 Q E
def Binds(K:PySem.W.Frag)(fd:FuncData)(ps:List Str)(ds:List Value):Prop:=
 ∀(s:Shared) (us:List Value),K.In s.heap->(us++ds).length=ps.length->BindsTo s fd ⟨us,[]⟩ (ps.zip (us++ds))
theorem Binds.all{K:PySem.W.Frag}{fd:FuncData}{ps:List Str}(h:∀us:List Value,us.length=ps.length->bindArgs fd ⟨us,[]⟩=pure (ps.zip us)):Binds K fd ps []:=fun s us _ hl=>by
 rw[List.append_nil]at hl⊢;exact .of_eq (h us hl)
def Passes(CX:CXT)(X:Cx)(E:XK):Prop:=∀(pins:List (Addr×Obj)) (σ:St) (H:Hp) (s:Shared) (e:Value) (s':Shared),Inv X pins σ H s->CX X.stack H s E e s'->X.xe e s'
section
variable {X:Cx} {CX:CXT} {k:Nat} {f C:Addr} {fd:FuncData} {ps:List Str} {sp:Sp} {dvs:List V} {ds:List Value} {E:XK} {x m:Str} {p pos apos:Pos} {e o:Expr} {es:List Expr} {ta:TE} {t:TA}
theorem Gq{pins:List (Addr×Obj)}{σ:St}{H:Hp}{s:Shared}{Q:VK}{us:List Value}{vs:List V}(F:CP X.prog X.w X.K X.mg X.base CX k f fd ps sp)(hr:iG k X.A)(hb:Binds X.K fd ps ds)(hd:Vals dvs ds)(hx:Passes CX X E)
  (I:Inv X pins σ H s) (r:Vals vs us) (h:sp (vs++dvs) H Q E):wpAny (model X.prog X.w) X.A (call (.ref f) us) (EP X pins σ Q) X.xe s:=by
 have r2:Vals (vs++dvs) (us++ds):=r.append hd;have hl:(us++ds).length=ps.length:=by rw[<-r2.length];exact F.len _ _ _ _ h
 refine wpAny_call (codeAny_mono (F.run X.A X.stack s H ⟨us,[]⟩ (us++ds) (vs++dvs) Q E hr I.env0 (hb s us I.kIn hl) r2 h) fun r s' hq=>?_);cases r with
 |error e=>exact hx pins σ H s e s' I hq
 |ok fl=>
  cases fl with
  |ret u=>exact I.after hq
  |next=>exact False.elim hq
  |brk=>exact False.elim hq
  |cont=>exact False.elim hq
theorem wU(F:CP X.prog X.w X.K X.mg X.base CX k f fd ps sp)(hr:iG k X.A)(hg:Gl X x)(hm:X.mg x=some (.ref f))(hk:PySem.W.keepIn X.K (.ref f)=true)(hb:Binds X.K fd ps ds)(hd:Vals dvs ds)(hx:Passes CX X E)
  (ha:PA X (e::es) t) (hdb:(x==("__debug__" : Str))=false:=by decide) (he:starEach (e::es) X.env=(false,eval e X.env)::starEach es X.env:=by rfl) (hpl:(backTo pos (starEach es X.env)).any (·.1)=false:=by rfl):
  PE X (.Call (.Name x p) (e::es) [] pos) (FJ sp dvs E t):=by
 intro pins s σ H Q I h;refine wpAny_Call_Name_kw (qI I hg hm ?_ hdb);refine PySem.W.callWith_K (h₀:=X.base) I.ok.mod.kin hk (thn (ha pos pins s σ H _ I h) fun us s1 ⟨vs,H1,I1,r,q⟩=>⟨I1.kIn,?_⟩) he hpl;exact Gq F hr hb hd hx I1 r q
end
section
variable {X:Cx} {CX:CXT} {k:Nat} {f C:Addr} {fd:FuncData} {ps ks:List Str} {sp:Sp} {E:XK} {x m:Str} {p pos apos kpos:Pos} {e o:Expr} {es:List Expr} {kws:List Keyword} {te ta:TE} {t tk:TA} {nm:Option Str}
variable {g:List Value->List Value->List Value} {gV:List V->List V->List V}
end
structure aY(N P:List Str)(sc:Scope):Prop where
 kind:sc.kind = .function
 co:sc.isCoroutine=false
 gen:sc.isGenerator=false
 nd:N.Nodup
 pre:N.take P.length=P
 par:∀x∈P,sc.names.lookup x=some .local∨sc.names.lookup x=some .cell
 nofree:∀y∈sc.names,y.2≠ .free
theorem vC{kindOf:Str->Option NameKind}{x:Str}:∀{binds:List (Str×Value)} {m:Str->Option Value},(∀v,(x,v)∉binds)->bindL kindOf binds m x=m x
 |[],_,_=>rfl
 |(n,v)::r,m,h=>by
  unfold bindL;rw[vC fun w hw=>h w (List.mem_cons_of_mem _ hw)];split
  ·have:x≠n:=by rintro rfl;exact h v List.mem_cons_self
   simp[this]
  ·rfl
theorem vX{kindOf:Str->Option NameKind}{x:Str}:∀{binds:List (Str×Value)} {m:Str->Option Value},(∀v,(x,v)∉binds)->bindC kindOf binds m x=m x
 |[],_,_=>rfl
 |(n,v)::r,m,h=>by
  unfold bindC;rw[vX fun w hw=>h w (List.mem_cons_of_mem _ hw)];split
  ·rfl
  ·have:x≠n:=by rintro rfl;exact h v List.mem_cons_self
   simp[this]
theorem u0{kindOf:Str->Option NameKind}{x:Str}{v:Value}:∀{P:List Str} {vs:List Value} {i:Nat} {m:Str->Option Value},P.Nodup->P[i]?=some x->vs[i]?=some v->kindOf x=some .local->
  bindL kindOf (P.zip vs) m x=some v
 |[],_,_,_,_,h,_,_=>by simp at h
 |_::_,[],_,_,_,_,h,_=>by simp at h
 |p::P,w::vs,0,m,nd,h1,h2,hk=>by
  simp at h1 h2;subst h1;subst h2;show bindL kindOf ((p,w)::P.zip vs) m p=_;unfold bindL;rw[vC fun v hv=>(List.nodup_cons.mp nd).1 (List.of_mem_zip hv).1,if_pos hk];simp
 |p::P,w::vs,i+1,m,nd,h1,h2,hk=>by
  show bindL kindOf ((p,w)::P.zip vs) m x=_;unfold bindL;exact u0 (i:=i) (List.nodup_cons.mp nd).2 (by simpa using h1) (by simpa using h2) hk
theorem vI{kindOf:Str->Option NameKind}{x:Str}{v:Value}:∀{P:List Str} {vs:List Value} {i:Nat} {m:Str->Option Value},P.Nodup->P[i]?=some x->vs[i]?=some v->kindOf x≠some .local->
  bindC kindOf (P.zip vs) m x=some v
 |[],_,_,_,_,h,_,_=>by simp at h
 |_::_,[],_,_,_,_,h,_=>by simp at h
 |p::P,w::vs,0,m,nd,h1,h2,hk=>by
  simp at h1 h2;subst h1;subst h2;show bindC kindOf ((p,w)::P.zip vs) m p=_;unfold bindC;rw[vX fun v hv=>(List.nodup_cons.mp nd).1 (List.of_mem_zip hv).1,if_neg hk];simp
 |p::P,w::vs,i+1,m,nd,h1,h2,hk=>by
  show bindC kindOf ((p,w)::P.zip vs) m x=_;unfold bindC;exact vI (i:=i) (List.nodup_cons.mp nd).2 (by simpa using h1) (by simpa using h2) hk
def start(N:List Str)(vs:List V):St:=vs.map some++List.replicate (N.length-vs.length) none
def Fg(CX:CXT)(P:Program)(w:World)(K:PySem.W.Frag)(mg:Str->Option Value)(base:Heap)(N:List Str)(qual:Str)(scope:Scope)(f:Addr)(cd:Value)(A:Around)(outer:List Env)(s:Shared)(H:Hp)(E:XK):Cx where
 prog:=P
 w:=w
 K:=K
 mg:=mg
 base:=base
 A:=A.deeper (envOfC qual scope s.heap.objs.size f cd)
 N:=N
 s₀:=s
 H₀:=H
 env:=envOfC qual scope s.heap.objs.size f cd
 outer:=outer
 stack:=envOfC qual scope s.heap.objs.size f cd::outer
 ex:=[]
 calm:=true
 fn:=fun _=>true
 pn:=[]
 xe:=fun e s'=>wpAny (model P w) (A.deeper (envOfC qual scope s.heap.objs.size f cd)) (leaving (envOfC qual scope s.heap.objs.size f cd) e) (fun _ s''=>CX outer H s E e s'') (fun e' s''=>CX outer H s E e' s'') s'
theorem yK{sc:Scope}{n:Nat}{x:Str}(h:sc.names.lookup x=some .cell):∃c,(cellsFrom n sc.names []).lookup x=some c:=by
 have q:=PySem.W.cellsFrom_some sc.names n [] (.inl h);exact Option.isSome_iff_exists.mp q
theorem vm{CX:CXT}{P:Program}{w:World}{K:PySem.W.Frag}{mg:Str->Option Value}{base:Heap}{N ps:List Str}{qual:Str}{scope:Scope}{f:Addr}{cd:Value}{A:Around}{outer:List Env}{s s1:Shared}{H:Hp}{E:XK}{us:List Value}{vs:List V}
  (S:aY N ps scope) (hd:A.handled=none) (e0:IW P w K mg base A outer s H) (hl:vs.length=ps.length) (r:Vals vs us)
  (x:InCallC s s.heap.objs.size (bindL (envOfC qual scope s.heap.objs.size f cd).kindOf (ps.zip us) fun _=>none) (cellsFrom (s.heap.objs.size+1) scope.names []) (bindC (envOfC qual scope s.heap.objs.size f cd).kindOf (ps.zip us) fun _=>none) s1):
  Inv (Fg CX P w K mg base N qual scope f cd A outer s H E) [] (start N vs) H s1:=by
 have hpl:ps.length<=N.length:=by have:=congrArg List.length S.pre;rw[List.length_take]at this;omega
 obtain⟨h1,tk,rfl,hk⟩:=x.done;have noA:∀b:Addr,b∉(Fg CX P w K mg base N qual scope f cd A outer s H E).ex:=fun b z=>absurd (show b∈([]:List Addr)from z) (by simp);refine⟨⟨e0.mod,S.kind,rfl,rfl,Nat.le_refl _,fun y z c h1 h2=>?_,fun y hy=>?_,fun y c _ h=>?_,fun _=>hd,Around.frames_deeper e0.frames,.inr ⟨rfl,rfl⟩,fun b z=>absurd z (noA b),e0.bs,e0.bsz,fun b _ _=>noA b,fun b z=>absurd z (noA b),e0.Al,e0.frf⟩,
  rfl,e0.bare,Un.kept hk,⟨_,x.toInCall.ns,fun i y v h1 h2 h3=>?_⟩,fun y c h=>⟨_,x.cell y c h⟩,e0.hok.fresh (Nat.le_refl _),fun y c h=>?_,fun p hp=>absurd (show p∈([]:List (Addr×Obj))from hp) (by simp),e0.hok.kept hk,?_⟩
 ·exact name_of_addr x.apart (PySem.mem_of_lookup h1) (PySem.mem_of_lookup h2)
 ·have hy:scope.names.lookup y=some .cell∨scope.names.lookup y=some .free:=hy;rcases hy with hy|hy
  ·exact yK hy
  ·exact absurd rfl (S.nofree _ (PySem.mem_of_lookup hy))
 ·exact Nat.le_of_lt (x.above y c (PySem.mem_of_lookup h))
 ·have hi:i<vs.length:=by
   unfold start at h2;by_cases hi:i<vs.length
   ·exact hi
   ·rw[List.getElem?_append_right (by simpa using hi)]at h2;rw[List.getElem?_replicate]at h2;split at h2<;>cases h2
  have ha:vs[i]?=some v:=by
   unfold start at h2;rw[List.getElem?_append_left (by simpa using hi),List.getElem?_map]at h2;cases e:vs[i]? with
   |none=>rw[e]at h2;cases h2
   |some a=>rw[e]at h2;cases h2;rfl
  obtain⟨u,hu,rv⟩:=r.get ha;have hp:ps[i]?=some y:=by
   rw[<-S.pre,List.getElem?_take_of_lt (by omega)];exact h1
  have ndP:ps.Nodup:=by rw[<-S.pre];exact S.nd.sublist (List.take_sublist _ _)
  refine⟨u,rv,?_⟩;rcases S.par y (List.mem_of_getElem? hp)with k|k
  ·exact .inl ⟨k,u0 ndP hp hu k⟩
  ·obtain⟨c,e⟩:=yK (n:=s.heap.objs.size+1) k;refine .inr ⟨.inl k,c,e,?_⟩;have q:=x.cell y c e;rw[vI ndP hp hu (by show scope.names.lookup y≠_;rw[k];decide)]at q;exact q
 ·exact e0.hok.fresh (Nat.le_of_lt (x.above y c (PySem.mem_of_lookup h)))
 ·unfold start;show _=N.length;rw[List.length_append,List.length_map,List.length_replicate];omega
theorem Kg{CX:CXT}{P:Program}{w:World}{K:PySem.W.Frag}{mg:Str->Option Value}{base:Heap}{k:Nat}{f:Addr}{name qual:Str}{params:Arguments}{body:List Stmt}{scope:Scope}{dV kV doc pm cdv ct oc:Value}{an od:Option Addr}
  {osl:Array (Option Value)} {N ps:List Str} {sp:Sp} (lk:K.lookup f=some ⟨oc,od,.func (PySem.W.fnOf name qual params body scope dV kV doc pm an cdv ct),osl⟩) (hcd:PySem.W.codeIn K cdv qual=true) (S:aY N ps scope)
  (len:∀vs H Q E,sp vs H Q E->vs.length=ps.length)
  (hbody:∀(A:Around) (outer:List Env) (s:Shared) (H:Hp) (vs:List V) (Q:VK) (E:XK),iG k (A.deeper (envOfC qual scope s.heap.objs.size f cdv))->sp vs H Q E->
   ∃t,PSs (Fg CX P w K mg base N qual scope f cdv A outer s H E) body t/\t { nx:=fun _ H'=>Q .non H',rt:=Q } (start N vs) H):
  CP P w K mg base CX (k+1) f (PySem.W.fnOf name qual params body scope dV kV doc pm an cdv ct) ps sp:=by
 refine⟨len,fun A outer s H args us vs Q E hr e0 hb r hsp=>?_⟩;have hl:=len _ _ _ _ hsp;have KX:K.In s.heap:=e0.mod.kin.keeps fun b o e=>(e0.bs b o e).1;have lim:s.heap.NoLimit:=e0.mod.nolimit.keeps fun b o e=>(e0.bs b o e).1;have hkind:∀y∈ps.zip us,scope.names.lookup y.1=some .local∨(scope.names.lookup y.1=some .cell/\((cellsFrom (s.heap.objs.size+1) scope.names []).lookup y.1).isSome=true):=fun⟨n,v⟩ hy=>by
  rcases S.par n (List.of_mem_zip hy).1 with q|q
  ·exact .inl q
  ·exact .inr ⟨q,PySem.W.cellsFrom_some _ _ _ (.inl q)⟩
 refine codeAny_call_function hr.depth (KX _ _ lk) rfl S.co S.gen rfl (PySem.W.codeRec_of KX hcd) (hb _ _ _ _ ?_);refine wpAny_newFunctionEnv_cells S.kind hkind fun env he s1 x=>?_;subst he;refine⟨lim.keeps x.toInCall.keep,codeAny_func ?_⟩;obtain⟨t,ht,hq⟩:=hbody A outer s H vs Q E (hr.deeper _) hsp;have I:Inv (Fg CX P w K mg base N qual scope f cdv A outer s H E) [] (start N vs) H s1:=vm S hr.hd e0 hl r x;refine wpAny_mono (ht [] s1 (start N vs) H _ I hq) (fun fl s' hs=>?_) fun e s' hs=>hs;have fin:∀{σ':St} {H':Hp} {v:V} {u:Value},Inv (Fg CX P w K mg base N qual scope f cdv A outer s H E) [] σ' H' s'->RelV v u->Q v H'->CE outer P w H s Q u s':=
  fun {σ' H' v u} J rv q=>⟨v,H',J.os,J.bare,J.base,J.hok,rv,q⟩
 cases fl with
 |ret u=>
  obtain⟨v,σ',H',J,rv,q⟩:=hs;exact fin J rv q
 |next=>
  obtain⟨σ',H',J,q⟩:=hs;exact fin (v:=V.non) (u:=Value.none) J rfl q
 |brk=>
  obtain⟨_,_,_,q⟩:=hs;exact False.elim q
 |cont=>
  obtain⟨_,_,_,q⟩:=hs;exact False.elim q
section
variable {X:Cx} {x:Str} {p pos:Pos} {e:Expr} {es:List Expr} {t:TA} {id T:String} {r:List V->Hp->VK->Prop}
def tCB(r:List V->Hp->VK->Prop)(t:TA):TE:=fun σ H Q=>t σ H fun vs H1=>r vs H1 Q
theorem aU(hc:lU X (.builtin id) r)(hg:Gl X x)(hm:X.mg x=none)(hv:bootBuiltins x=some (.builtin id))(ha:PA X (e::es) t)(hn:x≠ "__name__" := by decide)(hdb:(x==("__debug__" : Str))=false:=by decide)
  (he:starEach (e::es) X.env=(false,eval e X.env)::starEach es X.env:=by rfl) (hpl:(backTo pos (starEach es X.env)).any (·.1)=false:=by rfl):PE X (.Call (.Name x p) (e::es) [] pos) (tCB r t):=by
 intro pins s σ H Q I h;refine wpAny_Call_Name_kw (rM I hg hm hv ?_ hn hdb);exact PyProof.Rows.callWith_builtin1 (thn (ha pos pins s σ H _ I h) fun us s1 ⟨vs,H1,I1,r1,q1⟩=>hc pins s1 σ H1 vs us Q I1 r1 q1) he hpl
theorem bJ(hc:lU X (.type T) r)(hg:Gl X x)(hm:X.mg x=none)(hv:bootBuiltins x=some (.type T))(ha:PA X (e::es) t)(hn:x≠ "__name__" := by decide)(hdb:(x==("__debug__" : Str))=false:=by decide)
  (he:starEach (e::es) X.env=(false,eval e X.env)::starEach es X.env:=by rfl) (hpl:(backTo pos (starEach es X.env)).any (·.1)=false:=by rfl):PE X (.Call (.Name x p) (e::es) [] pos) (tCB r t):=by
 intro pins s σ H Q I h;refine wpAny_Call_Name_kw (rM I hg hm hv ?_ hn hdb);exact PyProof.Rows.callWith_type1 (thn (ha pos pins s σ H _ I h) fun us s1 ⟨vs,H1,I1,r1,q1⟩=>hc pins s1 σ H1 vs us Q I1 r1 q1) he hpl
end
end L2
namespace HT
open PySem PyProof.Rows
section
open PySem.SeqAt
open PySem.AutoSeq1 (wpAny_loadPart')
open PySem.MeetsSeq PySem.MeetsSeq2 PySem.MeetsSeq3
end
section
variable {prog:Program} {w:World} {A:Around} {E:Value->Shared->Prop} {s:Shared}
theorem Jr{t b:Addr}{vs ws:List Value}{Q:Value->Shared->Prop}(ht:IsTup s.heap t vs.toArray)(hb:IsTup s.heap b ws.toArray)(hv:vs≠[])
  (h1:ws=[]->Q (.ref t) s) (h2:ws≠[]->Q (.ref s.heap.objs.size) { s with heap:=s.heap.push { cls:= .type "tuple",data:= .seq (vs++ws).toArray } })
  (hsz:vs.length+ws.length<=sizeLine):wpAny (model prog w) A (binaryOp .Add (.ref t) (.ref b)) Q E s:=by
 obtain⟨⟨cls,dd,data,sl⟩,ho,hc,n,hd⟩:=id ht;obtain⟨⟨cls2,dd2,data2,sl2⟩,ho2,hc2,n2,hd2⟩:=id hb;simp only at hc hd hc2 hd2;subst hc hd hc2 hd2;have e:vs.toArray++ws.toArray=(vs++ws).toArray:=by simp
 by_cases hw:ws=[]
 ·exact concat_meets ⟨_,ho,rfl⟩ ⟨_,ho2,rfl⟩ noFill_tuple_add seq_tuple_add PySem.F.slot_tuple_add PySem.F.entry_tuple_add (PySem.F.args_tuple_add_2 _ _)
   (tuple_addW1 t b vs.toArray ws.toArray n n2 dd dd2 sl sl2 (by simpa using hv) (by simp[hw])) ⟨ho,ho2,h1 hw⟩
 ·refine concat_meets ⟨_,ho,rfl⟩ ⟨_,ho2,rfl⟩ noFill_tuple_add seq_tuple_add PySem.F.slot_tuple_add PySem.F.entry_tuple_add (PySem.F.args_tuple_add_2 _ _)
   (tuple_addW2 t b vs.toArray ws.toArray n n2 dd dd2 sl sl2 (by simpa using hv) (by simpa using hw) (by rw[List.size_toArray,List.size_toArray];exact hsz)) ⟨ho,ho2,?_⟩
  rw[e];exact h2 hw
def sIx(n d:Nat):Option Int->Nat
 |none=>d
 |some v=>if v<0 then(v+(n:Int)).toNat else min v.toNat n
theorem gM(n d:Nat):sIx n d none=d:=rfl
theorem jM(n d k:Nat):sIx n d (some (k:Int))=min k n:=by
 show(if(k:Int)<0 then((k:Int)+(n:Int)).toNat else min (k:Int).toNat n)=min k n;rw[if_neg (by omega),Int.toNat_natCast]
theorem Mv(n d:Nat)(hd:d<=n)(o:Option Int):sIx n d o<=n:=by
 cases o with
 |none=>exact hd
 |some v=>
  show(if v<0 then(v+(n:Int)).toNat else min v.toNat n)<=n;by_cases hv:v<0
  ·rw[if_pos hv];omega
  ·rw[if_neg hv];exact Nat.min_le_right _ _
theorem BQ(v:Int)(n d:Nat):(if v<0 then max (v+(n:Int)) 0 else min v (n:Int))=((sIx n d (some v):Nat):Int):=by
 show(if v<0 then max (v+(n:Int)) 0 else min v (n:Int))=(((if v<0 then(v+(n:Int)).toNat else min v.toNat n):Nat):Int);by_cases hv:v<0
 ·simp only[if_pos hv];omega
 ·simp only[if_neg hv];omega
theorem Av(lo hi:Option Int)(n:Nat):Builtin.Slice.sliceAdjust lo hi 1 (n:Int)=(((sIx n 0 lo:Nat):Int),((sIx n n hi:Nat):Int)):=by
 have h1:¬((1:Int)<0):=by omega
 unfold Builtin.Slice.sliceAdjust;simp only[h1,if_false];refine Prod.ext ?_ ?_
 ·cases lo with
  |none=>rfl
  |some v=>exact BQ v n 0
 ·cases hi with
  |none=>rfl
  |some v=>exact BQ v n n
theorem Ao(i j:Nat):Builtin.Slice.slicePlaces (i:Int) (j:Int) 1=j-i:=by
 unfold Builtin.Slice.slicePlaces;have h1:(1:Int)>0:=by omega
 simp only[h1,if_true,Int.ediv_one];split<;>omega
theorem rY{v:Value}{o:Option Int}{Q:Option Int->Shared->Prop}(p:IsPart v o)(h:Q o s):wpAny (model prog w) A (Builtin.Slice.slicePartIndex v) Q E s:=by
 cases p with
 |none=>exact slicePart_none h
 |int i t=>exact slicePart_int h
theorem jO{sl:Addr}{vl vu:Value}{lo hi:Option Int}{n:Nat}{Q:Int×Int×Nat->Shared->Prop}(hs:s.heap.IsSliceOf sl vl vu .none)(pl:IsPart vl lo)(pu:IsPart vu hi)
  (h:Q (((sIx n 0 lo:Nat):Int),1,sIx n n hi-sIx n 0 lo) s):wpAny (model prog w) A (Builtin.Slice.sliceApplied (.ref sl) (pure (n:Int))) Q E s:=by
 obtain⟨os,hos,hcs,hds⟩:=id hs;unfold Builtin.Slice.sliceApplied Builtin.Slice.sliceFields;refine wpAny_bind (wpAny_bind (wpAny_field hos hds (x:=vl) rfl (wpAny_bind (wpAny_field hos hds (x:=vu) rfl (wpAny_bind (wpAny_field hos hds (x:= .none) rfl (wpAny_pure ?_)))))));refine wpAny_bind (slicePart_none ?_);show wpAny _ _ (if((1:Int)==0)=true then _ else _) _ _ s;rw[if_neg (by decide)];refine wpAny_bind (rY pl (wpAny_bind (rY pu (wpAny_bind (wpAny_pure ?_)))));show wpAny _ _ (match Builtin.Slice.sliceAdjust lo hi 1 (n:Int)with|(lo,hi)=>pure (lo,(1:Int),Builtin.Slice.slicePlaces lo hi 1)) _ _ s
 rw[Av lo hi n];show wpAny _ _ (pure (((sIx n 0 lo:Nat):Int),(1:Int),Builtin.Slice.slicePlaces ((sIx n 0 lo:Nat):Int) ((sIx n n hi:Nat):Int) 1)) _ _ s;rw[Ao];exact wpAny_pure h
theorem Ge(xs:Array Value)(i k:Nat):((List.range k).filterMap fun(m:Nat)=>xs[((i:Int)+(m:Int)*1).toNat]?).toArray=((xs.toList.drop i).take k).toArray:=by
 have e:(fun(m:Nat)=>xs[((i:Int)+(m:Int)*1).toNat]?)=fun m=>xs[i+m]?:=by
  funext m
  have:((i:Int)+(m:Int)*1).toNat=i+m:=by omega
  rw[this]
 rw[e];have:=pick_run xs i k;rw[List.filterMap_map]at this;have e2:((fun x=>xs[x]?)∘fun x=>i+x)=fun m=>xs[i+m]?:=rfl;rw[e2]at this;rw[this]
theorem n6{t sl:Addr}{items:Array Value}{vl vu:Value}{lo hi:Option Int}{Q:Value->Shared->Prop}(ht:IsTup s.heap t items)(hs:s.heap.IsSliceOf sl vl vu .none)(pl:IsPart vl lo)(pu:IsPart vu hi)
  (hw:¬(sIx items.size 0 lo=0/\sIx items.size items.size hi=items.size))
  (h:Q (.ref s.heap.objs.size) { s with heap:=s.heap.push { cls:= .type "tuple",data:= .seq ((items.toList.drop (sIx items.size 0 lo)).take (sIx items.size items.size hi-sIx items.size 0 lo)).toArray } })
  (hsz:items.size<=sizeLine):wpAny (model prog w) A (getItem (.ref t) (.ref sl)) Q E s:=by
 have htake:sizeOk (.seq ((items.toList.drop (sIx items.size 0 lo)).take (sIx items.size items.size hi-sIx items.size 0 lo)).toArray):=by
  show((items.toList.drop (sIx items.size 0 lo)).take (sIx items.size items.size hi-sIx items.size 0 lo)).toArray.size<=sizeLine;rw[List.size_toArray,List.length_take,List.length_drop,Array.length_toList];omega
 have hj:sIx items.size items.size hi<=items.size:=Mv _ _ (Nat.le_refl _) hi;obtain⟨os,hos,hcs,hds⟩:=id hs;have hTs:s.TypeIs (.ref sl) "slice" := ⟨os,hos,hcs⟩;unfold getItem;try with_reducible refine wpAny_holding ?_
 first|refine wpAny_bind (wpAny_pure ?_)|skip
 refine wpAny_bind (wpAny_sequenceKey ht.typeIs (by decide) ?_);refine wpAny_bind (wpAny_callSpecial?_slot (name:=Str.ofString "__getitem__") ht.typeIs PyProof.Rows.slot_tuple_getitem
  (wpAny_call_entry PyProof.Rows.slot_tuple_getitem ht.typeIs entry_tuple_getitem ?_ (args_tuple_getitem _ _)))
 show wpAny _ _ (Builtin.Tuple.tupleItemsOf (.ref t)>>=_) _ _ s;refine wpAny_bind (tupleItemsOf_ ht ?_);refine wpAny_bind (wpAny_typeOf hTs ?_);rw[if_pos (by decide)];refine wpAny_bind (jO hs pl pu ?_);have hno:¬((((sIx items.size 0 lo:Nat):Int)==0&&(1:Int)==1&&(sIx items.size items.size hi-sIx items.size 0 lo)==items.size)=true):=by
  intro q;rw[Bool.and_eq_true,Bool.and_eq_true]at q;have q1:((sIx items.size 0 lo:Nat):Int)=0:=eq_of_beq q.1.1;have q2:sIx items.size items.size hi-sIx items.size 0 lo=items.size:=eq_of_beq q.2;exact hw ⟨by omega,by omega⟩
 show wpAny _ _ (if(((sIx items.size 0 lo:Nat):Int)==0&&(1:Int)==1&&(sIx items.size items.size hi-sIx items.size 0 lo)==items.size)=true then _ else _) _ _ s;rw[if_neg hno,Ge];first
  |exact wpAny_bind (m:=Builtin.Tuple.tupleExact _) (wpAny_newObj_type (wpAny_pure ⟨_,rfl,wpAny_pure h⟩) htake)
  |exact wpAny_bind (m:=Builtin.Tuple.tupleExact _) (wpAny_newObj_type (wpAny_bind (wpAny_pure (wpAny_pure ⟨_,rfl,wpAny_pure h⟩))) htake)
  |exact wpAny_bind (wpAny_bind (m:=Builtin.Tuple.tupleExact _) (wpAny_newObj_type (wpAny_pure (wpAny_pure ⟨_,rfl,wpAny_pure h⟩)) htake))
  |exact wpAny_bind (wpAny_bind (m:=Builtin.Tuple.tupleExact _) (wpAny_newObj_type (wpAny_pure ⟨_,rfl,wpAny_pure h⟩) htake))
end
end HT
namespace L2
open PySem PySem.Spec PyProof.Rows
abbrev TO:=St->Hp->(Option Int->Hp->Prop)->Prop
def PO(X:Cx)(e:Option Expr)(t:TO):Prop:=
 ∀(pins:List (Addr×Obj)) (s:Shared) (σ:St) (H:Hp) (Q:Option Int->Hp->Prop),Inv X pins σ H s->t σ H Q->
  wpAny (model X.prog X.w) X.A (evalPart e X.env) (fun u s'=>∃o H',Inv X pins σ H' s'/\IsPart u o/\Q o H') X.xe s
def Il:TO:=fun _ H Q=>Q none H
inductive Uc(x:V)(H:Hp)(Q:Option Int->Hp->Prop):Prop|mk (i:Int) (hx:x = .int i) (q:Q (some i) H)
def M9(t:TE):TO:=fun σ H Q=>t σ H fun x H1=>Uc x H1 Q
theorem intsAre_of{ns:List Int}:∀{us:List Value},Vals (ns.map V.int) us->IntsAre us ns:=by
 induction ns with
 |nil=>intro us r;rw[List.map_nil]at r;cases r;exact .nil
 |cons n ns ih=>
  intro us r;rw[List.map_cons]at r;cases r with
  |cons r1 r2=>
   obtain⟨t,e⟩:=r1;subst e;exact .cons n t (ih r2)
section
variable {X:Cx} {e:Expr} {te:TE} {lo hi:Option Expr} {tl th:TO} {pos p2:Pos}
theorem uc:PO X none Il:=by
 intro pins s σ H Q I h;rw[evalPart_none];exact wpAny_pure ⟨none,H,I,.none,h⟩
theorem tW(h:PE X e te):PO X (some e) (M9 te):=by
 intro pins s σ H Q I hw;rw[evalPart_some];refine thn (h pins s σ H _ I hw) fun u s1 ⟨x,H1,I1,r1,q1⟩=>?_;obtain⟨i,rfl,q⟩:=q1;obtain⟨t,rfl⟩:=r1;exact⟨some i,H1,I1,.int i t,q⟩
def SlR(X:Cx)(r:V->Option Int->Option Int->Hp->VK->Prop):Prop:=
 ∀(pins:List (Addr×Obj)) (s:Shared) (σ:St) (H:Hp) (x:V) (v vl vu:Value) (lo hi:Option Int) (sl:Addr) (Q:VK),Inv X pins σ H s->RelV x v->s.heap.IsSliceOf sl vl vu .none->IsPart vl lo->IsPart vu hi->r x lo hi H Q->
  ∃T id,typeLookup (.type T) "__getitem__" = pure (some (.builtin id))/\s.TypeIs v T/\wpAny (model X.prog X.w) X.A (getItem v (.ref sl)) (EP X pins σ Q) X.xe s
theorem SlR.or{r r':V->Option Int->Option Int->Hp->VK->Prop}(h:SlR X r)(h':SlR X r'):SlR X (fun x lo hi H Q=>r x lo hi H Q∨r' x lo hi H Q):=by
 intro pins s σ H x v vl vu lo hi sl Q I rx hs pl pu q;rcases q with q|q
 ·exact h pins s σ H x v vl vu lo hi sl Q I rx hs pl pu q
 ·exact h' pins s σ H x v vl vu lo hi sl Q I rx hs pl pu q
def tSl(r:V->Option Int->Option Int->Hp->VK->Prop)(te:TE)(tl th:TO):TE:=fun σ H Q=>te σ H fun x H1=>tl σ H1 fun l H2=>th σ H2 fun u H3=>r x l u H3 Q
theorem oW{r:V->Option Int->Option Int->Hp->VK->Prop}(hr:SlR X r)(he:PE X e te)(hl:PO X lo tl)(hu:PO X hi th):PE X (.Subscript e (.Slice lo hi none p2) pos) (tSl r te tl th):=by
 intro pins s σ H Q I h;refine Subscript_ (thn (he pins s σ H _ I h) fun v s1 ⟨x,H1,I1,r1,q1⟩=>?_);refine wpAny_Slice (thn (hl pins s1 σ H1 _ I1 q1) fun vl s2 ⟨l,H2,I2,pl,q2⟩=>thn (hu pins s2 σ H2 _ I2 q2) fun vu s3 ⟨u,H3,I3,pu,q3⟩=>?_);rw[evalPart_none];refine wpAny_pure ?_;have I4:Inv X pins σ H3 { s3 with heap:=s3.heap.push { cls:= .type "slice",data:= .fields #[vl,vu,.none] } }:=I3.kept (t':=s3.toks) fun b ob q=>Heap.get?_push_of_some _ q;obtain⟨T,id,hT,ht,hg⟩:=hr pins { s3 with heap:=s3.heap.push { cls:= .type "slice",data:= .fields #[vl,vu,.none] } } σ H3 x v vl vu l u s3.heap.objs.size Q I4 r1 (Heap.IsSliceOf.new ..) pl pu q3;show wpAny (model X.prog X.w) X.A (subscriptTail e (.Slice lo hi none p2) v (.ref s3.heap.objs.size)) (EP X pins σ Q) X.xe { s3 with heap:=s3.heap.push { cls:= .type "slice",data:= .fields #[vl,vu,.none] } };exact tail_any (ops:=[.ref s3.heap.objs.size,v]) ht hT hg (by with_unfolding_all rfl)
def vU(xs:List V)(lo hi:Option Int):List V:=(xs.drop (HT.sIx xs.length 0 lo)).take (HT.sIx xs.length xs.length hi-HT.sIx xs.length 0 lo)
theorem pF(xs:List V)(lo hi:Option Int):(vU xs lo hi).length<=xs.length:=by
 unfold vU;rw[List.length_take,List.length_drop];omega
def Zq(K:PySem.W.Frag):V->Option Int->Option Int->Hp->VK->Prop:=fun x lo hi H Q=>∃a xs,x = .ref a/\SqT K H a xs/\
 ¬(HT.sIx xs.length 0 lo=0/\HT.sIx xs.length xs.length hi=xs.length)/\∀p,H p=none->Q (.ref p) (upd H p (.tup (vU xs lo hi)))
theorem Lq:SlR X (Zq X.K):=by
 intro pins s σ H x v vl vu lo hi sl Q I rx hs pl pu h;obtain⟨a,xs,rfl,hx,hw,q⟩:=h;cases rx;obtain⟨its,r,ht,hz⟩:=I.tuple hx;have hlen:its.toArray.size=xs.length:=by rw[List.size_toArray];exact r.length.symm
 refine⟨"tuple",_,PyProof.Rows.slot_tuple_getitem.lookup,ht.typeIs,?_⟩;refine HT.n6 ht hs pl pu (by rw[hlen];exact hw) ?_ (by rw[hlen];exact hz);rw[hlen];refine⟨.ref s.heap.objs.size,_,I.laid (t':=s.toks) (o:= .tup (vU xs lo hi)) (fun b ob q=>Heap.get?_push_of_some _ q) (Nat.le_refl _) ?_,rfl,q _ (I.hok.fresh (Nat.le_refl _))⟩;exact⟨Nat.le_trans (pF xs lo hi) hz,_,(r.drop (HT.sIx xs.length 0 lo)).take (HT.sIx xs.length xs.length hi-HT.sIx xs.length 0 lo),IsTup.new _ _⟩
def V6(K:PySem.W.Frag):R2:=fun x y H Q=>∃a b xs ys,x = .ref a/\y = .ref b/\SqT K H a xs/\SqT K H b ys/\xs≠[]/\xs.length+ys.length<=sizeLine/\
 (ys=[]->Q (.ref a) H)/\(ys≠[]->∀p,H p=none->Q (.ref p) (upd H p (.tup (xs++ys))))
theorem Vals.uE{xs:List V}{us:List Value}(r:Vals xs us):us=[]↔xs=[]:=by
 cases r with
 |nil=>simp
 |cons _ _=>simp
theorem Jk:OpR X (binaryOp .Add) (V6 X.K):=by
 intro pins s σ H x y v u Q I rx ry h;obtain⟨a,b,xs,ys,rfl,rfl,ha,hb,hx,hz,q1,q2⟩:=h;cases rx;cases ry;obtain⟨its,r1,p1,_⟩:=I.tuple ha;obtain⟨its2,r2,p2,_⟩:=I.tuple hb;refine HT.Jr p1 p2 (fun z=>hx (r1.uE.mp z)) (fun z=>⟨.ref a,H,I,rfl,q1 (r2.uE.mp z)⟩) (fun z=>?_) (by rw[<-r1.length,<-r2.length];exact hz);refine⟨.ref s.heap.objs.size,_,I.laid (t':=s.toks) (o:= .tup (xs++ys)) (fun b ob q=>Heap.get?_push_of_some _ q) (Nat.le_refl _) ?_,rfl,q2 (fun w=>z (r2.uE.mpr w)) _ (I.hok.fresh (Nat.le_refl _))⟩;exact⟨by rw[List.length_append];exact hz,_,r1.append r2,IsTup.new _ _⟩
end
def ixN(n:Nat)(i:Int):Option Nat:=if 0<=i then(if i<n then some i.toNat else none)else if -(n:Int)<=i then some (i+n).toNat else none
def atI{α:Type}(xs:List α)(i:Int):Option α:=(ixN xs.length i).bind fun j=>xs[j]?
theorem Dr{n:Nat}{i:Int}{j:Nat}(h:ixN n i=some j):seqIndex? i n=some j/\j<n/\-(n:Int)<=i/\i<n:=by
 unfold ixN at h;by_cases h0:0<=i
 ·rw[if_pos h0]at h;by_cases h1:i<n
  ·rw[if_pos h1]at h;have e:i.toNat=j:=Option.some.inj h;exact⟨by rw[seqIndex_of h0 h1,e],by omega,by omega,h1⟩
  ·rw[if_neg h1]at h;cases h
 ·rw[if_neg h0]at h;by_cases h1:-(n:Int)<=i
  ·rw[if_pos h1]at h;have e:(i+n).toNat=j:=Option.some.inj h;exact⟨by rw[seqIndex_neg (by omega) h1,e],by omega,h1,by omega⟩
  ·rw[if_neg h1]at h;cases h
theorem wC{α:Type}{xs:List α}{i:Int}{v:α}(h:atI xs i=some v):∃j,seqIndex? i xs.length=some j/\xs[j]?=some v/\j<xs.length/\-(xs.length:Int)<=i/\i<xs.length:=by
 unfold atI at h;cases e:ixN xs.length i with
 |none=>rw[e]at h;cases h
 |some j=>
  rw[e]at h;obtain⟨h1,h2,h3,h4⟩:=Dr e;exact⟨j,h1,h,h2,h3,h4⟩
theorem IL{α:Type}{xs:List α}{j:Nat}{v:α}(h:xs[j]?=some v):atI xs (j:Int)=some v:=by
 have hj:j<xs.length:=(List.getElem?_eq_some_iff.mp h).1;have e:ixN xs.length (j:Int)=some j:=by
  unfold ixN;rw[if_pos (by omega),if_pos (by omega)];simp
 unfold atI;rw[e];exact h
def Hu(b:Expr):Prop:=∀o i,subscripted b false o i=operate [o,i] (getItem o i)
def IxR(X:Cx)(r:R2):Prop:=
 ∀(value slice:Expr) (pins:List (Addr×Obj)) (s:Shared) (σ:St) (H:Hp) (x y:V) (v u:Value) (Q:VK),Inv X pins σ H s->RelV x v->RelV y u->r x y H Q->
  subscripted slice false v u=operate [v,u] (getItem v u)->wpAny (model X.prog X.w) X.A (subscriptTail value slice v u) (EP X pins σ Q) X.xe s
def MtR(X:Cx)(id:String)(r:V->List V->Hp->VK->Prop):Prop:=
 ∀(pins:List (Addr×Obj)) (s:Shared) (σ:St) (H:Hp) (x:V) (xs:List V) (v:Value) (us:List Value) (Q:VK),Inv X pins σ H s->RelV x v->Vals xs us->r x xs H Q->
  wpAny (model X.prog X.w) X.A (call (.builtin id) (v::us)) (EP X pins σ Q) X.xe s
section
variable {X:Cx} {a b:Expr} {ta tb:TE} {pos:Pos}
theorem IxR.or{r r':R2}(h:IxR X r)(h':IxR X r'):IxR X (fun x y H Q=>r x y H Q∨r' x y H Q):=by
 intro value slice pins s σ H x y v u Q I rx ry q hs;rcases q with q|q
 ·exact h value slice pins s σ H x y v u Q I rx ry q hs
 ·exact h' value slice pins s σ H x y v u Q I rx ry q hs
theorem bF{r:R2}(hr:IxR X r)(ha:PE X a ta)(hb:PE X b tb)(hs:Hu b):PE X (.Subscript a b pos) (tOp r ta tb):=by
 intro pins s σ H Q I h;exact Subscript_ (O9 ha hb I h fun v u s2 x y H2 I2 rx ry q=>hr a b pins s2 σ H2 x y v u Q I2 rx ry q (hs _ _))
def WW(K:PySem.W.Frag):R2:=fun x y H Q=>∃p xs i v,x = .ref p/\y = .int i/\SqL K H p xs/\atI xs i=some v/\Q v H
def Xo(K:PySem.W.Frag):R2:=fun x y H Q=>∃p xs i v,x = .ref p/\y = .int i/\SqT K H p xs/\atI xs i=some v/\Q v H
def X4:R2:=fun x y H Q=>∃z i c,x = .str z/\y = .int i/\z.length<=sizeLine/\atI z.cps.toList i=some c/\Q (.str ⟨#[c]⟩) H
theorem HD:IxR X (WW X.K):=by
 intro value slice pins s σ H x y v u Q I rx ry h hs;obtain⟨p,xs,i,z,rfl,rfl,hq,he,q⟩:=h;cases rx;obtain⟨t,rfl⟩:=ry;obtain⟨its,r,pl,hz⟩:=I.list hq;obtain⟨j,h1,h2,h3,h4,h5⟩:=wC he;obtain⟨w,ew,rw'⟩:=r.get h2;have hl:=r.length;have hn:=vo;have fin:EP X pins σ Q w s:=⟨z,H,I,rw',q⟩;by_cases h0:0<=i
 ·have hj:i.toNat=j:=by
   rw[seqIndex_of h0 h5]at h1;exact Option.some.inj h1
  exact item_listR pl.isList h0 (by omega) (by rw[hj];simpa using ew) fin hs
 ·have hj:(i+(its.toArray.size:Int)).toNat=j:=by
   rw[seqIndex_neg (by omega) h4]at h1;rw[List.size_toArray,<-hl];exact Option.some.inj h1
  exact subscriptTail_builtinR (x:=w) pl.isList.typeIs slot_list_getitem.lookup
   (wpAny_getItem_list_neg (Q:=fun r s'=>r=w/\EP X pins σ Q r s') pl.isList (by omega) (by rw[List.size_toArray]<;>omega) (by omega) (by rw[hj];simpa using ew) ⟨rfl,fin⟩) hs
theorem J2:IxR X (Xo X.K):=by
 intro value slice pins s σ H x y v u Q I rx ry h hs;obtain⟨p,xs,i,z,rfl,rfl,hq,he,q⟩:=h;cases rx;obtain⟨t,rfl⟩:=ry;obtain⟨its,r,pl,hz⟩:=I.tuple hq;obtain⟨j,h1,h2,h3,h4,h5⟩:=wC he;obtain⟨w,ew,rw'⟩:=r.get h2;have hl:=r.length;have hn:=vo;have fin:EP X pins σ Q w s:=⟨z,H,I,rw',q⟩;exact subscriptTail_builtinR (x:=w) pl.typeIs slot_tuple_getitem.lookup
  (getItem_tuple (j:=j) (Q:=fun r s'=>r=w/\EP X pins σ Q r s') pl (by omega) (by omega) (by rw[List.size_toArray,<-hl];exact h1) (by simpa using ew) ⟨rfl,fin⟩) hs
theorem Mx:IxR X X4:=by
 intro value slice pins s σ H x y v u Q I rx ry h hs;obtain⟨z,i,c,rfl,rfl,hz,he,q⟩:=h;obtain⟨t,rfl⟩:=rx;obtain⟨t',rfl⟩:=ry;obtain⟨j,h1,h2,h3,h4,h5⟩:=wC he;have hl:z.cps.toList.length=z.length:=by simp[Str.length]
 rw[hl]at h1 h4 h5;have hn:=vo;exact tail_any (typeIs_str s z t) slot_str_getitem.lookup (getItem_str (c:=c) (by
  have e1:decide (i < -(2^63:Int))=false:=decide_eq_false (by omega);have e2:decide (i≥2^63)=false:=decide_eq_false (by omega);rw[e1,e2,Bool.or_false]) (by rw[h1];simpa using h2) ⟨.str ⟨#[c]⟩,H,I.tok _,⟨_,rfl⟩,q⟩) hs
def rIx(K:PySem.W.Frag):R2:=fun x y H Q=>WW K x y H Q∨Xo K x y H Q∨X4 x y H Q
theorem Ls:IxR X (rIx X.K):=HD.or (J2.or Mx)
theorem Ax(its:List Value)(n j:Nat)(u:Value):Obj.mapSeq (·.setIfInBounds j u) { cls:= .type "list",data:= .seq its.toArray n }={ cls:= .type "list",data:= .seq (its.set j u).toArray n }:=by
 simp[Obj.mapSeq]
theorem Inv.lst{pins:List (Addr×Obj)}{σ:St}{H:Hp}{s:Shared}{p:Addr}{xs:List V}(I:Inv X pins σ H s)(h:H p=some (.lst xs)):
  ∃(its:List Value) (n:Nat),Vals xs its/\s.heap.get? p=some { cls:= .type "list",data:= .seq its.toArray n }/\xs.length<=sizeLine:=by
 obtain⟨z,its,n,r,e⟩:=I.hok p _ h;exact⟨its,n,r,e,z⟩
theorem Inv.Lz{pins:List (Addr×Obj)}{σ:St}{H:Hp}{s:Shared}{p:Addr}{xs ys:List V}{its its':List Value}{n n':Nat}{f:Obj->Obj}(I:Inv X pins σ H s)(h:H p=some (.lst xs))
  (ho:s.heap.get? p=some { cls:= .type "list",data:= .seq its.toArray n }) (hf:f { cls:= .type "list",data:= .seq its.toArray n }={ cls:= .type "list",data:= .seq its'.toArray n' }) (r:Vals ys its') (hz:ys.length<=sizeLine) (t:Nat):
  Inv X pins σ (upd H p (.lst ys)) { s with heap:=s.heap.update p f,toks:=t }:=by
 have e:(s.heap.update p f).get? p=some { cls:= .type "list",data:= .seq its'.toArray n' }:=by
  rw[Heap.get?_update_self f ho (by rw[hf]<;>rfl),hf]
 refine I.write (x:=p) (e:=p) (by rw[h];trivial) (.inl rfl) (fun b u hb q=>(Heap.get?_update_other _ _ (Ne.symm hb)).trans q) ⟨_,e⟩ ?_;exact⟨hz,its',n',r,e⟩
inductive SSet(o i v:V)(H:Hp)(Q:Hp->Prop):Prop|mk (p:Addr) (xs:List V) (k:Int) (j:Nat) (ho:o = .ref p) (hi:i = .int k) (hp:H p=some (.lst xs)) (hj:ixN xs.length k=some j) (q:Q (upd H p (.lst (xs.set j v))))
def V0:V->V->V->Hp->(Hp->Prop)->Prop:=fun o i v H Q=>SSet o i v H Q
theorem set_list:Yr X V0:=by
 intro pins s σ H o i v ov iv u Q I ro ri rv h;obtain⟨p,xs,k,j,rfl,rfl,hp,hj,q⟩:=h;cases ro;obtain⟨t,rfl⟩:=ri;obtain⟨its,n,r,ho,hz⟩:=I.lst hp;obtain⟨h1,h2,h3,h4⟩:=Dr hj;have hl:=r.length;have hn:=vo;have I':Inv X pins σ (upd H p (.lst (xs.set j v))) { s with heap:=s.heap.update p (Obj.mapSeq (·.setIfInBounds j u)) }:=
  I.Lz hp ho (Ax its n j u) (r.set rv j) (by rw[List.length_set];exact hz) s.toks
 by_cases h0:0<=k
 ·have hk:k.toNat=j:=by
   rw[seqIndex_of h0 h4]at h1;exact Option.some.inj h1
  exact PySem.W.ki_setAt ho h0 (by omega) (by rw[List.size_toArray,<-hl];exact h4) (by rw[hk];exact⟨_,I',q⟩)
 ·have hk:(k+(its.toArray.size:Int)).toNat=j:=by
   rw[seqIndex_neg (by omega) h3]at h1;rw[List.size_toArray,<-hl];exact Option.some.inj h1
  exact PySem.W.ki_setBack ho (by omega) (by rw[List.size_toArray,<-hl];exact h3) (by omega) (by rw[hk];exact⟨_,I',q⟩)
theorem vK(lo hi:Option Int)(n:Nat):(sliceBounds lo hi none n).1=((HT.sIx n 0 lo:Nat):Int)/\(sliceBounds lo hi none n).2.1=((HT.sIx n n hi:Nat):Int)/\(sliceBounds lo hi none n).2.2=1:=by
 refine⟨?_,?_,rfl⟩
 ·cases lo with
  |none=>simp[sliceBounds,HT.sIx]
  |some i=>
   simp only[sliceBounds,HT.sIx,Option.getD_none,show(1:Int)>0 by decide,if_true];by_cases h:i<0
   ·simp only[h,if_true]<;>omega
   ·simp only[h,if_false]<;>omega
 ·cases hi with
  |none=>simp[sliceBounds,HT.sIx]
  |some i=>
   simp only[sliceBounds,HT.sIx,Option.getD_none,show(1:Int)>0 by decide,if_true];by_cases h:i<0
   ·simp only[h,if_true]<;>omega
   ·simp only[h,if_false]<;>omega
theorem uz(its:List Value)(lo hi:Option Int):slicePick its.toArray lo hi none=((its.drop (HT.sIx its.length 0 lo)).take (HT.sIx its.length its.length hi-HT.sIx its.length 0 lo)).toArray:=by
 obtain⟨h1,h2,h3⟩:=vK lo hi its.toArray.size;unfold slicePick;rw[h1,h2,h3];simp only[sliceRange_one,pick_run,List.size_toArray]<;>rfl
def Y7(K:PySem.W.Frag):V->Option Int->Option Int->Hp->VK->Prop:=fun x lo hi H Q=>∃a xs,x = .ref a/\SqL K H a xs/\∀p,H p=none->Q (.ref p) (upd H p (.lst (vU xs lo hi)))
theorem IB:SlR X (Y7 X.K):=by
 intro pins s σ H x v vl vu lo hi sl Q I rx hs pl pu h;obtain⟨a,xs,rfl,hx,q⟩:=h;cases rx;obtain⟨its,r,ht,hz⟩:=I.list hx;have hlen:=r.length;refine⟨"list",_,slot_list_getitem.lookup,ht.isList.typeIs,?_⟩;refine wpAny_getItem_list_slice ht.isList hs pl pu .none (by simp) ?_ (by rw[List.size_toArray]<;>omega);rw[uz,<-hlen];refine⟨.ref s.heap.objs.size,_,I.laid (t':=s.toks) (o:= .lst (vU xs lo hi)) (fun b ob q=>Heap.get?_push_of_some _ q) (Nat.le_refl _) ?_,rfl,q _ (I.hok.fresh (Nat.le_refl _))⟩;exact⟨Nat.le_trans (pF xs lo hi) hz,_,0,(r.drop (HT.sIx xs.length 0 lo)).take (HT.sIx xs.length xs.length hi-HT.sIx xs.length 0 lo),Heap.get?_push_size _ rfl⟩
def qp:V->Bool
 |.non=>true
 |.bl _=>true
 |.int _=>true
 |.str _=>true
 |_=>false
def eqV:V->V->Bool
 |.non,.non=>true
 |.bl a,.bl b=>a==b
 |.bl a,.int b=>(if a then 1 else 0)==b
 |.int a,.bl b=>a==(if b then 1 else 0)
 |.int a,.int b=>a==b
 |.str a,.str b=>a==b
 |_,_=>false
theorem JX{A:Around}{s:Shared}{y x:V}{u v:Value}(ry:RelV y u)(rx:RelV x v)(fy:qp y=true)(fx:qp x=true):SeqAt.EqAt A s u v (eqV y x):=by
 cases y with
 |non=>
  cases ry;cases x with
  |non=>cases rx;exact SeqAt.EqAt.same _
  |bl b=>cases rx;exact SeqAt.EqAt.none_bool b
  |int b=>obtain⟨t,rfl⟩:=rx;exact SeqAt.EqAt.none_int b t
  |str b=>obtain⟨t,rfl⟩:=rx;exact SeqAt.EqAt.none_str b t
  |_=>exact absurd (show false=true from fx) Bool.false_ne_true
 |bl a=>
  cases ry;cases x with
  |non=>cases rx;exact SeqAt.EqAt.bool_none a
  |bl b=>cases rx;exact SeqAt.EqAt.bool_bool a b
  |int b=>obtain⟨t,rfl⟩:=rx;exact SeqAt.EqAt.bool_int a b t
  |str b=>obtain⟨t,rfl⟩:=rx;exact SeqAt.EqAt.bool_str a b t
  |_=>exact absurd (show false=true from fx) Bool.false_ne_true
 |int a=>
  obtain⟨t',rfl⟩:=ry;cases x with
  |non=>cases rx;exact SeqAt.EqAt.int_none a t'
  |bl b=>cases rx;exact SeqAt.EqAt.int_bool a t' b
  |int b=>obtain⟨t,rfl⟩:=rx;exact SeqAt.EqAt.int_int a t' b t
  |str b=>obtain⟨t,rfl⟩:=rx;exact SeqAt.EqAt.int_str a t' b t
  |_=>exact absurd (show false=true from fx) Bool.false_ne_true
 |str a=>
  obtain⟨t',rfl⟩:=ry;cases x with
  |non=>cases rx;exact SeqAt.EqAt.str_none a t'
  |bl b=>cases rx;exact SeqAt.EqAt.str_bool a t' b
  |int b=>obtain⟨t,rfl⟩:=rx;exact SeqAt.EqAt.str_int a t' b t
  |str b=>obtain⟨t,rfl⟩:=rx;exact SeqAt.EqAt.str_str a t' b t
  |_=>exact absurd (show false=true from fx) Bool.false_ne_true
 |_=>exact absurd (show false=true from fy) Bool.false_ne_true
theorem vQ:lU X (.type "list") (fun xs H Q=>∃p ys,xs=[.ref p]/\(SqL X.K H p ys∨SqT X.K H p ys)/\∀l,H l=none->Q (.ref l) (upd H l (.lst ys))):=by
 intro pins s σ H xs us Q I r h;obtain⟨p,ys,rfl,hq,q⟩:=h;obtain⟨u,rfl,rx⟩:=vals1 r;cases rx;have fin:∀(its:List Value),Vals ys its->ys.length<=sizeLine->∀(h':Heap) (c':Nat),(∀b o',s.heap.get? b=some o'->h'.get? b=some o')->
   h'.get? s.heap.objs.size=some { cls:= .type "list",dict:=none,data:= .seq its.toArray c',slots:=#[] }->EP X pins σ Q (.ref s.heap.objs.size) { s with heap:=h' }:=fun its r' hz h' c' kp e=>
  ⟨.ref s.heap.objs.size,_,I.laid (t':=s.toks) kp (Nat.le_refl _) (show jP X.prog X.w _ h' _ (.lst ys)from⟨hz,its,c',r',e⟩),rfl,q _ (I.hok.fresh (Nat.le_refl _))⟩
 rcases hq with hq|hq
 ·obtain⟨its,r',pl,hz⟩:=I.list hq;have hlen:=r'.length;obtain⟨o,ho,hc,n,hd⟩:=pl.isList;exact call_list_seq p (.inl rfl) ho hc hd (fun h' c' kp e=>fin its r' hz h' c' kp e) (by simp only[List.size_toArray]<;>omega)
 ·obtain⟨its,r',pl,hz⟩:=I.tuple hq;have hlen:=r'.length;obtain⟨o,ho,hc,n,hd⟩:=pl;exact call_list_seq p (.inr rfl) ho hc hd (fun h' c' kp e=>fin its r' hz h' c' kp e) (by simp only[List.size_toArray]<;>omega)
theorem uy:lU X (.type "tuple") (fun xs H Q=>∃p ys,xs=[.ref p]/\((SqL X.K H p ys/\∀l,H l=none->Q (.ref l) (upd H l (.tup ys)))∨(SqT X.K H p ys/\Q (.ref p) H))):=by
 intro pins s σ H xs us Q I r h;obtain⟨p,ys,rfl,h⟩:=h;obtain⟨u,rfl,rx⟩:=vals1 r;cases rx;rcases h with⟨hq,q⟩|⟨hq,q⟩
 ·obtain⟨its,r',pl,hz⟩:=I.list hq;have hlen:=r'.length;refine call_tuple_list pl.isList (fun h' kp=>?_) (by simp only[List.size_toArray]<;>omega);have I1:Inv X pins σ H { s with heap:=h' }:=I.kept (t':=s.toks) kp;have I2:Inv X pins σ (upd H h'.objs.size (.tup ys)) { s with heap:=h'.push { cls:= .type "tuple",data:= .seq its.toArray } }:=
   I1.laid (t':=s.toks) (fun b o e=>Heap.get?_push_of_some _ e) (Nat.le_refl _) (show jP X.prog X.w _ _ _ (.tup ys)from⟨hz,its,r',IsTup.new _ _⟩)
  exact⟨.ref h'.objs.size,_,I2,rfl,q _ (I1.hok.fresh (Nat.le_refl _))⟩
 ·obtain⟨its,r',pl,hz⟩:=I.tuple hq;exact call_tuple_same pl ⟨.ref p,H,I,rfl,q⟩
def tyV(K:PySem.W.Frag)(T:String)(x:V)(H:Hp):Prop:=match x with
 |.str _=>T = "str"
 |.int _=>T = "int"
 |.ref p=>(T = "list" /\ ∃xs,SqL K H p xs)∨(T = "tuple" /\ ∃o,K.lookup p=some o/\o.cls = .type "tuple" /\ o.dict=none)∨
   (T = "dict" /\ ((∃kvs,H p=some (.dK kvs))∨∃kvs,H p=some (.dT kvs)))∨(T = "set" /\ ∃S n,H p=some (.set S n))
 |_=>False
theorem Ko{pins:List (Addr×Obj)}{σ:St}{H:Hp}{s:Shared}{T:String}{x:V}{v:Value}(I:Inv X pins σ H s)(r:RelV x v)(ty:tyV X.K T x H):
  s.TypeIs v T/\∀a,v = .ref a->∃ob,s.heap.get? a=some ob/\ob.dict=none:=by
 cases x with
 |str z=>
  obtain⟨t,rfl⟩:=r;cases (show T = "str" from ty);exact⟨typeIs_str s z t,fun _ e=>nomatch e⟩
 |int i=>
  obtain⟨t,rfl⟩:=r;cases (show T = "int" from ty);exact⟨typeIs_int s i t,fun _ e=>nomatch e⟩
 |ref p=>
  cases r;rcases ty with⟨rfl,xs,hq⟩|⟨rfl,o,hk,hc,hd⟩|⟨rfl,hk⟩|⟨rfl,S,n,hk⟩
  ·obtain⟨its,_,pl,_⟩:=I.list hq;refine⟨pl.isList.typeIs,fun a e=>?_⟩;cases e;obtain⟨o,n,e,c,hd,_⟩:=pl;exact⟨o,e,hd⟩
  ·refine⟨⟨o,I.kIn p o hk,hc⟩,fun a e=>?_⟩;cases e;exact⟨o,I.kIn _ o hk,hd⟩
  ·have z:∃o,s.heap.get? p=some o/\o.ExactDict:=by
    rcases hk with⟨kvs,hk⟩|⟨kvs,hk⟩
    ·obtain⟨_,_,_,_,o,_,_,e,ex,_⟩:=I.hok p _ hk;exact⟨o,e,ex⟩
    ·obtain⟨_,_,_,_,o,_,_,e,ex,_⟩:=I.hok p _ hk;exact⟨o,e,ex⟩
   obtain⟨o,e,ex⟩:=z;refine⟨⟨o,e,ex.1⟩,fun a e2=>?_⟩;cases e2;exact⟨o,e,ex.2.1⟩
  ·obtain⟨o,_,_,_,e,ex,_⟩:=I.hok p _ hk;refine⟨⟨o,e,ex.1⟩,fun a e2=>?_⟩;cases e2;exact⟨o,e,ex.2.1⟩
 |_=>exact False.elim ty
def tBM(K:PySem.W.Frag)(T:String)(r:V->List V->Hp->VK->Prop)(to:TE)(t:TA):TE:=fun σ H Q=>to σ H fun x H1=>tyV K T x H1/\t σ H1 fun xs H2=>r x xs H2 Q
variable {o e:Expr} {es:List Expr} {to:TE} {t:TA} {name:Str} {apos cpos:Pos} {T id:String} {r:V->List V->Hp->VK->Prop}
theorem Rr(pa:PlainAttrs T)(slot:Slot T name id)(hty:typeOf (.builtin id)=pure (.type "method_descriptor"))(hm:MtR X id r)(ho:PE X o to)(ha:PA X (e::es) t)
  (hbase:attributeBase o name X.env (eval o X.env)=eval o X.env:=by rfl)
  (hfew:((backTo cpos (starEach (e::es) X.env)).all (fun x=>!x.1)&&(backToKw cpos (keywordEach [] X.env)).all (fun x=>x.1.isSome)
   && decide ((e::es).length+([]:List Keyword).length+(if([]:List Keyword).isEmpty then 0 else 1)<30))=true:=by rfl)
  (hline:(apos.endLine==cpos.line)=true:=by rfl) (hs:starEach (e::es) X.env=(false,eval e X.env)::starEach es X.env:=by rfl) (hplain:(backTo cpos (starEach es X.env)).any (·.1)=false:=by rfl):
  PE X (.Call (.Attribute o name apos) (e::es) [] cpos) (tBM X.K T r to t):=by
 intro pins s σ H Q I h;refine wpAny_Call_method_late hbase hfew hline rfl (thn (ho pins s σ H _ I h) fun v s1 ⟨x,H1,I1,r1,ty,q1⟩=>?_);obtain⟨h1,h2⟩:=Ko I1 r1 ty;refine⟨T,id,pa,slot,hty,h1,h2,?_⟩;have hA:=ha cpos pins s1 σ H1 _ I1 q1;rw[hs]at hA⊢;refine Calls.callWith_builtin (by show(false||(backTo cpos (starEach es X.env)).any (·.1))=false;rw[hplain]<;>rfl) (Calls.evalArgs_plain ?_);exact thn hA fun us s2 ⟨vs,H2,I2,r2,q2⟩=>hm pins s2 σ H2 x vs v us Q I2 r1 r2 q2
end
def MtM(X:Cx)(id:String)(r:V->List V->Hp->VK->Prop):Prop:=
 ∀(pins:List (Addr×Obj)) (s:Shared) (σ:St) (H:Hp) (x:V) (xs:List V) (v:Value) (us:List Value) (Q:VK),Inv X pins σ H s->RelV x v->Vals xs us->r x xs H Q->
  wpAny (model X.prog X.w) X.A (call (.builtin id) (v::us)) (EP X pins σ Q) X.xe s
theorem Vals.one{x:V}{us:List Value}(h:Vals [x] us):∃u,us=[u]/\RelV x u:=by
 cases h with
 |cons r h=>cases h;exact⟨_,rfl,r⟩
theorem Vals.two{x y:V}{us:List Value}(h:Vals [x,y] us):∃u v,us=[u,v]/\RelV x u/\RelV y v:=by
 cases h with
 |cons r h=>
  obtain⟨v,rfl,q⟩:=Vals.one h;exact⟨_,_,rfl,r,q⟩
theorem Vals.rep{xs:List V}{us:List Value}(h:Vals xs us):∀k:Nat,Vals (List.replicate k xs).flatten (List.replicate k us).flatten
 |0=> .nil
 |k+1=>by
  rw[List.replicate_succ,List.replicate_succ,List.flatten_cons,List.flatten_cons];exact Vals.append h (Vals.rep h k)
theorem foldl_rep(its:List Value):∀(k:Nat) (acc:List Value),
  List.foldl (fun x1 x2=>x1++x2) acc.toArray (List.replicate k its.toArray)=(acc++(List.replicate k its).flatten).toArray
 |0,acc=>by simp
 |k+1,acc=>by
  have e:acc.toArray++its.toArray=(acc++its).toArray:=by simp
  have e2:(acc++its)++(List.replicate k its).flatten=acc++(List.replicate (k+1) its).flatten:=by
   rw[List.replicate_succ,List.flatten_cons,List.append_assoc]
  rw[<-e2,<-foldl_rep its k (acc++its),<-e,List.replicate_succ,List.foldl_cons]
section
variable {X:Cx} {pins:List (Addr×Obj)} {σ:St} {H:Hp} {s:Shared} {l b:Addr} {xs ys zs:List V}
theorem Inv.Z6{its its':List Value}{n:Nat}{f:Array Value->Array Value}{t':Nat}(I:Inv X pins σ H s)(hH:H l=some (.lst xs))
  (e:s.heap.get? l=some { cls:= .type "list",data:= .seq its.toArray n }) (hf:f its.toArray=its'.toArray) (hv:Vals ys its') (hz:ys.length<=sizeLine):
  Inv X pins σ (upd H l (.lst ys)) { s with heap:=s.heap.update l (Obj.mapSeq f),toks:=t' }:=by
 have q:=PySem.IsL.update e f;rw[hf]at q;refine I.write (x:=l) (e:=l) (by rw[hH];exact trivial) (.inl rfl) (fun b' u hb hu=>(Heap.get?_update_other s.heap (Obj.mapSeq f) (Ne.symm hb)).trans hu) ⟨_,q⟩ ?_;exact⟨hz,its',_,hv,q⟩
theorem Inv.SM{its:List Value}{t':Nat}(I:Inv X pins σ H s)(hv:Vals ys its)(hz:ys.length<=sizeLine):
  Inv X pins σ (upd H s.heap.objs.size (.lst ys)) { s with heap:=s.heap.push { cls:= .type "list",data:= .seq its.toArray },toks:=t' }:=
 I.laid (fun _ _ q=>Heap.get?_push_of_some _ q) (Nat.le_refl _) ⟨hz,its,0,hv,Heap.get?_push_size _ rfl⟩
theorem Inv.fresh(I:Inv X pins σ H s):H s.heap.objs.size=none:=I.hok.fresh (Nat.le_refl _)
theorem Inv.MV(I:Inv X pins σ H s)(hH:H l=some (.lst xs)):xs.length<=sizeLine/\∃(its:List Value) (n:Nat),Vals xs its/\xs.length=its.length/\s.heap.get? l=some { cls:= .type "list",data:= .seq its.toArray n }:=by
 obtain⟨z,its,n,r,e⟩:=I.hok l _ hH;exact⟨z,its,n,r,r.length,e⟩
theorem Fv{n:Nat}(h:n<=sizeLine):Builtin.List.listTooLong n=false:=by
 unfold Builtin.List.listTooLong;exact decide_eq_false (by omega)
end
section
variable {X:Cx}
inductive Z2(x:V)(vs:List V)(H:Hp)(Q:VK):Prop|mk (l:Addr) (xs:List V) (y:V) (hx:x = .ref l) (hv:vs=[y]) (hl:H l=some (.lst xs)) (hz:xs.length<sizeLine) (q:Q .non (upd H l (.lst (xs++[y]))))
def Cq:V->List V->Hp->VK->Prop:=fun x vs H Q=>Z2 x vs H Q
theorem vW:MtM X "list.append" Cq:=by
 intro pins s σ H x vs v us Q I rx rv h;obtain⟨l,xs,y,rfl,rfl,hH,hz,q⟩:=h;cases rx;obtain⟨u,rfl,ru⟩:=rv.one;obtain⟨z,its,n,r,hl,e⟩:=I.MV hH;refine call_meets F.slot_list_append ⟨_,e,rfl⟩ F.entry_list_append (F.args_list_append_2 _ _) (PySem.list_append l its.toArray n u (by rw[List.size_toArray];omega)) ⟨e,?_⟩;refine⟨.non,_,I.Z6 (its':=its++[u]) hH e (by simp) (r.append (.cons ru .nil)) ?_,rfl,q⟩;rw[List.length_append,List.length_singleton];omega
def ZP:R2:=fun x y H Q=>∃l b xs zs,x = .ref l/\y = .ref b/\H l=some (.lst xs)/\H b=some (.lst zs)/\xs.length+zs.length<=sizeLine/\∀p,H p=none->Q (.ref p) (upd H p (.lst (xs++zs)))
theorem J7:OpR X (binaryOp .Add) ZP:=by
 intro pins s σ H x y v u Q I rx ry h;obtain⟨l,b,xs,zs,rfl,rfl,hH,hB,hz,q⟩:=h;cases rx;cases ry;obtain⟨z,its,n,r,hl,e⟩:=I.MV hH;obtain⟨z2,its2,n2,r2,hl2,e2⟩:=I.MV hB;refine PySem.P.add_list e e2 ?_ (by rw[List.size_toArray,List.size_toArray];omega);have ea:its.toArray++its2.toArray=(its++its2).toArray:=by simp
 rw[ea];exact⟨.ref _,_,I.SM (t':=s.toks) (r.append r2) (by rw[List.length_append];omega),rfl,q _ I.fresh⟩
def aae:R2:=fun x y H Q=>∃l k xs,x = .ref l/\y = .int k/\H l=some (.lst xs)/\-(2^63)<=k/\k<2^63/\xs.length*k.toNat<=sizeLine/\
 ∀p,H p=none->Q (.ref p) (upd H p (.lst (List.replicate k.toNat xs).flatten))
theorem len_rep{α:Type}(xs:List α)(k:Nat):(List.replicate k xs).flatten.length=k*xs.length:=by
 induction k with
 |zero=>simp
 |succ k ih=>rw[List.replicate_succ,List.flatten_cons,List.length_append,ih,Nat.succ_mul,Nat.add_comm]
theorem Kv:OpR X (binaryOp .Mult) aae:=by
 intro pins s σ H x y v u Q I rx ry h;obtain⟨l,k,xs,rfl,rfl,hH,h1,h2,hz,q⟩:=h;cases rx;obtain⟨t,rfl⟩:=ry;obtain⟨z,its,n,r,hl,e⟩:=I.MV hH;have hlen:its.toArray.size*k.toNat<=sizeLine:=by rw[List.size_toArray,<-hl];exact hz
 have hcap:¬its.toArray.size*k.toNat>(2^63-1)/8:=by
  have:(sizeLine:Nat)<=(2^63-1)/8:=by decide
  omega
 have hfit:¬(!Builtin.List.listFitsIndex k)=true:=by
  rw[fitsIndex_both h1 h2];exact Bool.false_ne_true
 have hlong:¬Builtin.List.listTooLong (its.toArray.size*k.toNat)=true:=by
  rw[Fv hlen];exact Bool.false_ne_true
 have hnew:List.foldl (fun x1 x2=>x1++x2) #[] (List.replicate (if its.toArray.isEmpty=true then 0 else k.toNat) its.toArray)=(List.replicate k.toNat its).flatten.toArray:=by
  have f0:∀m:Nat,List.foldl (fun x1 x2=>x1++x2) #[] (List.replicate m its.toArray)=(List.replicate m its).flatten.toArray:=fun m=>by
   have:=foldl_rep its m [];rw[List.nil_append]at this;exact this
  rw[f0];cases its with
  |nil=>simp
  |cons a r'=>rw[if_neg (by simp)]
 refine wpAny_binaryOp_repeat_ref (T:= "list") (U:= "int") (by decide) ⟨_,e,rfl⟩ (fun s'=>typeIs_int s' k t) noFill_list_mul F.fills_int_mul F.slot_int_rmul repeat_list F.slot_int_index.lookup
  (call_meets F.slot_int_rmul (typeIs_int s k t) F.entry_int_rmul (F.args_int_rmul_2 _ _) (int___rmul___int_list k t l its.toArray n)
   ⟨e,rfl,⟨_,e,rfl⟩,call_meets F.slot_list_mul ⟨_,e,rfl⟩ F.entry_list_mul (F.args_list_mul_2 _ _) (AutoListH.list___mul___list_int_3 l its.toArray n k t hfit hcap hlong) ⟨e,?_⟩⟩)
 rw[hnew];exact⟨.ref _,_,I.SM (t':=s.toks) (r.rep k.toNat) (by rw[len_rep,Nat.mul_comm];exact hz),rfl,q _ I.fresh⟩
end
section
variable {prog:Program} {w:World} {A:Around} {E:Value->Shared->Prop} {s:Shared}
end
section
variable {X:Cx}
end
section
variable {κ:Type} [DecidableEq κ]
def Ep(kvs:List (κ×V))(k:κ):Option V:=(kvs.find? fun kv=>decide (kv.1=k)).map (·.2)
theorem Fp{p:κ×V}{r:List (κ×V)}{k:κ}(e:p.1=k):Ep (p::r) k=some p.2:=by simp[Ep,List.find?_cons,e]
theorem Fd{p:κ×V}{r:List (κ×V)}{k:κ}(e:¬p.1=k):Ep (p::r) k=Ep r k:=by simp[Ep,List.find?_cons,e]
theorem KV.val{kvs:List (κ×V)}{vs:List (κ×Value)}(r:KV kvs vs)(k:κ):Ef (Ep kvs k) (valueAt vs k):=by
 unfold KV at r;induction r with
 |nil=>exact True.intro
 |@cons p q ps qs h t ih=>
  obtain⟨h1,h2⟩:=h;by_cases e:p.1=k
  ·have e':q.1=k:=h1.symm.trans e;have b:valueAt (q::qs) k=some q.2:=by simp[valueAt,List.find?_cons,e']
   rw[Fp e,b];exact h2
  ·have e':¬q.1=k:=fun z=>e (h1.trans z);have b:valueAt (q::qs) k=valueAt qs k:=by simp[valueAt,List.find?_cons,e']
   rw[Fd e,b];exact ih
end
section
variable {P:Program} {w:World} {H:Hp} {h:Heap} {a:Addr}
end
section
variable {X:Cx} {pins:List (Addr×Obj)} {σ:St} {H:Hp} {s:Shared} {a:Addr} {y v:V} {u r:Value} {o:Option V} {A:Around} {E:Value->Shared->Prop}
end
section
variable {X:Cx} {pins:List (Addr×Obj)} {σ:St} {H:Hp} {s:Shared} {a:Addr} {kvs:List (Key×V)} {k:Key} {u:Value} {A:Around} {E:Value->Shared->Prop}
end
section
variable {X:Cx} {o i e value:Expr} {pos pos' tpos:Pos} {td ty tv:TE}
end
section
variable {X:Cx} {pos:Pos}
end
section
variable {X:Cx} {pins:List (Addr×Obj)} {σ:St} {H:Hp} {s:Shared} {a:Addr} {y d:V} {u r:Value} {o:Option V} {A:Around} {E:Value->Shared->Prop}
end
section
variable {X:Cx} {o e f:Expr} {apos cpos:Pos} {td ty tx:TE}
end
section
variable {X:Cx} {pins:List (Addr×Obj)} {σ:St} {H:Hp} {s:Shared} {a:Addr} {kvs:List (Key×V)} {A:Around} {E:Value->Shared->Prop}
end
section
variable {X:Cx} {pins:List (Addr×Obj)} {σ:St} {H:Hp} {s:Shared} {a:Addr} {y:V} {u:Value} {A:Around} {E:Value->Shared->Prop}
end
end L2
namespace Att
open PySem PySem.W PySem.Calls PyProof.Rows
theorem pU{P:Params}{h:Heap}:∀(ns:List Int) (vs:List Value),WellAll P h vs (ns.map WData.int)->IntsAre vs ns:=by
 intro ns;induction ns with
 |nil=>
  intro vs w;rw[List.map_nil]at w;cases w;exact .nil
 |cons n ns ih=>
  intro vs w;rw[List.map_cons]at w;cases w with
  |cons a b=>
   cases a;exact .cons _ _ (ih _ b)
theorem DV{l:OpenLaw}{n:Nat}(hn:l.most=some n){P:Params}{h:Heap}{args:List WData}{vals:List Value}
  (hpre:l.row.toRowW.claim.pre args=true) (hwl:WellAll P h vals args):
  ∃a vs ns,vals=[Value.ref a]/\args=[WData.list (ns.map WData.int)]/\h.get? a=some { cls:= .type "list",data:= .seq vs.toArray }/\IntsAre vs ns/\ns.length<=n:=by
 have hsh:WShape.hasAll [] args [.list .int]=true:=(pre_splitW hpre).1;have hc:l.pre.holds [] { args:=args }=true:=(pre_splitW hpre).2;obtain⟨d,r,rfl,h1,h2⟩:=hasAllW_cons hsh;obtain rfl:=hasAllW_nil h2;obtain⟨xs,rfl,h3⟩:=hasW_list h1;obtain⟨ns,rfl⟩:=items_int h3;have hlen:ns.length<=n:=by
  unfold OpenLaw.pre at hc;have h4:(WTm.not (.lt (.lit (.int (n:Int))) (.len (.arg 0)))).holds [] { args:=[.list (ns.map .int)] }=true:=by
   have h4:=(holds_andW hc).1;rw[hn]at h4;exact h4
  have h5:=condW_of h4 (w_not (w_lt w_lit (w_len_list (w_arg rfl))));rw[List.length_map]at h5;refine Nat.le_of_not_lt fun q=>?_;have q':(n:Int)<((ns.length:Nat):Int):=by omega
  first
   |(rw[decide_eq_true q']at h5;exact absurd h5 (by decide))
   |(simp at h5;omega)
 cases hwl with
 |cons w1 w2=>
  cases w2;cases w1 with
  |list ho hall=>exact⟨_,_,ns,rfl,rfl,ho,pU ns _ hall,hlen⟩
theorem Df(l:OpenLaw)(args:List WData):l.row.toRowW.claim.post args (.bool true) args=true:=
 postW_of (r:=l.row.toRowW) (X:=(true==true))
  (show WShape.has [] (.bool true) .bool=true by first|rfl|decide|simp[WShape.has,WShape.arms,WShape.armsAll])
  (show(WTm.eq .res (.lit (.bool true))).value [] { args:=args,res:=some (.bool true),after:=args }=some (.bool (true==true))from w_eq_bool (w_res rfl) w_lit) rfl
section
variable {prog:Program} {w:World} {A:Around} {E:Value->Shared->Prop} {s:Shared} {K:Frag}
end
end Att
namespace L2
open PySem PySem.Spec PyProof.Rows
theorem C5{vs:List Value}{ns:List Int}(h:IntsAre vs ns):Vals (ns.map V.int) vs:=by
 induction h with
 |nil=>exact .nil
 |cons n t h ih=>exact .cons ⟨t,rfl⟩ ih
def aG(s:Stmt):Arguments:=match s with
 |.FunctionDef _ a _ _ _ _ _ _ _ _=>a
 |_=>{ posonlyargs:=[],args:=[],vararg:=none,kwonlyargs:=[],kw_defaults:=[],kwarg:=none,defaults:=[] }
def aD(s:Stmt):List Stmt:=match s with
 |.FunctionDef _ _ b _ _ _ _ _ _ _=>b
 |_=>[]
def aj(s:Stmt):Scope:=match s with
 |.FunctionDef _ _ _ _ _ _ sc _ _ _=>sc
 |_=>{ kind:= .function,names:=[],isGenerator:=false,isCoroutine:=false }
abbrev E0:XK:=fun _ _ _=>False
structure Fun(K:PySem.W.Frag)(x qual:Str)(st:Stmt)(f:Addr)(fd:FuncData):Prop where
 ex:∃(oc:Value) (od:Option Addr) (kV doc pm:Value) (an:Option Addr) (cdv ct:Value) (osl:Array (Option Value)),
  fd=PySem.W.fnOf x qual (aG st) (aD st) (aj st) .none kV doc pm an cdv ct/\K.lookup f=some ⟨oc,od,.func fd,osl⟩/\PySem.W.codeIn K cdv qual=true
 kp:PySem.W.keepIn K (.ref f)=true
section
variable {P:Program} {w:World} {K:PySem.W.Frag} {mg:Str->Option Value} {base:Heap}
theorem Fun.binds{x qual:Str}{st:Stmt}{f:Addr}{fd:FuncData}{ps:List Str}(F:Fun K x qual st f fd)
  (h:∀(kV doc pm:Value) (an:Option Addr) (cdv ct:Value) (us:List Value),us.length=ps.length->bindArgs (PySem.W.fnOf x qual (aG st) (aD st) (aj st) .none kV doc pm an cdv ct) ⟨us,[]⟩=pure (ps.zip us)):Binds K fd ps []:=by
 obtain⟨oc,od,kV,doc,pm,an,cdv,ct,osl,rfl,lk,hcd⟩:=F.ex;exact .all (h kV doc pm an cdv ct)
theorem Gw{x qual:Str}{st:Stmt}{f:Addr}{oc:Value}{od an:Option Addr}{osl:Array (Option Value)}{kV doc pm cdv ct:Value}(l:K.lookup f=some ⟨oc,od,.func (PySem.W.fnOf x qual (aG st) (aD st) (aj st) .none kV doc pm an cdv ct),osl⟩)
  (c:PySem.W.codeIn K cdv qual=true) (k:PySem.W.keepIn K (.ref f)=true):Fun K x qual st f (PySem.W.fnOf x qual (aG st) (aD st) (aj st) .none kV doc pm an cdv ct):=⟨⟨oc,od,kV,doc,pm,an,cdv,ct,osl,rfl,l,c⟩,k⟩
end
theorem bQ{n:Nat}(h:n<=1000):n<sizeLine:=Nat.lt_of_le_of_lt h (by decide)
section
variable {X:Cx}
theorem pv(i:Nat){x:Str}{pos:Pos}(hN:X.N[i]?=some x:=by rfl)(hv:Vis X.env.scope x:=by first|exact Or.inl rfl|exact Or.inr (Or.inl rfl)|exact Or.inr (Or.inr rfl))(hd:(x==("__debug__" : Str))=false:=by decide)
  (hcd:(x==("__classdict__" : Str))=false:=by decide):PE X (.Name x pos) (YS i):=GF hN hv hd hcd
end
theorem zy{A B:Prop}(h:B):if false=true then A else B:=by
 rw[if_neg Bool.false_ne_true];exact h
theorem YJ{A B:Prop}(h:A):if true=true then A else B:=by
 rw[if_pos rfl];exact h
theorem lX{c A B:Prop}[Decidable c](h1:c->A)(h2:¬c->B):if c then A else B:=by
 by_cases h:c
 ·rw[if_pos h];exact h1 h
 ·rw[if_neg h];exact h2 h
def Same(H H':Hp):Prop:=∀b o,H b=some o->H' b=some o
theorem Same.refl(H:Hp):Same H H:=fun _ _ h=>h
theorem Same.trans{H H1 H2:Hp}(a:Same H H1)(b:Same H1 H2):Same H H2:=fun c o h=>b c o (a c o h)
theorem Same.free{H H':Hp}(e:Same H H'){l:Addr}(h:H' l=Option.none):H l=Option.none:=by
 cases q:H l with
 |none=>rfl
 |some o=>
  rw[e l o q]at h;cases h
theorem Same.seq{K:PySem.W.Frag}{H H':Hp}{a:Addr}{xs:List V}(e:Same H H')(h:SqL K H a xs):SqL K H' a xs:=by
 rcases h with(h|⟨o,h⟩)|h
 ·exact .inl (.inl (e _ _ h))
 ·exact .inl (.inr ⟨o,e _ _ h⟩)
 ·exact .inr h
section
variable {κ:Type} [DecidableEq κ]
end
theorem us0{us:List Value}(h:us.length=0):us=[]:=List.eq_nil_of_length_eq_zero h
theorem usS{us:List Value}{n:Nat}(h:us.length=n+1):∃a r,us=a::r/\r.length=n:=by
 cases us with
 |nil=>cases h
 |cons a r=>exact⟨a,r,rfl,Nat.succ.inj h⟩
theorem us1{us:List Value}(h:us.length=1):∃a,us=[a]:=by
 obtain⟨a,r,rfl,k⟩:=usS h;obtain rfl:=us0 k;exact⟨a,rfl⟩
theorem us2{us:List Value}(h:us.length=2):∃a b,us=[a,b]:=by
 obtain⟨a,r,rfl,k⟩:=usS h;obtain⟨b,rfl⟩:=us1 k;exact⟨a,b,rfl⟩
theorem us3{us:List Value}(h:us.length=3):∃a b c,us=[a,b,c]:=by
 obtain⟨a,r,rfl,k⟩:=usS h;obtain⟨b,c,rfl⟩:=us2 k;exact⟨a,b,c,rfl⟩
theorem us4{us:List Value}(h:us.length=4):∃a b c d,us=[a,b,c,d]:=by
 obtain⟨a,r,rfl,k⟩:=usS h;obtain⟨b,c,d,rfl⟩:=us3 k;exact⟨a,b,c,d,rfl⟩
structure jC(P:Program)(w:World)(outer:List Env)(H:Hp)(s:Shared)(E:XK)(e:Value)(s':Shared):Prop where
 ex:∃(ea C:Addr) (a0:Value) (B:Heap) (H':Hp),e = .ref ea/\s'.os=s.os/\AllBare s'.gens/\Heap.FlyingW B outer ea (.ref C) a0 s'.heap/\HOk P w H' B/\Un (frs outer) [] H H' s.heap s'.heap/\
  (∀b o,s.heap.get? b=some o->b∈frs outer∨∃o',B.get? b=some o')/\E (.ref C) none H'
theorem m8{P:Program}{w:World}{outer:List Env}{H:Hp}{s s':Shared}{e:Value}(h:jC P w outer H s E0 e s'):False:=by
 obtain⟨_,_,_,_,_,_,_,_,_,_,_,_,q⟩:=h.ex;exact q
theorem GC{X:Cx}:Passes (jC X.prog X.w) X E0:=fun _ _ _ _ _ _ _ h=>(m8 h).elim
section
variable {X:Cx} {pins:List (Addr×Obj)} {σ:St} {H:Hp} {s:Shared}
theorem Inv.yZ(I:Inv X pins σ H s){b:Addr}{o:Obj}(e:X.s₀.heap.get? b=some o)(hb:b∉X.fs):b∉frs X.stack:=fun z=>by
 rcases List.mem_cons.mp (I.yC b z)with q|q
 ·exact absurd (Nat.lt_of_lt_of_le (Heap.lt_size e) I.ok.above) (by rw[<-q];exact Nat.lt_irrefl _)
 ·exact hb q
theorem sO(I:Inv X pins σ H s){b:Addr}{o:Obj}(e:s.heap.get? b=some o)(hb:b∉frs X.stack):(PySem.W.hideAll s.heap (frs X.stack)).get? b=some o:=PySem.W.hideAll_get _ e hb
theorem Inv.K9(I:Inv X pins σ H s):HOk X.prog X.w H (PySem.W.hideAll s.heap (frs X.stack)):=fun b o e=>
 (I.hok b o e).stay (fun c u hc q=>sO I q fun z=>by
  have n:=I.wk c z;rcases hc with rfl|hc
  ·rw[n]at e;cases e
  ·rw[n]at hc;cases hc) (fun _ q=>q) fun _ _ q=>q
theorem Inv.PN(I:Inv X pins σ H s)(hex:X.ex=[]){H':Hp}{h':Heap}(keep:∀b o,s.heap.get? b=some o->H b=none->b∉frs X.stack->h'.get? b=some o)
  (slot:∀b o,s.heap.get? b=some o->H b=none->b∈X.fs->∃sl,h'.get? b=some { o with slots:=sl }) (free:∀b o,s.heap.get? b=some o->H b=none->H' b=none) (there:∀b o,s.heap.get? b=some o->∃o',h'.get? b=some o')
  (tups:∀b xs,H b=some (.tup xs)->H' b=some (.tup xs)) (frzs:∀b o u,H b=some (.frz o u)->H' b=some (.frz o u)) (tbls:∀b ps,H b=some (.tbl ps)->∃more,H' b=some (.tbl (ps++more))):
  Un (frs X.outer) [] X.H₀ H' X.s₀.heap h':=by
 have nx:∀b:Addr,b∉X.ex:=fun b=>by rw[hex];simp
 refine⟨fun b o e n hb _=>?_,fun b o e n hb _=>?_,fun b o e n _=>?_,fun b o e _=>?_,fun b xs e=>tups b xs (I.base.tups b xs e),fun b o u e=>frzs b o u (I.base.frzs b o u e),fun b ps e=>?_⟩
 ·exact keep b o (I.base.keep b o e n hb (nx b)) (I.base.free b o e n (nx b)) (I.yZ e hb)
 ·obtain⟨sl,e1⟩:=I.base.slot b o e n hb (nx b);obtain⟨sl',e2⟩:=slot b _ e1 (I.base.free b o e n (nx b)) hb;exact⟨sl',e2⟩
 ·obtain⟨o',e1⟩:=I.base.there b o e (nx b);exact free b o' e1 (I.base.free b o e n (nx b))
 ·obtain⟨o',e1⟩:=I.base.there b o e (nx b);exact there b o' e1
 ·obtain⟨m1,e1⟩:=I.base.tbls b ps e;obtain⟨m2,e2⟩:=tbls b _ e1;exact⟨m1++m2,by rw[e2,Array.append_assoc]⟩
end
abbrev cxF(P:Program)(w:World)(K:PySem.W.Frag)(mg:Str->Option Value)(base:Heap)(N:List Str)(qual:Str)(scope:Scope)(f:Addr)(cdv:Value)(A:Around)(outer:List Env)(s:Shared)(H:Hp)(E:XK):Cx:=
 Fg (jC P w) P w K mg base N qual scope f cdv A outer s H E
section
variable {P:Program} {w:World} {K:PySem.W.Frag} {mg:Str->Option Value} {base:Heap} {N:List Str} {qual:Str} {scope:Scope} {f:Addr} {cdv:Value} {A:Around} {outer:List Env} {s₀:Shared} {H₀:Hp} {E:XK}
theorem wL{pins:List (Addr×Obj)}{σ:St}{H:Hp}{s:Shared}{h1:Heap}{e C:Addr}{vs:List Value}(I:Inv (cxF P w K mg base N qual scope f cdv A outer s₀ H₀ E) pins σ H s)(hx:Heap.MadeExcOf s.heap h1 e (.ref C) vs)(q:E (.ref C) none H):
  (cxF P w K mg base N qual scope f cdv A outer s₀ H₀ E).xe (.ref e) { s with heap:=h1 }:=by
 have hin:∀env∈envOfC qual scope s₀.heap.objs.size f cdv::outer,∀a,env.frame=some a->a∈frs (envOfC qual scope s₀.heap.objs.size f cdv::outer):=fun env he a ha=>List.mem_filterMap.mpr ⟨env,he,ha⟩;refine wpAny_leaves_madeW (base:=PySem.W.hideAll s.heap (frs (envOfC qual scope s₀.heap.objs.size f cdv::outer))) (h:=s.heap) (L:=s₀.heap.objs.size) I.ok.frames rfl (fun b o q=>PySem.W.of_hideAll _ q) (PySem.W.funFrames_hide I.stack hin) hx fun h' t x1 x2 x3 x4=>?_;have up:∀b o,s.heap.get? b=some o->b∈frs (envOfC qual scope s₀.heap.objs.size f cdv::outer)->∃sl,h'.get? b=some { o with slots:=sl }:=fun b o e hb=>by
  obtain⟨_,o',ho',hd⟩:=I.stack.mem hb;rw[e]at ho';cases ho';exact x4 b o (hx.keeps b o e) hd
 refine⟨e,C,.ref t,_,H,rfl,I.os,I.bare,x1,I.K9,I.PN rfl (fun b o e _ hb=>x1.1 b o (sO I e hb)) (fun b o e _ hb=>up b o e (List.mem_cons_of_mem _ hb)) (fun _ _ _ n=>n) (fun b o e=>?_) (fun _ _ z=>z) (fun _ _ _ z=>z) (fun b ps z=>⟨#[],by rw[z];simp⟩),fun b o e=>?_,q⟩
 ·by_cases hb:b∈frs (envOfC qual scope s₀.heap.objs.size f cdv::outer)
  ·obtain⟨sl,z⟩:=up b o e hb;exact⟨_,z⟩
  ·exact⟨o,x1.1 b o (sO I e hb)⟩
 ·by_cases hb:b∈frs outer
  ·exact .inl hb
  ·obtain⟨o',e1⟩:=I.base.there b o e (by intro z;cases z);exact .inr ⟨o',sO I e1 (I.yZ e hb)⟩
theorem Jv:Passes (jC P w) (cxF P w K mg base N qual scope f cdv A outer s₀ H₀ E) E:=by
 intro pins σ H s e s' I h;obtain⟨ea,C,a0,B,H',rfl,os,bare,fl,hok,un,old,q⟩:=h.ex;refine wpAny_leaves_onW (L:=s₀.heap.objs.size) I.ok.frames rfl fl fun h' x1 x2=>?_;have inB:∀b o,s.heap.get? b=some o->b∉frs (envOfC qual scope s₀.heap.objs.size f cdv::outer)->∃o',B.get? b=some o'/\s'.heap.get? b=some o':=fun b o e hb=>by
  rcases old b o e with z|⟨o',z⟩
  ·exact absurd z hb
  ·exact⟨o',z,fl.1 b o' z⟩
 have up:∀b o,s'.heap.get? b=some o->b∈frs (envOfC qual scope s₀.heap.objs.size f cdv::outer)->∃sl,h'.get? b=some { o with slots:=sl }:=fun b o e hb=>by
  obtain⟨_,o',ho',hd⟩:=fl.2.2.1.mem hb;rw[e]at ho';cases ho';exact x2 b o e hd
 refine⟨ea,C,a0,B,H',rfl,os.trans I.os,bare,x1,hok,I.PN rfl (fun b o e n hb=>?_) (fun b o e n hb=>?_) (fun b o e n=>un.free b o e n (by simp)) (fun b o e=>?_) un.tups un.frzs un.tbls,fun b o e=>?_,q⟩
 ·obtain⟨o',e1,e2⟩:=inB b o e hb;have e3:=un.keep b o e n hb (by simp);rw[e2]at e3;cases e3;exact x1.1 b _ e1
 ·obtain⟨sl,e1⟩:=un.slot b o e n (List.mem_cons_of_mem _ hb) (by simp);obtain⟨sl',e2⟩:=up b _ e1 (List.mem_cons_of_mem _ hb);exact⟨sl',e2⟩
 ·by_cases hb:b∈frs (envOfC qual scope s₀.heap.objs.size f cdv::outer)
  ·obtain⟨o',e1⟩:=un.there b o e (by simp);obtain⟨sl,e2⟩:=up b o' e1 hb;exact⟨_,e2⟩
  ·obtain⟨o',e1,_⟩:=inB b o e hb;exact⟨o',x1.1 b o' e1⟩
 ·by_cases hb:b∈frs outer
  ·exact .inl hb
  ·obtain⟨o',e1⟩:=I.base.there b o e (by intro z;cases z);obtain⟨o2,e2,_⟩:=inB b o' e1 (I.yZ e hb);exact .inr ⟨o2,e2⟩
end
def JY(C:Addr)(E:XK)(t:TA):TS:=fun _ σ H=>t σ H fun vs H1=>vs.length<=sizeLine/\E (.ref C) none H1
structure ExC(mg:Str->Option Value)(base:Heap)(x:Str)(C:Addr):Prop where
 ex:∃bm newId,OwnCls x C bm newId mg base/\∃(Bn inN:String) (bmN:List Value) (B nid initId:String),ExcBaseFacts Bn newId inN bmN/\bm.contains (.type Bn)=true/\ExcBaseFacts B nid initId bm
theorem yX{P:Program}{w:World}{K:PySem.W.Frag}{mg:Str->Option Value}{base:Heap}{N:List Str}{qual:Str}{scope:Scope}{f:Addr}{cdv:Value}{A:Around}{outer:List Env}{s₀:Shared}{H₀:Hp}{E:XK}
  {x:Str} {C:Addr} {np cpos pos:Pos} {e:Expr} {es:List Expr} {t:TA} (O:ExC mg base x C) (hg:Gl (cxF P w K mg base N qual scope f cdv A outer s₀ H₀ E) x) (ha:PA (cxF P w K mg base N qual scope f cdv A outer s₀ H₀ E) (e::es) t)
  (hdb:(x==("__debug__" : Str))=false:=by decide)
  (he:starEach (e::es) (cxF P w K mg base N qual scope f cdv A outer s₀ H₀ E).env=(false,eval e (cxF P w K mg base N qual scope f cdv A outer s₀ H₀ E).env)::starEach es (cxF P w K mg base N qual scope f cdv A outer s₀ H₀ E).env:=by rfl)
  (hpl:(backTo cpos (starEach es (cxF P w K mg base N qual scope f cdv A outer s₀ H₀ E).env)).any (·.1)=false:=by rfl):
  PS (cxF P w K mg base N qual scope f cdv A outer s₀ H₀ E) (.Raise (some (.Call (.Name x np) (e::es) [] cpos)) none pos) (JY C E t):=by
 intro pins s σ H D I h;obtain⟨bm,newId,O,Bn,inN,bmN,B,nid,initId,Fn,hBn,FB⟩:=O.ex;obtain⟨tl,Nn,nm,q,bs,hdct,sn,sub,ab,col,dd,k0,k1,k2,k3,k5,mN,hC,hN,hni,T⟩:=O.obj;refine wpAny_Raise_call_subU (C:=C) (nm:=nm) (q:=q) (N:=Nn) (bs:=bs) (bm:=tl) (hdct:=hdct) (sn:=sn) (sub:=sub) (ab:=ab) (col:=col) (dd:=dd) (k0:=k0) (k1:=k1) (k2:=k2) (k3:=k3) (k5:=k5)
  Fn hBn FB (mN:=mN) (T.hasType FB.hasBase) (I.ok.hd rfl) (by rw[he];show(false||(backTo cpos (starEach es (cxF P w K mg base N qual scope f cdv A outer s₀ H₀ E).env)).any (·.1))=false;rw[hpl];rfl) hni (qI I hg O.bound ⟨rfl,?_⟩ hdb)
 have h2:=ha cpos pins s σ H _ I h;rw[he]at h2⊢;refine Calls.evalArgs_plain (wpAny_mono h2 (fun us s2 ⟨vs,H2,I2,r,z,q⟩=>⟨rfl,by rw[<-r.length];exact z,I2.bk _ _ hC,hN.keeps I2.bk,T.keeps I2.bk,fun h' e hm=>wL I2 hm q⟩) fun _ _ y=>y)
theorem Fun.okF{P:Program}{w:World}{K:PySem.W.Frag}{mg:Str->Option Value}{base:Heap}{x qual:Str}{st:Stmt}{f:Addr}{fd:FuncData}{N ps:List Str}{k:Nat}{sp:Sp}(F:Fun K x qual st f fd)(S:aY N ps (aj st))(len:∀vs H Q E,sp vs H Q E->vs.length=ps.length)
  (hbody:∀(cdv:Value) (A:Around) (outer:List Env) (s:Shared) (H:Hp) (vs:List V) (Q:VK) (E:XK),iG k (A.deeper (envOfC qual (aj st) s.heap.objs.size f cdv))->sp vs H Q E->
   ∃t,PSs (cxF P w K mg base N qual (aj st) f cdv A outer s H E) (aD st) t/\t { nx:=fun _ H'=>Q .non H',rt:=Q } (start N vs) H):CP P w K mg base (jC P w) (k+1) f fd ps sp:=by
 obtain⟨oc,od,kV,doc,pm,an,cdv,ct,osl,rfl,lk,hcd⟩:=F.ex;exact Kg lk hcd S len fun A outer s H vs Q E hr hsp=>hbody cdv A outer s H vs Q E hr hsp
theorem Fun.okN{P:Program}{w:World}{K:PySem.W.Frag}{mg:Str->Option Value}{base:Heap}{x qual:Str}{st:Stmt}{f:Addr}{fd:FuncData}{N ps:List Str}{k:Nat}{sp:Sp}(F:Fun K x qual st f fd)(S:aY N ps (aj st))(len:∀vs H Q E,sp vs H Q E->vs.length=ps.length)
  (hbody:∀(cdv:Value) (A:Around) (outer:List Env) (s:Shared) (H:Hp) (vs:List V) (Q:VK) (E:XK),iG k (A.deeper (envOfC qual (aj st) s.heap.objs.size f cdv))->sp vs H Q E->
   ∃t,PSs (cxF P w K mg base N qual (aj st) f cdv A outer s H E).nox (aD st) t/\t { nx:=fun _ H'=>Q .non H',rt:=Q } (start N vs) H):CP P w K mg base (jC P w) (k+1) f fd ps sp:=
 F.okF S len fun cdv A outer s H vs Q E hr h=>let⟨t,a,b⟩:=hbody cdv A outer s H vs Q E hr h;⟨t,a.nox,b⟩
section
variable {X:Cx}
theorem OpR.imp{f:Value->Value->Sem Value}{r r':R2}(h:OpR X f r)(i:∀x y H Q,r' x y H Q->r x y H Q):OpR X f r':=fun pins s σ H x y v u Q I rx ry q=>h pins s σ H x y v u Q I rx ry (i _ _ _ _ q)
theorem IxR.imp{r r':R2}(h:IxR X r)(i:∀x y H Q,r' x y H Q->r x y H Q):IxR X r':=fun value slice pins s σ H x y v u Q I rx ry q hs=>h value slice pins s σ H x y v u Q I rx ry (i _ _ _ _ q) hs
theorem zf{x:Str}{i:Int}{pos:Pos}(hg:Gl X x)(hm:∃t,X.mg x=some (.int i t))(hd:(x==("__debug__" : Str))=false:=by decide):PE X (.Name x pos) (tC (.int i)):=by
 obtain⟨t,e⟩:=hm;exact xR hg e ⟨t,rfl⟩ hd
theorem MJ{x:Str}{n:String}{pos:Pos}(hg:Gl X x)(hm:X.mg x=none)(hv:bootBuiltins x=some (.type n))(hn:x≠ "__name__" := by decide)(hd:(x==("__debug__" : Str))=false:=by decide):PE X (.Name x pos) (tC (.ty n)):=
 Hr hg hm hv (v:= .ty n) rfl hn hd
structure Cal(P:Program)(w:World)(K:PySem.W.Frag)(mg:Str->Option Value)(base:Heap)(x:Str)(k:Nat)(ps:List Str)(sp:Sp):Prop where
 ex:∃(g:Addr) (gd:FuncData),mg x=some (.ref g)/\PySem.W.keepIn K (.ref g)=true/\Binds K gd ps []/\CP P w K mg base (jC P w) k g gd ps sp
theorem aC{x:Str}{k k':Nat}{ps:List Str}{sp:Sp}{p pos:Pos}{e:Expr}{es:List Expr}{t:TA}(C:Cal X.prog X.w X.K X.mg X.base x k ps sp)(hr:iG k' X.A)(hg:Gl X x)(ha:PA X (e::es) t)
  (hk:k<=k':=by decide) (hd:(x==("__debug__" : Str))=false:=by decide)
  (he:starEach (e::es) X.env=(false,eval e X.env)::starEach es X.env:=by rfl) (hpl:(backTo pos (starEach es X.env)).any (·.1)=false:=by rfl):PE X (.Call (.Name x p) (e::es) [] pos) (FJ sp [] E0 t):=by
 obtain⟨g,gd,hm,hkp,hb,F⟩:=C.ex;exact wU F (hr.mono hk) hg hm hkp hb .nil GC ha hd he hpl
theorem jj{P:Program}{w:World}{K:PySem.W.Frag}{mg:Str->Option Value}{base:Heap}{N:List Str}{qual:Str}{scope:Scope}{f:Addr}{cdv:Value}{A:Around}{outer:List Env}{s₀:Shared}{H₀:Hp}{E:XK}
  {x:Str} {k k':Nat} {ps:List Str} {sp:Sp} {p pos:Pos} {e:Expr} {es:List Expr} {t:TA} (C:Cal P w K mg base x k ps sp) (hr:iG k' (cxF P w K mg base N qual scope f cdv A outer s₀ H₀ E).A) (hg:Gl (cxF P w K mg base N qual scope f cdv A outer s₀ H₀ E) x)
  (ha:PA (cxF P w K mg base N qual scope f cdv A outer s₀ H₀ E) (e::es) t) (hk:k<=k':=by decide) (hd:(x==("__debug__" : Str))=false:=by decide)
  (he:starEach (e::es) (cxF P w K mg base N qual scope f cdv A outer s₀ H₀ E).env=(false,eval e (cxF P w K mg base N qual scope f cdv A outer s₀ H₀ E).env)::starEach es (cxF P w K mg base N qual scope f cdv A outer s₀ H₀ E).env:=by rfl)
  (hpl:(backTo pos (starEach es (cxF P w K mg base N qual scope f cdv A outer s₀ H₀ E).env)).any (·.1)=false:=by rfl):
  PE (cxF P w K mg base N qual scope f cdv A outer s₀ H₀ E) (.Call (.Name x p) (e::es) [] pos) (FJ sp [] E t):=by
 obtain⟨g,gd,hm,hkp,hb,F⟩:=C.ex;exact wU (X:=cxF P w K mg base N qual scope f cdv A outer s₀ H₀ E) F (hr.mono hk) hg hm hkp hb .nil Jv ha hd he hpl
theorem EG{prog:Program}{w:World}{A:Around}{E:Value->Shared->Prop}{s:Shared}{t b:Addr}{vs ws:List Value}{Q:Value->Shared->Prop}(ht:IsTup s.heap t vs.toArray)(hb:IsTup s.heap b ws.toArray)(hv:vs=[])
  (h1:Q (.ref b) s):wpAny (model prog w) A (binaryOp .Add (.ref t) (.ref b)) Q E s:=by
 obtain⟨⟨cls,dd,data,sl⟩,ho,hc,n,hd⟩:=id ht;obtain⟨⟨cls2,dd2,data2,sl2⟩,ho2,hc2,n2,hd2⟩:=id hb;simp only at hc hd hc2 hd2;subst hc hd hc2 hd2;exact concat_meets ⟨_,ho,rfl⟩ ⟨_,ho2,rfl⟩ noFill_tuple_add seq_tuple_add PySem.F.slot_tuple_add PySem.F.entry_tuple_add (PySem.F.args_tuple_add_2 _ _)
   (tuple_addW0 t b vs.toArray ws.toArray n n2 dd dd2 sl sl2 (by simp[hv])) ⟨ho,ho2,h1⟩
def QT(K:PySem.W.Frag):R2:=fun x y H Q=>∃a b ys,x = .ref a/\y = .ref b/\SqT K H a []/\SqT K H b ys/\Q (.ref b) H
theorem Iv:OpR X (binaryOp .Add) (QT X.K):=by
 intro pins s σ H x y v u Q I rx ry h;obtain⟨a,b,ys,rfl,rfl,ha,hb,q⟩:=h;cases rx;cases ry;obtain⟨its,r1,p1,_⟩:=I.tuple ha;obtain⟨its2,r2,p2,_⟩:=I.tuple hb;exact EG p1 p2 (r1.uE.mpr rfl) ⟨.ref b,H,I,rfl,q⟩
def DY(K:PySem.W.Frag):R2:=fun x y H Q=>match x,y with
 |.int i,.int j=>Q (.int (i+j)) H
 |.str i,.str j=>i.length+j.length<=sizeLine/\Q (.str (i++j)) H
 |.ref a,.ref b=>(∃xs ys,H a=some (.lst xs)/\H b=some (.lst ys)/\xs.length+ys.length<=sizeLine/\∀p,H p=none->Q (.ref p) (upd H p (.lst (xs++ys))))∨
   (∃xs ys,SqT K H a xs/\SqT K H b ys/\xs.length+ys.length<=sizeLine/\(xs=[]->Q (.ref b) H)/\(xs≠[]->ys=[]->Q (.ref a) H)/\(xs≠[]->ys≠[]->∀p,H p=none->Q (.ref p) (upd H p (.tup (xs++ys)))))
 |_,_=>False
theorem v_add:OpR X (binaryOp .Add) (DY X.K):=by
 refine((Lx.or Ad).or (J7.or (Jk.or Iv))).imp fun x y H Q h=>?_;unfold DY at h;split at h
 ·exact .inl (.inl ⟨_,_,rfl,rfl,h⟩)
 ·exact .inl (.inr ⟨_,_,rfl,rfl,h⟩)
 ·rcases h with⟨xs,ys,h1,h2,h3,h4⟩|⟨xs,ys,h1,h2,h3,h4,h5,h6⟩
  ·exact .inr (.inl ⟨_,_,xs,ys,rfl,rfl,h1,h2,h3,h4⟩)
  ·by_cases hx:xs=[]
   ·subst hx;exact .inr (.inr (.inr ⟨_,_,ys,rfl,rfl,h1,h2,h4 rfl⟩))
   ·exact .inr (.inr (.inl ⟨_,_,xs,ys,rfl,rfl,h1,h2,hx,h3,h5 hx,h6 hx⟩))
 ·exact h.elim
def K1:R2:=fun x y H Q=>match x,y with
 |.int i,.int j=>IntMulOk i j/\Q (.int (i*j)) H
 |.ref l,.int k=>∃xs,H l=some (.lst xs)/\-(2^63)<=k/\k<2^63/\xs.length*k.toNat<=sizeLine/\∀p,H p=none->Q (.ref p) (upd H p (.lst (List.replicate k.toNat xs).flatten))
 |_,_=>False
theorem Io:OpR X (binaryOp .Mult) (rI IntMulOk fun i j=> .int (i*j)):=opI fun _ _ _ _ _ _ _ hc q=>mul_int q hc
theorem v_mul:OpR X (binaryOp .Mult) K1:=by
 refine(Io.or Kv).imp fun x y H Q h=>?_;unfold K1 at h;split at h
 ·exact .inl ⟨_,_,rfl,rfl,h.1,h.2⟩
 ·obtain⟨xs,h1,h2,h3,h4,h5⟩:=h;exact .inr ⟨_,_,xs,rfl,rfl,h1,h2,h3,h4,h5⟩
 ·exact h.elim
inductive SIx(K:PySem.W.Frag)(p:Addr)(i:Int)(H:Hp)(Q:VK):Prop|mk (xs:List V) (v:V) (hs:SqL K H p xs∨SqT K H p xs) (ha:atI xs i=some v) (q:Q v H)
def Vy(K:PySem.W.Frag):R2:=fun x y H Q=>match x,y with
 |.ref p,.int i=>SIx K p i H Q
 |.str z,.int i=>∃c,z.length<=sizeLine/\atI z.cps.toList i=some c/\Q (.str ⟨#[c]⟩) H
 |_,_=>False
theorem ZY:IxR X (Vy X.K):=by
 refine Ls.imp fun x y H Q h=>?_;unfold Vy at h;split at h
 ·obtain⟨xs,v,h1|h1,h2,h3⟩:=h
  ·exact .inl ⟨_,xs,_,v,rfl,rfl,h1,h2,h3⟩
  ·exact .inr (.inl ⟨_,xs,_,v,rfl,rfl,h1,h2,h3⟩)
 ·obtain⟨c,h1,h2,h3⟩:=h;exact .inr (.inr ⟨_,_,c,rfl,rfl,h1,h2,h3⟩)
 ·exact h.elim
def aaj(H:Hp):V->Option String
 |.non=>some "NoneType"
 |.bl _=>some "bool"
 |.int _=>some "int"
 |.str _=>some "str"
 |.ref a=>match H a with
  |some (.lst _)=>some "list"
  |some (.frz _ (.lst _))=>some "list"
  |some (.tup _)=>some "tuple"
  |some (.dK _)=>some "dict"
  |_=>none
 |_=>none
theorem v_sum(hc:X.calm=true):lU X (.builtin "sum") (fun xs H Q=>∃(l:Addr) (ns:List Int),xs=[.ref l]/\SqL X.K H l (ns.map V.int)/\Q (.int ns.sum) H):=by
 intro pins s σ H xs us Q I r h;obtain⟨l,ns,rfl,hl,q⟩:=h;obtain⟨u,rfl,ru⟩:=r.one;cases ru;obtain⟨its,rv,pl,hz⟩:=I.list hl;have hi:=intsAre_of rv;obtain⟨xs,hx⟩:=hi.allInts.items;have hl':s.heap.IsList l (intItems xs):=hx▸pl.isList;refine sum_intListG (I.ok.hd hc) hl' fun h' tk t' hk=>?_;have e1:ns=xs.toList.map (·.1):=by
  rw[<-nums_intItems,<-hx];exact(show numsOf its.toArray.toList=ns from hi.numsOf).symm
 have e2:preSum (numAt xs) xs.size=ns.sum:=by
  rw[preSum_eq,List.take_of_length_le (by simp),e1]
 rw[e2];exact⟨.int _,H,I.kept hk,⟨_,rfl⟩,q⟩
def Yk(K:PySem.W.Frag)(tl:TE):TI:=fun σ H R=>tl σ H fun x H1=>∃a,x = .ref a/\(((∃xs,SqL K H1 a xs)/\R (Itl K a) H1)∨((∃xs,SqT K H1 a xs)/\R (Itt K a) H1))
theorem LR{tg l:Expr}{tl:TE}(hl:PE X l tl):PI X tg l (Yk X.K tl):=by
 intro pins s σ H R I h;refine thn (hl pins s σ H _ I h) fun v s1 ⟨x,H1,I1,r1,a,e,q⟩=>?_;subst e;cases r1;rcases q with⟨⟨xs,hq⟩,q⟩|⟨⟨xs,hq⟩,q⟩
 ·have hh:PI X tg l (Nu X.K fun σ' H' Q=>Q (.ref a) H')->True:=fun _=>trivial;obtain⟨its,rv,p,hz⟩:=I1.list hq;refine wpAny_pyIter_list p.isList ?_;refine⟨s1.heap.objs.size,[s1.heap.objs.size],_,_,H1,rfl,I1.kept (t':=s1.toks) fun b o e=>Heap.get?_push_of_some _ e,A9 a _,⟨_,Heap.get?_push_size _ rfl,rfl,rfl⟩,fun b hb=>?_,q⟩;have e:b=s1.heap.objs.size:=by simpa using hb
  subst e;exact I1.J0 (Nat.le_refl _) (I1.hok.fresh (Nat.le_refl _))
 ·obtain⟨its,rv,p,hz⟩:=I1.tuple hq;refine wpAny_pyIter_tuple (show s1.heap.IsTuple a its.toArray from p) ?_;refine⟨s1.heap.objs.size,[s1.heap.objs.size],_,_,H1,rfl,I1.kept (t':=s1.toks) fun b o e=>Heap.get?_push_of_some _ e,Ay a _,⟨_,Heap.get?_push_size _ rfl,rfl,rfl⟩,fun b hb=>?_,q⟩;have e:b=s1.heap.objs.size:=by simpa using hb
  subst e;exact I1.J0 (Nat.le_refl _) (I1.hok.fresh (Nat.le_refl _))
end
theorem ni{env:Env}:∀(names:List (Str×NameKind)) (acc:List (Str×Addr)),(∀y∈names,y.2 = .free->∃c,env.cells.lookup y.1=some c)->(∀p∈acc,env.cells.lookup p.1=some p.2)->
 ∃cl,(forIn names acc fun(y:Str×NameKind) (cs:List (Str×Addr))=>match y with|(name,kind)=>if(kind== .free)=true then do let a<-cellOf env name;pure (ForInStep.yield ((name,a)::cs))else pure (ForInStep.yield cs))=(pure cl:Sem _)/\(∀p∈cl,env.cells.lookup p.1=some p.2)/\(∀p∈acc,p∈cl)/\∀y∈names,y.2 = .free->∃c,(y.1,c)∈cl
 |[],acc,_,ha=>⟨acc,rfl,ha,fun _ h=>h,fun _ h=>nomatch h⟩
 |(n,k)::r,acc,hf,ha=>by
  have hr:∀y∈r,y.2 = .free->∃c,env.cells.lookup y.1=some c:=fun y hy=>hf y (List.mem_cons_of_mem _ hy);by_cases hk:k = .free
  ·subst hk;obtain⟨c,hc⟩:=hf (n,.free) List.mem_cons_self rfl;obtain⟨cl,e,h1,h2,h3⟩:=ni r ((n,c)::acc) hr (fun p hp=>by
    rcases List.mem_cons.mp hp with rfl|hp
    ·exact hc
    ·exact ha p hp)
   refine⟨cl,?_,h1,fun p hp=>h2 p (List.mem_cons_of_mem _ hp),fun y hy hyf=>?_⟩
   ·rw[List.forIn_cons];simp only[beq_self_eq_true,if_true,cellOf,hc,pure_bind];exact e
   ·rcases List.mem_cons.mp hy with rfl|hy
    ·exact⟨c,h2 _ List.mem_cons_self⟩
    ·exact h3 y hy hyf
  ·have hb:(k==NameKind.free)=false:=by simpa using hk
   obtain⟨cl,e,h1,h2,h3⟩:=ni r acc hr ha;refine⟨cl,?_,h1,h2,fun y hy hyf=>?_⟩
   ·rw[List.forIn_cons];simp only[hb,Bool.false_eq_true,if_false,pure_bind];exact e
   ·rcases List.mem_cons.mp hy with rfl|hy
    ·exact absurd hyf hk
    ·exact h3 y hy hyf
theorem rK{env:Env}{scope:Scope}(hf:∀y∈scope.names,y.2 = .free->∃c,env.cells.lookup y.1=some c):
  ∃cl,closureFor scope env=pure cl/\(∀x c,cl.lookup x=some c->env.cells.lookup x=some c)/\∀y∈scope.names,y.2 = .free->∃c,cl.lookup y.1=some c:=by
 obtain⟨cl,e,h1,_,h3⟩:=ni (env:=env) scope.names [] hf (fun _ h=>nomatch h);refine⟨cl,?_,fun x c h=>h1 (x,c) (PySem.mem_of_lookup h),fun y hy hyf=>?_⟩
 ·unfold closureFor;simp only[bind_pure_comp]at e⊢;rw[e];rfl
 ·obtain⟨c,hc⟩:=h3 y hy hyf;cases q:cl.lookup y.1 with
  |some d=>exact⟨d,rfl⟩
  |none=>
   have z:=List.lookup_eq_none_iff.mp q (y.1,c) hc;simp at z
def V3(sc:Scope)(cl:List (Str×Addr))(C:Addr)(env:Env):Env:=
 { scope:=sc,locals:=C,globals:=env.globals,cells:=cl,qual:=env.qual,func:=none,code:=env.code,frame:=env.frame,builtins:=env.builtins }
def cCx(X:Cx)(sc:Scope)(N:List Str)(cl:List (Str×Addr))(C:Addr)(s₀:Shared)(H₀:Hp)(ex:List Addr):Cx:=
 { X with env:=V3 sc cl C X.env,N:=N,s₀:=s₀,H₀:=H₀,outer:=X.stack,ex:=ex,fn:=fun _=>false,pn:=[],xe:=fun _ _=>False }
def cst(ix:List (Option Nat))(σ:St):St:=ix.map fun o=>match o with
 |none=>none
 |some i=>match σ[i]? with
  |some v=>v
  |none=>none
def PIf(X:Cx)(ifs:List Expr)(t:TT):Prop:=
 ∀(pins:List (Addr×Obj)) (s:Shared) (σ:St) (H:Hp) (Q:Bool->Hp->Prop),Inv X pins σ H s->t σ H Q->
  wpAny (model X.prog X.w) X.A (forIn ifs true fun c r=>if r=true then do let ok<-isTrue c X.env (eval c X.env);pure (ForInStep.yield ok)else pure (ForInStep.yield r)) (TP X pins σ Q) X.xe s
def Dy:TT:=fun _ H Q=>Q true H
theorem dz{X:Cx}:PIf X [] Dy:=fun _ _ _ H _ I h=>wpAny_tests_nil ⟨H,I,h⟩
theorem kW{prog:Program}{w:World}{A:Around}{R:Result->Shared->Prop}{s:Shared}{elt target iter:Expr}{ifs:List Expr}{scope:Scope}{pos:Pos}{it acc:Value}{env:Env}(I:Nat->Shared->Prop)
  (turn:∀n s,I n s->wpAny (model prog w) A (pyNext it) (fun r s₁=>match r with
   |none=>R (.ok .next) s₁
   |some v=>wpAny (model prog w) A (letOwnedTupleGo target it v) (fun _ s₀=>wpAny (model prog w) A (assign target env v) (fun _ s₂=>
     wpAny (model prog w) A (forIn ifs true fun c r=>if r=true then do let ok<-isTrue c env (eval c env);pure (ForInStep.yield ok)else pure (ForInStep.yield r)) (fun ok s₃=>
      if ok=true then wpAny (model prog w) A (eval elt env) (fun x s₄=>
       wpAny (model prog w) A (call (.builtin "list.append") [acc,x]) (fun _ s₅=>∃m,m<n/\I m s₅) (fun _ _=>False) s₄) (fun _ _=>False) s₃
      else ∃m,m<n/\I m s₃) (fun _ _=>False) s₂) (fun _ _=>False) s₀) (fun _ _=>False) s₁) (fun _ _=>False) s)
  (n:Nat) (h:I n s):
  codeAny (model prog w) A (.compLoop (.ListComp elt [⟨target,iter,ifs,0⟩] scope pos) 0 it acc env) R s:=by
 refine codeAny_loop rfl I (fun n s hI=>?_) n h;show wpAny _ A ((compTurn (.ListComp elt [⟨target,iter,ifs,0⟩] scope pos) 0 it acc env).onRaise (fun x=>do noteFrame x env;theTreesLotGoes x)) _ _ s
 refine wpAny_noted ?_;rw[compTurn_list];refine wpAny_bind (wpAny_standAt (wpAny_bind (wpAny_mono (turn n s hI) (fun r s₁ h₁=>?_) fun _ _ h'=>h'.elim)));cases r with
 |none=>exact wpAny_pure h₁
 |some v=>
  refine wpAny_bind (wpAny_mono h₁ (fun _ s₀ h₀=>?_) fun _ _ h'=>h'.elim);refine wpAny_bind (wpAny_mono h₀ (fun _ s₂ h₂=>wpAny_bind (wpAny_mono h₂ (fun ok s₃ h₃=>?_) fun _ _ h'=>h'.elim)) fun _ _ h'=>h'.elim);cases ok with
  |false=>exact wpAny_pure ⟨rfl,h₃⟩
  |true=>
   exact wpAny_bind (wpAny_bind (wpAny_mono h₃ (fun x s₄ h₄=>wpAny_bind (wpAny_mono h₄ (fun _ s₅ h₅=>wpAny_pure (wpAny_pure ⟨rfl,h₅⟩)) fun _ _ h'=>h'.elim)) fun _ _ h'=>h'.elim))
structure oR(ix:List (Option Nat))(g:TG)(tc:TT)(te:TE)(σ:St)(Q:VK)(J:It)(H1:Hp):Prop where
 go:∀D,H1 D=none->∃W:Nat->Nat->St->Hp->Prop,(∃m,W 0 m (cst ix σ) (upd H1 D (.lst [])))/\
  ∀i m σ' H',W i m σ' H'->(J.stop i H'/\Q (.ref D) H')∨(J.go i H'/\∀x H2,J.yld i H' x H2->g x σ' H2 fun σ3 H3=>tc σ3 H3 fun b H4=>
   if b=true then te σ3 H4 fun y H5=>∃ys,H5 D=some (.lst ys)/\ys.length<sizeLine/\∃m',m'<m/\W (i+1) m' σ3 (upd H5 D (.lst (ys++[y])))
   else ∃m',m'<m/\W (i+1) m' σ3 H4)
def Iz(ix:List (Option Nat))(wi:TI)(g:TG)(tc:TT)(te:TE):TE:=fun σ H Q=>wi σ H fun J H1=>oR ix g tc te σ Q J H1
structure zp(X:Cx)(scope sc:Scope)(N:List Str)(ix:List (Option Nat)):Prop where
 rel:relabel scope X.env=sc
 kind:scope.kind = .function
 cell:∀y∈scope.names,y.2≠ .cell
 names:∀x∈scope.names,x.2 = .local->scope.names.lookup x.1=some .local
 free:∀y∈scope.names,y.2 = .free->X.env.kindOf y.1=some .cell∨X.env.kindOf y.1=some .free
 len:N.length=ix.length
 ix:∀(j:Nat) (x:Str) (i:Nat),N[j]?=some x->ix[j]?=some (some i)->X.N[i]?=some x/\(x,NameKind.free)∈scope.names/\(sc.names.lookup x=some .cell∨sc.names.lookup x=some .free)
 has:∀x,(sc.names.lookup x=some .cell∨sc.names.lookup x=some .free)->(x,NameKind.free)∈scope.names
theorem vA{X:Cx}{tg iter elt:Expr}{ifs:List Expr}{scope sc:Scope}{pos ip:Pos}{wi:TI}{g:TG}{tc:TT}{te:TE}{N:List Str}{ix:List (Option Nat)}(O:zp X scope sc N ix)(hc:X.calm=true)(hi:PI X tg iter wi)
  (hb:∀cl C s₀ H₀ ex,PG (cCx X sc N cl C s₀ H₀ ex) tg g/\PIf (cCx X sc N cl C s₀ H₀ ex) ifs tc/\PE (cCx X sc N cl C s₀ H₀ ex) elt te) (hs:∀x,foldedSetIterable iter X.env x=pure x)
  {use:Option (Value->Sem Unit)} {QQ:Value->Shared->Prop} {pins:List (Addr×Obj)} {s:Shared} {σ:St} {H:Hp} {Q:VK} (I:Inv X pins σ H s) (h:Iz ix wi g tc te σ H Q)
  (fin:∀(D C:Addr) (s6:Shared) (H5:Hp) (m:Str->Option Value),Inv X pins σ H5 s6->s6.heap.Ns C m->Fo X pins H5 C->Q (.ref D) H5->compPost (model X.prog X.w) X.A X.xe use QQ (.ref D) C (.ok .next) s6):
  wpAny (model X.prog X.w) X.A (comprehension (.ListComp elt [⟨tg,iter,ifs,0⟩] scope pos) scope X.env ip (newList []) false (eval iter X.env) use) QQ X.xe s:=by
 have hcl:∃cl,closureFor scope X.env=pure cl/\(∀x c,cl.lookup x=some c->X.env.cells.lookup x=some c)/\∀y∈scope.names,y.2 = .free->∃c,cl.lookup y.1=some c:=
  rK fun y hy hf=>I.ok.has y.1 (O.free y hy hf)
 obtain⟨cl,ecl,hcl1,hcl2⟩:=hcl;refine wpAny_comprehension_free (use:=use) rfl hs ecl O.kind O.names (thn (hi pins s σ H _ I h) fun v s1 h1=>thn h1 fun itv s2 h2=>?_);obtain⟨it,fp,tn,J,H2,e,I2,T,st2,f2,q2⟩:=h2;subst e;obtain⟨W,⟨m0,w0⟩,turn⟩:=q2.go s2.heap.objs.size I2.fresh;refine wpAny_newObj_type ?_;have I3:=I2.SM (its:=[]) (t':=s2.toks) (ys:=[]) .nil (Nat.zero_le _);generalize eH3:upd H2 s2.heap.objs.size (.lst [])=H3 at I3 w0;have eD:H3 s2.heap.objs.size=some (.lst []):=by rw[<-eH3];exact au
 have hfp2:∀b∈fp,b≠s2.heap.objs.size:=fun b hb z=>by
  obtain⟨o,ho,_⟩:=T.obj _ _ st2 b hb;exact absurd (Heap.lt_size ho) (by rw[z];exact Nat.lt_irrefl _)
 have st3:tn 0 (s2.heap.push { cls:= .type "list",dict:=none,data:= .seq ([]:List Value).toArray }):=T.keep _ _ _ st2 fun b _ o e=>Heap.get?_push_of_some _ e;have f3:∀b∈fp,Fo X pins H3 b:=fun b hb=>⟨by rw[<-eH3,bD (hfp2 b hb)];exact(f2 b hb).1,(f2 b hb).2⟩;generalize es3:({ s2 with heap:=s2.heap.push { cls:= .type "list",dict:=none,data:= .seq ([]:List Value).toArray },toks:=s2.toks }:Shared)=s3 at I3;have st3':tn 0 s3.heap:=by rw[<-es3];exact st3
 refine wpAny_newFunctionEnv O.cell (fun y hy=>nomatch hy) (fun h4 hns4 hsb4=>?_) O.kind;have keep4:∀b o,s3.heap.get? b=some o->h4.get? b=some o:=fun b o e=>(hsb4.2 b (Nat.ne_of_lt (Heap.lt_size e))).trans (Heap.get?_push_of_some _ e);have I4:Inv X pins σ H3 { s3 with heap:=h4,toks:=s3.toks+([]:List (Str×Value)).length }:=I3.kept keep4;have eenv:({ newEnv scope s3.heap.objs.size X.env.globals cl X.env.qual none .none (some X.env) builtinsNs with scope:=relabel scope X.env }:Env)=V3 sc cl s3.heap.objs.size X.env:=by rw[O.rel];rfl
 rw[eenv];show codeAny _ _ _ (compPost (model X.prog X.w) X.A X.xe use QQ (.ref s2.heap.objs.size) s3.heap.objs.size) _;generalize eC:s3.heap.objs.size=C;generalize es4:({ s3 with heap:=h4,toks:=s3.toks+([]:List (Str×Value)).length }:Shared)=s4 at I4;have h4s:s4.heap=h4:=by rw[<-es4]
 have o4s:s4.os=s3.os:=by rw[<-es4]
 have fC:∀b∈fp,b≠C:=fun b hb z=>by
  obtain⟨o,ho,_⟩:=T.obj _ _ st3' b hb;exact absurd (Heap.lt_size ho) (by rw[z,eC];exact Nat.lt_irrefl _)
 have okC:(cCx X sc N cl C s3 H3 fp).Ok:=by
  refine⟨I3.ok.mod,?_,I3.ok.glob,I3.ok.blt,Nat.le_of_eq eC,fun x y c h1 h2=>I3.ok.inj x y c (hcl1 x c h1) (hcl1 y c h2),fun x hx=>?_,fun x c z _=>(nomatch z),I3.ok.hd,I3.ok.frames,.inl rfl,fun b hb=>⟨fC b hb,fun x c e=>(f3 b hb).2.2.2.2.1 x c (hcl1 x c e)⟩,
   I3.bs,Nat.le_trans I3.ok.bsz I3.sz,fun b o e hb=>?_,fun b hb z=>?_,I3.stack,I3.wk⟩
  ·show sc.kind = .function;rw[<-O.rel];exact O.kind
  ·exact hcl2 (x,.free) (O.has x hx) rfl
  ·rcases(f3 b hb).2.2.2.1 with z|z
   ·exact I3.ok.noex b o e z
   ·exact absurd (Nat.lt_of_lt_of_le (Heap.lt_size e) (Nat.le_trans I3.ok.bsz z)) (Nat.lt_irrefl _)
  ·rcases List.mem_cons.mp (I3.yC b z)with z|z
   ·exact(f3 b hb).2.1 z
   ·exact(f3 b hb).2.2.1 z
 have IC:Inv (cCx X sc N cl C s3 H3 fp) [] (cst ix σ) H3 s4:=by
  refine⟨okC,o4s,I4.bare,?_,?_,fun x c e=>I4.cell x c (hcl1 x c e),?_,fun x c e=>I4.freeC x c (hcl1 x c e),fun p hp=>(nomatch hp),I4.hok,?_⟩
  ·rw[h4s];exact Un.kept keep4
  ·refine⟨_,by rw[h4s,<-eC];exact hns4,fun j x v e1 e2 e3=>?_⟩;have e2':(cst ix σ)[j]?=some (some v):=e2;unfold cst at e2';rw[List.getElem?_map]at e2';cases q:ix[j]? with
   |none=>rw[q]at e2';cases e2'
   |some o=>
    rw[q]at e2';cases o with
    |none=>cases e2'
    |some i=>
     obtain⟨hx,hm,hsc⟩:=O.ix j x i e1 q;cases q2:σ[i]? with
     |none=>simp[q2]at e2'
     |some w'=>
      simp[q2]at e2';subst e2';obtain⟨m,hn,hl⟩:=I4.loc;have kf:=O.free (x,.free) hm rfl;have vis:Vis X.env.scope x:=by
       rcases kf with k|k
       ·exact .inr (.inl k)
       ·exact .inr (.inr k)
      obtain⟨u,r,l⟩:=hl i x v hx q2 vis;refine⟨u,r,?_⟩;rcases l with⟨k,_⟩|⟨_,c,e,z⟩
      ·rcases kf with k'|k'
       ·rw[k]at k';cases k'
       ·rw[k]at k';cases k'
      ·obtain⟨c',e'⟩:=hcl2 (x,.free) hm rfl;have:=hcl1 x c' e';rw[e]at this;cases this;exact .inr ⟨hsc,c,e',z⟩
  ·rw[<-eC];exact I3.fresh
  ·show(cst ix σ).length=N.length;rw[O.len];simp[cst]
 have st4:tn 0 s4.heap:=T.keep _ _ _ st3' fun b _ o e=>by rw[h4s];exact keep4 b o e
 have stat:∀{H':Hp},(∀b∈fp,H' b=none)->∀b∈fp,Fo (cCx X sc N cl C s3 H3 fp) [] H' b:=fun hn b hb=>
  ⟨hn b hb,fC b hb,okC.exfs b hb,.inl hb,fun x c e=>(f3 b hb).2.2.2.2.1 x c (hcl1 x c e),fun p hp=>(nomatch hp)⟩
 obtain⟨hg,ht,he⟩:=hb cl C s3 H3 fp;have loop:codeAny (model X.prog X.w) X.A (.compLoop (.ListComp elt [⟨tg,iter,ifs,0⟩] scope pos) 0 (.ref it) (.ref s2.heap.objs.size) (V3 sc cl C X.env))
   (compPost (model X.prog X.w) X.A X.xe use QQ (.ref s2.heap.objs.size) C) s4:=by
  refine kW (fun n s'=>∃i σ' H',Inv (cCx X sc N cl C s3 H3 fp) [] σ' H' s'/\tn i s'.heap/\(∀b∈fp,H' b=none)/\W i n σ' H') ?_ m0 ⟨0,cst ix σ,H3,IC,st4,fun b hb=>(f3 b hb).1,w0⟩;rintro n s5 ⟨i,σ5,H5,I5,st5,fr5,w5⟩;rcases turn i n σ5 H5 w5 with⟨stop,qn⟩|⟨go,step⟩
  ·refine thn (T.done (cCx X sc N cl C s3 H3 fp) rfl rfl rfl hc i [] s5 σ5 H5 (fun _ _=>False) I5 (stat fr5) st5 stop) fun r s6 ⟨hr,I6⟩=>?_;subst hr;obtain⟨m,hn,_⟩:=id I6.loc;have I7:Inv X pins σ H5 s6:=I3.JF (ch:=fp) I6.os I6.base I6.hok I6.bare fun b hb=>⟨(f3 b hb).2.2.2.1,(f3 b hb).2.1,(f3 b hb).2.2.2.2.1,(f3 b hb).2.2.2.2.2⟩;exact fin _ C s6 H5 m I7 hn (I3.J0 (Nat.le_of_eq eC) I6.free) qn
  ·refine thn (T.item (cCx X sc N cl C s3 H3 fp) rfl rfl rfl hc i [] s5 σ5 H5 (fun _ _=>False) I5 (stat fr5) st5 go) fun r s6 ⟨u,hr,h6⟩=>?_;subst hr;refine thn h6 fun _ s7 ⟨x,H7,I7,r7,y7,st7,fr7⟩=>?_;have I7':=I7.pinned (stat fr7) (T.obj _ _ st7);have again:∀{σ9:St} {H9:Hp} {s9:Shared} {m':Nat},Inv (cCx X sc N cl C s3 H3 fp) ([]++uP fp s7.heap) σ9 H9 s9->m'<n->W (i+1) m' σ9 H9->
     ∃m,m<n/\∃i σ' H',Inv (cCx X sc N cl C s3 H3 fp) [] σ' H' s9/\tn i s9.heap/\(∀b∈fp,H' b=none)/\W i m σ' H':=fun {σ9 H9 s9 m'} I9 hm w9=>by
    refine⟨m',hm,i+1,σ9,H9,I9.mQ,T.keep _ _ _ st7 fun b hb o e=>(I9.pin (b,o) (List.mem_append_right _ (List.mem_append_right _ (ju hb e)))).1,fun b hb=>?_,w9⟩;obtain⟨o,e,d⟩:=T.obj _ _ st7 b hb;exact(I9.pin (b,o) (List.mem_append_right _ (List.mem_append_right _ (ju hb e)))).2.1
   refine thn (hg _ s7 σ5 H7 x u _ I7' r7 (step x H7 y7)) fun _ s8 ⟨σ8,H8,I8,q8⟩=>?_;refine thn (ht _ s8 σ8 H8 _ I8 q8) fun b s9 ⟨H9,I9,q9⟩=>?_;cases b with
   |false=>
    rw[if_neg Bool.false_ne_true]at q9;obtain⟨m',hm,w9⟩:=q9;rw[if_neg Bool.false_ne_true];exact again I9 hm w9
   |true=>
    rw[if_pos rfl]at q9;rw[if_pos rfl];refine thn (he _ s9 σ8 H9 _ I9 q9) fun y s10 ⟨yv,H10,I10,r10,ys,e10,z10,m',hm,w10⟩=>?_;refine thn (vW _ s10 σ8 H10 (.ref s2.heap.objs.size) [yv] (.ref s2.heap.objs.size) [y] (fun _ H'=>W (i+1) m' σ8 H') I10 rfl (.cons r10 .nil) ⟨_,ys,yv,rfl,rfl,e10,z10,w10⟩) fun _ s11 ⟨_,H11,I11,_,w11⟩=>?_;exact again I11 hm w11
 exact codeAny_compStart_list loop (T.self _ _ _ _ _ st4 loop)
theorem d9{X:Cx}{tg iter elt:Expr}{ifs:List Expr}{scope sc:Scope}{pos:Pos}{wi:TI}{g:TG}{tc:TT}{te:TE}{N:List Str}{ix:List (Option Nat)}(O:zp X scope sc N ix)(hc:X.calm=true)(hi:PI X tg iter wi)
  (hb:∀cl C s₀ H₀ ex,PG (cCx X sc N cl C s₀ H₀ ex) tg g/\PIf (cCx X sc N cl C s₀ H₀ ex) ifs tc/\PE (cCx X sc N cl C s₀ H₀ ex) elt te)
  (hs:∀x,foldedSetIterable iter X.env x=pure x:=by intro _;rfl):PE X (.ListComp elt [⟨tg,iter,ifs,0⟩] scope pos) (Iz ix wi g tc te):=by
 intro pins s σ H Q I h;rw[eval_ListComp];exact vA (use:=none) (QQ:=EP X pins σ Q) O hc hi hb hs I h fun D C s6 H5 m I7 hn f q=>⟨m,hn,fun h' hs'=>⟨.ref D,H5,I7.turned (it:=C) (t':=s6.toks) (fun b o hb e=>(hs'.2 b hb).trans e) f.1 f.2.1 f.2.2.2.1 f.2.2.2.2.1 f.2.2.2.2.2,rfl,q⟩⟩
theorem wW{X:Cx}{i:Nat}{y:Str}{py spos:Pos}{tg iter elt:Expr}{ifs:List Expr}{scope sc:Scope}{pos:Pos}{wi:TI}{g:TG}{tc:TT}{te:TE}{N:List Str}{ix:List (Option Nat)}(hN:X.N.Nodup)(hi':X.N[i]?=some y)(hx:Loc X.env.scope y)
  (O:zp X scope sc N ix) (hc:X.calm=true) (hi:PI X tg iter wi)
  (hb:∀cl C s₀ H₀ ex,PG (cCx X sc N cl C s₀ H₀ ex) tg g/\PIf (cCx X sc N cl C s₀ H₀ ex) ifs tc/\PE (cCx X sc N cl C s₀ H₀ ex) elt te)
  (hs:∀x,foldedSetIterable iter X.env x=pure x:=by intro _;rfl) (hsw:swapsWith (.ListComp elt [⟨tg,iter,ifs,0⟩] scope pos) (some (.Name y py)) spos.line X.env=pure true:=by rfl)
  (hf:X.fn y=true∨X.env.scope.names.lookup y=some .local:=by first|exact .inl rfl|exact .inr rfl|assumption):
  PS X (.Assign [.Name y py] (.ListComp elt [⟨tg,iter,ifs,0⟩] scope pos) spos) (UL (Iz ix wi g tc te) (lZ i)):=by
 intro pins s σ H D I h;rw[exec_Assign_Name_used _ _ _ _ hsw];refine wpAny_bind (wpAny_standAt (wpAny_bind ?_));show wpAny _ X.A (do let _<-comprehension (.ListComp elt [⟨tg,iter,ifs,0⟩] scope pos) scope X.env _ (newList []) false (eval iter X.env) (some (assign (.Name y py) X.env))) _ _ s
 refine wpAny_bind (wpAny_mono (vA (use:=some (assign (.Name y py) X.env)) (QQ:=fun _ s'=>∃σ' H',Inv X pins σ' H' s'/\D.nx σ' H') O hc hi hb hs I h fun D1 C s6 H5 m I7 hn f q=>?_) (fun _ s' ⟨σ',H',I',q'⟩=>wpAny_pure (wpAny_pure ⟨σ',H',I',q'⟩)) fun _ _ e=>e);obtain⟨o,es,ep,ho,hc1,hc2⟩:=id hn;have I8:=I7.pinned (fp:=[C]) (fun b hb=>by
  have e:b=C:=by simpa using hb
  subst e;exact f) (fun b hb=>by
  have e:b=C:=by simpa using hb
  subst e;exact⟨o,ho,fun v z=>by first|(rw[hc1.2]at z;cases z)|(rw[hc2.1]at z;cases z)|(rw[hc1]at z;cases z)|(simp_all)⟩)
 show wpAny _ X.A (assign (.Name y py) X.env (.ref D1)) _ _ _;refine wpAny_assign_Name (oZ I8 hN hi' hx (v:= .ref D1) rfl (fun s7 I9=>?_) hf);have hC:=(I9.pin (C,o) (List.mem_append_right _ (List.mem_append_right _ (ju (by simp) ho)))).1;refine⟨m,⟨o,es,ep,hC,hc1,hc2⟩,fun h' hs'=>⟨_,H5,I9.mQ.turned (it:=C) (t':=s7.toks) (fun b o hb e=>(hs'.2 b hb).trans e) f.1 f.2.1 f.2.2.2.1 f.2.2.2.2.1 f.2.2.2.2.2,q⟩⟩
mutual
inductive RdD(K:PySem.W.Frag)(H:Hp):V->PyData->Prop
 |non:RdD K H .non .none
 |bl (b:Bool):RdD K H (.bl b) (.bool b)
 |int (i:Int):RdD K H (.int i) (.int i)
 |str (x:Str):RdD K H (.str x) (.str x)
 |lst {a:Addr} {xs:List V} {ds:List PyData}:SqL K H a xs->AW K H xs ds->RdD K H (.ref a) (.list ds)
 |tup {a:Addr} {xs:List V} {ds:List PyData}:SqT K H a xs->AW K H xs ds->RdD K H (.ref a) (.tuple ds)
inductive AW(K:PySem.W.Frag)(H:Hp):List V->List PyData->Prop
 |nil:AW K H [] []
 |cons {x:V} {d:PyData} {xs:List V} {ds:List PyData}:RdD K H x d->AW K H xs ds->AW K H (x::xs) (d::ds)
end
section
variable {X:Cx} {pins:List (Addr×Obj)} {σ:St} {H:Hp} {s:Shared}
mutual
theorem Inv.reads(I:Inv X pins σ H s):∀{x:V} {d:PyData} {u:Value},RdD X.K H x d->RelV x u->∃as,Reads s.heap u d as
 |_,_,_,.non,r=>by cases r;exact⟨_,.none⟩
 |_,_,_,.bl b,r=>by cases r;exact⟨_,.bool b⟩
 |_,_,_,.int i,r=>by obtain⟨t,rfl⟩:=r;exact⟨_,.int i t⟩
 |_,_,_,.str x,r=>by obtain⟨t,rfl⟩:=r;exact⟨_,.str x t⟩
 |_,_,_,.lst hq hs,r=>by
  cases r;obtain⟨its,rv,pl,_⟩:=I.list hq;obtain⟨as,ra⟩:=Inv.readsAll I hs rv;obtain⟨o,ho,hc,n,hd⟩:=pl.isList;exact⟨_,.list ho hc hd (by simpa using ra)⟩
 |_,_,_,.tup hq hs,r=>by
  cases r;obtain⟨its,rv,pl,_⟩:=I.tuple hq;obtain⟨as,ra⟩:=Inv.readsAll I hs rv;obtain⟨o,ho,hc,n,hd⟩:=pl;exact⟨_,.tuple ho hc hd (by simpa using ra)⟩
theorem Inv.readsAll(I:Inv X pins σ H s):∀{xs:List V} {ds:List PyData} {us:List Value},AW X.K H xs ds->Vals xs us->∃as,ReadsAll s.heap us ds as
 |_,_,_,.nil,.nil=>⟨_,.nil⟩
 |_,_,_,.cons h1 h2,.cons r1 r2=>by
  obtain⟨as,a⟩:=Inv.reads I h1 r1;obtain⟨bs,b⟩:=Inv.readsAll I h2 r2;exact⟨_,.cons a b⟩
end
theorem AW.ints{K:PySem.W.Frag}{H:Hp}:∀ns:List Int,AW K H (ns.map V.int) (ns.map PyData.int)
 |[]=> .nil
 |n::r=> .cons (.int n) (AW.ints r)
def fQ(kb:List (Key×V)):List (Key×V)->Bool
 |[]=>true
 |(k,v)::r=>match Ep kb k with
  |none=>false
  |some y=>eqV v y&&fQ kb r
theorem yc{A:Around}{kb:List (Key×V)}{vb:List (Key×Value)}(hb:KV kb vb)(fb:kb.all (fun p=>qp p.2)=true):∀{ka:List (Key×V)} {va:List (Key×Value)},KV ka va->ka.all (fun p=>qp p.2)=true->
  PySem.W.KeqHits A s vb va (fQ kb ka)
 |[],_,.nil,_=> .nil
 |(k,v)::r,(k',v')::r',.cons ⟨e,rv⟩ t,f=>by
  cases (show k=k' from e);rw[List.all_cons,Bool.and_eq_true]at f;have hv:=KV.val hb k;cases q:Ep kb k with
  |none=>
   have hn:valueAt vb k=none:=Ef.none_of (by rw[q]at hv;exact hv);have e2:fQ kb ((k,v)::r)=false:=by simp[fQ,q]
   rw[e2];exact .miss hn
  |some y=>
   rw[q]at hv;obtain⟨u,hu,ru⟩:=Ef.some_of hv;have fy:qp y=true:=by
    unfold Ep at q;cases q2:kb.find? (fun kv=>decide (kv.1=k))with
    |none=>rw[q2]at q;cases q
    |some p=>
     rw[q2]at q;cases q;exact List.all_eq_true.mp fb p (List.mem_of_find?_eq_some q2)
   have e2:fQ kb ((k,v)::r)=(eqV v y&&fQ kb r):=by simp[fQ,q]
   rw[e2];exact .hit hu (JX rv ru f.1 fy) (yc hb fb t f.2)
end
section
variable {X:Cx}
def Gx(K:PySem.W.Frag)(g:Bool->Bool):R2:=fun x y H Q=>match x,y with
 |.int i,.int j=>Q (.bl (g (decide (i=j)))) H
 |.bl i,.bl j=>Q (.bl (g (decide (i=j)))) H
 |.str i,.str j=>Q (.bl (g (decide (i=j)))) H
 |.non,.non=>Q (.bl (g true)) H
 |.ref a,.ref b=>(∃d e,RdD K H (.ref a) d/\RdD K H (.ref b) e/\SeqAt.shaped d=true/\SeqAt.shaped e=true/\Q (.bl (g (PyData.eqv d e))) H)∨
   (∃ka kb,H a=some (.dK ka)/\H b=some (.dK kb)/\ka.all (fun p=>qp p.2)=true/\kb.all (fun p=>qp p.2)=true/\Q (.bl (g (ka.length==kb.length&&fQ kb ka))) H)
 |.non,.ref _=>False
 |.ref _,.non=>False
 |x,y=>Vo x y=true/\Q (.bl (g (decide (x=y)))) H
theorem KW{k:Nat}(hr:iG k X.A):OpR X (compareOp .Eq) (fun x y H Q=>∃d e,RdD X.K H x d/\RdD X.K H y e/\SeqAt.shaped d=true/\SeqAt.shaped e=true/\Q (.bl (PyData.eqv d e)) H):=by
 intro pins s σ H x y v u Q I rx ry h;obtain⟨d,e,h1,h2,h3,h4,q⟩:=h;obtain⟨as,ra⟩:=I.reads h1 rx;obtain⟨bs,rb⟩:=I.reads h2 ry;exact eq_dataH ra rb h3 h4 hr.units ⟨.bl _,H,I,rfl,q⟩
theorem JT{k:Nat}(hr:iG k X.A):OpR X (compareOp .NotEq) (fun x y H Q=>∃d e,RdD X.K H x d/\RdD X.K H y e/\SeqAt.shaped d=true/\SeqAt.shaped e=true/\Q (.bl (!PyData.eqv d e)) H):=by
 intro pins s σ H x y v u Q I rx ry h;obtain⟨d,e,h1,h2,h3,h4,q⟩:=h;obtain⟨as,ra⟩:=I.reads h1 rx;obtain⟨bs,rb⟩:=I.reads h2 ry;exact ne_dataH ra rb h3 h4 hr.units ⟨.bl _,H,I,rfl,q⟩
theorem Li{k:Nat}(hr:iG k X.A):OpR X (compareOp .Eq) (fun x y H Q=>∃a b ka kb,x = .ref a/\y = .ref b/\H a=some (.dK ka)/\H b=some (.dK kb)/\ka.all (fun p=>qp p.2)=true/\kb.all (fun p=>qp p.2)=true/\Q (.bl (ka.length==kb.length&&fQ kb ka)) H):=by
 intro pins s σ H x y v u Q I rx ry h;obtain⟨a,b,ka,kb,rfl,rfl,h1,h2,h3,h4,q⟩:=h;cases rx;cases ry;obtain⟨_,ea,va,ra,da⟩:ka.length<=sizeLine/\(a==sysModules)=false/\∃vs,KV ka vs/\s.heap.DictOf (nK X.prog X.w) a vs:=I.hok a _ h1;obtain⟨_,eb,vb,rb,db⟩:kb.length<=sizeLine/\(b==sysModules)=false/\∃vs,KV kb vs/\s.heap.DictOf (nK X.prog X.w) b vs:=I.hok b _ h2;refine PySem.W.keq_eq ea eb da db hr.Ho (fun _=>yc rb h4 ra h3) ⟨.bl _,H,I,?_,q⟩;show _=Value.bool _;rw[Paired.length ra,Paired.length rb]
theorem JD{k:Nat}(hr:iG k X.A):OpR X (compareOp .NotEq) (fun x y H Q=>∃a b ka kb,x = .ref a/\y = .ref b/\H a=some (.dK ka)/\H b=some (.dK kb)/\ka.all (fun p=>qp p.2)=true/\kb.all (fun p=>qp p.2)=true/\Q (.bl (!(ka.length==kb.length&&fQ kb ka))) H):=by
 intro pins s σ H x y v u Q I rx ry h;obtain⟨a,b,ka,kb,rfl,rfl,h1,h2,h3,h4,q⟩:=h;cases rx;cases ry;obtain⟨_,ea,va,ra,da⟩:ka.length<=sizeLine/\(a==sysModules)=false/\∃vs,KV ka vs/\s.heap.DictOf (nK X.prog X.w) a vs:=I.hok a _ h1;obtain⟨_,eb,vb,rb,db⟩:kb.length<=sizeLine/\(b==sysModules)=false/\∃vs,KV kb vs/\s.heap.DictOf (nK X.prog X.w) b vs:=I.hok b _ h2;refine PySem.W.keq_ne ea eb da db hr.Ho (fun _=>yc rb h4 ra h3) ⟨.bl _,H,I,?_,q⟩;show _=Value.bool _;rw[Paired.length ra,Paired.length rb]
theorem JV{i j:Int}:decide (V.int i=V.int j)=decide (i=j):=by simp
theorem Mw{i j:Bool}:decide (V.bl i=V.bl j)=decide (i=j):=by simp
theorem Ks{i j:Str}:decide (V.str i=V.str j)=decide (i=j):=by simp
theorem v_eq{k:Nat}(hr:iG k X.A):OpR X (compareOp .Eq) (Gx X.K id):=by
 refine(Ot.or ((KW hr).or (Li hr))).imp fun x y H Q h=>?_;unfold Gx at h;split at h
 ·exact .inl ⟨rfl,by rw[JV];exact h⟩
 ·exact .inl ⟨rfl,by rw[Mw];exact h⟩
 ·exact .inl ⟨rfl,by rw[Ks];exact h⟩
 ·exact .inl ⟨rfl,by rw[decide_eq_true rfl];exact h⟩
 ·rcases h with⟨d,e,h⟩|⟨ka,kb,h⟩
  ·exact .inr (.inl ⟨d,e,h⟩)
  ·exact .inr (.inr ⟨_,_,ka,kb,rfl,rfl,h⟩)
 ·exact h.elim
 ·exact h.elim
 ·exact .inl h
theorem ZL{k:Nat}(hr:iG k X.A):OpR X (compareOp .NotEq) (Gx X.K not):=by
 refine(R4.or ((JT hr).or (JD hr))).imp fun x y H Q h=>?_;unfold Gx at h;split at h
 ·exact .inl ⟨rfl,by rw[JV];exact h⟩
 ·exact .inl ⟨rfl,by rw[Mw];exact h⟩
 ·exact .inl ⟨rfl,by rw[Ks];exact h⟩
 ·exact .inl ⟨rfl,by rw[decide_eq_true rfl];exact h⟩
 ·rcases h with⟨d,e,h⟩|⟨ka,kb,h⟩
  ·exact .inr (.inl ⟨d,e,h⟩)
  ·exact .inr (.inr ⟨_,_,ka,kb,rfl,rfl,h⟩)
 ·exact h.elim
 ·exact h.elim
 ·exact .inl h
end
end L2
namespace PySem.SeqAt
open AutoSeq1 (wpAny_loadPart')
open MeetsSeq MeetsSeq2 MeetsSeq3 SeqRoads2
section
variable {A:Around} {s:Shared}
end
end PySem.SeqAt
namespace L2
open PySem PySem.Spec PyProof.Rows
section
variable {X:Cx}
end
theorem boot_isinstance:bootBuiltins "isinstance" = some (.builtin "isinstance"):=by decide +kernel
theorem boot_sum:bootBuiltins "sum" = some (.builtin "sum"):=by decide +kernel
theorem boot_max:bootBuiltins "max" = some (.builtin "max"):=by decide +kernel
theorem boot_int:bootBuiltins "int" = some (.type "int"):=by decide +kernel
theorem boot_tuple:bootBuiltins "tuple" = some (.type "tuple"):=by decide +kernel
theorem boot_list:bootBuiltins "list" = some (.type "list"):=by decide +kernel
structure Fn(K:PySem.W.Frag)(mg:Str->Option Value)(x:Str)(st:Stmt)(ps:List Str):Prop where
 ex:∃(f:Addr) (fd:FuncData),Fun K x x st f fd/\mg x=some (.ref f)/\Binds K fd ps []
theorem Fn.cal{P:Program}{w:World}{K:PySem.W.Frag}{mg:Str->Option Value}{base:Heap}{x:Str}{st:Stmt}{N ps:List Str}{k:Nat}{sp:Sp}(F:Fn K mg x st ps)(S:aY N ps (aj st))(len:∀vs H Q E,sp vs H Q E->vs.length=ps.length)
  (hbody:∀(f:Addr) (cdv:Value) (A:Around) (outer:List Env) (s:Shared) (H:Hp) (vs:List V) (Q:VK) (E:XK),iG k (A.deeper (envOfC x (aj st) s.heap.objs.size f cdv))->sp vs H Q E->
   ∃t,PSs (cxF P w K mg base N x (aj st) f cdv A outer s H E).nox (aD st) t/\t { nx:=fun _ H'=>Q .non H',rt:=Q } (start N vs) H):Cal P w K mg base x (k+1) ps sp:=by
 obtain⟨f,fd,F,m,b⟩:=F.ex;exact⟨f,fd,m,F.kp,b,F.okN S len fun cdv A outer s H vs Q E hr h=>hbody f cdv A outer s H vs Q E hr h⟩
theorem Fn.Jz{P:Program}{w:World}{K:PySem.W.Frag}{mg:Str->Option Value}{base:Heap}{x:Str}{st:Stmt}{N ps:List Str}{k:Nat}{sp:Sp}(F:Fn K mg x st ps)(S:aY N ps (aj st))(len:∀vs H Q E,sp vs H Q E->vs.length=ps.length)
  (hbody:∀(f:Addr) (cdv:Value) (A:Around) (outer:List Env) (s:Shared) (H:Hp) (vs:List V) (Q:VK) (E:XK),iG k (A.deeper (envOfC x (aj st) s.heap.objs.size f cdv))->sp vs H Q E->
   ∃t,PSs (cxF P w K mg base N x (aj st) f cdv A outer s H E) (aD st) t/\t { nx:=fun _ H'=>Q .non H',rt:=Q } (start N vs) H):Cal P w K mg base x (k+1) ps sp:=by
 obtain⟨f,fd,F,m,b⟩:=F.ex;exact⟨f,fd,m,F.kp,b,F.okF S len fun cdv A outer s H vs Q E hr h=>hbody f cdv A outer s H vs Q E hr h⟩
theorem Same.new{H:Hp}{p:Addr}(h:H p=none)(o:HO):Same H (upd H p o):=fun b u q=>by rw[bD (dN q h)];exact q
theorem Same.upd{H H':Hp}{p:Addr}(g:Same H H')(h:H p=none)(o:HO):Same H (L2.upd H' p o):=fun b u q=>by rw[bD (dN q h)];exact g b u q
theorem Same.Qn{K:PySem.W.Frag}{H H':Hp}{a:Addr}{xs:List V}(e:Same H H')(h:SqT K H a xs):SqT K H' a xs:=by
 rcases h with(h|⟨o,h⟩)|h
 ·exact .inl (.inl (e _ _ h))
 ·exact .inl (.inr ⟨o,e _ _ h⟩)
 ·exact .inr h
theorem mulL{i j:Int}(h1:-(2^64)<i)(h2:i<2^64):IntMulOk i j:= .of_left (intBits_le_64 h1 h2)
theorem mulR{i j:Int}(h1:-(2^64)<j)(h2:j<2^64):IntMulOk i j:= .of_right (intBits_le_64 h1 h2)
theorem dB{X:Cx}{scope sc:Scope}{N:List Str}{ix:List (Option Nat)}(sc':relabel scope X.env=sc)(kind:scope.kind = .function)(cell:scope.names.all (fun y=>y.2 != .cell)=true)
  (names:scope.names.all (fun x=>x.2 != .local||scope.names.lookup x.1==some .local)=true)
  (free:scope.names.all (fun y=>y.2 != .free||(X.env.scope.names.lookup y.1==some .cell||X.env.scope.names.lookup y.1==some .free))=true)
  (len:N.length=ix.length)
  (hix:(N.zip ix).all (fun p=>match p.2 with
   |none=>true
   |some i=>X.N[i]?==some p.1&&scope.names.any (fun y=>y.1==p.1&&y.2== .free)&&(sc.names.lookup p.1==some .cell||sc.names.lookup p.1==some .free))=true)
  (has:sc.names.all (fun y=>(y.2 != .cell&&y.2 != .free)||scope.names.any (fun z=>z.1==y.1&&z.2== .free))=true):zp X scope sc N ix:=by
 have mem:∀x:Str,scope.names.any (fun y=>y.1==x&&y.2== .free)=true->(x,NameKind.free)∈scope.names:=fun x h=>by
  obtain⟨y,hy,e⟩:=List.any_eq_true.mp h;rw[Bool.and_eq_true]at e;obtain⟨a,b⟩:=y;have e1:a=x:=eq_of_beq e.1;have e2:b = .free:=eq_of_beq e.2;subst e1;subst e2;exact hy
 refine⟨sc',kind,fun y hy e=>?_,fun x hx e=>?_,fun y hy e=>?_,len,fun j x i h1 h2=>?_,fun x hx=>?_⟩
 ·have:=List.all_eq_true.mp cell y hy;rw[e]at this;cases this
 ·have:=List.all_eq_true.mp names x hx;rw[e]at this;simpa using this
 ·have:=List.all_eq_true.mp free y hy;rw[e]at this;simpa[Env.kindOf]using this
 ·have hm:(x,some i)∈N.zip ix:=by
   have:(N.zip ix)[j]?=some (x,some i):=by
    rw[List.getElem?_zip_eq_some];exact⟨h1,h2⟩
   exact List.mem_of_getElem? this
  have:=List.all_eq_true.mp hix _ hm;simp only[Bool.and_eq_true]at this;obtain⟨⟨a1,a2⟩,a3⟩:=this;refine⟨eq_of_beq a1,mem x a2,?_⟩;rw[Bool.or_eq_true]at a3;rcases a3 with z|z
  ·exact .inl (eq_of_beq z)
  ·exact .inr (eq_of_beq z)
 ·have hm:∃k,(x,k)∈sc.names/\(k = .cell∨k = .free):=by
   rcases hx with z|z
   ·exact⟨_,PySem.mem_of_lookup z,.inl rfl⟩
   ·exact⟨_,PySem.mem_of_lookup z,.inr rfl⟩
  obtain⟨k,hk,e⟩:=hm;have:=List.all_eq_true.mp has _ hk;rw[Bool.or_eq_true]at this;rcases this with z|z
  ·rcases e with e|e<;>(subst e;simp at z)
  ·exact mem x z
structure gk(K:PySem.W.Frag)(x:Str)(st:Stmt):Prop where
 ex:∃(f:Addr) (oc:Value) (od:Option Addr) (kV doc pm:Value) (an:Option Addr) (cdv ct:Value) (sl:Array (Option Value)),PySem.W.nsIn K mainGlobals x=some (some (.ref f))/\
  K.lookup f=some ⟨oc,od,.func (PySem.W.fnOf x x (aG st) (aD st) (aj st) .none kV doc pm an cdv ct),sl⟩/\PySem.W.codeIn K cdv x=true/\PySem.W.keepIn K (.ref f)=true
theorem bh{K:PySem.W.Frag}{x:Str}{st:Stmt}{f:Addr}{oc:Value}{od:Option Addr}{kV doc pm:Value}{an:Option Addr}{cdv ct:Value}{sl:Array (Option Value)}(a:PySem.W.nsIn K mainGlobals x=some (some (.ref f)))
  (l:K.lookup f=some ⟨oc,od,.func (PySem.W.fnOf x x (aG st) (aD st) (aj st) .none kV doc pm an cdv ct),sl⟩) (c:PySem.W.codeIn K cdv x=true) (k:PySem.W.keepIn K (.ref f)=true):gk K x st:=
 ⟨f,oc,od,kV,doc,pm,an,cdv,ct,sl,a,l,c,k⟩
theorem gk.fn{K:PySem.W.Frag}{h:Heap}{mg:Str->Option Value}{x:Str}{st:Stmt}{ps:List Str}(F:gk K x st)(X:K.In h)(G:h.Ns mainGlobals mg)
  (hb:∀(kV doc pm:Value) (an:Option Addr) (cdv ct:Value) (us:List Value),us.length=ps.length->bindArgs (PySem.W.fnOf x x (aG st) (aD st) (aj st) .none kV doc pm an cdv ct) ⟨us,[]⟩=pure (ps.zip us)):Fn K mg x st ps:=by
 obtain⟨f,oc,od,kV,doc,pm,an,cdv,ct,sl,a,l,c,k⟩:=F.ex;have FF:=Gw (st:=st) l c k;exact⟨f,_,FF,PySem.W.mg_of X G a,FF.binds hb⟩
structure ItS(J:It)(xs:List V)(H1:Hp):Prop where
 go:∀i H',Same H1 H'->i<xs.length->J.go i H'
 yld:∀i H' x H2,Same H1 H'->J.yld i H' x H2->H2=H'/\(i<xs.length->xs[i]?=some x)
 stop:∀i H',Same H1 H'->xs.length<=i->J.stop i H'
theorem yw{K:PySem.W.Frag}{a:Addr}{xs:List V}{H1:Hp}(hq:SqL K H1 a xs):ItS (Itl K a) xs H1:=
 ⟨fun i H' g h=>⟨xs,xs[i],g.seq hq,by simp[h]⟩,fun i H' x H2 g y=>⟨y.1,fun _=>y.2 xs (g.seq hq)⟩,fun i H' g h=>⟨xs,g.seq hq,h⟩⟩
theorem D4{K:PySem.W.Frag}{a:Addr}{xs:List V}{H1:Hp}(hq:SqT K H1 a xs):ItS (Itt K a) xs H1:=
 ⟨fun i H' g h=>⟨xs,xs[i],g.Qn hq,by simp[h]⟩,fun i H' x H2 g y=>⟨y.1,fun _=>y.2 xs (g.Qn hq)⟩,fun i H' g h=>⟨xs,g.Qn hq,h⟩⟩
theorem mU{lo:Int}{n:Nat}{H1:Hp}:ItS (Itr lo n) ((List.range n).map fun i=>V.int (lo+(i:Nat))) H1:=
 ⟨fun i H' g h=>show i<n by simpa using h,fun i H' x H2 g y=>⟨y.1,fun h=>by
  have h':i<n:=by simpa using h
  rw[List.getElem?_map,List.getElem?_range h',y.2];rfl⟩,fun i H' g h=>show n<=i by simpa using h⟩
theorem jW{J:It}{xs:List V}{ix:List (Option Nat)}{tc:TT}{te:TE}{σ:St}{H1:Hp}{Q:VK}(I:ItS J xs H1)(hz:xs.length<=sizeLine){rest:St}(hst:cst ix σ=none::rest)(p:V->Bool)(F:V->V)
  (ht:∀H' x,Same H1 H'->x∈xs->∀k:Bool->Hp->Prop,k (p x) H'->tc (some x::rest) H' k)
  (he:∀H' x,Same H1 H'->x∈xs->p x=true->∀k:VK,k (F x) H'->te (some x::rest) H' k)
  (hQ:∀D,H1 D=none->Q (.ref D) (upd H1 D (.lst ((xs.filter p).map F)))):
  oR ix (lZ 0) tc te σ Q J H1:=by
 constructor;intro D hD;refine⟨fun i m σ' H'=>m=xs.length-i/\i<=xs.length/\(∃o,σ'=o::rest)/\H'=upd H1 D (.lst (((xs.take i).filter p).map F)),⟨xs.length,by simp,Nat.zero_le _,⟨none,hst⟩,by simp⟩,?_⟩;rintro i m σ' H' ⟨rfl,hi,⟨o,rfl⟩,rfl⟩;have g:Same H1 (upd H1 D (.lst (((xs.take i).filter p).map F))):=Same.new hD _;by_cases hlt:i<xs.length
 ·refine .inr ⟨I.go i _ g hlt,fun x H2 y=>?_⟩;obtain⟨rfl,hx⟩:=I.yld i _ x H2 g y;have hx:=hx hlt;have hm:x∈xs:=List.mem_of_getElem? hx;have et:xs.take (i+1)=xs.take i++[x]:=by
   rw[List.take_add_one,hx];rfl
  show tc (some x::rest) _ _;refine ht _ x g hm _ ?_;cases hp:p x with
  |true=>
   rw[if_pos rfl];refine he _ x g hm hp _ ⟨_,au,?_,xs.length-(i+1),by omega,rfl,hlt,⟨_,rfl⟩,?_⟩
   ·have h1:(((xs.take i).filter p).map F).length<=i:=by
     rw[List.length_map];exact Nat.le_trans (List.length_filter_le _ _) (by rw[List.length_take];omega)
    omega
   ·rw[Jj,et,List.filter_append,List.map_append];simp[hp]
  |false=>
   rw[if_neg Bool.false_ne_true];refine⟨xs.length-(i+1),by omega,rfl,hlt,⟨_,rfl⟩,?_⟩;rw[et,List.filter_append];simp[hp]
 ·have e:i=xs.length:=by omega
  subst e;refine .inl ⟨I.stop _ _ g (Nat.le_refl _),?_⟩;rw[List.take_length];exact hQ D hD
structure Bar(t:TE)(σ:St)(H:Hp)(Q:VK):Prop where
 go:t σ H Q
def Y6(t:TE):TE:=fun σ H Q=>Bar t σ H Q
theorem Bar.by{t:TE}{σ:St}{H:Hp}{Q:VK}(R:V->Hp->Prop)(h:∀k:VK,(∀v H1,R v H1->k v H1)->t σ H k)(q:∀v H1,R v H1->Q v H1):Bar t σ H Q:=⟨h Q q⟩
theorem Ce{X:Cx}{e:Expr}{t:TE}(h:PE X e t):PE X e (Y6 t):=fun pins s σ H Q I q=>h pins s σ H Q I q.go
structure Ii(t:TS)(D:Ends)(σ:St)(H:Hp):Prop where
 go:t D σ H
def WL(t:TS):TS:=fun D σ H=>Ii t D σ H
theorem yU{X:Cx}{st:Stmt}{t:TS}(h:PS X st t):PS X st (WL t):=fun pins s σ H D I q=>h pins s σ H D I q.go
theorem Ii.by{t:TS}{D:Ends}{σ:St}{H:Hp}(R:St->Hp->Prop)(h:∀N:St->Hp->Prop,(∀σ' H',R σ' H'->N σ' H')->t { D with nx:=N } σ H)(q:∀σ' H',R σ' H'->D.nx σ' H'):Ii t D σ H:=by
 constructor;exact h D.nx q
end L2
namespace HT
open PySem PyProof.Rows
section
variable {prog:Program} {w:World} {A:Around} {E:Value->Shared->Prop} {s:Shared}
theorem nG{t sl:Addr}{items:Array Value}{vl vu:Value}{lo hi:Option Int}{Q:Value->Shared->Prop}(ht:IsTup s.heap t items)(hs:s.heap.IsSliceOf sl vl vu .none)(pl:IsPart vl lo)(pu:IsPart vu hi)
  (hw:sIx items.size 0 lo=0/\sIx items.size items.size hi=items.size) (h:Q (.ref t) s):wpAny (model prog w) A (getItem (.ref t) (.ref sl)) Q E s:=by
 obtain⟨os,hos,hcs,hds⟩:=id hs;have hTs:s.TypeIs (.ref sl) "slice" := ⟨os,hos,hcs⟩;unfold getItem;try with_reducible refine wpAny_holding ?_
 first|refine wpAny_bind (wpAny_pure ?_)|skip
 refine wpAny_bind (wpAny_sequenceKey ht.typeIs (by decide) ?_);refine wpAny_bind (wpAny_callSpecial?_slot (name:=Str.ofString "__getitem__") ht.typeIs PyProof.Rows.slot_tuple_getitem
  (wpAny_call_entry PyProof.Rows.slot_tuple_getitem ht.typeIs entry_tuple_getitem ?_ (args_tuple_getitem _ _)))
 show wpAny _ _ (Builtin.Tuple.tupleItemsOf (.ref t)>>=_) _ _ s;refine wpAny_bind (tupleItemsOf_ ht ?_);refine wpAny_bind (wpAny_typeOf hTs ?_);rw[if_pos (by decide)];refine wpAny_bind (jO hs pl pu ?_);have hyes:(((sIx items.size 0 lo:Nat):Int)==0&&(1:Int)==1&&(sIx items.size items.size hi-sIx items.size 0 lo)==items.size)=true:=by
  rw[hw.1,hw.2];simp
 show wpAny _ _ (if(((sIx items.size 0 lo:Nat):Int)==0&&(1:Int)==1&&(sIx items.size items.size hi-sIx items.size 0 lo)==items.size)=true then _ else _) _ _ s;rw[if_pos hyes];unfold Builtin.Tuple.tupleIsExact;refine wpAny_bind (wpAny_bind (wpAny_typeOf ht.typeIs (wpAny_pure ?_)));rw[if_pos (by decide)];exact wpAny_bind (wpAny_rule (wpAny_pure ⟨_,rfl,wpAny_pure h⟩))
end
end HT
namespace L2
open PySem PySem.Spec PyProof.Rows
section
variable {X:Cx}
theorem Cm:SlR X (fun x lo hi H Q=>∃a xs,x = .ref a/\SqT X.K H a xs/\(HT.sIx xs.length 0 lo=0/\HT.sIx xs.length xs.length hi=xs.length)/\Q (.ref a) H):=by
 intro pins s σ H x v vl vu lo hi sl Q I rx hs pl pu h;obtain⟨a,xs,rfl,hx,hw,q⟩:=h;cases rx;obtain⟨its,r,ht,hz⟩:=I.tuple hx;have hlen:its.toArray.size=xs.length:=by rw[List.size_toArray];exact r.length.symm
 refine⟨"tuple",_,PyProof.Rows.slot_tuple_getitem.lookup,ht.typeIs,?_⟩;exact HT.nG ht hs pl pu (by rw[hlen];exact hw) ⟨.ref a,H,I,rfl,q⟩
end
theorem boot_min:bootBuiltins "min" = some (.builtin "min"):=by decide +kernel
section
variable {X:Cx} (K:PySem.W.Frag)
theorem SlR.imp{r r':V->Option Int->Option Int->Hp->VK->Prop}(h:SlR X r)(i:∀x lo hi H Q,r' x lo hi H Q->r x lo hi H Q):SlR X r':=fun pins s σ H x v vl vu lo hi sl Q I rx hs pl pu q=>h pins s σ H x v vl vu lo hi sl Q I rx hs pl pu (i _ _ _ _ _ q)
theorem gO(hK:X.K=K:=by rfl):OpR X (binaryOp .Add) (DY K):=by subst hK;exact v_add
theorem xix(hK:X.K=K:=by rfl):IxR X (Vy K):=by subst hK;exact ZY
theorem xeq{k:Nat}(hr:iG k X.A)(hK:X.K=K:=by rfl):OpR X (compareOp .Eq) (Gx K id):=by subst hK;exact v_eq hr
theorem xne{k:Nat}(hr:iG k X.A)(hK:X.K=K:=by rfl):OpR X (compareOp .NotEq) (Gx K not):=by subst hK;exact ZL hr
theorem jy(hK:X.K=K:=by rfl):lU X (.builtin "len") (fun xs H Q=>∃x n,xs=[x]/\Yo K x H n/\Q (.int n) H):=by subst hK;exact E1
theorem M4(hc:X.calm=true)(hK:X.K=K:=by rfl):lU X (.builtin "sum") (fun xs H Q=>∃(l:Addr) (ns:List Int),xs=[.ref l]/\SqL K H l (ns.map V.int)/\Q (.int ns.sum) H):=by subst hK;exact v_sum hc
theorem xlist(hK:X.K=K:=by rfl):lU X (.type "list") (fun xs H Q=>∃p ys,xs=[.ref p]/\(SqL K H p ys∨SqT K H p ys)/\∀l,H l=none->Q (.ref l) (upd H l (.lst ys))):=by subst hK;exact vQ
theorem ig(hK:X.K=K:=by rfl):lU X (.type "tuple") (fun xs H Q=>∃p ys,xs=[.ref p]/\((SqL K H p ys/\∀l,H l=none->Q (.ref l) (upd H l (.tup ys)))∨(SqT K H p ys/\Q (.ref p) H))):=by subst hK;exact uy
def Ye(K:PySem.W.Frag):V->Option Int->Option Int->Hp->VK->Prop:=fun x lo hi H Q=>match x with
 |.ref a=>(∃xs,SqL K H a xs/\∀p,H p=none->Q (.ref p) (upd H p (.lst (vU xs lo hi))))∨
   (∃xs,SqT K H a xs/\¬(HT.sIx xs.length 0 lo=0/\HT.sIx xs.length xs.length hi=xs.length)/\∀p,H p=none->Q (.ref p) (upd H p (.tup (vU xs lo hi))))∨
   (∃xs,SqT K H a xs/\(HT.sIx xs.length 0 lo=0/\HT.sIx xs.length xs.length hi=xs.length)/\Q (.ref a) H)
 |_=>False
theorem xsl(hK:X.K=K:=by rfl):SlR X (Ye K):=by
 subst hK;refine(IB.or (Lq.or Cm)).imp fun x lo hi H Q h=>?_;unfold Ye at h;split at h
 ·rcases h with⟨xs,h⟩|⟨xs,h⟩|⟨xs,h⟩
  ·exact .inl ⟨_,xs,rfl,h⟩
  ·exact .inr (.inl ⟨_,xs,rfl,h⟩)
  ·exact .inr (.inr ⟨_,xs,rfl,h⟩)
 ·exact h.elim
theorem Ie{tg l:Expr}{tl:TE}(hl:PE X l tl)(hK:X.K=K:=by rfl):PI X tg l (Yk K tl):=by subst hK;exact LR hl
theorem Ej{es:List Expr}{k:Nat}{t:TGs}{n:Nat}{pos:Pos}(hc:X.calm=true)(h:PGs X es t)(hK:X.K=K:=by rfl)
  (hn:(assignEach es X.env).length=n:=by rfl) (hst:(assignEach es X.env).findIdx? (·.1)=none:=by rfl):PG X (.Tuple es k pos) (Xn K n t):=by subst hK;exact LC hc h hn hst
theorem jX{o e:Expr}{to:TE}{te:TE}{apos cpos:Pos}(ho:PE X o to)(he:PE X e te)(hK:X.K=K:=by rfl)
  (hbase:attributeBase o "append" X.env (eval o X.env)=eval o X.env:=by rfl)
  (hfew:((backTo cpos (starEach [e] X.env)).all (fun x=>!x.1)&&(backToKw cpos (keywordEach [] X.env)).all (fun x=>x.1.isSome)
   && decide ([e].length+([]:List Keyword).length+(if([]:List Keyword).isEmpty then 0 else 1)<30))=true:=by rfl)
  (hline:(apos.endLine==cpos.line)=true:=by rfl) (hs:starEach [e] X.env=(false,eval e X.env)::starEach [] X.env:=by rfl):
  PE X (.Call (.Attribute o "append" apos) [e] [] cpos) (tBM K "list" Cq to (vZ te Xq)):=by
 subst hK;exact Rr PySem.F.plainAttrs_list PySem.F.slot_list_append PySem.F.type_list_append vW ho (aK he ak hs) hbase hfew hline hs rfl
end
section
variable {X:Cx} {es:List Expr} {te:TE} {t:TA}
theorem cX{c:Const}{j}{p:Pos}(h:PE X (.Constant c j p) te)(hr:PA X es t):PA X ((.Constant c j p)::es) (vZ te t):=aK h hr rfl
theorem aW{x:Str}{p:Pos}(h:PE X (.Name x p) te)(hr:PA X es t):PA X ((.Name x p)::es) (vZ te t):=aK h hr rfl
theorem xq{as:List Expr}{j}{p:Pos}(h:PE X (.Tuple as j p) te)(hr:PA X es t):PA X ((.Tuple as j p)::es) (vZ te t):=aK h hr rfl
theorem mR{a:Expr}{o:Operator}{b:Expr}{p:Pos}(h:PE X (.BinOp a o b p) te)(hr:PA X es t):PA X ((.BinOp a o b p)::es) (vZ te t):=aK h hr rfl
theorem MR{o:UnaryOp}{a:Expr}{p:Pos}(h:PE X (.UnaryOp o a p) te)(hr:PA X es t):PA X ((.UnaryOp o a p)::es) (vZ te t):=aK h hr rfl
end
def AX(a C:Addr):HO:= .ext fun h=>∃o vs,h.get? a=some o/\o.cls = .ref C/\o.data = .fields vs
theorem Jq{P:Program}{w:World}{H:Hp}{h:Heap}{a C:Addr}{o:Obj}{vs:Array Value}(e:h.get? a=some o)(hc:o.cls = .ref C)(hd:o.data = .fields vs):jP P w H h a (AX a C):=
 ⟨⟨o,vs,e,hc,hd⟩,⟨o,e⟩,fun _ _ ⟨o,vs,e,r⟩ k=>⟨o,vs,k o e,r⟩⟩
theorem jP.there{P:Program}{w:World}{H:Hp}{h:Heap}{a:Addr}{o:HO}(x:jP P w H h a o):∃u,h.get? a=some u:=by
 cases o with
 |lst xs=>obtain⟨_,_,_,_,e⟩:=x;exact⟨_,e⟩
 |tup xs=>obtain⟨_,_,_,o,e,_⟩:=x;exact⟨_,e⟩
 |dK kvs=>obtain⟨_,_,_,_,o,_,_,e,_⟩:=x;exact⟨_,e⟩
 |dT kvs=>obtain⟨_,_,_,_,o,_,_,e,_⟩:=x;exact⟨_,e⟩
 |set S n=>obtain⟨o,_,_,_,e,_⟩:=x;exact⟨_,e⟩
 |ins C dx fs=>obtain⟨_,_,_,e,_⟩:=x;exact⟨_,e⟩
 |own y=>exact x
 |xd fs=>obtain⟨_,⟨_,_,_,e,_⟩,_⟩:=x;exact⟨_,e⟩
 |rng lo hi=>obtain⟨_,_,_,e⟩:=x;exact⟨_,e⟩
 |frz ob u=>obtain⟨e,_⟩:=x;exact⟨_,e⟩
 |tbl ps=>exact⟨_,(show h.get? a=some _ from x)⟩
 |met f y=>exact⟨_,(show h.get? a=some _ from x)⟩
 |ext φ=>exact x.2.1
structure ExS(base:Heap)(C R:Addr):Prop where
 cls:∃nm q N bs bm hdct sn sub ab col dd k0 k1 k2 k3 k5 newId,base.get? C=some (excClassObj nm q C N bs bm hdct sn sub ab col dd k0 k1 k2 k3 k5 newId)/\(Value.ref C::bm).contains (.ref R)=true
 top:∃nm q N bs bm hdct sn sub ab col dd k0 k1 k2 k3 k5 newId,base.get? R=some (excClassObj nm q R N bs bm hdct sn sub ab col dd k0 k1 k2 k3 k5 newId)/\bm.contains (.type "BaseException")=true
theorem qZ{M:Model}{A:Around}{E:Value->Shared->Prop}{h:Heap}{g:Array GenState}{d:Drawn}{t:Nat}{os:OsState}{e C R:Addr}{oe:Obj}{Q:Bool->Shared->Prop}{base:Heap}(S:ExS base C R)(kb:∀b o,base.get? b=some o->h.get? b=some o)
  (he:h.get? e=some oe) (hcls:oe.cls = .ref C) (hq:Q true ⟨h,g,d,t,os⟩):wpAny M A (excMatches (.ref e) (.ref R)) Q E ⟨h,g,d,t,os⟩:=by
 obtain⟨nm,q,N,bs,bm,hdct,sn,sub,ab,col,dd,k0,k1,k2,k3,k5,newId,hC,hs⟩:=S.cls;obtain⟨nm',q',N',bs',bm',hdct',sn',sub',ab',col',dd',k0',k1',k2',k3',k5',newId',hR,hB⟩:=S.top;have hC:=kb _ _ hC;have hR:=kb _ _ hR;have hcB:(Value.ref R::bm').contains (.type "BaseException")=true:=by rw[List.contains_cons,hB,Bool.or_true]
 have f:=tc_notTuple;unfold excMatches
 repeat (first|(with_reducible refine wpAny_loadPart_at he ?_;rw[hcls])|with_reducible refine wpAny_loadPart_at hR ?_|(with_reducible refine wpAny_isSubtype_exc hR ?_;rw[hcB])|(with_reducible refine wpAny_isSubtype_exc hC ?_;rw[hs])|wp_step)
 exact hq
section
variable {X:Cx} {pins:List (Addr×Obj)} {σ:St} {H:Hp} {s:Shared}
theorem Inv.track{a:Addr}{o:HO}(I:Inv X pins σ H s)(hn:H a=none)(h0:∀u,X.s₀.heap.get? a≠some u)(hL:a≠X.env.locals)(hc:∀x c,X.env.cells.lookup x=some c->c≠a)(hp:∀p∈X.pn++pins,p.1≠a)
  (new:jP X.prog X.w (upd H a o) s.heap a o):Inv X pins σ (upd H a o) s:=by
 have ne:∀b u,H b=some u->b≠a:=fun b u e=>dN e hn;refine⟨I.ok,I.os,I.bare,⟨I.base.keep,I.base.slot,fun b u e n hx=>?_,I.base.there,fun b xs e=>?_,fun b u xs e=>?_,fun b ps e=>?_⟩,I.loc,I.cell,?_,fun x c e=>?_,fun p q=>?_,fun b u e=>?_,I.len⟩
 ·rw[bD (fun z=>h0 u (by rw[<-z];exact e))];exact I.base.free b u e n hx
 ·have:=I.base.tups b xs e;rw[bD (ne b _ this)];exact this
 ·have:=I.base.frzs b u xs e;rw[bD (ne b _ this)];exact this
 ·obtain⟨m,this⟩:=I.base.tbls b ps e;exact⟨m,by rw[bD (ne b _ this)];exact this⟩
 ·rw[bD (Ne.symm hL)];exact I.free
 ·rw[bD (hc x c e)];exact I.freeC x c e
 ·obtain⟨e1,e2,e3⟩:=I.pin p q;exact⟨e1,by rw[bD (hp p q)];exact e2,e3⟩
 ·by_cases hb:b=a
  ·subst hb;rw[au]at e;cases e;exact new
  ·rw[bD hb]at e;exact(I.hok b u e).stay (fun _ _ _ q=>q) (fun c q=>by rw[bD (ne c _ q)];exact q) fun c xs q=>by rw[bD (ne c _ q)];exact q
theorem Inv.unset{h':Heap}{t':Nat}{j:Nat}{n:Str}{v:Option Value}{m:Str->Option Value}(I:Inv X pins σ H s)(hN:X.N.Nodup)(hj:X.N[j]?=some n)(hm:s.heap.Ns X.env.locals m)
  (hn:h'.Ns X.env.locals fun y=>if y=n then v else m y) (hs:Heap.SameBut X.env.locals s.heap h'):Inv X pins (σ.set j none) H { s with heap:=h',toks:=t' }:=by
 obtain⟨m2,hn2,hl⟩:=id I.loc;obtain⟨oL,_,_,hoL,_⟩:=id hm;have em:m2=m:=by
  obtain⟨o1,es1,ep1,ho1,hd1,hk1,hf1⟩:=hn2;obtain⟨o2,es2,ep2,ho2,hd2,hk2,hf2⟩:=hm;rw[ho1]at ho2;cases ho2;rw[hd1]at hd2;cases hd2
  funext y;rw[<-hf1 y,<-hf2 y]
 subst em;refine⟨I.ok,I.os,I.bare,⟨fun b o e nn hb hx=>?_,fun b o e nn hb hx=>?_,I.base.free,fun b o e hx=>?_,I.base.tups,I.base.frzs,I.base.tbls⟩,⟨_,hn,fun i y u e1 e2 e3=>?_⟩,fun y c e=>?_,I.free,I.freeC,fun p hp=>?_,fun b u e=>?_,by simpa using I.len⟩
 ·exact(hs.2 b (Nat.ne_of_lt (Nat.lt_of_lt_of_le (Heap.lt_size e) I.ok.above))).trans (I.base.keep b o e nn hb hx)
 ·obtain⟨sl,e1⟩:=I.base.slot b o e nn hb hx;exact⟨sl,(hs.2 b (Nat.ne_of_lt (Nat.lt_of_lt_of_le (Heap.lt_size e) I.ok.above))).trans e1⟩
 ·obtain⟨o',e1⟩:=I.base.there b o e hx;exact⟨o',(hs.2 b (Nat.ne_of_lt (Nat.lt_of_lt_of_le (Heap.lt_size e) I.ok.above))).trans e1⟩
 ·by_cases hji:i=j
  ·subst hji;by_cases hlt:i < σ.length
   ·rw[List.getElem?_set_self hlt]at e2;cases e2
   ·rw[List.getElem?_eq_none (by simp;omega)]at e2;cases e2
  ·rw[List.getElem?_set_ne (Ne.symm hji)]at e2;obtain⟨u',r',q⟩:=hl i y u e1 e2 e3;refine⟨u',r',?_⟩;rcases q with⟨k,e⟩|⟨k,c,e,z⟩
   ·refine .inl ⟨k,?_⟩;have:y≠n:=fun z=>hji (sE hN e1 (z▸hj));simp[this,e]
   ·exact .inr ⟨k,c,e,z.sameBut hs (I.cne y c e)⟩
 ·obtain⟨w',z⟩:=I.cell y c e;exact⟨w',z.sameBut hs (I.cne y c e)⟩
 ·obtain⟨e,nn,ne,nf,d⟩:=I.pin p hp;exact⟨(hs.2 p.1 ne).trans e,nn,ne,nf,d⟩
 ·refine(I.hok b u e).stay (fun c w' hc q=>(hs.2 c ?_).trans q) (fun _ q=>q) fun _ _ q=>q;rintro rfl;rcases hc with z|hc
  ·rw[<-z,I.free]at e;cases e
  ·rw[I.free]at hc;cases hc
end
def cxS(X:Cx)(a:Addr):Cx:={ X with A:=X.A.mark (some (.ref a)),calm:=false,xe:=fun _ _=>False }
theorem Inv.suite{X:Cx}{pins:List (Addr×Obj)}{σ:St}{H:Hp}{s:Shared}(I:Inv X pins σ H s)(a:Addr):Inv (cxS X a) pins σ H s:=
 ⟨⟨I.ok.mod,I.ok.kind,I.ok.glob,I.ok.blt,I.ok.above,I.ok.inj,I.ok.has,I.ok.cab,(fun z=>by cases z),I.ok.frames,I.ok.stk,I.ok.exf,I.ok.bs,I.ok.bsz,I.ok.noex,I.ok.exfs,I.ok.Al,I.ok.frf⟩,
  I.os,I.bare,I.base,I.loc,I.cell,I.free,I.freeC,I.pin,I.hok,I.len⟩
theorem Inv.Ip{X:Cx}{pins:List (Addr×Obj)}{σ:St}{H:Hp}{s:Shared}{a:Addr}(ok:X.Ok)(I:Inv (cxS X a) pins σ H s):Inv X pins σ H s:=
 ⟨ok,I.os,I.bare,I.base,I.loc,I.cell,I.free,I.freeC,I.pin,I.hok,I.len⟩
structure ExI(K:PySem.W.Frag)(C:Addr):Prop where
 ga:PySem.W.findIn K (.ref C) "__getattribute__" = some (some (.builtin "BaseException.__getattribute__"))
 gt:PySem.W.findIn K (.ref C) "__getattr__" = some none
 cl:PySem.W.findIn K (.ref C) "__class__" = some (some (.builtin "object.__class__"))
 mb:PySem.W.mroIn K C (.type "BaseException")=some true
 mo:PySem.W.mroIn K C (.type "object")=some true
 is:(PySem.W.clsIn K C).isSome=true
section
variable {prog:Program} {w:World} {A:Around} {E:Value->Shared->Prop} {h:Heap} {g:Array GenState} {d:Drawn} {t:Nat} {os:OsState} {a C:Addr} {o:Obj} {K:PySem.W.Frag}
theorem J4{R:Result->Shared->Prop}(S:ExI K C)(X:K.In h)(hx:h.get? a=some o)(hc:o.cls = .ref C)(hq:R (.ok (.ret (.ref C))) ⟨h,g,d,t,os⟩):
  codeAny (model prog w) A (.call (.builtin "getset_descriptor.__get__") ⟨[.builtin "object.__class__",.ref a,.ref C],[]⟩) R ⟨h,g,d,t,os⟩:=by
 have hT5:(⟨h,g,d,t,os⟩:Shared).TypeIs (.builtin "object.__class__") "getset_descriptor" := F.typeOf_object_class;have L1:=PySem.W.looks_mroIn (M:=model prog w) X S.mo;rw[<-F.owner_object_class]at L1;refine codeAny_call_builtin F.slot_gs_get.plain F.entry_gs_get (F.slot_gs_get.check _ _ _ _ _ _ _ _ hT5 (F.args_gs_get _ _ _) ?_)
 repeat (any_goals (first|assumption|(with_reducible refine wpAny_loadPart_at hx ?_;rw[hc])|with_reducible refine L1.at ?_|wp_step))
 refine⟨Code.quiet_builtin _ (by decide +kernel),codeAny_builtin F.entry_object_class ?_⟩
 repeat (any_goals (first|assumption|(with_reducible refine wpAny_loadPart_at hx ?_;rw[hc])|wp_step))
theorem Gh{tk:Tok}{Q:Fin->Shared->Prop}(S:ExI K C)(X:K.In h)(hx:h.get? a=some o)(hc:o.cls = .ref C)(hq:Q (.done (.ret (.ref C))) ⟨h,g,d,t,os⟩):
  wpAny (model prog w) A (Builtin.«object.__getattribute__» ⟨[.ref a,.str "__class__" tk],[]⟩) Q E ⟨h,g,d,t,os⟩:=by
 have hT5:(⟨h,g,d,t,os⟩:Shared).TypeIs (.builtin "object.__class__") "getset_descriptor" := F.typeOf_object_class;have L1:=PySem.W.looks_findIn (M:=model prog w) X S.cl;have f5:=F.typeOf_object_class;have f6:=F.slot_gs_get.lookup;have f7:=F.slot_gs_set.lookup
 repeat (any_goals (first|assumption|(with_reducible refine wpAny_loadPart_at hx ?_;rw[hc])|with_reducible refine L1.at ?_|wp_step))
 refine J4 S X hx hc ?_
 repeat (any_goals (first|assumption|wp_step))
theorem Fj{nameV:Value}{Q:Unit->Shared->Prop}(S:ExI K C)(X:K.In h)(hx:h.get? a=some o)(hc:o.cls = .ref C)(hq:Q () ⟨h,g,d,t,os⟩):
  wpAny (model prog w) A (checkBuiltinCall "BaseException.__getattribute__" ⟨[.ref a,nameV],[]⟩) Q E ⟨h,g,d,t,os⟩:=by
 have hk:builtinKind "BaseException.__getattribute__" = some .slot:=by decide +kernel
 have hs:splitId "BaseException.__getattribute__" = some ("BaseException","__getattribute__"):=by decide +kernel
 have L1:=PySem.W.looks_mroIn (M:=model prog w) X S.mb;have ha:=F.args_bexc_ga (.ref a) nameV;simp only[checkBuiltinCall,hk,hs];refine wpAny_bind ?_;unfold isInstance
 repeat (first|(with_reducible refine wpAny_loadPart_at hx ?_;rw[hc])|with_reducible refine L1.at ?_|wp_step)
 exact hq
theorem Oc{tk:Tok}{Q:Value->Shared->Prop}(S:ExI K C)(X:K.In h)(hx:h.get? a=some o)(hc:o.cls = .ref C)(hq:Q (.ref C) ⟨h,g,d,t,os⟩):
  wpAny (model prog w) A (getAttrBy (.ref a) (.str "__class__" tk) false) Q E ⟨h,g,d,t,os⟩:=by
 have f3:=F.excAttr_ValueError.ga.bind (.ref a);have L1:=PySem.W.looks_findIn (M:=model prog w) X S.ga;have L2:=PySem.W.looks_findIn (M:=model prog w) X S.gt;have hx2:(Value.builtin "BaseException.__getattribute__" == Value.builtin "object.__getattribute__")=false:=by decide +kernel
 have hx1:(onTheHeap (Value.ref C)&&Value.builtin "BaseException.__getattribute__" == Value.builtin "object.__getattribute__")=false:=by rw[hx2];rfl
 repeat (any_goals (first|assumption|(with_reducible refine wpAny_loadPart_at hx ?_;rw[hc])|with_reducible refine L1.at ?_|with_reducible refine L2.at ?_|wp_step))
 refine codeAny_call_builtin F.excAttr_ValueError.ga.plain F.entry_bexc_ga (Fj S X hx hc (Gh S X hx hc ?_))
 repeat (any_goals (first|assumption|wp_step))
theorem Ig{Q:Option Value->Shared->Prop}(S:ExI K C)(X:K.In h)(hx:h.get? a=some o)(hc:o.cls = .ref C)(hq:Q (some (.ref C)) ⟨h,g,d,t+1,os⟩):
  wpAny (model prog w) A (getAttr? (.ref a) "__class__") Q E ⟨h,g,d,t,os⟩:=by
 unfold getAttr? getAttrBy?
 repeat (any_goals (first|assumption|with_reducible apply Oc S X hx hc|wp_step))
end
theorem tK{K:PySem.W.Frag}{a C:Addr}(S:ExI K C):PySem.W.KitX K (.ref a) (.ref C) (fun h=>∃o vs,h.get? a=some o/\o.cls = .ref C/\o.data = .fields vs) where
 ty:=fun M h _ p=>by
  obtain⟨o,_,h1,h2,_⟩:=p;exact h2▸(PySem.W.Looks.ld h1).andThen .now
 it:=fun _ _ X _=>by
  have hi:=S.is;unfold PySem.W.clsIn at hi;split at hi
  ·rename_i c' d' cd' sl' ho
   intro A' Q' E' s' k q;unfold isType loadHead;exact wpAny_bind (wpAny_loadPart (k _ _ (X _ _ ho)) (wpAny_pure q))
  ·cases hi
 ne:=fun h tp dd its n sl X htp=>by
  have hi:=S.is;refine Bool.eq_false_iff.mpr fun q=>?_;have e:C=tp:=Value.ref.inj (beq_iff_eq.mp q);subst e;unfold PySem.W.clsIn at hi;split at hi
  ·rename_i c' d' cd' sl' ho
   have z:=(X _ _ ho).symm.trans htp;cases z
  ·cases hi
 ca:=fun {prog w A E Q s} X p k=>by
  obtain⟨o,vs,h1,h2,_⟩:=p;obtain⟨h0,g,d,t,os⟩:=s;exact Ig S X h1 h2 k
theorem BK:∀{Ds:List Addr} {us:List Value},Vals (Ds.map V.ref) us->us=Ds.map Value.ref
 |[],_,.nil=>rfl
 |D::Ds,_,.cons r t=>by
  have e:=BK (Ds:=Ds) t;cases (show _=Value.ref D from r);rw[e];rfl
def JR(K:PySem.W.Frag):List V->Hp->VK->Prop:=fun xs H Q=>∃a C y b,xs=[.ref a,y]/\H a=some (AX a C)/\ExI K C/\
 ((∃D,y = .ref D/\PySem.W.kitOne K (.ref C) (.ref D)=some b)∨(∃T,y = .ty T/\PySem.W.kitOne K (.ref C) (.type T)=some b)∨(∃(p:Addr) (Ds:List Addr),y = .ref p/\H p=some (.tup (Ds.map V.ref))/\PySem.W.kitAny K (.ref C) (Ds.map Value.ref)=some b))/\Q (.bl b) H
theorem LY{X:Cx}:lU X (.builtin "isinstance") (JR X.K):=by
 intro pins s σ H xs us Q I r h;obtain⟨a,C,y,b,rfl,ha,S,h1,q⟩:=h;obtain⟨u,v,rfl,ru,rv⟩:=r.two;cases ru;have p:∃o vs,s.heap.get? a=some o/\o.cls = .ref C/\o.data = .fields vs:=(I.hok a _ ha).1;have fin:∀tk,EP X pins σ Q (.bool b) { s with toks:=tk }:=fun tk=>⟨.bl b,H,I.tok tk,rfl,q⟩;rcases h1 with⟨D,rfl,e⟩|⟨T,rfl,e⟩|⟨tp,Ds,rfl,ht,e⟩
 ·cases rv;exact PySem.W.kia_one (tK S) I.kIn p e (fun z=>nomatch z) fin
 ·cases rv;exact PySem.W.kia_one (tK S) I.kIn p e (fun z=>nomatch z) fin
 ·cases rv;obtain⟨its,r2,p2,_⟩:=I.tuple (SqT.of ht);have ei:=BK r2;subst ei;obtain⟨⟨cls,dd,data,sl⟩,ho,hc,n,hd⟩:=id p2;simp only at hc hd;subst hc hd;exact PySem.W.kia_tup (tK S) I.kIn p ho e (fun z=>nomatch z) fin
theorem DR{X:Cx}(K:PySem.W.Frag)(hK:X.K=K:=by rfl):lU X (.builtin "isinstance") (JR K):=by subst hK;exact LY
theorem mO{X:Cx}{x:Str}{C:Addr}{pos:Pos}(hg:Gl X x)(hm:X.mg x=some (.ref C))(hd:(x==("__debug__" : Str))=false:=by decide):PE X (.Name x pos) (tC (.ref C)):=xR hg hm rfl hd
theorem GP{K:PySem.W.Frag}{h:Heap}{mg:Str->Option Value}{x:Str}{C:Addr}{newId inN Bn:String}{bmN:List Value}(X:K.In h)(G:h.Ns mainGlobals mg)(e:PySem.W.nsIn K mainGlobals x=some (some (.ref C)))
  (q:PySem.W.excIn K C [.type "ValueError",.type "Exception",.type "BaseException",.type "object"] newId=true) (Fn:ExcBaseFacts Bn newId inN bmN)
  (hBn:[Value.type "ValueError",.type "Exception",.type "BaseException",.type "object"].contains (.type Bn)=true):ExC mg h x C:=by
 refine⟨_,newId,⟨PySem.W.mg_of X G e,?_⟩,Bn,inN,bmN,_,_,_,Fn,hBn,F.excBase_ValueError⟩;unfold PySem.W.excIn at q;split at q
 ·rename_i dd cd sl ho
  split at q
  ·rename_i C' bm k0 k1 k2 k3 n k5 hm hs
   simp only[Bool.and_eq_true,beq_iff_eq,Bool.not_eq_true']at q;obtain⟨⟨⟨⟨⟨rfl,rfl⟩,hdel⟩,ht⟩,hok⟩,hni⟩:=q;obtain⟨nm,bs,mro,ns,qn,hdc,sn,sub,ab,col,del⟩:=cd;dsimp only at hm hdel hok hni;subst hm;subst hdel;have hsl:sl=#[k0,k1,k2,k3,some (.builtin n),k5]:=by
    obtain⟨l⟩:=sl;simp only at hs;rw[hs]
   subst hsl;exact⟨bm,ns,nm,qn,bs,hdc,sn,sub,ab,col,dd,k0,k1,k2,k3,k5,_,X _ _ ho,.of_isNs (PySem.W.isNs_of_in X hok),PySem.W.nsMap_none_of_in X hok hni,PySem.W.tail_of_in X ht⟩
  ·cases q
 ·cases q
def yM(K:PySem.W.Frag)(C R:Addr):Bool:=match K.lookup C with
 |some ⟨.type "type",_,.cls cd,sl⟩=>(match cd.mro,sl.toList with
  |.ref C'::bm,[_,_,_,_,some (.builtin _),_]=>C'==C&&!cd.hasDel&&(Value.ref C'::bm).contains (.ref R)
  |_,_=>false)
 |_=>false
theorem Hi{K:PySem.W.Frag}{h:Heap}{C R:Addr}(X:K.In h)(q:yM K C R=true)(qr:PySem.W.ktsIn K R "BaseException" = true):ExS h C R:=by
 refine⟨?_,?_⟩
 ·unfold yM at q;split at q
  ·rename_i dd cd sl ho
   split at q
   ·rename_i C' bm k0 k1 k2 k3 n k5 hm hs
    simp only[Bool.and_eq_true,beq_iff_eq,Bool.not_eq_true']at q;obtain⟨⟨rfl,hdel⟩,ht⟩:=q;obtain⟨nm,bs,mro,ns,qn,hdc,sn,sub,ab,col,del⟩:=cd;dsimp only at hm hdel;subst hm;subst hdel;have hsl:sl=#[k0,k1,k2,k3,some (.builtin n),k5]:=by
     obtain⟨l⟩:=sl;simp only at hs;rw[hs]
    subst hsl;exact⟨nm,qn,ns,bs,bm,hdc,sn,sub,ab,col,dd,k0,k1,k2,k3,k5,n,X _ _ ho,ht⟩
   ·cases q
  ·cases q
 ·obtain⟨nm,qn,N,bs,bm,hdct,sn,sub,ab,col,dd,k0,k1,k2,k3,k5,newId,hR,hb,_⟩:=PySem.W.kts_cls X qr;exact⟨nm,qn,N,bs,bm,hdct,sn,sub,ab,col,dd,k0,k1,k2,k3,k5,newId,hR,hb⟩
theorem qw:bootBuiltins "ValueError" = some (.type "ValueError"):=by decide +kernel
section
variable {X:Cx} {a:Expr} {ta:TE}
end
end L2
namespace L2
open PySem
theorem qx:∀ns:List Int,PyData.canLayAll0 (ns.map PyData.int)=true
 |[]=>rfl
 |n::r=>by
  have:=qx r;simp[PyData.canLayAll0,PyData.canLay0,this]
theorem rH:∀ns:List Int,PyData.depthAll (ns.map PyData.int)<=1
 |[]=>by simp[PyData.depthAll]
 |n::r=>by
  have:=rH r;simp[PyData.depthAll,PyData.depth];omega
theorem rJ(ns:List Int):SeqAt.shaped (.tuple (ns.map .int))=true:=by
 have h1:=qx ns;have h2:=rH ns;simp only[SeqAt.shaped,PyData.canLay0,PyData.depth,h1,Bool.true_and];exact decide_eq_true (by omega)
theorem HY(ns ms:List Int):PyData.eqv (.tuple (ns.map .int)) (.tuple (ms.map .int))=decide (ns=ms):=by
 rw[PyData.eqv];exact PySem.W.ked_eqvAll ns ms
theorem YV{K:PySem.W.Frag}{g:Bool->Bool}{H:Hp}{a b:Addr}{ns ms:List Int}{Q:VK}(ha:SqT K H a (ns.map V.int))(hb:SqT K H b (ms.map V.int))(q:Q (.bl (g (decide (ns=ms)))) H):Gx K g (.ref a) (.ref b) H Q:=
 .inl ⟨_,_,.tup ha (AW.ints ns),.tup hb (AW.ints ms),rJ ns,rJ ms,by rw[HY];exact q⟩
end L2
set_option maxHeartbeats 4000000
namespace L2
open PySem PySem.Spec PyProof.Rows
section
variable {prog:Program} {w:World} {A:Around} {E:Value->Shared->Prop} {s:Shared}
end
section
variable {X:Cx} {pins:List (Addr×Obj)} {σ:St} {H:Hp} {s:Shared} {h':Heap}
end
section
variable {prog:Program} {w:World} {A:Around} {E:Value->Shared->Prop} {s:Shared}
end
section
variable {X:Cx} {pins:List (Addr×Obj)} {σ:St} {H:Hp} {s:Shared} {h':Heap}
end
def Itd(lo:Int)(n:Nat):It:=⟨fun i _=>i<n,fun i H x H'=>H'=H/\x = .int (lo-i),fun i _=>n<=i⟩
theorem jk{P:Program}{w:World}{K:PySem.W.Frag}{tg:Expr}(it:Addr)(lo:Int)(n:Nat):Turn P w K tg (Itd lo n) [it] it (fun i h=>IsRangeIter h it (lo+(i:Nat)*(-1)) ((n:Int)-(i:Nat)) (-1)) where
 mem:=by simp
 obj:=fun i h st b hb=>by
  have e:b=it:=by simpa using hb
  subst e;exact⟨_,st,fun v z=>by
   have z':Data.fields _=Data.cell v:=z;cases z'⟩
 keep:=fun i h h' st k=>k it (by simp) _ st
 item:=by
  intro X hP hw hK hc i pins s σ H E I hf st hg;subst hP hw hK;obtain⟨f0,f1,f2,f3,f4,f5⟩:=hf it (by simp);have W:=Walks.range (prog:=X.prog) (w:=X.w) (I.ok.hd hc) it lo (-1) n;refine W.item i s _ _ hg st fun v h' tk hv st' kk=>?_;obtain⟨t,rfl⟩:=hv;have I1:Inv X pins σ H { s with heap:=h',toks:=tk }:=I.turned (fun b o hb e=>kk b o (by simpa using hb) e) f0 f1 f3 f4 f5;refine⟨_,rfl,FD (s:={ s with heap:=h',toks:=tk }) (n:= "range_iterator") st' rfl rfl (by decide) ⟨.int (lo-i),H,I1,⟨t,?_⟩,⟨rfl,rfl⟩,st',fun b hb=>(hf b hb).1⟩⟩;rw[Int.mul_neg_one];rfl
 done:=by
  intro X hP hw hK hc i pins s σ H E I hf st hg;subst hP hw hK;obtain⟨f0,f1,f2,f3,f4,f5⟩:=hf it (by simp);exact wpAny_pyNext_range_end (I.ok.hd hc) st (by have:n<=i:=hg;omega) fun h' eb=>⟨rfl,I.turned (t':=s.toks) (fun b o hb e=>eb b o hb e) f0 f1 f3 f4 f5⟩
 self:=fun _ _ _ _ _ st h=>wpAny_pyIter_rangeiter st h
theorem rangeSize_down(a b:Int):Builtin.Range.rangeSize a b (-1)=if b<a then a-b else 0:=by
 unfold Builtin.Range.rangeSize;simp only[show ¬(-1:Int)>0 by decide,if_false,Int.neg_neg,Int.ediv_one];split<;>omega
theorem small_down{a b:Int}(ha:-(2^62)<=a)(ha':a<2^62)(hb:-(2^62)<=b)(hb':b<2^62):Builtin.Range.small a b (-1)=true:=by
 unfold Builtin.Range.small;rw[rangeSize_down];simp only[Builtin.Range.rangeFitsLong,Bool.and_eq_true,Bool.or_eq_true,decide_eq_true_eq,beq_iff_eq,show ¬(-1:Int)>0 by decide,if_false];split<;>omega
section
variable {X:Cx} {tg:Expr}
theorem HW{pins:List (Addr×Obj)}{σ:St}{H:Hp}{s:Shared}{R:It->Hp->Prop}{E:Value->Shared->Prop}{lo hi:Int}{t u v:Tok}{tk:Nat}(I:Inv X pins σ H s)(h1:-(2^62)<=lo)(h2:lo<2^62)(h3:-(2^62)<=hi)(h4:hi<2^62)
  (q:R (Itd lo (lo-hi).toNat) H):wpAny (model X.prog X.w) X.A (pyIter (.ref s.heap.objs.size)) (PIE X pins σ tg R) E { s with heap:=s.heap.push { cls:= .type "range",data:= .fields #[.int lo t,.int hi u,.int (-1) v] },toks:=tk }:=by
 refine wpAny_pyIter_range (IsRange.new ..) (small_down h1 h2 h3 h4) ?_;have I1:Inv X pins σ H { s with heap:=s.heap.push { cls:= .type "range",data:= .fields #[.int lo t,.int hi u,.int (-1) v] },toks:=tk }:=I.kept fun b o e=>Heap.get?_push_of_some _ e;refine⟨(s.heap.push { cls:= .type "range",data:= .fields #[.int lo t,.int hi u,.int (-1) v] }).objs.size,[(s.heap.push { cls:= .type "range",data:= .fields #[.int lo t,.int hi u,.int (-1) v] }).objs.size],_,_,H,rfl,
  I1.kept (t':=tk) fun b o e=>Heap.get?_push_of_some _ e,jk _ lo (lo-hi).toNat,?_,fun b hb=>?_,q⟩
 ·have e1:lo+((0:Nat):Int)*(-1)=lo:=by simp
  have e2:(((lo-hi).toNat:Nat):Int)-((0:Nat):Int)=Builtin.Range.rangeSize lo hi (-1):=by rw[rangeSize_down];split<;>omega
  show IsRangeIter _ _ (lo+((0:Nat):Int)*(-1)) ((((lo-hi).toNat:Nat):Int)-((0:Nat):Int)) (-1);rw[e1,e2];exact Heap.get?_push_size _ rfl
 ·have e:b=(s.heap.push { cls:= .type "range",data:= .fields #[.int lo t,.int hi u,.int (-1) v] }).objs.size:=by simpa using hb
  subst e;exact I1.J0 (Nat.le_refl _) (I1.hok.fresh (Nat.le_refl _))
def RK(ta:TA):TI:=fun σ H R=>ta σ H fun vs H1=>∃i j:Int,vs=[.int i,.int j,.int (-1)]/\(-(2^62)<=i/\i<2^62/\-(2^62)<=j/\j<2^62)/\R (Itd i (i-j).toNat) H1
theorem Bc{a b c:Expr}{ta:TA}{p pos:Pos}(hg:Gl X "range")(hm:X.mg "range" = none)(ha:PA X [a,b,c] ta)(hs:starEach [a,b,c] X.env=(false,eval a X.env)::starEach [b,c] X.env:=by rfl)(hs2:(backTo pos (starEach [b,c] X.env)).any (·.1)=false:=by rfl):
  PI X tg (.Call (.Name "range" p) [a,b,c] [] pos) (RK ta):=by
 intro pins s σ H R I h;refine Call_ (rM I hg hm boot_range (PyProof.Rows.callWith_type1 (thn (ha pos pins s σ H _ I h) fun us s1 ⟨vs,H1,I1,r1,q1⟩=>?_) hs hs2));obtain⟨i,j,e,⟨q1,q2,q3,q4⟩,q⟩:=q1;subst e;cases r1 with
 |cons r rr=>
  cases rr with
  |cons r' rr=>
   cases rr with
   |cons r'' rr=>
    cases rr;obtain⟨t,rfl⟩:=r;obtain⟨t',rfl⟩:=r';obtain⟨t'',rfl⟩:=r'';exact call_range_3 (by decide) (HW (tk:=s1.toks) I1 q1 q2 q3 q4 q) (.inl (PyProof.noPylong_small (by omega)))
end
theorem FY{lo:Int}{n:Nat}{g:TG}{tb:TS}{D:Ends}{σ:St}{H:Hp}(Pv:Nat->St->Hp->Prop)(h0:Pv 0 σ H)
  (hs:∀i σ H,i<n->Pv i σ H->g (.int (lo-i)) σ H fun σ2 H2=>tb { D with nx:=Pv (i+1),ct:=Pv (i+1),bk:=D.nx } σ2 H2) (hd:∀σ H,Pv n σ H->D.nx σ H):
  ∃W:Nat->Nat->St->Hp->Prop,(∃m,W 0 m σ H)/\∀i m σ H,W i m σ H->
   ((Itd lo n).stop i H/\D.nx σ H)∨((Itd lo n).go i H/\∃N:St->Hp->Prop,(∀σ' H',N σ' H'->∃m',m'<m/\W (i+1) m' σ' H')/\∀x H',(Itd lo n).yld i H x H'->g x σ H' fun σ2 H2=>tb { D with nx:=N,ct:=N,bk:=D.nx } σ2 H2):=by
 refine⟨fun i m σ H=>m=n-i/\i<=n/\Pv i σ H,⟨n,by simp,Nat.zero_le _,h0⟩,?_⟩;rintro i m σ H ⟨rfl,hi,p⟩;by_cases hlt:i<n
 ·refine .inr ⟨hlt,Pv (i+1),fun σ' H' p'=>⟨n-(i+1),by omega,rfl,hlt,p'⟩,fun x H' y=>?_⟩;obtain⟨e,y⟩:=y;subst e y;exact hs i σ _ hlt p
 ·have e:i=n:=by omega
  subst e;exact .inl ⟨Nat.le_refl _,hd σ H p⟩
section
variable {X:Cx}
end
section
variable {X:Cx}
end
end L2
namespace Att
open PySem PySem.W PySem.Calls PyProof.Rows
theorem xH{ns:List Int}(h:WData.layableAll [WData.list (ns.map WData.int)]=true):∀x∈ns,Builtin.Int.intBits x<=1048576:=by
 intro x hx;obtain⟨h1,_,h3⟩:=layableW_iff.mp (layW_cons h).1;simp only[WData.canLay]at h1;simp only[WData.weight]at h3;have hm:WData.int x∈ns.map WData.int:=List.mem_map.mpr ⟨x,hx,rfl⟩;have hc:WData.canLayAll (ns.map WData.int)=true:=by simpa using h1
 obtain⟨_,_,c⟩:=items_part hm hc;have e:WData.weight (.int x)=Builtin.Int.intBits x:=rfl;rw[e]at c;have:(2:Nat)^20=1048576:=by decide
 omega
theorem vf{l:OpenLaw}{n:Nat}{q:Program}{loose:List Str}{XP:(Str->Option Value)->Heap->Prop}{YP:World->Heap->Prop}{d:DefRec}
  (hn:l.most=some n) (hdf:d.params.defaults=[])
  (call:∀(w:World) (s₀ s₁:Shared) (mg mb:Str->Option Value) (fa:Addr) (o:Obj) (pm cd doc:Value) (a:Addr) (vs:List Value) (ns:List Int),
   Ground q loose [] XP w s₀ mg mb s₁.heap->YP w s₁.heap->
   s₁.heap.get? fa=some o->o.data = .func (docDef d.name d.params d.body d.scope pm cd doc)->s₁.heap.CodeRec cd d.name->mg d.name=some (.ref fa)->
   s₁.heap.get? a=some { cls:= .type "list",data:= .seq vs.toArray }->IntsAre vs ns->ns.length<=n->(∀x∈ns,Builtin.Int.intBits x<=1048576)->s₁.gens=#[]->
   codeAny (model l.prog w) callerA (.call (.ref fa) ⟨[.ref a],[]⟩) (fun r s'=>r = .ok (.ret (.bool true))/\OldK s₁.heap s'.heap/\s'.os=s₁.os/\AllBare s'.gens) s₁):
  WalkO q loose XP YP l.row.toRowW d [] (fun f vs=>PySem.call f vs):=by
 intro w s₀ s₁ mg mb G Y fa o pm cd doc dV kV ho hd hcd hD hmg hg args vals as hpre hlay hrd hwl hlo;obtain rfl:dV = .none:=Dflts.none hD hdf;obtain rfl:kV = .none:=Dflts.noKw hD;obtain⟨a,vs,ns,rfl,rfl,hobj,hints,hlen⟩:=DV hn hpre hwl;refine enter_call (codeAny_mono (call w s₀ s₁ mg mb fa o pm cd doc a vs ns G Y ho (fd_plain hd) hcd hmg hobj hints hlen (xH hlay) hg) fun r s' hq=>?_);obtain⟨rfl,h2,h3,h4⟩:=hq;exact⟨.inl ⟨.bool true,.bool true,[],rfl,fun _=>rfl,.bool true,Df l _,fun _=>⟨List.Pairwise.nil,fun _ hm=>(nomatch hm)⟩⟩,h2,h3,h4⟩
end Att
namespace L2
open PySem PySem.Spec PyProof.Rows
section
variable {X:Cx}
end
def Gs(base:Heap)(R:Addr)(j:Nat)(ts:Addr->TS)(D:Ends)(σ:St):XK:=fun cls _ H2=>∃C,cls = .ref C/\ExS base C R/\∀a,H2 a=none->
  ts a { nx:=fun σ' H'=>D.nx (σ'.set j none) H',rt:=D.rt,bk:=fun σ' H'=>D.bk (σ'.set j none) H',ct:=fun σ' H'=>D.ct (σ'.set j none) H' } (σ.set j (some (.ref a))) (upd H2 a (AX a C))
theorem BZ{X:Cx}{n x:Str}{j:Nat}{R:Addr}{xp hpos:Pos}{b₀:Stmt}{suite:List Stmt}{ts:Addr->TS}{pins:List (Addr×Obj)}{σ:St}{H H1:Hp}{s s1 s2:Shared}{D:Ends}{ev:Value}
  (hstk:X.stack=X.env::X.outer) (hfr:X.env.frame=some X.env.locals) (hex:X.ex=[]) (hN:X.N.Nodup)
  (hj:X.N[j]?=some n) (hn:X.env.scope.names.lookup n=some .local) (hx:Gl X x) (hR:X.mg x=some (.ref R)) (hs:∀a,PSs (cxS X a) (b₀::suite) (ts a))
  (hdx:(x==("__debug__" : Str))=false) (I:Inv X pins σ H s) (I1:Inv X pins σ H1 s1) (hq:jC X.prog X.w X.stack H1 s1 (Gs X.base R j ts D σ) ev s2):
  wpAny (model X.prog X.w) X.A (noteFrame ev X.env) (fun _ s₂=>wpAny (model X.prog X.w) X.A (setFlight ev none) (fun _ s₃=>wpAny (model X.prog X.w) X.A (handleBy ev X.env [.ExceptHandler (some (.Name x xp)) (some n) (b₀::suite) hpos]) (SP X pins D) X.xe s₃) X.xe s₂) X.xe s2:=by
 have nx:∀b:Addr,b∉X.ex:=fun b=>by rw[hex];simp
 obtain⟨ea,Cc,a0,B,H2,rfl,os,bare,fl,hok,un,old,C',eC,S,q2⟩:=jC.ex hq;cases eC;rw[hstk]at fl;have frs_eq:frs X.stack=(X.env::X.outer).filterMap (·.frame):=by rw[hstk];rfl
 have oe:=fl.first;have newE:∀u,s1.heap.get? ea≠some u:=fun u z=>by
  rcases old ea u z with hb|⟨o',hb⟩
  ·rw[frs_eq]at hb;obtain⟨_,o,ho,hd⟩:=fl.2.2.1.mem hb;obtain⟨o2,vs2,e1,_,e2,_⟩:=oe;rw[e1]at ho;cases ho;exact hd _ e2
  ·rw[fl.2.1]at hb;cases hb
 have to:∀h6,Heap.FlyingW B (X.env::X.outer) ea (.ref Cc) a0 h6->s2.heap.UpToSlots h6->Inv X pins σ H2 { s2 with heap:=h6 }:=fun h6 fl6 up=>by
  refine I1.JF (ch:=[]) os ⟨fun b o e1 n1 hb _=>?_,fun b o e1 n1 hb _=>?_,fun b o e1 n1 _=>un.free b o e1 n1 (by simp),fun b o e1 _=>?_,un.tups,un.frzs,un.tbls⟩ (hok.kept fl6.1) bare (fun _ z=>nomatch z)
  ·rcases old b o e1 with z|⟨o',z⟩
   ·exact absurd z hb
   ·have e2:=un.keep b o e1 n1 hb (by simp);have e3:=fl.1 b o' z;rw[e2]at e3;cases e3;exact fl6.1 b _ z
  ·obtain⟨sl,e2⟩:=un.slot b o e1 n1 hb (by simp);rw[frs_eq]at hb;obtain⟨_,o2,ho,hd⟩:=fl.2.2.1.mem hb;rw[e2]at ho;cases ho;obtain⟨sl',e3⟩:=up b _ e2 hd;exact⟨sl',e3⟩
  ·rcases old b o e1 with z|⟨o',z⟩
   ·rw[frs_eq]at z;obtain⟨_,o2,ho,hd⟩:=fl.2.2.1.mem z;obtain⟨sl',e3⟩:=up b _ ho hd;exact⟨_,e3⟩
   ·exact⟨o',fl6.1 b o' z⟩
 have hfrm:X.A.frames=some (X.env::X.outer):=by rw[I.ok.frames,hstk]
 refine wpAny_looks_onW hfrm hfr fl fun h4 held4 up4=>?_;refine wpAny_landsW held4 fun h5 fl5 up5=>?_;have I5:=to h5 fl5 (up4.trans up5);obtain⟨ob,hob,hobc⟩:=fl5.there;refine wpAny_handleBy_cons (codeAny_handlers_test (qI (X:=cxS X ea) (I5.suite ea) hx hR ?_ hdx)) (by intro z;cases z);refine qZ S I5.bk hob hobc (codeAny_handlers_suite_as ?_);refine lands_againW fl5 fun h6 fl6 up6=>?_;have I6:=to h6 fl6 ((up4.trans up5).trans up6);obtain⟨oe6,vs6,e6,c6,d6,_⟩:=fl6.first;have hn2:H2 ea=none:=by
  cases z:H2 ea with
  |none=>rfl
  |some u=>
   exfalso
   obtain⟨o',z'⟩:=(hok ea u z).there;rw[fl.2.1]at z';cases z'
 have I7:Inv X pins σ (upd H2 ea (AX ea Cc)) { s2 with heap:=h6 }:=by
  refine I6.track hn2 (fun u z=>?_) (fun z=>?_) (fun y c e z=>?_) (fun p hp z=>?_) (Jq e6 c6 d6)
  ·obtain⟨o',e1⟩:=I1.base.there ea u z (nx ea);exact newE o' e1
  ·obtain⟨m,⟨o,_,_,ho,_⟩,_⟩:=I1.loc;exact newE o (by rw[z];exact ho)
  ·obtain⟨v',o,ho,_⟩:=I1.cell y c e;exact newE o (by rw[<-z];exact ho)
  ·exact newE p.2 (by rw[<-z];exact(I1.pin p hp).1)
 refine oZ (X:=cxS X ea) (I7.suite ea) hN hj (.inl hn) (show RelV (.ref ea) (Value.ref ea)from rfl) (fun s8 I8=>?_) (.inr hn);have q3:=q2 ea hn2;have gone:∀{σ9:St} {H9:Hp} {s9:Shared} {Q':Unit->Shared->Prop},Inv (cxS X ea) pins σ9 H9 s9->(∀s10,Inv X pins (σ9.set j none) H9 s10->Q' () s10)->wpAny (model X.prog X.w) X.A (do bindName X.env n .none;unbindBehindTheSuite X.env n hpos) Q' X.xe s9:=
  fun {σ9 H9 s9 Q'} I9 k=>by
   have I9':Inv X pins σ9 H9 s9:=I9.Ip I.ok;obtain⟨m,hm9,_⟩:=id I9'.loc;exact wpAny_nameGoes_keeps hn hm9 (by rw[I.ok.kind];rfl) fun h' v' n' sb=>k _ (I9'.unset hN hj hm9 n' sb)
 refine wpAny_mono (hs ea pins s8 _ _ _ I8 q3) (fun fl9 s9 q9=>?_) fun _ _ z=>z.elim;cases fl9 with
 |next=>
  obtain⟨σ9,H9,I9,q9⟩:=q9;exact gone I9 fun s10 I10=>⟨_,H9,I10,q9⟩
 |brk=>
  obtain⟨σ9,H9,I9,q9⟩:=q9;exact gone I9 fun s10 I10=>⟨_,H9,I10,q9⟩
 |cont=>
  obtain⟨σ9,H9,I9,q9⟩:=q9;exact gone I9 fun s10 I10=>⟨_,H9,I10,q9⟩
 |ret u=>
  obtain⟨y,σ9,H9,I9,r9,q9⟩:=q9;exact gone I9 fun s10 I10=>⟨y,_,H9,I10,r9,q9⟩
abbrev SpS:=Shared->Sp
structure Lf(P:Program)(w:World)(K:PySem.W.Frag)(mg:Str->Option Value)(base:Heap)(CX:CXT)(k:Nat)(f:Addr)(fd:FuncData)(ps:List Str)(sp:SpS):Prop where
 len:∀s vs H Q E,sp s vs H Q E->vs.length=ps.length
 run:∀(A:Around) (outer:List Env) (s:Shared) (H:Hp) (args:Args) (us:List Value) (vs:List V) (Q:VK) (E:XK),iG k A->IW P w K mg base A outer s H->BindsTo s fd args (ps.zip us)->Vals vs us->sp s vs H Q E->
  codeAny (model P w) A (.call (.ref f) args) (CR CX outer P w H s Q E) s
structure MX(P:Program)(w:World)(K:PySem.W.Frag)(mg:Str->Option Value)(base:Heap)(x:Str)(k:Nat)(ps:List Str)(sp:SpS):Prop where
 ex:∃(g:Addr) (gd:FuncData),mg x=some (.ref g)/\PySem.W.keepIn K (.ref g)=true/\Binds K gd ps []/\Lf P w K mg base (jC P w) k g gd ps sp
structure MkC(mg:Str->Option Value)(base:Heap)(cdv:Value)(T:Addr):Prop where
 ex:∃c,cdv = .ref c/\PySem.W.CodeHd base c T
 bm:∃bm ob,mg "__builtins__" = some (.ref bm)/\bm≠builtinsNs/\base.get? bm=some ob/\ob.cls = .type "module" /\ ob.dict=some builtinsNs/\ob.data = .plain
structure MkD(mg:Str->Option Value)(base:Heap)(x:Str)(T:Addr):Prop where
 ex:∃a o fd,mg x=some (.ref a)/\base.get? a=some o/\o.data = .func fd/\MkC mg base fd.code T
section
variable {P:Program} {w:World} {K:PySem.W.Frag} {mg:Str->Option Value} {base:Heap}
theorem J5{CX:CXT}{k:Nat}{f:Addr}{name qual:Str}{params:Arguments}{body:List Stmt}{scope:Scope}{dV kV doc pm cdv ct oc:Value}{an od:Option Addr}
  {osl:Array (Option Value)} {N ps:List Str} {sp:SpS} (lk:K.lookup f=some ⟨oc,od,.func (PySem.W.fnOf name qual params body scope dV kV doc pm an cdv ct),osl⟩) (hcd:PySem.W.codeIn K cdv qual=true) (S:aY N ps scope)
  (len:∀s vs H Q E,sp s vs H Q E->vs.length=ps.length)
  (hbody:∀(A:Around) (outer:List Env) (s:Shared) (H:Hp) (vs:List V) (Q:VK) (E:XK),K.In base->iG k (A.deeper (envOfC qual scope s.heap.objs.size f cdv))->sp s vs H Q E->
   ∃t,PSs (Fg CX P w K mg base N qual scope f cdv A outer s H E) body t/\t { nx:=fun _ H'=>Q .non H',rt:=Q } (start N vs) H):
  Lf P w K mg base CX (k+1) f (PySem.W.fnOf name qual params body scope dV kV doc pm an cdv ct) ps sp:=by
 refine⟨len,fun A outer s H args us vs Q E hr e0 hb r hsp=>?_⟩;have hl:=len _ _ _ _ _ hsp;have KX:K.In s.heap:=e0.mod.kin.keeps fun b o e=>(e0.bs b o e).1;have lim:s.heap.NoLimit:=e0.mod.nolimit.keeps fun b o e=>(e0.bs b o e).1;have hkind:∀y∈ps.zip us,scope.names.lookup y.1=some .local∨(scope.names.lookup y.1=some .cell/\((cellsFrom (s.heap.objs.size+1) scope.names []).lookup y.1).isSome=true):=fun⟨n,v⟩ hy=>by
  rcases S.par n (List.of_mem_zip hy).1 with q|q
  ·exact .inl q
  ·exact .inr ⟨q,PySem.W.cellsFrom_some _ _ _ (.inl q)⟩
 refine codeAny_call_function hr.depth (KX _ _ lk) rfl S.co S.gen rfl (PySem.W.codeRec_of KX hcd) (hb _ _ _ _ ?_);refine wpAny_newFunctionEnv_cells S.kind hkind fun env he s1 x=>?_;subst he;refine⟨lim.keeps x.toInCall.keep,codeAny_func ?_⟩;obtain⟨t,ht,hq⟩:=hbody A outer s H vs Q E e0.mod.kin (hr.deeper _) hsp;have I:Inv (Fg CX P w K mg base N qual scope f cdv A outer s H E) [] (start N vs) H s1:=vm S hr.hd e0 hl r x;refine wpAny_mono (ht [] s1 (start N vs) H _ I hq) (fun fl s' hs=>?_) fun e s' hs=>hs;have fin:∀{σ':St} {H':Hp} {v:V} {u:Value},Inv (Fg CX P w K mg base N qual scope f cdv A outer s H E) [] σ' H' s'->RelV v u->Q v H'->CE outer P w H s Q u s':=
  fun {σ' H' v u} J rv q=>⟨v,H',J.os,J.bare,J.base,J.hok,rv,q⟩
 cases fl with
 |ret u=>
  obtain⟨v,σ',H',J,rv,q⟩:=hs;exact fin J rv q
 |next=>
  obtain⟨σ',H',J,q⟩:=hs;exact fin (v:=V.non) (u:=Value.none) J rfl q
 |brk=>
  obtain⟨_,_,_,q⟩:=hs;exact False.elim q
 |cont=>
  obtain⟨_,_,_,q⟩:=hs;exact False.elim q
theorem Fn.Zx{x:Str}{st:Stmt}{N ps:List Str}{k:Nat}{sp:SpS}(F:Fn K mg x st ps)(S:aY N ps (aj st))(len:∀s vs H Q E,sp s vs H Q E->vs.length=ps.length)
  (hbody:∀(f:Addr) (cdv:Value) (A:Around) (outer:List Env) (s:Shared) (H:Hp) (vs:List V) (Q:VK) (E:XK),iG k (A.deeper (envOfC x (aj st) s.heap.objs.size f cdv))->sp s vs H Q E->
   ∃t,PSs (cxF P w K mg base N x (aj st) f cdv A outer s H E).nox (aD st) t/\t { nx:=fun _ H'=>Q .non H',rt:=Q } (start N vs) H):MX P w K mg base x (k+1) ps sp:=by
 obtain⟨f,fd,F,m,b⟩:=F.ex;have kp:=F.kp;obtain⟨oc,od,kV,doc,pm,an,cdv,ct,osl,rfl,lk,hcd⟩:=F.ex;refine⟨f,_,m,kp,b,J5 lk hcd S len fun A outer s H vs Q E _ hr h=>?_⟩;obtain⟨t,a,b⟩:=hbody f cdv A outer s H vs Q E hr h;exact⟨t,a.nox,b⟩
theorem Fun.okM{x qual:Str}{st:Stmt}{f:Addr}{fd:FuncData}{N ps:List Str}{k:Nat}{sp:Sp}{T:Addr}(F:Fun K x qual st f fd)(m:mg x=some (.ref f))(M:MkD mg base x T)(KB:K.In base)(S:aY N ps (aj st))(len:∀vs H Q E,sp vs H Q E->vs.length=ps.length)
  (hbody:∀(cdv:Value) (A:Around) (outer:List Env) (s:Shared) (H:Hp) (vs:List V) (Q:VK) (E:XK),MkC mg base cdv T->iG k (A.deeper (envOfC qual (aj st) s.heap.objs.size f cdv))->sp vs H Q E->
   ∃t,PSs (cxF P w K mg base N qual (aj st) f cdv A outer s H E).nox (aD st) t/\t { nx:=fun _ H'=>Q .non H',rt:=Q } (start N vs) H):CP P w K mg base (jC P w) (k+1) f fd ps sp:=by
 obtain⟨oc,od,kV,doc,pm,an,cdv,ct,osl,rfl,lk,hcd⟩:=F.ex;have hM:MkC mg base cdv T:=by
  obtain⟨a,o,fd,e1,e2,e3,C⟩:=M.ex;rw[m]at e1;cases e1;rw[KB _ _ lk]at e2;cases e2;cases e3;exact C
 refine Kg lk hcd S len fun A outer s H vs Q E hr h=>?_;obtain⟨t,a,b⟩:=hbody cdv A outer s H vs Q E hM hr h;exact⟨t,a.nox,b⟩
theorem Fn.ZR{x:Str}{st:Stmt}{N ps:List Str}{k:Nat}{sp:Sp}{T:Addr}(F:Fn K mg x st ps)(M:MkD mg base x T)(KB:K.In base)(S:aY N ps (aj st))(len:∀vs H Q E,sp vs H Q E->vs.length=ps.length)
  (hbody:∀(f:Addr) (cdv:Value) (A:Around) (outer:List Env) (s:Shared) (H:Hp) (vs:List V) (Q:VK) (E:XK),MkC mg base cdv T->iG k (A.deeper (envOfC x (aj st) s.heap.objs.size f cdv))->sp vs H Q E->
   ∃t,PSs (cxF P w K mg base N x (aj st) f cdv A outer s H E).nox (aD st) t/\t { nx:=fun _ H'=>Q .non H',rt:=Q } (start N vs) H):Cal P w K mg base x (k+1) ps sp:=by
 obtain⟨f,fd,F,m,b⟩:=F.ex;exact⟨f,fd,m,F.kp,b,F.okM m M KB S len fun cdv A outer s H vs Q E hM hr h=>hbody f cdv A outer s H vs Q E hM hr h⟩
end
def cxE(P:Program)(w:World)(K:PySem.W.Frag)(mg:Str->Option Value)(base:Heap)(N:List Str)(env:Env)(A:Around)(outer:List Env)(s:Shared)(H:Hp)(E:XK):Cx where
 prog:=P
 w:=w
 K:=K
 mg:=mg
 base:=base
 A:=A.deeper env
 N:=N
 s₀:=s
 H₀:=H
 env:=env
 outer:=outer
 stack:=env::outer
 ex:=[]
 calm:=true
 fn:=fun _=>false
 pn:=[]
 xe:=fun e s'=>wpAny (model P w) (A.deeper env) (leaving env e) (fun _ s''=>jC P w outer H s E e s'') (fun e' s''=>jC P w outer H s E e' s'') s'
abbrev cxL(P:Program)(w:World)(K:PySem.W.Frag)(mg:Str->Option Value)(base:Heap)(N:List Str)(qual:Str)(scope:Scope)(f:Addr)(cd:Value)(cl:List (Str×Addr))(A:Around)(outer:List Env)(s:Shared)(H:Hp)(E:XK):Cx:=
 cxE P w K mg base N (PySem.W.envX qual scope s.heap.objs.size f cd cl) A outer s H E
section
variable {P:Program} {w:World} {K:PySem.W.Frag} {mg:Str->Option Value} {base:Heap} {N:List Str} {qual:Str} {scope:Scope} {f:Addr} {cd:Value} {cl:List (Str×Addr)} {A:Around} {outer:List Env} {s₀:Shared} {H₀:Hp} {E:XK}
theorem Fl:Passes (jC P w) (cxL P w K mg base N qual scope f cd cl A outer s₀ H₀ E) E:=by
 intro pins σ H s e s' I h;obtain⟨ea,C,a0,B,H',rfl,os,bare,fl,hok,un,old,q⟩:=h.ex;refine wpAny_leaves_onW (L:=s₀.heap.objs.size) I.ok.frames rfl fl fun h' x1 x2=>?_;have inB:∀b o,s.heap.get? b=some o->b∉frs (PySem.W.envX qual scope s₀.heap.objs.size f cd cl::outer)->∃o',B.get? b=some o'/\s'.heap.get? b=some o':=fun b o e hb=>by
  rcases old b o e with z|⟨o',z⟩
  ·exact absurd z hb
  ·exact⟨o',z,fl.1 b o' z⟩
 have up:∀b o,s'.heap.get? b=some o->b∈frs (PySem.W.envX qual scope s₀.heap.objs.size f cd cl::outer)->∃sl,h'.get? b=some { o with slots:=sl }:=fun b o e hb=>by
  obtain⟨_,o',ho',hd⟩:=fl.2.2.1.mem hb;rw[e]at ho';cases ho';exact x2 b o e hd
 refine⟨ea,C,a0,B,H',rfl,os.trans I.os,bare,x1,hok,I.PN rfl (fun b o e n hb=>?_) (fun b o e n hb=>?_) (fun b o e n=>un.free b o e n (by simp)) (fun b o e=>?_) un.tups un.frzs un.tbls,fun b o e=>?_,q⟩
 ·obtain⟨o',e1,e2⟩:=inB b o e hb;have e3:=un.keep b o e n hb (by simp);rw[e2]at e3;cases e3;exact x1.1 b _ e1
 ·obtain⟨sl,e1⟩:=un.slot b o e n (List.mem_cons_of_mem _ hb) (by simp);obtain⟨sl',e2⟩:=up b _ e1 (List.mem_cons_of_mem _ hb);exact⟨sl',e2⟩
 ·by_cases hb:b∈frs (PySem.W.envX qual scope s₀.heap.objs.size f cd cl::outer)
  ·obtain⟨o',e1⟩:=un.there b o e (by simp);obtain⟨sl,e2⟩:=up b o' e1 hb;exact⟨_,e2⟩
  ·obtain⟨o',e1,_⟩:=inB b o e hb;exact⟨o',x1.1 b o' e1⟩
 ·by_cases hb:b∈frs outer
  ·exact .inl hb
  ·obtain⟨o',e1⟩:=I.base.there b o e (by intro z;cases z);obtain⟨o2,e2,_⟩:=inB b o' e1 (I.yZ e hb);exact .inr ⟨o2,e2⟩
theorem pK{x:Str}{k k':Nat}{ps:List Str}{sp:Sp}{p pos:Pos}{e:Expr}{es:List Expr}{t:TA}(C:Cal P w K mg base x k ps sp)(hr:iG k' (cxL P w K mg base N qual scope f cd cl A outer s₀ H₀ E).A)(hg:Gl (cxL P w K mg base N qual scope f cd cl A outer s₀ H₀ E) x)
  (ha:PA (cxL P w K mg base N qual scope f cd cl A outer s₀ H₀ E) (e::es) t) (hk:k<=k':=by decide) (hd:(x==("__debug__" : Str))=false:=by decide)
  (he:starEach (e::es) (cxL P w K mg base N qual scope f cd cl A outer s₀ H₀ E).env=(false,eval e (cxL P w K mg base N qual scope f cd cl A outer s₀ H₀ E).env)::starEach es (cxL P w K mg base N qual scope f cd cl A outer s₀ H₀ E).env:=by rfl)
  (hpl:(backTo pos (starEach es (cxL P w K mg base N qual scope f cd cl A outer s₀ H₀ E).env)).any (·.1)=false:=by rfl):
  PE (cxL P w K mg base N qual scope f cd cl A outer s₀ H₀ E) (.Call (.Name x p) (e::es) [] pos) (FJ sp [] E t):=by
 obtain⟨g,gd,hm,hkp,hb,F⟩:=C.ex;exact wU F (hr.mono hk) hg hm hkp hb .nil Fl ha hd he hpl
end
structure Lam(P:Program)(w:World)(K:PySem.W.Frag)(mg:Str->Option Value)(base:Heap)(k:Nat)(s:Shared)(H:Hp)(f:Addr)(sp0:Hp->VK->XK->Prop):Prop where
 fn:∃o fd,s.heap.get? f=some o/\o.data = .func fd
 un:H f=none
 run:∀(A:Around) (outer:List Env) (s':Shared) (H':Hp) (fs:List Addr) (Q:VK) (E:XK),iG k A->IW P w K mg base A outer s' H'->Un fs [] H H' s.heap s'.heap->sp0 H' Q E->
  codeAny (model P w) A (.call (.ref f) ⟨[],[]⟩) (CR (jC P w) outer P w H' s' Q E) s'
def yV(P:Program)(w:World)(K:PySem.W.Frag)(mg:Str->Option Value)(base:Heap)(k:Nat)(spG:(Hp->VK->XK->Prop)->Hp->VK->XK->Prop):SpS:=
 fun s vs H Q E=>∃f sp0,vs=[.ref f]/\Lam P w K mg base k s H f sp0/\spG sp0 H Q E
def kO(H:Hp)(T:Addr)(qual:Str):Prop:=∃ps,H T=some (.tbl ps)/\TriplesOk ps.toList/\
 ∀pos cv,codeAmong pos ps.toList=some cv->∃c' oc vs t,cv = .ref c'/\H c'=some (.frz oc (.own 0))/\oc.data = .fields vs/\vs[1]?=some (.str qual t)
def fJ(H H':Hp):Prop:=∀b o,(∀ps,o≠ .tbl ps)->H b=some o->H' b=some o
theorem Same.t{H H':Hp}(g:Same H H'):fJ H H':=fun b o _ h=>g b o h
theorem fJ.refl(H:Hp):fJ H H:=fun _ _ _ h=>h
theorem fJ.trans{H H1 H2:Hp}(a:fJ H H1)(b:fJ H1 H2):fJ H H2:=fun c o n h=>b c o n (a c o n h)
theorem fJ.lst{H H':Hp}(g:fJ H H'){a:Addr}{xs:List V}(h:H a=some (.lst xs)):H' a=some (.lst xs):=g a _ (fun _ z=>nomatch z) h
theorem fJ.tup{H H':Hp}(g:fJ H H'){a:Addr}{xs:List V}(h:H a=some (.tup xs)):H' a=some (.tup xs):=g a _ (fun _ z=>nomatch z) h
theorem fJ.frz{H H':Hp}(g:fJ H H'){a:Addr}{o:Obj}{u:HO}(h:H a=some (.frz o u)):H' a=some (.frz o u):=g a _ (fun _ z=>nomatch z) h
theorem fJ.seq{K:PySem.W.Frag}{H H':Hp}{a:Addr}{xs:List V}(e:fJ H H')(h:SqL K H a xs):SqL K H' a xs:=by
 rcases h with(h|⟨o,h⟩)|h
 ·exact .inl (.inl (e.lst h))
 ·exact .inl (.inr ⟨o,e.frz h⟩)
 ·exact .inr h
theorem kO.same{H H':Hp}{T:Addr}{q:Str}(h:kO H T q)(g:Same H H'):kO H' T q:=by
 obtain⟨ps,e,t,k⟩:=h;refine⟨ps,g _ _ e,t,fun pos cv z=>?_⟩;obtain⟨c',oc,vs,t',a,b,r⟩:=k pos cv z;exact⟨c',oc,vs,t',a,g _ _ b,r⟩
theorem zU{a b:Int}{c cv:Value}{pos:Pos}{l:List Value}(h:TriplesOk l)(z:codeAmong pos (l++[rawInt a,rawInt b,c])=some cv):codeAmong pos l=some cv∨cv=c:=by
 revert z
 fun_induction TriplesOk l with
 |case1=>
  intro z;simp only[List.nil_append,codeAmong,rawInt]at z;split at z
  ·exact .inr (Option.some.inj z).symm
  ·cases z
 |case2 a' t b' u x rest ih=>
  intro z;simp only[List.cons_append,codeAmong]at z⊢;split at z
  ·rename_i hc;rw[if_pos hc];exact .inl z
  ·rename_i hc;rw[if_neg hc];exact ih h z
 |case3 l h1 h2=>exact h.elim
structure Ly(X:Cx)(scope:Scope)(N:List Str)(ix:List (Option Nat)):Prop where
 kind:scope.kind = .function
 co:scope.isCoroutine=false
 gen:scope.isGenerator=false
 cell:∀y∈scope.names,y.2≠ .cell
 free:∀y∈scope.names,y.2 = .free->X.env.kindOf y.1=some .cell∨X.env.kindOf y.1=some .free
 len:N.length=ix.length
 ix:∀(j:Nat) (x:Str) (i:Nat),N[j]?=some x->ix[j]?=some (some i)->X.N[i]?=some x/\(x,NameKind.free)∈scope.names/\scope.names.lookup x=some .free
 has:∀x,(scope.names.lookup x=some .cell∨scope.names.lookup x=some .free)->(x,NameKind.free)∈scope.names
theorem Cg{X:Cx}{scope:Scope}{N:List Str}{ix:List (Option Nat)}(kind:scope.kind = .function)(co:scope.isCoroutine=false)(gen:scope.isGenerator=false)(cell:scope.names.all (fun y=>y.2 != .cell)=true)
  (free:scope.names.all (fun y=>y.2 != .free||(X.env.scope.names.lookup y.1==some .cell||X.env.scope.names.lookup y.1==some .free))=true)
  (len:N.length=ix.length)
  (hix:(N.zip ix).all (fun p=>match p.2 with
   |none=>true
   |some i=>X.N[i]?==some p.1&&scope.names.any (fun y=>y.1==p.1&&y.2== .free)&&scope.names.lookup p.1==some .free)=true)
  (has:scope.names.all (fun y=>(y.2 != .cell&&y.2 != .free)||scope.names.any (fun z=>z.1==y.1&&z.2== .free))=true):Ly X scope N ix:=by
 have mem:∀x:Str,scope.names.any (fun y=>y.1==x&&y.2== .free)=true->(x,NameKind.free)∈scope.names:=fun x h=>by
  obtain⟨y,hy,e⟩:=List.any_eq_true.mp h;rw[Bool.and_eq_true]at e;obtain⟨a,b⟩:=y;have e1:a=x:=eq_of_beq e.1;have e2:b = .free:=eq_of_beq e.2;subst e1;subst e2;exact hy
 refine⟨kind,co,gen,fun y hy e=>?_,fun y hy e=>?_,len,fun j x i h1 h2=>?_,fun x hx=>?_⟩
 ·have:=List.all_eq_true.mp cell y hy;rw[e]at this;cases this
 ·have:=List.all_eq_true.mp free y hy;rw[e]at this;simpa[Env.kindOf]using this
 ·have hm:(x,some i)∈N.zip ix:=by
   have:(N.zip ix)[j]?=some (x,some i):=by
    rw[List.getElem?_zip_eq_some];exact⟨h1,h2⟩
   exact List.mem_of_getElem? this
  have:=List.all_eq_true.mp hix _ hm;simp only[Bool.and_eq_true]at this;obtain⟨⟨a1,a2⟩,a3⟩:=this;exact⟨eq_of_beq a1,mem x a2,eq_of_beq a3⟩
 ·have hm:∃k,(x,k)∈scope.names/\(k = .cell∨k = .free):=by
   rcases hx with z|z
   ·exact⟨_,PySem.mem_of_lookup z,.inl rfl⟩
   ·exact⟨_,PySem.mem_of_lookup z,.inr rfl⟩
  obtain⟨k,hk,e⟩:=hm;have:=List.all_eq_true.mp has _ hk;rw[Bool.or_eq_true]at this;rcases this with z|z
  ·rcases e with e|e<;>(subst e;simp at z)
  ·exact mem x z
section
variable {X:Cx} {pins:List (Addr×Obj)} {σ:St} {H:Hp} {s:Shared}
theorem Inv.grown{T c':Addr}{ps more:Array Value}{oc:Obj}{h':Heap}{t':Nat}(I:Inv X pins σ H s)(hT:H T=some (.tbl ps))(hx:Heap.ExtBut T s.heap h')(hge:s.heap.objs.size<=c')(hoc:h'.get? c'=some oc)(htb:h'.get? T=some (PySem.W.tabObj (ps++more))):
  Inv X pins σ (upd (upd H T (.tbl (ps++more))) c' (.frz oc (.own 0))) { s with heap:=h',toks:=t' }:=by
 have hTc:T≠c':=Nat.ne_of_lt (Nat.lt_of_lt_of_le (I.hok.lt hT) hge);have nT:∀b,H b=none->b≠T:=fun b n z=>by rw[z,hT]at n;cases n
 have nT':∀b u,H b=some u->(∀q,u≠ .tbl q)->b≠T:=fun b u e n z=>by rw[z,hT]at e;cases e;exact n _ rfl
 have nc:∀b u,H b=some u->b≠c':=fun b u e=>Nat.ne_of_lt (Nat.lt_of_lt_of_le (I.hok.lt e) hge);have at_:∀b u,H b=some u->(∀q,u≠ .tbl q)->upd (upd H T (.tbl (ps++more))) c' (.frz oc (.own 0)) b=some u:=fun b u e n=>by
  rw[bD (nc b u e),bD (nT' b u e n)];exact e
 refine I.step (g':=s.gens) (d':=s.drawn) (ch:=[]) (fun _ z=>nomatch z) (fun b o _ _ _ e n=>hx b o (nT b n) e) (fun b o _ _ _ e n=>⟨o.slots,hx b o (nT b n) e⟩)
  (fun b o _ e n=>?_) (fun b o _ e=>?_) (fun b xs e=>at_ b _ e fun _ z=>nomatch z) (fun b o u e=>at_ b _ e fun _ z=>nomatch z) (fun b q e=>?_) (fun m hm=>hm.extBut hx (nT _ I.free)) (fun b u e=>?_) I.bare
 ·rw[bD (Nat.ne_of_lt (Nat.lt_of_lt_of_le (Heap.lt_size e) hge)),bD (nT b n)];exact n
 ·by_cases hb:b=T
  ·exact⟨_,hb▸htb⟩
  ·exact⟨o,hx b o hb e⟩
 ·by_cases hb:b=T
  ·subst hb;rw[hT]at e;cases e;exact⟨more,by rw[bD hTc,au]⟩
  ·exact⟨#[],by rw[bD (nc b _ e),bD hb,e];simp⟩
 ·by_cases hc:b=c'
  ·subst hc;rw[au]at e;cases e;exact⟨hoc,_,hoc⟩
  ·rw[bD hc]at e;by_cases hb:b=T
   ·subst hb;rw[au]at e;cases e;exact htb
   ·rw[bD hb]at e;refine(I.hok b u e).stay (fun d v hd q=>hx d v ?_ q) (fun d q=>at_ d _ q fun _ z=>nomatch z) fun d xs q=>at_ d _ q fun _ z=>nomatch z;rcases hd with rfl|hd
    ·exact hb
    ·exact nT' d _ hd fun _ z=>nomatch z
theorem Ke{params:Arguments}{body:Expr}{scope:Scope}{lpos:Pos}{T:Addr}{qual:Str}{cl:List (Str×Addr)}(I:Inv X pins σ H s)(M:MkC X.mg X.base X.env.code T)(hT:kO H T qual)(hq:X.env.qual++ "<lambda>" = qual)
  (hcl:closureFor scope X.env=pure cl) (hdef:defaultsOf params X.env=([],[]))
  {Q:Value->Shared->Prop} (h:∀(f c':Addr) (ctv:Value) (s1:Shared) (H1:Hp),Inv X pins σ H1 s1->fJ H H1->kO H1 T qual->H1 f=none->
   s1.heap.get? f=some (PySem.W.kla_obj "<lambda>" qual params body scope cl ((X.mg "__name__").getD .none) c' ctv)->(∃oc vs t,H1 c'=some (.frz oc (.own 0))/\oc.data = .fields vs/\vs[1]?=some (.str qual t))->Q (.ref f) s1):
  wpAny (model X.prog X.w) X.A (eval (.Lambda params body scope lpos) X.env) Q X.xe s:=by
 subst hq;obtain⟨ps,eT,ht,hk⟩:=hT;obtain⟨c,hcode,C⟩:=M.ex;obtain⟨bm,ob,b1,b2,b3,b4,b5,b6⟩:=M.bm;have hP:s.heap.get? T=some (PySem.W.tabObj ps):=I.hok T _ eT;have hgs:s.heap.Ns mainGlobals X.mg:=I.ok.mod.glob.keeps I.bk;have nT:∀b o,X.base.get? b=some o->b≠T:=fun b o e z=>by
  have:=(I.bs b o e).2;rw[z,eT]at this;cases this
 have hgP:mainGlobals≠T:=by
  obtain⟨o,es,ep,e,_⟩:=I.ok.mod.glob;exact nT _ _ e
 have hbG:bm≠mainGlobals:=fun q=>by
  obtain⟨o,es,ep,e,hd,_⟩:=I.ok.mod.glob;rw[q,e]at b3;cases b3;rw[hd]at b6;cases b6
 have hb:s.heap.BuiltinsAt X.mg T:=⟨bm,ob,b1,b2,hbG,nT _ _ b3,I.bk _ _ b3,b4,b5,b6⟩;refine PySem.W.kla_eval hdef ?_;cases hf:codeAmong lpos ps.toList with
 |none=>
  refine PySem.W.kla_makeFunction (mg:=X.mg) hcl I.ok.glob hgs hcode (C.keeps I.bk) hP ht hf hgP hb fun c' ctv h' tk hx hge hlt hrec htb=>?_;obtain⟨c₂,oc,vs,t,e2,hoc,hd,hv⟩:=hrec;cases e2;have I1:=I.grown (t':=tk) eT hx hge hoc htb;have I2:=I1.kept (h':=h'.push (PySem.W.kla_obj "<lambda>" (X.env.qual++ "<lambda>") params body scope cl ((X.mg "__name__").getD .none) c' ctv)) (t':=tk) (fun b u e=>Heap.get?_push_of_some _ e);have hTc:T≠c':=Nat.ne_of_lt (Nat.lt_of_lt_of_le (I.hok.lt eT) hge);have at_:∀b u,(∀q,u≠ .tbl q)->H b=some u->upd (upd H T (.tbl (ps++#[rawInt lpos.line,rawInt lpos.col,.ref c']))) c' (.frz oc (.own 0)) b=some u:=fun b u n e=>by
   rw[bD (Nat.ne_of_lt (Nat.lt_of_lt_of_le (I.hok.lt e) hge)),bD (fun z=>by rw[z,eT]at e;cases e;exact n _ rfl)];exact e
  refine h _ c' ctv _ _ I2 at_ ⟨ps++#[rawInt lpos.line,rawInt lpos.col,.ref c'],by rw[bD hTc,au],?_,fun pos cv z=>?_⟩ (I1.hok.fresh (Nat.le_refl _)) (Heap.get?_push_size _ rfl) ⟨oc,vs,t,au,hd,hv⟩
  ·rw[Array.toList_append];exact TriplesOk_snoc _ _ _ _ ht
  ·rw[Array.toList_append]at z;rcases zU ht z with z|z
   ·obtain⟨c3,oc3,vs3,t3,e3,f3,r3⟩:=hk pos cv z;exact⟨c3,oc3,vs3,t3,e3,at_ _ _ (fun _ z=>nomatch z) f3,r3⟩
   ·exact⟨c',oc,vs,t,z,au,hd,hv⟩
 |some cv=>
  obtain⟨c',oc,vs,t,rfl,fc,hd,hv⟩:=hk lpos cv hf;refine PySem.W.kla_makeFunctionHit (mg:=X.mg) hcl I.ok.glob hgs hcode (C.keeps I.bk) hP ht hf hb fun ctv h' tk hk' hsz=>?_;have I1:=I.kept (h':=h') (t':=tk) hk';have I2:=I1.kept (h':=h'.push (PySem.W.kla_obj "<lambda>" (X.env.qual++ "<lambda>") params body scope cl ((X.mg "__name__").getD .none) c' ctv)) (t':=tk) (fun b u e=>Heap.get?_push_of_some _ e);exact h _ c' ctv _ _ I2 (fJ.refl _) ⟨ps,eT,ht,hk⟩ (I1.hok.fresh (Nat.le_refl _)) (Heap.get?_push_size _ rfl) ⟨oc,vs,t,fc,hd,hv⟩
theorem Im{P:Program}{w:World}{K:PySem.W.Frag}{mg:Str->Option Value}{base:Heap}{N:List Str}{qual:Str}{scope:Scope}{f:Addr}{cd:Value}{cl:List (Str×Addr)}{A:Around}{outer:List Env}{s:Shared}{H:Hp}{E:XK}{σ:St}{h₁:Heap}{tk:Nat}
  (hk:scope.kind = .function) (hd:A.handled=none) (e0:IW P w K mg base A outer s H)
  (cells:∀x c,cl.lookup x=some c->∃v,s.heap.IsCell c v/\H c=none) (inj:∀x y c,cl.lookup x=some c->cl.lookup y=some c->x=y)
  (has:∀x,(scope.names.lookup x=some .cell∨scope.names.lookup x=some .free)->∃c,cl.lookup x=some c)
  (vals:∀(i:Nat) (x:Str) (v:V),N[i]?=some x->σ[i]?=some (some v)->∃u,RelV v u/\scope.names.lookup x=some .free/\∃c,cl.lookup x=some c/\s.heap.IsCell c (some u)) (len:σ.length=N.length)
  (hns:h₁.Ns s.heap.objs.size fun _=>none) (keep:∀b o,s.heap.get? b=some o->h₁.get? b=some o):
  Inv (cxL P w K mg base N qual scope f cd cl A outer s H E) [] σ H { s with heap:=h₁,toks:=tk }:=by
 have noA:∀b:Addr,b∉(cxL P w K mg base N qual scope f cd cl A outer s H E).ex:=fun b z=>absurd (show b∈([]:List Addr)from z) (by simp);have ck:∀c v,s.heap.IsCell c v->h₁.IsCell c v:=fun c v ⟨o,a,b⟩=>⟨o,keep _ _ a,b⟩;refine⟨⟨e0.mod,hk,rfl,rfl,Nat.le_refl _,inj,has,(fun y c h=>nomatch h),fun _=>hd,Around.frames_deeper e0.frames,.inr ⟨rfl,rfl⟩,fun b z=>absurd z (noA b),e0.bs,e0.bsz,fun b _ _=>noA b,fun b z=>absurd z (noA b),e0.Al,e0.frf⟩,
  rfl,e0.bare,Un.kept keep,⟨_,hns,fun i y v h1 h2 h3=>?_⟩,fun y c h=>?_,e0.hok.fresh (Nat.le_refl _),fun y c h=>?_,fun p hp=>absurd (show p∈([]:List (Addr×Obj))from hp) (by simp),e0.hok.kept keep,len⟩
 ·obtain⟨u,r,k,c,e,z⟩:=vals i y v h1 h2;exact⟨u,r,.inr ⟨.inr k,c,e,ck _ _ z⟩⟩
 ·obtain⟨v,z,_⟩:=cells y c h;exact⟨v,ck _ _ z⟩
 ·obtain⟨_,_,n⟩:=cells y c h;exact n
def RD(T:Addr)(qual:Str)(ix:List (Option Nat))(spG:(Hp->VK->XK->Prop)->Hp->VK->XK->Prop)(tb:XK->TE):TE:=
 fun σ H Q=>kO H T qual/\∀H1,fJ H H1->kO H1 T qual->spG (fun H' Q' E'=>tb E' (cst ix σ) H' Q') H1 Q E0
theorem wz{g:Str}{k k' kl:Nat}{spG:(Hp->VK->XK->Prop)->Hp->VK->XK->Prop}{par:Str}{T:Addr}{qual:Str}{params:Arguments}{body:Expr}{scope:Scope}{lpos p pos:Pos}{N:List Str}{ix:List (Option Nat)}{tb:XK->TE}
  (C:MX X.prog X.w X.K X.mg X.base g k [par] (yV X.prog X.w X.K X.mg X.base (kl+1) spG)) (hr:iG k' X.A) (hg:Gl X g) (M:MkC X.mg X.base X.env.code T) (O:Ly X scope N ix)
  (hb:∀(f:Addr) (cd:Value) (cl:List (Str×Addr)) (A:Around) (outer:List Env) (s:Shared) (H:Hp) (E:XK),iG kl (A.deeper (PySem.W.envX qual scope s.heap.objs.size f cd cl))->PE (cxL X.prog X.w X.K X.mg X.base N qual scope f cd cl A outer s H E) body (tb E))
  (hq:X.env.qual++ "<lambda>" = qual) (hp:params={ posonlyargs:=[],args:=[],vararg:=none,kwonlyargs:=[],kw_defaults:=[],kwarg:=none,defaults:=[] }:=by rfl)
  (hk:k<=k':=by decide) (hd:(g==("__debug__" : Str))=false:=by decide):
  PE X (.Call (.Name g p) [.Lambda params body scope lpos] [] pos) (RD T qual ix spG tb):=by
 intro pins s σ H Q I ⟨hT,h⟩;subst hp;obtain⟨gf,gd,hm,hkp,hbd,F⟩:=C.ex;obtain⟨cl,ecl,hcl1,hcl2⟩:=rK (env:=X.env) (scope:=scope) fun y hy hf=>I.ok.has y.1 (O.free y hy hf);refine wpAny_Call_Name_kw (qI I hg hm ?_ hd);refine PySem.W.callWith_K (h₀:=X.base) I.ok.mod.kin hkp (Calls.spliced_cons ?_) rfl rfl;refine Ke (params:={ posonlyargs:=[],args:=[],vararg:=none,kwonlyargs:=[],kw_defaults:=[],kwarg:=none,defaults:=[] }) (body:=body) (lpos:=lpos) I M hT hq ecl rfl fun f c' ctv s1 H1 I1 g1 hT1 hf1 ho hc'=>?_;refine Calls.spliced_nil ⟨I1.kIn,?_⟩;have L:Lam X.prog X.w X.K X.mg X.base (kl+1) s1 H1 f (fun H' Q' E'=>tb E' (cst ix σ) H' Q'):=by
  refine⟨⟨_,_,ho,rfl⟩,hf1,fun A outer s' H' fs Q' E' hr' e0 un hsp=>?_⟩;obtain⟨sl,ho'⟩:=un.any ho hf1 (by simp);obtain⟨oc,vs,t,fc,hdc,hv⟩:=hc';have fc':=un.frzs _ _ _ fc;have hoc:=(e0.hok _ _ fc').1;have lim:s'.heap.NoLimit:=e0.mod.nolimit.keeps fun b o e=>(e0.bs b o e).1;refine PySem.W.kla_callFunE hr'.depth ho' rfl O.co O.gen rfl ⟨c',oc,vs,t,rfl,hoc,hdc,hv⟩ ?_;refine wpAny_pure (wpAny_newFunctionEnv (binds:=[]) O.cell (fun _ z=>nomatch z) (fun h₁ hns hsb=>?_) O.kind);have keep:∀b o,s'.heap.get? b=some o->h₁.get? b=some o:=fun b o e=>hsb.extBut b o (Nat.ne_of_lt (Heap.lt_size e)) (Heap.get?_push_of_some _ e);refine⟨lim.keeps keep,?_⟩;have cellAt:∀x c,X.env.cells.lookup x=some c->∀v,s1.heap.IsCell c v->s'.heap.IsCell c v:=fun x c e v ⟨o,a,b⟩=>by
   obtain⟨sl,a'⟩:=un.any a (I1.freeC x c e) (by simp);exact⟨_,a',b⟩
  have hI:Inv (cxL X.prog X.w X.K X.mg X.base N qual scope f (.ref c') cl A outer s' H' E') [] (cst ix σ) H' { s' with heap:=h₁,toks:=s'.toks+0 }:=by
   refine Im O.kind hr'.hd e0 (fun x c e=>?_) (fun x y c e1 e2=>I.ok.inj x y c (hcl1 _ _ e1) (hcl1 _ _ e2)) (fun x hx=>hcl2 (x,.free) (O.has x hx) rfl) (fun i x v h1 h2=>?_) ?_ hns keep
   ·obtain⟨v,o,a,b⟩:=I1.cell x c (hcl1 _ _ e);exact⟨v,cellAt x c (hcl1 _ _ e) v ⟨o,a,b⟩,un.free c o a (I1.freeC x c (hcl1 _ _ e)) (by simp)⟩
   ·have h2':∃i',ix[i]?=some (some i')/\σ[i']?=some (some v):=by
     unfold cst at h2;rw[List.getElem?_map]at h2;cases e:ix[i]? with
     |none=>rw[e]at h2;cases h2
     |some oi=>
      rw[e]at h2;cases oi with
      |none=>cases h2
      |some i'=>
       refine⟨i',rfl,?_⟩;have h3:(match σ[i']? with|some v=>v|none=>none)=some v:=Option.some.inj h2
       cases e2:σ[i']? with
       |none=>rw[e2]at h3;cases h3
       |some z=>rw[e2]at h3;rw[<-h3]
    obtain⟨i',e1,e2⟩:=h2';obtain⟨hX,hmem,hfree⟩:=O.ix i x i' h1 e1;have hkind:=O.free _ hmem rfl;have hvis:Vis X.env.scope x:=by
     rcases hkind with z|z
     ·exact .inr (.inl z)
     ·exact .inr (.inr z)
    obtain⟨m,hn,hl⟩:=I1.loc;obtain⟨u,r,l⟩:=hl i' x v hX e2 hvis;rcases l with⟨z,_⟩|⟨_,c,ec,hcell⟩
    ·rcases hkind with y|y<;>(rw[y]at z;cases z)
    ·obtain⟨c2,hc2⟩:=hcl2 (x,.free) hmem rfl;have:=hcl1 _ _ hc2;rw[ec]at this;cases this;exact⟨u,r,hfree,c,hc2,cellAt x c ec _ hcell⟩
   ·unfold cst;rw[List.length_map,O.len]
  refine PySem.W.kla_codeExpr (env:=PySem.W.envX qual scope s'.heap.objs.size f (.ref c') cl) ?_;refine wpAny_mono (hb f (.ref c') cl A outer s' H' E' (hr'.deeper _) [] _ _ _ _ hI hsp) (fun u s'' ⟨v,H'',J,rv,q⟩=>?_) fun e s'' z=>z;exact⟨v,H'',J.os,J.bare,J.base,J.hok,rv,q⟩
 have hsp:yV X.prog X.w X.K X.mg X.base (kl+1) spG s1 [.ref f] H1 Q E0:=⟨f,_,rfl,L,h H1 g1 hT1⟩;refine wpAny_call (codeAny_mono (F.run X.A X.stack s1 H1 ⟨[.ref f],[]⟩ [.ref f] [.ref f] Q E0 (hr.mono hk) I1.env0 (hbd s1 [.ref f] I1.kIn rfl) (.cons rfl .nil) hsp) fun r s' hq=>?_);cases r with
 |error e=>exact(m8 hq).elim
 |ok fl=>
  cases fl with
  |ret u=>exact I1.after hq
  |next=>exact False.elim hq
  |brk=>exact False.elim hq
  |cont=>exact False.elim hq
theorem Jt{told:Str}{i k k':Nat}{tp cpos:Pos}{f:Addr}{sp0:Hp->VK->XK->Prop}{Q:VK}{E:XK}{R:Value->Shared->Prop}{EE:Value->Shared->Prop}(L:Lam X.prog X.w X.K X.mg X.base k X.s₀ X.H₀ f sp0)(hr:iG k' X.A)(hex:X.ex=[])(hN:X.N[i]?=some told)(hv:Vis X.env.scope told)(hk:k<=k')
  (hd:(told==("__debug__" : Str))=false) (hcd:(told==("__classdict__" : Str))=false) (I:Inv X pins σ H s) (hσ:σ[i]?=some (some (.ref f))) (h:sp0 H Q E)
  (ok:∀u s',EP X pins σ Q u s'->R u s') (er:∀s1 e s',Inv X pins σ H s1->jC X.prog X.w X.stack H s1 E e s'->EE e s'):
  wpAny (model X.prog X.w) X.A (eval (.Call (.Name told tp) [] [] cpos) X.env) R EE s:=by
 refine wpAny_Call_Name_kw ?_;refine thn (GF (X:=X.wish EE) hN hv hd hcd pins s σ H (fun v H'=>v = .ref f/\H'=H) (I.wish EE) ⟨.ref f,hσ,rfl,rfl⟩) fun u s1 ⟨v,H1,I1',r,e1,e2⟩=>?_;subst e1;subst e2;obtain rfl:u=Value.ref f:=r;have I1:Inv X pins σ H1 s1:=I1'.mC;have un:Un X.fs [] X.H₀ H1 X.s₀.heap s1.heap:=by have:=I1.base;rw[hex]at this;exact this
 obtain⟨⟨oc,od,odt,osl⟩,fd,ho,hdf⟩:=L.fn;obtain rfl:odt = .func fd:=hdf;obtain⟨sl,ho'⟩:=un.any ho L.un (by simp);refine PySem.W.callWith_of (P:=fun h=>h.get? f=some ⟨oc,od,.func fd,sl⟩) rfl (fun h e=>⟨.frame,.inl rfl,(PySem.W.Looks.ld (part:=none) e).andThen .now⟩) (PyProof.Rows.evalArgs_nil3 ⟨ho',?_⟩);refine wpAny_call (codeAny_mono (L.run X.A X.stack s1 H1 X.fs Q E (hr.mono hk) I1.env0 un h) fun rs s2 hq=>?_);cases rs with
 |ok fl=>
  cases fl with
  |ret u=>exact ok u s2 (I1.after hq)
  |next=>exact False.elim hq
  |brk=>exact False.elim hq
  |cont=>exact False.elim hq
 |error ev=>exact er s1 ev s2 I1 hq
def Gb(base:Heap)(R:Addr)(f:Addr)(sp0:Hp->VK->XK->Prop)(i j:Nat)(ts:Addr->TS):TS:=fun D σ H=>σ[i]?=some (some (.ref f))/\sp0 H (fun _ H2=>D.nx σ H2) (Gs base R j ts D σ)
theorem zX{n x told:Str}{i j k k':Nat}{f:Addr}{sp0:Hp->VK->XK->Prop}{R:Addr}{tp cpos epos xp hpos pos:Pos}{b₀:Stmt}{suite:List Stmt}{ts:Addr->TS}
  (L:Lam X.prog X.w X.K X.mg X.base k X.s₀ X.H₀ f sp0) (hr:iG k' X.A) (hstk:X.stack=X.env::X.outer) (hfr:X.env.frame=some X.env.locals) (hex:X.ex=[]) (hi:X.N[i]?=some told) (hv:Vis X.env.scope told) (hN:X.N.Nodup)
  (hj:X.N[j]?=some n) (hn:X.env.scope.names.lookup n=some .local) (hx:Gl X x) (hR:X.mg x=some (.ref R)) (hs:∀a,PSs (cxS X a) (b₀::suite) (ts a)) (hk:k<=k':=by decide)
  (hdf:(told==("__debug__" : Str))=false:=by decide) (hcd:(told==("__classdict__" : Str))=false:=by decide) (hdx:(x==("__debug__" : Str))=false:=by decide)
  (hsw:swapsWith (.Call (.Name told tp) [] [] cpos) none epos.line X.env=pure false:=by rfl):
  PS X (.Try [.Expr (.Call (.Name told tp) [] [] cpos) epos] [.ExceptHandler (some (.Name x xp)) (some n) (b₀::suite) hpos] [] [] pos) (Gb X.base R f sp0 i j ts):=by
 intro pins s σ H D I ⟨hσ,h⟩;refine wpAny_Try_except (wpAny_execs_cons (wpAny_Expr_any (Jt L hr hex hi hv hk hdf hcd I hσ h (fun u s' ⟨v,H2,I2,ry,q2⟩=>?_) fun s1 e s' I1 hq=>?_) I.quiet hsw))
 ·exact wpAny_execs_nil (wpAny_execs_nil ⟨_,H2,I2,q2⟩)
 ·exact BZ hstk hfr hex hN hj hn hx hR hs hdx I I1 hq
end
def Ln(o:Obj):Bool:=match o.cls,o.data with
 |.none,.fields vs=>vs.isEmpty
 |_,_=>false
theorem BJ{P:Program}{w:World}{K:PySem.W.Frag}{mg mb:Str->Option Value}{CX:CXT}{k:Nat}{fa a T:Addr}{fd:FuncData}{x x₀:Str}{sp:Sp}{s₁:Shared}{vs:List Value}{ns:List Int}
  (KX:K.In s₁.heap) (hns:s₁.heap.Ns mainGlobals mg) (hb:s₁.heap.Ns builtinsNs mb) (hbb:∀x:Str,x≠ "__name__" -> mb x=bootBuiltins x) (hlim:s₁.heap.NoLimit) (hdig:s₁.heap.NoDigits) (hg:s₁.gens=#[])
  (hT:s₁.heap.get? T=some (PySem.W.tabObj #[])) (hKT:K.lookup T=none) (M:MkD mg s₁.heap x₀ T) (hcT:isCodeTable s₁.heap T)
  (ha:s₁.heap.get? a=some { cls:= .type "list",data:= .seq vs.toArray }) (hi:IntsAre vs ns) (hl:ns.length<=sizeLine) (hr:iG k callerA)
  (F:∀base:Heap,K.In base->base.Ns mainGlobals mg->MkD mg base x₀ T->CP P w K mg base CX k fa fd [x] sp) (hbind:∀(s:Shared) (u:Value),BindsTo s fd ⟨[u],[]⟩ [(x,u)])
  (hsp:∀H:Hp,SqL K H a (ns.map V.int)->(∀q,kO H T q)->sp [.ref a] H (fun v _=>v = .bl true) fun _ _ _=>False)
  (hCX:∀H e s',CX [] H s₁ (fun _ _ _=>False) e s'->False):
  codeAny (model P w) callerA (.call (.ref fa) ⟨[.ref a],[]⟩) (fun r s'=>r = .ok (.ret (.bool true))/\OldK s₁.heap s'.heap/\s'.os=s₁.os/\AllBare s'.gens) s₁:=by
 have rv:=C5 hi;have lenV:=hi.length;have core:∀H:Hp,H T=some (.tbl #[])->(∀b,b≠T->H b=none∨∃o xs,H b=some (.frz o (.lst xs)))->SqL K H a (ns.map V.int)->HOk P w H s₁.heap->(∀b,H b≠none->b=a∨b=T)->(H a≠none->K.lookup a=none)->
   codeAny (model P w) callerA (.call (.ref fa) ⟨[.ref a],[]⟩) (fun r s'=>r = .ok (.ret (.bool true))/\OldK s₁.heap s'.heap/\s'.os=s₁.os/\AllBare s'.gens) s₁:=by
  intro H eT hO hS hok hA hK;have base_of:∀{b:Addr} {o:Obj},s₁.heap.get? b=some o->H b=none->(Ec s₁.heap H).get? b=some o:=fun e n=>Fw e n;have no2:∀{b:Addr} {o:Obj},s₁.heap.get? b=some o->(∀xs n,o.data≠ .seq xs n)->o.cls≠ .none->H b=none:=fun {b o} e d c=>by
   cases q:H b with
   |none=>rfl
   |some u=>
    rcases hA b (by rw[q];simp)with e'|e'
    ·subst e';rw[ha]at e;cases e;exact absurd rfl (d _ _)
    ·subst e';rw[hT]at e;cases e;exact absurd rfl c
  have noA:∀{b:Addr} {o:Obj} {es:Array DictEntry} {ep:Nat},s₁.heap.get? b=some o->o.data = .dict es ep->H b=none:=fun {b o es ep} e d=>by
   cases q:H b with
   |none=>rfl
   |some u=>
    rcases hA b (by rw[q];simp)with e'|e'
    ·subst e';rw[ha]at e;cases e;have d':Data.seq vs.toArray _=Data.dict es ep:=d;cases d'
    ·subst e';rw[hT]at e;cases e;have d':Data.fields _=Data.dict es ep:=d;cases d'
  have nsK:∀{b:Addr} {m:Str->Option Value},s₁.heap.Ns b m->(Ec s₁.heap H).Ns b m:=fun {b m} ⟨o,es,ep,e,d,r⟩=>⟨o,es,ep,base_of e (noA e d),d,r⟩;have hKb:K.In (Ec s₁.heap H):=fun b o e=>base_of (KX b o e) (by
   cases q:H b with
   |none=>rfl
   |some u=>
    rcases hA b (by rw[q];simp)with e'|e'
    ·subst e';rw[hK (by rw[q];simp)]at e;cases e
    ·subst e';rw[hKT]at e;cases e)
  have hM:Mod K mg (Ec s₁.heap H):=⟨hKb,nsK hns,⟨mb,nsK hb,hbb⟩,let⟨mc,h1,h2⟩:=hlim;⟨mc,nsK h1,h2⟩,let⟨mc,h1,h2⟩:=hdig;⟨mc,nsK h1,h2⟩⟩;have e0:IW P w K mg (Ec s₁.heap H) callerA [] s₁ H:=⟨rfl,hM,fun b o e=>Jo e,Nat.le_of_eq (Du _ _),trivial,fun b hb=>absurd (show b∈([]:List Addr)from hb) (by simp),hok,.of_eq hg⟩;have mk:MkD mg (Ec s₁.heap H) x₀ T:=by
   obtain⟨a0,o,fd0,m1,m2,m3,⟨c,c1,oc,ws,file,tf,flags,tg,inF,text,tt,g1,g2,g3,g4,g5,g6,g7,g8,g9,g10⟩,⟨bm,ob,b1,b2,b3,b4,b5,b6⟩⟩:=M.ex;have n1:H a0=none:=by
    cases q:H a0 with
    |none=>rfl
    |some u=>
     rcases hA a0 (by rw[q];simp)with e'|e'
     ·subst e';rw[ha]at m2;cases m2;cases m3
     ·subst e';rw[hT]at m2;cases m2;cases m3
   have n2:H c=none:=no2 g1 (fun xs n z=>by rw[g3]at z;cases z) (fun z=>by rw[g2]at z;cases z);have n3:H bm=none:=no2 b3 (fun xs n z=>by rw[b6]at z;cases z) (fun z=>by rw[b4]at z;cases z);exact⟨a0,o,fd0,m1,base_of m2 n1,m3,⟨c,c1,oc,ws,file,tf,flags,tg,inF,text,tt,base_of g1 n2,g2,g3,g4,g5,g6,g7,g8,g9,g10⟩,⟨bm,ob,b1,b2,base_of b3 n3,b4,b5,b6⟩⟩
  refine codeAny_mono ((F _ hKb (nsK hns) mk).run callerA [] s₁ H ⟨[.ref a],[]⟩ [.ref a] [.ref a] _ _ hr e0 (hbind s₁ (.ref a)) (.cons rfl .nil) (hsp H hS fun q=>⟨#[],eT,trivial,fun pos cv z=>by cases z⟩)) fun r s' h=>?_;cases r with
  |error e=>exact(hCX H e s' h).elim
  |ok fl=>
   cases fl with
   |next=>exact False.elim h
   |brk=>exact False.elim h
   |cont=>exact False.elim h
   |ret u=>
    obtain⟨v,H',os,bare,un,hok',r',q⟩:=h;have q':v = .bl true:=q;subst q';obtain rfl:u=Value.bool true:=r';have OG:∀b:Addr,b∉frs []:=fun b z=>absurd (show b∈([]:List Addr)from z) (by simp);refine⟨rfl,⟨fun b o e=>?_,fun b o e=>un.there b o e (by simp)⟩,os,bare⟩;by_cases hbT:b=T
    ·subst hbT;rw[hT]at e;cases e;obtain⟨more,z⟩:=un.tbls b _ eT;exact .inr (.inl ⟨hcT,rfl,#[],more,rfl,hok' b _ z⟩)
    ·refine .inl ?_;cases q:H b with
     |none=>exact un.keep b o e q (OG b) (by simp)
     |some u=>
      rcases hO b hbT with z|⟨ob,xs,z⟩
      ·rw[q]at z;cases z
      ·have z2:=un.frzs b ob _ z;obtain⟨e1,_⟩:=hok b _ z;obtain⟨e2,_⟩:=hok' b _ z2;rw[e]at e1;cases e1;exact e2
 have haT:a≠T:=fun z=>by rw[z,hT]at ha;cases ha
 cases hk:K.lookup a with
 |some o=>
  have e:=KX a o hk;rw[ha]at e;cases e;refine core (fun b=>if b=T then some (.tbl #[])else none) (if_pos rfl) (fun b hb=> .inl (if_neg hb)) (.inr ⟨_,vs.toArray,_,hk,rfl,rfl,rfl,by rw[List.size_toArray,lenV];exact hl,by simpa using rv⟩) (fun b u z=>?_) (fun b z=>?_) fun z=>absurd (if_neg haT) z
  ·by_cases hb:b=T
   ·have z':=(if_pos hb).symm.trans z;cases z';subst hb;exact hT
   ·have z':=(if_neg hb).symm.trans z;cases z'
  ·by_cases hb:b=T
   ·exact .inr hb
   ·exact absurd (if_neg hb) z
 |none=>
  have at_:∀b:Addr,b≠T->(if b=T then some (HO.tbl #[])else if b=a then some (HO.frz { cls:= .type "list",data:= .seq vs.toArray } (.lst (ns.map V.int)))else none)=if b=a then some (HO.frz { cls:= .type "list",data:= .seq vs.toArray } (.lst (ns.map V.int)))else none:=fun b hb=>if_neg hb;refine core (fun b=>if b=T then some (.tbl #[])else if b=a then some (.frz { cls:= .type "list",data:= .seq vs.toArray } (.lst (ns.map V.int)))else none) (if_pos rfl) (fun b hbT=>?_)
   (.inl (.inr ⟨{ cls:= .type "list",data:= .seq vs.toArray },(at_ a haT).trans (if_pos rfl)⟩)) (fun b u z=>?_) (fun b z=>?_) fun _=>hk
  ·by_cases hb:b=a
   ·exact .inr ⟨_,_,(at_ b hbT).trans (if_pos hb)⟩
   ·exact .inl ((at_ b hbT).trans (if_neg hb))
  ·by_cases hbT:b=T
   ·have z':=(if_pos hbT).symm.trans z;cases z';subst hbT;exact hT
   ·have z:=(at_ b hbT).symm.trans z;by_cases hb:b=a
    ·have z':=(if_pos hb).symm.trans z;cases z';subst hb;exact⟨ha,by rw[List.length_map];exact hl,vs,_,rv,ha⟩
    ·have z':=(if_neg hb).symm.trans z;cases z'
  ·by_cases hbT:b=T
   ·exact .inr hbT
   ·by_cases hb:b=a
    ·exact .inl hb
    ·exact absurd ((at_ b hbT).trans (if_neg hb)) z
theorem FZ{l:PySem.W.OpenLaw}{n k:Nat}{q:Program}{loose:List Str}{XP:(Str->Option Value)->Heap->Prop}{YP:World->Heap->Prop}{d:DefRec}{K:Params->PySem.W.Frag}{CX:World->CXT}{sp:World->Addr->Sp}{x:Str}(x₀:Str)
  (hn:l.most=some n) (hn2:n<=sizeLine) (hdf:d.params.defaults=[]) (hr:iG k callerA)
  (hY:∀(w:World) (h:Heap),YP w h->(K w.params).In h)
  (hx:(recsOf q).any (fun d=>d.name==x₀)=true) (hno:∀P:Params,(K P).all (fun p=>!Ln p.2)=true)
  (F:∀(w:World) (mg:Str->Option Value) (fa:Addr) (h:Heap),(K w.params).In h->h.Ns mainGlobals mg->mg d.name=some (.ref fa)->
   ∃fd:FuncData,(∀(s:Shared) (u:Value),BindsTo s fd ⟨[u],[]⟩ [(x,u)])/\
    ∀(T:Addr) (base:Heap),(K w.params).In base->base.Ns mainGlobals mg->MkD mg base x₀ T->CP l.prog w (K w.params) mg base (CX w) k fa fd [x] (sp w T))
  (hsp:∀(w:World) (T:Addr) (H:Hp) (a:Addr) (ns:List Int),ns.length<=n->(∀x∈ns,Builtin.Int.intBits x<=1048576)->(∀q,kO H T q)->SqL (K w.params) H a (ns.map V.int)->sp w T [.ref a] H (fun v _=>v = .bl true) fun _ _ _=>False)
  (hCX:∀(w:World) (H:Hp) (s:Shared) (e:Value) (s':Shared),CX w [] H s (fun _ _ _=>False) e s'->False):
  PySem.W.WalkO q loose XP YP l.row.toRowW d [] (fun f vs=>PySem.call f vs):=by
 refine Att.vf hn hdf fun w s₀ s₁ mg mb fa o pm cd doc a vs ns G Y ho hd hcd hmg hobj hints hlen hbits hg=>?_;have KX:=hY w _ Y;obtain⟨fd,hb,hF⟩:=F w mg fa _ KX G.T.g hmg;obtain⟨d0,hd0,en⟩:=List.any_eq_true.mp hx;obtain⟨a0,o0,fd0,c,T,t1,t2,t3,t4,t5,t6⟩:=G.T.tab d0 hd0;rw[eq_of_beq en]at t1;have hKT:(K w.params).lookup T=none:=by
  cases q:(K w.params).lookup T with
  |none=>rfl
  |some u=>
   exfalso
   have e:=KX T u q;rw[t6.2]at e;cases e;have:=List.all_eq_true.mp (hno w.params) _ (PySem.W.mem_of_lookupK q);cases this
 exact BJ (x₀:=x₀) KX G.T.g G.T.b G.T.builtins G.T.nolimit G.T.nodigits hg t6.2 hKT ⟨a0,o0,fd0,t1,t2,t3,⟨c,t4,PySem.W.CodeHd.of t5 t6⟩,G.T.bmain⟩ t6.isCodeTable hobj hints (Nat.le_trans hlen hn2) hr (hF T) hb
  (fun H hS hT=>hsp w T H a ns hlen hbits hT hS) fun H e s'=>hCX w H s₁ e s'
section
variable {X:Cx}
def tFn(mg:Str->Option Value)(x:Str):TE:=fun _ H Q=>∀g,mg x=some (.ref g)->Q (.ref g) H
theorem tE{x:Str}{k:Nat}{ps:List Str}{sp:Sp}{pos:Pos}(C:Cal X.prog X.w X.K X.mg X.base x k ps sp)(hg:Gl X x)(hd:(x==("__debug__" : Str))=false:=by decide):PE X (.Name x pos) (tFn X.mg x):=by
 obtain⟨g,gd,hm,_,_,_⟩:=C.ex;intro pins s σ H Q I h;exact xR (v:= .ref g) hg hm rfl hd pins s σ H Q I (h g hm)
theorem pX{x:Str}{k k':Nat}{ps:List Str}{sp:Sp}{pos:Pos}{e:Expr}{es:List Expr}{t:TA}{g:Addr}{pins:List (Addr×Obj)}{σ:St}{H1:Hp}{s1:Shared}{Q:VK}(C:Cal X.prog X.w X.K X.mg X.base x k ps sp)(hr:iG k' X.A)(ha:PA X (e::es) t)(hk:k<=k')
  (he:starEach (e::es) X.env=(false,eval e X.env)::starEach es X.env) (hpl:(backTo pos (starEach es X.env)).any (·.1)=false) (I1:Inv X pins σ H1 s1) (hm':X.mg x=some (.ref g)) (q:t σ H1 fun vs H2=>sp vs H2 Q E0):
  wpAny (model X.prog X.w) X.A (callWith pos (.ref g) [] (backTo pos (starEach (e::es) X.env)) (backToKw pos (keywordEach [] X.env))) (EP X pins σ Q) X.xe s1:=by
 obtain⟨g',gd,hm,hkp,hb,F⟩:=C.ex;rw[hm]at hm';cases hm';refine PySem.W.callWith_K (h₀:=X.base) I1.ok.mod.kin hkp (thn (ha pos pins s1 σ H1 _ I1 q) fun us s2 ⟨vs,H2,I2,r2,q2⟩=>⟨I2.kIn,?_⟩) he hpl;refine Gq F (hr.mono hk) hb .nil GC I2 r2 ?_;rw[List.append_nil];exact q2
def Ht(mg:Str->Option Value)(x1 x2 x3:Str)(sp1 sp2 sp3:Sp)(tv:TE)(t:TA):TE:=fun σ H Q=>tv σ H fun v H1=>((∃g,mg x1=some (.ref g)/\v = .ref g)/\t σ H1 fun vs H2=>sp1 vs H2 Q E0)∨((∃g,mg x2=some (.ref g)/\v = .ref g)/\t σ H1 fun vs H2=>sp2 vs H2 Q E0)∨((∃g,mg x3=some (.ref g)/\v = .ref g)/\t σ H1 fun vs H2=>sp3 vs H2 Q E0)
theorem CY{mg:Str->Option Value}{x1 x2 x3 y:Str}{k1 k2 k3 k':Nat}{ps1 ps2 ps3:List Str}{sp1 sp2 sp3:Sp}{p pos:Pos}{e:Expr}{es:List Expr}{tv:TE}{t:TA}(C1:Cal X.prog X.w X.K mg X.base x1 k1 ps1 sp1)(C2:Cal X.prog X.w X.K mg X.base x2 k2 ps2 sp2)(C3:Cal X.prog X.w X.K mg X.base x3 k3 ps3 sp3)(hr:iG k' X.A)(hv:PE X (.Name y p) tv)(ha:PA X (e::es) t)
  (hmg:X.mg=mg:=by rfl) (hk1:k1<=k':=by decide) (hk2:k2<=k':=by decide) (hk3:k3<=k':=by decide) (he:starEach (e::es) X.env=(false,eval e X.env)::starEach es X.env:=by rfl) (hpl:(backTo pos (starEach es X.env)).any (·.1)=false:=by rfl):PE X (.Call (.Name y p) (e::es) [] pos) (Ht mg x1 x2 x3 sp1 sp2 sp3 tv t):=by
 subst hmg;intro pins s σ H Q I h;refine wpAny_Call_Name_kw (thn (hv pins s σ H _ I h) fun u s1 ⟨v,H1,I1,r,q⟩=>?_);rcases q with⟨⟨g,hm,rfl⟩,q⟩|⟨⟨g,hm,rfl⟩,q⟩|⟨⟨g,hm,rfl⟩,q⟩
 ·obtain rfl:u=Value.ref g:=r;exact pX C1 hr ha hk1 he hpl I1 hm q
 ·obtain rfl:u=Value.ref g:=r;exact pX C2 hr ha hk2 he hpl I1 hm q
 ·obtain rfl:u=Value.ref g:=r;exact pX C3 hr ha hk3 he hpl I1 hm q
end
end L2
namespace Rm
def tk(b n:Int):Int:=if b=0 then n else n%b
theorem bK(n:Int):tk 0 n=n:=if_pos rfl
theorem fB{b:Int}(h:b≠0)(n:Int):tk b n=n%b:=if_neg h
theorem iI(b n:Int):tk b (tk b n)=tk b n:=by
 unfold tk;split
 ·rfl
 ·exact Int.emod_emod_of_dvd _ (Int.dvd_refl b)
theorem cj(b x y:Int):tk b (tk b x+y)=tk b (x+y):=by
 unfold tk;split
 ·rfl
 ·exact Int.emod_add_emod ..
theorem fU(b x y:Int):tk b (x+tk b y)=tk b (x+y):=by
 rw[Int.add_comm,cj,Int.add_comm]
theorem cD(b x y:Int):tk b (x*tk b y)=tk b (x*y):=by
 unfold tk;split
 ·rfl
 ·rw[Int.mul_emod,Int.emod_emod_of_dvd _ (Int.dvd_refl b),<-Int.mul_emod]
theorem fR(b x y:Int):tk b (tk b x*y)=tk b (x*y):=by
 rw[Int.mul_comm,cD,Int.mul_comm]
theorem bB{b x x' y y':Int}(h:tk b x=tk b x')(h':tk b y=tk b y'):tk b (x+y)=tk b (x'+y'):=by
 rw[<-cj,<-fU,h,h',fU,cj]
def S(rule:List Int)(f:Nat->Int)(n:Nat):Nat->Int
 |0=>0
 |m+1=>S rule f n m+rule.getD m 0*f (n-1-m)
theorem wM{rule:List Int}{f g:Nat->Int}{n:Nat}:∀{m:Nat},(∀k,k<m->f (n-1-k)=g (n-1-k))->S rule f n m=S rule g n m
 |0,_=>rfl
 |m+1,h=>by
  unfold S;rw[wM fun k hk=>h k (by omega),h m (by omega)]
theorem getD_map{f:Int->Int}(h0:f 0=0):∀(l:List Int) (k:Nat),(l.map f).getD k 0=f (l.getD k 0)
 |[],k=>by simp[h0]
 |x::r,0=>by simp
 |x::r,k+1=>by
  have:=getD_map h0 r k;simpa using this
def row(b:Int)(rule starts:List Int):Nat->List Int
 |0=>[]
 |n+1=>row b rule starts n++[if n<starts.length then starts.getD n 0 else tk b (S rule (fun i=>(row b rule starts n).getD i 0) n rule.length)]
theorem eG(b:Int)(rule starts:List Int):∀n,(row b rule starts n).length=n
 |0=>rfl
 |n+1=>by simp[row,eG b rule starts n]
def at_(b:Int)(rule starts:List Int)(n:Nat):Int:=(row b rule starts (n+1)).getD n 0
theorem xr(b:Int)(rule starts:List Int):∀{n i:Nat},i<n->(row b rule starts n).getD i 0=at_ b rule starts i
 |n+1,i,h=>by
  by_cases e:i=n
  ·subst e;rfl
  ·have hi:i<n:=by omega
   have hl:=eG b rule starts n;have:=xr b rule starts (n:=n) (i:=i) hi;rw[<-this];show(row b rule starts n++_).getD i 0=_;rw[List.getD_eq_getElem?_getD,List.getElem?_append_left (by omega),<-List.getD_eq_getElem?_getD]
theorem zc(b:Int)(rule starts:List Int)(n:Nat):at_ b rule starts n=if n<starts.length then starts.getD n 0 else tk b (S rule (fun i=>(row b rule starts n).getD i 0) n rule.length):=by
 unfold at_;have hl:=eG b rule starts n;show(row b rule starts n++_).getD n 0=_;rw[List.getD_eq_getElem?_getD,List.getElem?_append_right (by omega),hl];simp
theorem rz{b:Int}{rule starts:List Int}{n:Nat}(h:n<starts.length):at_ b rule starts n=starts.getD n 0:=by
 rw[zc,if_pos h]
theorem xg{b:Int}{rule starts:List Int}{n:Nat}(hl:rule.length=starts.length)(h:starts.length<=n):at_ b rule starts n=tk b (S rule (at_ b rule starts) n rule.length):=by
 rw[zc,if_neg (by omega)];congr 1;refine wM fun k hk=>xr b rule starts (by omega)
theorem Dh(b:Int)(rule starts:List Int):∀n,row b rule starts n=(List.range n).map (at_ b rule starts)
 |0=>rfl
 |n+1=>by
  rw[List.range_succ,List.map_append,<-Dh b rule starts n];show _++[_]=_++[at_ b rule starts n];rw[zc]
theorem Ed(b:Int)(rule starts:List Int)(n:Nat):row b rule starts (n+1)=row b rule starts n++[at_ b rule starts n]:=by
 rw[zc];rfl
theorem Cd{b:Int}{rule starts:List Int}(hl:rule.length=starts.length){g:Nat->Int}(h1:∀i,i<starts.length->g i=starts.getD i 0)
  (h2:∀i,starts.length<=i->g i=tk b (S rule g i rule.length)):∀n,at_ b rule starts n=g n:=by
 intro n;induction n using Nat.strongRecOn with
 |ind n ih=>
  by_cases h:n<starts.length
  ·rw[rz h,h1 n h]
  ·rw[xg hl (by omega),h2 n (by omega)];congr 1;exact wM fun k hk=>ih _ (by omega)
theorem jl{b:Int}{rule starts:List Int}:∀{n:Nat},n<=starts.length->row b rule starts n=starts.take n
 |0,_=>by simp[row]
 |n+1,h=>by
  rw[Ed,jl (by omega),rz (by omega),List.take_add_one,List.getD_eq_getElem?_getD,List.getElem?_eq_getElem (by omega)];rfl
def Bd(n:Nat)(x:Int):Prop:=x.natAbs<2^n
theorem Bd.mono{m n:Nat}{x:Int}(h:Bd m x)(hmn:m<=n):Bd n x:=Nat.lt_of_lt_of_le h (Nat.pow_le_pow_right (by decide) hmn)
theorem Bd.mul{m n:Nat}{x y:Int}(h:Bd m x)(h':Bd n y):Bd (m+n) (x*y):=by
 unfold Bd at *;rw[Int.natAbs_mul,Nat.pow_add];exact Nat.mul_lt_mul'' h h'
theorem Bd.add{n:Nat}{x y:Int}(h:Bd n x)(h':Bd n y):Bd (n+1) (x+y):=by
 unfold Bd at *;have:=Int.natAbs_add_le x y;rw[Nat.pow_succ];omega
theorem Bd.zero(n:Nat):Bd n 0:=Nat.pow_pos (by decide)
theorem Bd.of{n:Nat}{x:Int}(h1:-(2^n)<x)(h2:x<2^n):Bd n x:=by
 unfold Bd;have e:((2^n:Nat):Int)=(2:Int)^n:=by simp
 omega
theorem Bd.emod{n:Nat}{x b:Int}(hb:0<b)(h:Bd n b):Bd n (x%b):=by
 unfold Bd at *;have:=Int.emod_nonneg x (show b≠0 by omega);have:=Int.emod_lt_of_pos x hb;omega
theorem Bd.S{rule:List Int}{f:Nat->Int}{n a c:Nat}(hr:∀k,Bd a (rule.getD k 0)):∀m:Nat,(∀k,k<m->Bd c (f (n-1-k)))->Bd (a+c+m) (Rm.S rule f n m)
 |0,_=>Bd.zero _
 |m+1,h=>by
  unfold Rm.S;refine Bd.add (n:=a+c+m) (Bd.S hr m fun k hk=>h k (by omega)) (((hr m).mul (h m (by omega))).mono (by omega))
theorem xQ(l:List Int)(k:Nat):l.getD k 0=0∨l.getD k 0∈l:=by
 by_cases h:k<l.length
 ·right;rw[List.getD_eq_getElem?_getD,List.getElem?_eq_getElem h];exact List.getElem_mem h
 ·left;rw[List.getD_eq_getElem?_getD,List.getElem?_eq_none (by omega)];rfl
theorem Bd.getD{l:List Int}{n:Nat}(h:∀x∈l,Bd n x)(k:Nat):Bd n (l.getD k 0):=by
 rcases xQ l k with e|e
 ·rw[e];exact .zero n
 ·exact h _ e
theorem su{b x:Int}{n:Nat}(hb:0<=b)(hb':Bd n b)(h:Bd n x):Bd n (tk b x):=by
 unfold tk;split
 ·exact h
 ·exact Bd.emod (by omega) hb'
theorem zK{b:Int}{rule starts:List Int}{a c:Nat}(hl:rule.length=starts.length)(hb:0<=b)(hb':Bd c b)(hr:∀x∈rule,Bd a x)(hs:∀x∈starts,Bd c x):
  ∀n,Bd (c+n*(a+rule.length)) (at_ b rule starts n):=by
 intro n;induction n using Nat.strongRecOn with
 |ind n ih=>
  by_cases h:n<starts.length
  ·rw[rz h];exact(Bd.getD hs n).mono (by omega)
  ·rw[xg hl (by omega)];by_cases h0:rule.length=0
   ·rw[h0];exact su hb (hb'.mono (by omega)) (.zero _)
   ·have hn:0<n:=by omega
    have q:=Bd.S (rule:=rule) (f:=at_ b rule starts) (n:=n) (a:=a) (c:=c+(n-1)*(a+rule.length)) (fun k=>Bd.getD hr k) rule.length fun k hk=>by
     refine(ih (n-1-k) (by omega)).mono ?_;have:(n-1-k)*(a+rule.length)<=(n-1)*(a+rule.length):=Nat.mul_le_mul_right _ (by omega);omega
    have e:n*(a+rule.length)=(n-1)*(a+rule.length)+(a+rule.length):=by
     obtain⟨m,rfl⟩:∃m,n=m+1:=⟨n-1,by omega⟩;rw[Nat.add_sub_cancel,Nat.succ_mul]
    exact su hb (hb'.mono (by omega)) (q.mono (by omega))
theorem yQ{b:Int}{rule starts:List Int}(hl:rule.length=starts.length)(hb:0<b)(hs:∀x∈starts,0<=x/\x<b)(n:Nat):0<=at_ b rule starts n/\at_ b rule starts n<b:=by
 by_cases h:n<starts.length
 ·rw[rz h,List.getD_eq_getElem?_getD,List.getElem?_eq_getElem h];exact hs _ (List.getElem_mem h)
 ·rw[xg hl (by omega),fB (by omega)];exact⟨Int.emod_nonneg _ (by omega),Int.emod_lt_of_pos _ hb⟩
end Rm
namespace Om
def iu:List Nat:=[2,3,5,7,11,13,17,19,23,29,31,37,41,43,47,53,59,61,67,71,73,79,83,89,97,101,103,107,109,113,127,131,137,139,149,151,157,163,167,173,179,181,191,193,197,199,211,223,227,229,233,239,241,251,257,263,269,271,277,281,283,293,307,311,313,317,331,337,347,349,353,359,367,373,379,383,389,397,401,409,419,421,431,433,439,443,449,457,461,463,467,479,487,491,499,503,509,521,523,541,547,557,563,569,571,577,587,593,599,601,607,613,617,619,631,641,643,647,653,659,661,673,677,683,691,701,709,719,727,733,739,743,751,757,761,769,773,787,797,809,811,821,823,827,829,839,853,857,859,863,877,881,883,887,907,911,919,929,937,941,947,953,967,971,977,983,991,997]
def chk(p:Nat):Nat->Bool
 |0=>true
 |a+1=>(Nat.beq a 0||Nat.beq ((Nat.pow a (p-1))%p) 1)&&chk p a
set_option maxRecDepth 100000 in
theorem Af:(iu.all fun p=>chk p p)=true:=by decide +kernel
theorem Hg{p:Nat}:∀{n:Nat},chk p n=true->∀a,a<n->a≠0->a^(p-1)%p=1
 |n+1,h,a,ha,h0=>by
  unfold chk at h;rw[Bool.and_eq_true]at h;by_cases e:a=n
  ·subst e;have h1:=h.1;rw[Bool.or_eq_true]at h1;rcases h1 with h1|h1
   ·exact absurd (Nat.eq_of_beq_eq_true h1) h0
   ·exact Nat.eq_of_beq_eq_true h1
  ·exact Hg h.2 a (by omega) h0
theorem HC{p a:Nat}(hp:p∈iu)(h0:a≠0)(h:a<p):a^(p-1)%p=1:=
 Hg (List.all_eq_true.mp Af p hp) a h h0
theorem qG{p a:Int}{P:Nat}(hP:p=(P:Int))(hp:P∈iu)(h0:0<a)(h:a<p):a^(P-1)%p=1:=by
 obtain⟨n,rfl⟩:∃n:Nat,a=(n:Int):=⟨a.toNat,by omega⟩;subst hP;have:=HC hp (a:=n) (by omega) (by omega);have e:((n:Int)^(P-1))=((n^(P-1):Nat):Int):=by simp
 rw[e,<-Int.natCast_emod,this];rfl
theorem mod_mul{x y x' y' p:Int}(h:x%p=x'%p)(h':y%p=y'%p):(x*y)%p=(x'*y')%p:=by
 rw[Int.mul_emod,h,h',<-Int.mul_emod]
theorem v5{x x' p:Int}(h:x%p=x'%p):∀n:Nat,(x^n)%p=(x'^n)%p
 |0=>by simp
 |n+1=>by rw[Int.pow_succ,Int.pow_succ];exact mod_mul (v5 h n) h
def Keeps(p a:Int)(e:Nat)(power square:Int)(left:Nat):Prop:=(power*square^left)%p=(a^e)%p
theorem xT(p a:Int)(e:Nat):Keeps p a e 1 a e:=by unfold Keeps;rw[Int.one_mul]
theorem lB(x:Int):∀n:Nat,(x*x)^n=x^(2*n)
 |0=>by simp
 |n+1=>by
  rw[Int.pow_succ,lB x n,show 2*(n+1)=2*n+1+1 by omega,Int.pow_succ,Int.pow_succ,Int.mul_assoc]
theorem DG{p a:Int}{e:Nat}{power square:Int}{left:Nat}(h:Keeps p a e power square left)(ho:left%2=1):Keeps p a e (power*square%p) (square*square%p) (left/2):=by
 unfold Keeps at *;have h1:(power*square%p)%p=(power*square)%p:=Int.emod_emod_of_dvd _ (Int.dvd_refl p);have h2:=v5 (p:=p) (x:=square*square%p) (x':=square*square) (Int.emod_emod_of_dvd _ (Int.dvd_refl p)) (left/2);rw[mod_mul h1 h2,<-h,lB,Int.mul_assoc];have e2:left=2*(left/2)+1:=by omega
 conv=>rhs;rw[e2,Int.pow_succ]
 rw[Int.mul_comm square]
theorem zW{p a:Int}{e:Nat}{power square:Int}{left:Nat}(h:Keeps p a e power square left)(ho:¬left%2=1):Keeps p a e power (square*square%p) (left/2):=by
 unfold Keeps at *;have h2:=v5 (p:=p) (x:=square*square%p) (x':=square*square) (Int.emod_emod_of_dvd _ (Int.dvd_refl p)) (left/2);rw[mod_mul rfl h2,<-h,lB];have e2:left=2*(left/2):=by omega
 conv=>rhs;rw[e2]
theorem Bp{p a:Int}{e:Nat}{power square:Int}(h:Keeps p a e power square 0):power%p=a^e%p:=by
 unfold Keeps at h
 rwa [Int.pow_zero,Int.mul_one]at h
end Om
namespace Pm
open Rm
def sm:Nat->(Nat->Int)->Int
 |0,_=>0
 |n+1,f=>sm n f+f n
theorem aH{f g:Nat->Int}:∀{n:Nat},(∀k,k<n->f k=g k)->sm n f=sm n g
 |0,_=>rfl
 |n+1,h=>by rw[sm,sm,aH fun k hk=>h k (by omega),h n (by omega)]
theorem lD:∀n:Nat,sm n (fun _=>0)=0
 |0=>rfl
 |n+1=>by rw[sm,lD n];rfl
theorem gC{f:Nat->Int}{n:Nat}(h:∀k,k<n->f k=0):sm n f=0:=by rw[aH h,lD]
theorem gG(f:Nat->Int):∀n:Nat,sm (n+1) f=f 0+sm n (fun i=>f (i+1))
 |0=>by simp[sm]
 |n+1=>by
  rw[sm,gG f n,sm,Int.add_assoc]
theorem dY(f g:Nat->Int):∀n:Nat,sm n (fun k=>f k+g k)=sm n f+sm n g
 |0=>rfl
 |n+1=>by rw[sm,sm,sm,dY f g n];omega
theorem cu(c:Int)(f:Nat->Int):∀n:Nat,sm n (fun k=>c*f k)=c*sm n f
 |0=>by simp[sm]
 |n+1=>by rw[sm,sm,cu c f n,Int.mul_add]
theorem fL{f:Nat->Int}{m:Nat}:∀{n:Nat},m<=n->(∀k,m<=k->k<n->f k=0)->sm n f=sm m f
 |0,h,_=>by rw[show m=0 by omega]
 |n+1,h,h0=>by
  by_cases e:m=n+1
  ·rw[e]
  ·rw[sm,fL (n:=n) (by omega) (fun k h1 h2=>h0 k h1 (by omega)),h0 n (by omega) (by omega),Int.add_zero]
theorem tk0(b:Int):tk b 0=0:=by unfold tk;split<;>simp
theorem jD{b:Int}{f g:Nat->Int}:∀{n:Nat},(∀k,k<n->tk b (f k)=tk b (g k))->tk b (sm n f)=tk b (sm n g)
 |0,_=>rfl
 |n+1,h=>by
  rw[sm,sm];exact bB (jD fun k hk=>h k (by omega)) (h n (by omega))
theorem ud(f:Nat->Int):∀n:Nat,((List.range n).map f).sum=sm n f
 |0=>rfl
 |n+1=>by rw[List.range_succ,List.map_append,List.sum_append,ud f n];simp[sm]
def cv:(Nat->Int)->(Nat->Int)->Nat->Int
 |f,g,0=>f 0*g 0
 |f,g,k+1=>f 0*g (k+1)+cv (fun i=>f (i+1)) g k
theorem fY:∀(f g:Nat->Int) (k:Nat),cv f g k=sm (k+1) (fun j=>f j*g (k-j))
 |f,g,0=>by simp[cv,sm]
 |f,g,k+1=>by
  rw[cv,fY _ g k,gG (fun j=>f j*g (k+1-j))];refine congrArg (_ + ·) (aH fun j hj=>?_);rw[show k+1-(j+1)=k-j by omega]
theorem xV:∀(f g:Nat->Int) (k:Nat),cv f g (k+1)=cv f (fun i=>g (i+1)) k+f (k+1)*g 0
 |f,g,0=>rfl
 |f,g,k+1=>by
  rw[cv,xV (fun i=>f (i+1)) g k,cv,Int.add_assoc]
theorem dX:∀(f g:Nat->Int) (k:Nat),cv f g k=cv g f k
 |f,g,0=>Int.mul_comm _ _
 |f,g,k+1=>by
  rw[cv,xV,dX (fun i=>f (i+1)) g k,Int.add_comm,Int.mul_comm]
theorem fj{f f' g g':Nat->Int}{k:Nat}(h:∀i,i<=k->f i=f' i)(h':∀i,i<=k->g i=g' i):cv f g k=cv f' g' k:=by
 rw[fY,fY];exact aH fun j hj=>by rw[h j (by omega),h' _ (by omega)]
theorem iH{b:Int}{f f' g g':Nat->Int}{k:Nat}(h:∀i,i<=k->tk b (f i)=tk b (f' i))(h':∀i,i<=k->tk b (g i)=tk b (g' i)):tk b (cv f g k)=tk b (cv f' g' k):=by
 rw[fY,fY];exact jD fun j hj=>by rw[<-fR,<-cD,h j (by omega),h' _ (by omega),cD,fR]
theorem eU(f f' g:Nat->Int)(k:Nat):cv (fun i=>f i+f' i) g k=cv f g k+cv f' g k:=by
 rw[fY,fY,fY,<-dY];exact aH fun j _=>Int.add_mul ..
theorem xX(f g g':Nat->Int)(k:Nat):cv f (fun i=>g i+g' i) k=cv f g k+cv f g' k:=by
 rw[dX,eU,dX,dX g']
theorem fH(c:Int)(f g:Nat->Int)(k:Nat):cv (fun i=>c*f i) g k=c*cv f g k:=by
 rw[fY,fY,<-cu];exact aH fun j _=>Int.mul_assoc ..
theorem bV:∀(f g h:Nat->Int) (k:Nat),cv (cv f g) h k=cv f (cv g h) k
 |f,g,h,0=>by simp[cv,Int.mul_assoc]
 |f,g,h,k+1=>by
  have e:(fun i=>cv f g (i+1))=fun i=>f 0*(fun i=>g (i+1)) i+cv (fun i=>f (i+1)) g i:=rfl;rw[cv,e,eU (fun i=>f 0*(fun i=>g (i+1)) i),fH,bV (fun i=>f (i+1)) g h k,cv,cv,cv];rw[Int.mul_add,Int.mul_assoc];omega
theorem d8{f g:Nat->Int}{k:Nat}(h:∀i,i<=k->f i=0∨g (k-i)=0):cv f g k=0:=by
 rw[fY];exact gC fun j hj=>by rcases h j (by omega)with e|e<;>rw[e]<;>simp
def co(p:List Int)(k:Nat):Int:=p.getD k 0
theorem dR(k:Nat):co [] k=0:=by simp[co]
theorem cZ(x:Int)(r:List Int):co (x::r) 0=x:=by simp[co]
theorem jc(x:Int)(r:List Int)(k:Nat):co (x::r) (k+1)=co r k:=by simp[co]
theorem bN{p:List Int}{k:Nat}(h:p.length<=k):co p k=0:=by
 rw[co,List.getD_eq_getElem?_getD,List.getElem?_eq_none h];rfl
theorem m7{p:List Int}{k:Nat}(h:k<p.length):co p k=p[k]:=by
 rw[co,List.getD_eq_getElem?_getD,List.getElem?_eq_getElem h];rfl
theorem za{p:List Int}{k:Nat}(h:k<p.length):co p k∈p:=by rw[m7 h];exact List.getElem_mem h
def ofF(n:Nat)(f:Nat->Int):List Int:=(List.range n).map f
theorem aZ(n:Nat)(f:Nat->Int):(ofF n f).length=n:=by simp[ofF]
theorem bZ(n:Nat)(f:Nat->Int)(k:Nat):co (ofF n f) k=if k<n then f k else 0:=by
 by_cases h:k<n
 ·rw[if_pos h,co,ofF,List.getD_eq_getElem?_getD,List.getElem?_map,List.getElem?_range h];rfl
 ·rw[if_neg h,bN (by rw[aZ];omega)]
theorem zu(n:Nat)(f:Nat->Int):ofF (n+1) f=ofF n f++[f n]:=by
 rw[ofF,List.range_succ,List.map_append];rfl
theorem Hh(p:List Int):ofF p.length (co p)=p:=by
 apply List.ext_getElem (by rw[aZ]);intro i h1 h2;simp only[ofF,List.getElem_map,List.getElem_range];exact m7 h2
theorem jN{p q:List Int}(hl:p.length=q.length)(h:∀k,co p k=co q k):p=q:=by
 rw[<-Hh p,<-Hh q,hl];exact List.map_congr_left fun k _=>h k
theorem oG(p:List Int)(i:Nat)(x:Int)(k:Nat)(hi:i<p.length):co (p.set i x) k=if k=i then x else co p k:=by
 unfold co;rw[List.getD_eq_getElem?_getD,List.getElem?_set,List.getD_eq_getElem?_getD];by_cases e:i=k
 ·subst e;simp[hi]
 ·rw[if_neg e,if_neg (fun z=>e z.symm)]
theorem pD{f:Int->Int}(h:f 0=0)(p:List Int)(k:Nat):co (p.map f) k=f (co p k):=getD_map h p k
theorem dg(p q:List Int)(k:Nat):co (p++q) k=if k<p.length then co p k else co q (k-p.length):=by
 unfold co;by_cases h:k<p.length
 ·rw[if_pos h,List.getD_eq_getElem?_getD,List.getElem?_append_left h,<-List.getD_eq_getElem?_getD]
 ·rw[if_neg h,List.getD_eq_getElem?_getD,List.getElem?_append_right (by omega),<-List.getD_eq_getElem?_getD]
def trim:List Int->List Int
 |[]=>[]
 |x::r=>if x=0/\trim r=[]then[]else x::trim r
theorem iy:∀(p:List Int) (k:Nat),co (trim p) k=co p k
 |[],k=>rfl
 |x::r,k=>by
  rw[trim];have ih:=iy r;by_cases h:x=0/\trim r=[]
  ·rw[if_pos h];rw[h.2]at ih;cases k with
   |zero=>rw[dR,cZ,h.1]
   |succ k=>rw[jc,<-ih k,dR,dR]
  ·rw[if_neg h];cases k with
   |zero=>rw[cZ,cZ]
   |succ k=>rw[jc,jc,ih k]
theorem oX{p:List Int}:trim p=[]↔∀k,co p k=0:=by
 constructor
 ·intro h k;rw[<-iy,h,dR]
 ·intro h;induction p with
  |nil=>rfl
  |cons x r ih=>
   rw[trim,if_pos ⟨by have:=h 0;rwa [cZ]at this,ih fun k=>by have:=h (k+1);rwa [jc]at this⟩]
theorem mj:∀{p q:List Int},(∀k,co p k=co q k)->trim p=trim q
 |[],q,h=>by rw[show trim q=[]from oX.mpr fun k=>by rw[<-h k,dR]];rfl
 |x::r,[],h=>by rw[show trim (x::r)=[]from oX.mpr fun k=>by rw[h k,dR]];rfl
 |x::r,y::s,h=>by
  have e1:=h 0;rw[cZ,cZ]at e1;have e2:trim r=trim s:=mj fun k=>by have:=h (k+1);rwa [jc,jc]at this
  rw[trim,trim,e1,e2]
theorem B6(p:List Int):trim (trim p)=trim p:=mj (iy p)
theorem eE:∀p:List Int,(trim p).length<=p.length
 |[]=>Nat.le_refl _
 |x::r=>by
  have:=eE r;rw[trim];split
  ·simp
  ·simp;omega
theorem lF:∀{p:List Int} {n:Nat},(∀k,n<=k->co p k=0)->(trim p).length<=n
 |[],n,_=>Nat.zero_le _
 |x::r,0,h=>by rw[oX.mpr fun k=>h k (Nat.zero_le _)];exact Nat.le_refl 0
 |x::r,n+1,h=>by
  have:=lF (p:=r) (n:=n) fun k hk=>by have:=h (k+1) (by omega);rwa [jc]at this
  rw[trim];split
  ·simp
  ·simp;omega
theorem uO(p:List Int):trim (p++[0])=trim p:=mj fun k=>by
 rw[dg];by_cases h:k<p.length
 ·rw[if_pos h]
 ·rw[if_neg h,bN (p:=p) (by omega)];cases k-p.length with
  |zero=>rfl
  |succ j=>rw[jc,dR]
theorem qz:∀(p:List Int) {x:Int},x≠0->trim (p++[x])=p++[x]
 |[],x,h=>by simp[trim,h]
 |y::r,x,h=>by
  show trim (y::(r++[x]))=_;rw[trim,qz r h,if_neg (by simp)];rfl
theorem sY{p:List Int}{x:Int}(h:x∈trim p):x∈p:=by
 induction p with
 |nil=>exact h
 |cons y r ih=>
  rw[trim]at h;split at h
  ·cases h
  ·rcases List.mem_cons.mp h with rfl|h
   ·exact List.mem_cons_self
   ·exact List.mem_cons_of_mem _ (ih h)
structure Py(b:Int)(p:List Int):Prop where
 tr:trim p=p
 nu:∀x∈p,tk b x=x
theorem Py.co{b:Int}{p:List Int}(h:Py b p)(k:Nat):tk b (co p k)=co p k:=by
 by_cases hk:k<p.length
 ·exact h.nu _ (za hk)
 ·rw[bN (by omega),tk0]
theorem Py.ext{b:Int}{p q:List Int}(h:Py b p)(h':Py b q)(e:∀k,tk b (Pm.co p k)=tk b (Pm.co q k)):p=q:=by
 rw[<-h.tr,<-h'.tr];exact mj fun k=>by rw[<-h.co k,<-h'.co k];exact e k
theorem Py.of{b:Int}{p:List Int}(h:∀x∈p,tk b x=x):Py b (trim p):=⟨B6 p,fun x hx=>h x (sY hx)⟩
theorem Py.nil(b:Int):Py b []:=⟨rfl,fun _ h=>nomatch h⟩
theorem dH{n:Nat}{f:Nat->Int}{x:Int}(h:x∈ofF n f):∃k,k<n/\x=f k:=by
 obtain⟨k,hk,e⟩:=List.mem_map.mp h;exact⟨k,List.mem_range.mp hk,e.symm⟩
theorem Py.ofF(b:Int)(n:Nat)(f:Nat->Int):Py b (trim (Pm.ofF n fun k=>tk b (f k))):=Py.of fun x hx=>by
 obtain⟨k,_,rfl⟩:=dH hx;exact iI ..
def add(b:Int)(p q:List Int):List Int:=trim (ofF (max p.length q.length) fun k=>tk b (co p k+co q k))
def mul(b:Int)(p q:List Int):List Int:=trim (ofF (p.length+q.length) fun k=>tk b (cv (co p) (co q) k))
theorem Gi(b:Int)(p q:List Int):Py b (mul b p q):=Py.ofF ..
theorem zq(b:Int)(p q:List Int)(k:Nat):co (add b p q) k=tk b (co p k+co q k):=by
 rw[add,iy,bZ];split
 ·rfl
 ·rw[bN (p:=p) (by omega),bN (p:=q) (by omega),Int.add_zero,tk0]
theorem kY(b:Int)(p q:List Int)(k:Nat):co (mul b p q) k=tk b (cv (co p) (co q) k):=by
 rw[mul,iy,bZ];split
 ·rfl
 ·rw[d8,tk0];intro i hi;by_cases h:i<p.length
  ·exact .inr (bN (by omega))
  ·exact .inl (bN (by omega))
theorem mul_comm(b:Int)(p q:List Int):mul b p q=mul b q p:=(Gi ..).ext (Gi ..) fun k=>by rw[kY,kY,dX]
def W(f g:Nat->Int)(i k c:Nat):Int:=sm i (fun j=>if j<=c then f j*g (c-j)else 0)+(if i<=c/\c-i<k then f i*g (c-i)else 0)
theorem JH(f g:Nat->Int)(c:Nat):W f g 0 0 c=0:=by simp[W,sm]
theorem MH{f g:Nat->Int}{i k c:Nat}:W f g i (k+1) c=W f g i k c+(if c=i+k then f i*g k else 0):=by
 unfold W;by_cases h:c=i+k
 ·rw[if_pos h,if_pos (by omega),if_neg (by omega),show c-i=k by omega];omega
 ·rw[if_neg h];by_cases h2:i<=c/\c-i<k
  ·rw[if_pos h2,if_pos (by omega)];omega
  ·rw[if_neg h2,if_neg (by omega)];omega
theorem V4{f g:Nat->Int}{i n c:Nat}(hg:∀k,n<=k->g k=0):W f g i n c=W f g (i+1) 0 c:=by
 unfold W;rw[sm,if_neg (show ¬(i+1<=c/\c-(i+1)<0)by omega)];by_cases h:i<=c
 ·rw[if_pos h];by_cases h2:c-i<n
  ·rw[if_pos ⟨h,h2⟩];omega
  ·rw[if_neg (by omega),hg _ (by omega),Int.mul_zero];omega
 ·rw[if_neg (by omega),if_neg h];omega
theorem Je{f g:Nat->Int}{m c:Nat}(hf:∀k,m<=k->f k=0):W f g m 0 c=cv f g c:=by
 unfold W;rw[if_neg (by omega),Int.add_zero,fY];by_cases h:m<=c+1
 ·rw[fL (n:=c+1) h fun k h1 _=>by rw[hf k h1,Int.zero_mul]];exact aH fun j hj=>if_pos (by omega)
 ·rw[fL (m:=c+1) (n:=m) (by omega) fun k h1 _=>if_neg (by omega)];exact aH fun j hj=>if_pos (by omega)
end Pm
namespace Pm
open Rm
theorem oh(F:Nat->Nat->Int)(m:Nat):∀n:Nat,sm m (fun k=>sm n (fun j=>F k j))=sm n (fun j=>sm m (fun k=>F k j))
 |0=>by simp only[sm];exact lD m
 |n+1=>by
  simp only[sm];rw[dY,oh F m n]
theorem Ez(rule:List Int)(f:Nat->Int)(n:Nat):∀m:Nat,S rule f n m=sm m (fun k=>co rule k*f (n-1-k))
 |0=>rfl
 |m+1=>by rw[S,sm,Ez rule f n m];rfl
def ks(p:List Int)(a:Nat->Int)(n:Nat):Int:=sm p.length (fun k=>co p k*a (n+k))
theorem K2{b:Int}{rule p:List Int}{a:Nat->Int}(ha:∀n,rule.length<=n->tk b (a n)=tk b (S rule a n rule.length)){n:Nat}(hn:rule.length<=n):
  tk b (ks p a n)=tk b (S rule (ks p a) n rule.length):=by
 have e1:tk b (ks p a n)=tk b (sm p.length (fun k=>co p k*sm rule.length (fun j=>co rule j*a (n+k-1-j)))):=by
  refine jD fun k _=>?_;rw[<-cD,ha (n+k) (by omega),cD,Ez]
 rw[e1,Ez];congr 1;have e2:(fun k=>co p k*sm rule.length (fun j=>co rule j*a (n+k-1-j)))=fun k=>sm rule.length (fun j=>co rule j*(co p k*a (n+k-1-j))):=by
  funext k
  rw[<-cu];exact aH fun j _=>Int.mul_left_comm ..
 rw[e2,oh];refine aH fun j hj=>?_;rw[cu];congr 1;refine aH fun k _=>?_;rw[show n-1-j+k=n+k-1-j by omega]
theorem DP{b:Int}{rule p:List Int}{a:Nat->Int}(ha:∀n,rule.length<=n->tk b (a n)=tk b (S rule a n rule.length))(h0:∀n,n<rule.length->tk b (ks p a n)=0):
  ∀n,tk b (ks p a n)=0:=by
 intro n;induction n using Nat.strongRecOn with
 |ind n ih=>
  by_cases h:n<rule.length
  ·exact h0 n h
  ·rw[K2 ha (by omega),Ez];have:tk b (sm rule.length fun k=>co rule k*ks p a (n-1-k))=tk b (sm rule.length fun _=>0):=jD fun k hk=>by
    rw[<-cD,ih (n-1-k) (by omega),Int.mul_zero]
   rw[this,lD,tk0]
def aX(b:Int)(c:List Int):List Int:=ofF c.length (fun k=>tk b (0-co c (c.length-1-k)))++[1]
def cG(b:Int)(p:List Int):List Int:=ofF (p.length-1) (fun k=>tk b (0-co p (p.length-1-1-k)))
theorem bU(b:Int)(c:List Int):(aX b c).length=c.length+1:=by simp[aX,aZ]
theorem nA(b x:Int):tk b (0-tk b (0-x))=tk b x:=by
 have h:tk b (tk b (0-x)+(0-tk b (0-x)))=tk b ((0-x)+(0-tk b (0-x))):=cj ..;have e1:tk b (0-x)+(0-tk b (0-x))=0:=by omega
 rw[e1]at h;have h2:tk b (tk b (0-tk b (0-x))+(0-x))=tk b 0:=by rw[cj,Int.add_comm];exact h.symm
 have h3:tk b (tk b (0-tk b (0-x)))=tk b x:=by
  have:=bB h2 (rfl:tk b x=tk b x);rw[show tk b (0-tk b (0-x))+(0-x)+x=tk b (0-tk b (0-x))by omega,Int.zero_add]at this;exact this
 rwa [iI]at h3
theorem tU{b:Int}{c:List Int}(h:∀x∈c,tk b x=x):cG b (aX b c)=c:=by
 refine jN (by rw[cG,aZ,bU];omega) fun k=>?_;rw[cG,bZ,bU];by_cases hk:k<c.length+1-1
 ·rw[if_pos hk,aX,dg,aZ,if_pos (by omega),bZ,if_pos (by omega),nA];rw[show c.length-1-(c.length+1-1-1-k)=k by omega];exact h _ (za (by omega))
 ·rw[if_neg hk,bN (by omega)]
theorem Hj{b:Int}{rule starts:List Int}(hl:rule.length=starts.length):∀n,rule.length<=n->tk b (at_ b rule starts n)=tk b (S rule (at_ b rule starts) n rule.length):=fun n hn=>by
 rw[xg hl (by omega),iI]
theorem Ak{f:Nat->Int}{c:Nat}:∀n:Nat,(∀k,k<n->Bd c (f k))->Bd (c+n) (sm n f)
 |0,_=>Bd.zero _
 |n+1,h=>by
  rw[sm];exact Bd.add (n:=c+n) (Ak n fun k hk=>h k (by omega)) ((h n (by omega)).mono (by omega))
theorem jV{p:List Int}{u:Nat}(h:∀x∈p,Bd u x)(k:Nat):Bd u (co p k):=Bd.getD h k
theorem Q7{p q:List Int}{u v:Nat}(h:∀x∈p,Bd u x)(h':∀x∈q,Bd v x)(k:Nat):Bd (u+v+p.length) (cv (co p) (co q) k):=by
 rw[<-Je (m:=p.length) fun j hj=>bN hj,W,if_neg (by omega),Int.add_zero];refine Ak _ fun j _=>?_;split
 ·exact(jV h j).mul (jV h' _)
 ·exact Bd.zero _
theorem LN{b:Int}{p q:List Int}{u v:Nat}(hb:0<=b)(hb1:b<1000)(hu:10<=u)(h:∀x∈p,Bd u x)(h':∀x∈q,Bd v x):∀x∈mul b p q,Bd (u+v+p.length) x:=by
 intro x hx;obtain⟨k,_,rfl⟩:=dH (sY hx);refine su hb ?_ (Q7 h h' k);exact(Bd.of (n:=10) (by omega) (by omega)).mono (by omega)
theorem vM{b:Int}{c:List Int}{u:Nat}(hb:0<=b)(hb1:b<1000)(hu:10<=u)(h:∀x∈c,Bd u x):∀x∈aX b c,Bd u x:=by
 intro x hx;rcases List.mem_append.mp hx with hx|hx
 ·obtain⟨k,_,rfl⟩:=dH hx;refine su hb ((Bd.of (n:=10) (by omega) (by omega)).mono (by omega)) ?_;have:=jV h (c.length-1-k);unfold Bd at this⊢;rw[Int.zero_sub,Int.natAbs_neg];exact this
 ·rw[List.mem_singleton.mp hx];exact(Bd.of (n:=10) (by decide) (by decide)).mono hu
end Pm
namespace Pm
open Rm
theorem cM(x:Int)(j:Nat):∀n:Nat,sm n (fun i=>if i=j then x else 0)=if j<n then x else 0
 |0=>by simp[sm]
 |n+1=>by
  rw[sm,cM x j n];by_cases h:n=j
  ·rw[if_pos h,if_neg (by omega),if_pos (by omega)];omega
  ·rw[if_neg h];by_cases h2:j<n
   ·rw[if_pos h2,if_pos (by omega)];omega
   ·rw[if_neg h2,if_neg (by omega)];omega
theorem dJ{b x y:Int}:tk b (x-y)=0↔tk b x=tk b y:=by
 constructor
 ·intro h;have:=bB (b:=b) (x:=x-y) (x':=0) (y:=y) (y':=y) (by rw[h,tk0]) rfl
  rwa [show x-y+y=x by omega,Int.zero_add]at this
 ·intro h;have:=bB (b:=b) (x:=x) (x':=y) (y:=-y) (y':=-y) h rfl;rw[show x + -y=x-y by omega,show y + -y=0 by omega,tk0]at this;exact this
theorem lY(f:Int)(s:Nat)(g:Nat->Int)(k:Nat):cv (fun i=>if i=s then f else 0) g k=if s<=k then f*g (k-s)else 0:=by
 rw[fY];have e:sm (k+1) (fun j=>(if j=s then f else 0)*g (k-j))=sm (k+1) (fun j=>if j=s then f*g (k-s)else 0):=aH fun j _=>by
  by_cases h:j=s
  ·rw[if_pos h,if_pos h,h]
  ·rw[if_neg h,if_neg h,Int.zero_mul]
 rw[e,cM];by_cases h:s<=k
 ·rw[if_pos h,if_pos (by omega)]
 ·rw[if_neg h,if_neg (by omega)]
structure Mon(m:List Int):Prop where
 pos:0<m.length
 one:co m (m.length-1)=1
structure Div(b:Int)(p m q r:List Int):Prop where
 qy:Py b q
 ry:Py b r
 short:r.length<m.length
 eq:∀k,tk b (cv (co q) (co m) k+co r k)=tk b (co p k)
theorem Div.uniq{b:Int}{p m q r q' r':List Int}(hm:Mon m)(h:Div b p m q r)(h':Div b p m q' r'):q=q'/\r=r':=by
 have hp:=hm.pos;have e1:∀k,tk b (cv (fun i=>co q i-co q' i) (co m) k+(co r k-co r' k))=0:=by
  intro k;have e2:cv (fun i=>co q i-co q' i) (co m) k=cv (co q) (co m) k-cv (co q') (co m) k:=by
   have:=eU (co q) (fun i=>-1*co q' i) (co m) k;rw[fH]at this;have e3:(fun i=>co q i + -1*co q' i)=fun i=>co q i-co q' i:=by funext i;omega
   rw[e3]at this;omega
  rw[e2,show cv (co q) (co m) k-cv (co q') (co m) k+(co r k-co r' k)=(cv (co q) (co m) k+co r k)-(cv (co q') (co m) k+co r' k)by omega,dJ,h.eq,h'.eq]
 have e4:∀d j,q.length+q'.length<=j+d->tk b (co q j-co q' j)=0:=by
  intro d;induction d with
  |zero=>intro j hj;rw[bN (by omega),bN (by omega)];exact tk0 b
  |succ d ih=>
   intro j hj;have e5:=e1 (j+(m.length-1));have hs:=h.short;have hs':=h'.short;rw[bN (p:=r) (by omega),bN (p:=r') (by omega),Int.sub_zero,Int.add_zero,fY]at e5;rw[<-e5];have e6:tk b (sm (j+(m.length-1)+1) fun i=>(co q i-co q' i)*co m (j+(m.length-1)-i))=tk b (sm (j+(m.length-1)+1) fun i=>if i=j then co q j-co q' j else 0):=jD fun i hi=>by
    by_cases c:i=j
    ·rw[if_pos c,c,show j+(m.length-1)-j=m.length-1 by omega,hm.one,Int.mul_one]
    ·rw[if_neg c];by_cases c2:i<j
     ·rw[bN (p:=m) (by omega),Int.mul_zero]
     ·rw[<-fR,ih i (by omega),Int.zero_mul]
   rw[e6,cM,if_pos (by omega)]
 have eq:q=q':=h.qy.ext h'.qy fun k=>dJ.mp (e4 (q.length+q'.length) k (by omega));refine⟨eq,h.ry.ext h'.ry fun k=>?_⟩;have e7:=e1 k;rw[eq]at e7;have e8:(fun i=>co q' i-co q' i)=fun _=>0:=by funext i;omega
 rw[e8,d8 (fun _ _=> .inl rfl),Int.zero_add]at e7;exact dJ.mp e7
structure Bw(b:Int)(p m:List Int)(s:Nat)(o l:List Int):Prop where
 eq:∀k,tk b (cv (co o) (co m) k+co l k)=tk b (co p k)
 zero:∀k,s+(m.length-1)<=k->co l k=0
 low:∀k,k<s->co o k=0
 ol:o.length=p.length-(m.length-1)
 ll:l.length=p.length
 on:∀k,tk b (co o k)=co o k
 ln:∀k,tk b (co l k)=co l k
theorem Bw.start{b:Int}{p m:List Int}(hp:∀k,tk b (co p k)=co p k):Bw b p m (p.length-(m.length-1)) (ofF (p.length-(m.length-1)) fun _=>0) p:=by
 have z:∀k,co (ofF (p.length-(m.length-1)) fun _=>0) k=0:=fun k=>by rw[bZ];split<;>rfl
 exact⟨fun k=>by rw[d8 fun i _=> .inl (z i),Int.zero_add],fun k hk=>bN (by omega),fun k _=>z k,aZ _ _,rfl,fun k=>by rw[z,tk0],hp⟩
def lf(b f:Int)(s t:Nat)(l m:List Int)(k:Nat):Int:=if s<=k/\k<s+t then tk b (co l k-f*co m (k-s))else co l k
theorem Hy(b f:Int)(s:Nat)(l m:List Int)(k:Nat):lf b f s 0 l m k=co l k:=if_neg (by omega)
theorem Jw(b f:Int)(s t:Nat)(l m:List Int)(k:Nat):lf b f s (t+1) l m k=if k=s+t then tk b (lf b f s t l m k-f*co m t)else lf b f s t l m k:=by
 unfold lf;by_cases h:k=s+t
 ·rw[if_pos h,if_pos (by omega),if_neg (by omega),show k-s=t by omega]
 ·rw[if_neg h];by_cases h2:s<=k/\k<s+t
  ·rw[if_pos h2,if_pos (by omega)]
  ·rw[if_neg h2,if_neg (by omega)]
theorem Mq{b f:Int}{s:Nat}{l m:List Int}(hl:∀k,tk b (co l k)=co l k)(k:Nat):lf b f s m.length l m k=tk b (co l k-(if s<=k then f*co m (k-s)else 0)):=by
 unfold lf;by_cases h:s<=k
 ·rw[if_pos h];by_cases h2:k<s+m.length
  ·rw[if_pos ⟨h,h2⟩]
  ·rw[if_neg (by omega),bN (p:=m) (by omega),Int.mul_zero,Int.sub_zero,hl]
 ·rw[if_neg (by omega),if_neg h,Int.sub_zero,hl]
theorem Bw.step{b:Int}{p m o l l':List Int}{s:Nat}(hm:Mon m)(h:Bw b p m (s+1) o l)(hs:s<p.length-(m.length-1))(hl:l'.length=l.length)(e:∀k,co l' k=lf b (co l (s+(m.length-1))) s m.length l m k):
  Bw b p m s (o.set s (co l (s+(m.length-1)))) l':=by
 have hp:=hm.pos;have ho:=h.ol;have eo:co (o.set s (co l (s+(m.length-1))))=fun k=>co o k+(if k=s then co l (s+(m.length-1))else 0):=by
  funext k
  rw[oG _ _ _ _ (by omega)];by_cases c:k=s
  ·rw[if_pos c,if_pos c,c,h.low s (by omega),Int.zero_add]
  ·rw[if_neg c,if_neg c,Int.add_zero]
 have el:∀k,co l' k=tk b (co l k-(if s<=k then co l (s+(m.length-1))*co m (k-s)else 0)):=fun k=>by rw[e,Mq h.ln]
 refine⟨fun k=>?_,fun k hk=>?_,fun k hk=>?_,by rw[List.length_set,ho],by rw[hl,h.ll],fun k=>?_,fun k=>by rw[el,iI]⟩
 ·rw[eo,eU (co o),lY,el,fU,<-h.eq k];congr 1;omega
 ·rw[el,if_pos (by omega)];by_cases c:k=s+(m.length-1)
  ·rw[c,show s+(m.length-1)-s=m.length-1 by omega,hm.one,Int.mul_one,Int.sub_self,tk0]
  ·rw[h.zero k (by omega),bN (p:=m) (by omega),Int.mul_zero,Int.sub_zero,tk0]
 ·rw[eo];simp only;rw[h.low k (by omega),if_neg (by omega),Int.add_zero]
 ·rw[oG _ _ _ _ (by omega)];split
  ·exact h.ln _
  ·exact h.on _
theorem Bw.stop{b:Int}{p m o l:List Int}(hm:Mon m)(h:Bw b p m 0 o l):Div b p m (trim o) (trim l):=by
 have hp:=hm.pos;have y:∀{x:List Int},(∀k,tk b (co x k)=co x k)->Py b (trim x):=fun hx=>Py.of fun z hz=>by
  obtain⟨k,hk,e⟩:=List.mem_iff_getElem.mp hz;rw[<-e,<-m7 hk];exact hx k
 refine⟨y h.on,y h.ln,?_,fun k=>?_⟩
 ·have:=lF (p:=l) (n:=m.length-1) fun k hk=>h.zero k (by omega);omega
 ·rw[iy,<-h.eq k];congr 2;exact fj (fun i _=>iy _ _) (fun _ _=>rfl)
end Pm
namespace Pm
open Rm
theorem yO(g:Nat->Int)(j:Nat):∀m:Nat,sm (j+m) (fun k=>if j<=k then g (k-j)else 0)=sm m g
 |0=>by
  rw[Nat.add_zero];exact gC fun k hk=>if_neg (by omega)
 |m+1=>by
  rw[<-Nat.add_assoc,sm,sm,yO g j m,if_pos (by omega),Nat.add_sub_cancel_left]
theorem jQ(p:List Int)(a:Nat->Int)(n:Nat){N:Nat}(h:p.length<=N):sm N (fun k=>co p k*a (n+k))=ks p a n:=
 fL h fun k h1 _=>by rw[bN h1,Int.zero_mul]
theorem KZ{b:Int}{p q:List Int}{a:Nat->Int}(h:∀k,tk b (co p k)=tk b (co q k))(n:Nat):tk b (ks p a n)=tk b (ks q a n):=by
 rw[<-jQ p a n (Nat.le_max_left p.length q.length),<-jQ q a n (Nat.le_max_right p.length q.length)];exact jD fun k _=>by rw[<-fR,h k,fR]
theorem GN{b:Int}(p q:List Int)(a:Nat->Int)(n:Nat):tk b (ks (add b p q) a n)=tk b (ks p a n+ks q a n):=by
 have hl:(add b p q).length<=max p.length q.length:=by
  have:=eE (ofF (max p.length q.length) fun k=>tk b (co p k+co q k))
  rwa [aZ]at this
 rw[<-jQ _ a n hl,<-jQ p a n (Nat.le_max_left p.length q.length),<-jQ q a n (Nat.le_max_right p.length q.length),<-dY];exact jD fun k _=>by rw[zq,fR,Int.add_mul]
theorem DF{b:Int}(p q:List Int)(a:Nat->Int)(n:Nat):tk b (ks (mul b p q) a n)=tk b (ks p (ks q a) n):=by
 have hl:(mul b p q).length<=p.length+q.length:=by
  have:=eE (ofF (p.length+q.length) fun k=>tk b (cv (co p) (co q) k))
  rwa [aZ]at this
 rw[<-jQ _ a n hl];have e1:tk b (sm (p.length+q.length) fun k=>co (mul b p q) k*a (n+k))=tk b (sm (p.length+q.length) fun k=>sm p.length fun j=>co p j*(if j<=k then co q (k-j)*a (n+k)else 0)):=jD fun k _=>by
  rw[kY,fR,<-Je (m:=p.length) fun j hj=>bN hj,W,if_neg (by omega),Int.add_zero,Int.mul_comm,<-cu];congr 1;refine aH fun j _=>?_;by_cases h:j<=k
  ·rw[if_pos h,if_pos h,Int.mul_comm,Int.mul_assoc]
  ·rw[if_neg h,if_neg h,Int.mul_zero,Int.mul_zero]
 rw[e1,oh];congr 1;refine aH fun j hj=>?_;rw[cu];congr 1;have e2:(fun k=>if j<=k then co q (k-j)*a (n+k)else 0)=fun k=>if j<=k then(fun i=>co q i*a (n+j+i)) (k-j)else 0:=by
  funext k
  by_cases h:j<=k
  ·rw[if_pos h,if_pos h];show _=co q (k-j)*a (n+j+(k-j));rw[show n+j+(k-j)=n+k by omega]
  ·rw[if_neg h,if_neg h]
 rw[e2,show p.length+q.length=j+(p.length-j+q.length)by omega];refine(yO (fun i=>co q i*a (n+j+i)) j _).trans ?_;exact jQ q a (n+j) (by omega)
theorem Ia{b:Int}{p:List Int}{a:Nat->Int}(h:∀n,tk b (a n)=0)(n:Nat):tk b (ks p a n)=0:=by
 have:tk b (ks p a n)=tk b (sm p.length fun _=>0):=jD fun k _=>by rw[<-cD,h,Int.mul_zero]
 rw[this,lD,tk0]
def Kp(b:Int)(p:List Int)(a:Nat->Int):Prop:=∀n,tk b (ks p a n)=0
theorem Kp.Lr{b:Int}{q:List Int}{a:Nat->Int}(h:Kp b q a)(p:List Int):Kp b (mul b p q) a:=fun n=>by rw[DF];exact Ia h n
theorem Kp.W6{b:Int}{q:List Int}{a:Nat->Int}(h:Kp b q a)(p:List Int):Kp b (mul b q p) a:=by rw[mul_comm];exact h.Lr p
theorem Kp.add{b:Int}{p q:List Int}{a:Nat->Int}(h:Kp b p a)(h':Kp b q a):Kp b (add b p q) a:=fun n=>by
 rw[GN,<-cj,h n,<-fU,h' n];exact tk0 b
theorem Kp.congr{b:Int}{p q:List Int}{a:Nat->Int}(e:∀k,tk b (co p k)=tk b (co q k))(h:Kp b p a):Kp b q a:=fun n=>by rw[<-KZ e];exact h n
theorem Kp.aX{b:Int}{rule:List Int}{a:Nat->Int}(ha:∀n,rule.length<=n->tk b (a n)=tk b (S rule a n rule.length)):Kp b (aX b rule) a:=fun n=>by
 unfold ks;rw[bU,sm];have e1:co (Pm.aX b rule) rule.length=1:=by
  rw[Pm.aX,dg,aZ,if_neg (by omega),Nat.sub_self];rfl
 have e2:tk b (sm rule.length fun k=>co (Pm.aX b rule) k*a (n+k))=tk b (sm rule.length fun k=>-1*(co rule (rule.length-1-k)*a (n+k))):=jD fun k hk=>by
  rw[Pm.aX,dg,aZ,if_pos hk,bZ,if_pos hk,fR,Int.zero_sub,Int.neg_mul,Int.neg_one_mul]
 have e3:S rule a (n+rule.length) rule.length=sm rule.length fun k=>co rule (rule.length-1-k)*a (n+k):=by
  rw[Ez];have rev:∀(m:Nat) (f:Nat->Int),sm m f=sm m fun k=>f (m-1-k):=by
   intro m;induction m with
   |zero=>intro f;rfl
   |succ m ih=>
    intro f;rw[gG,sm,ih fun i=>f (i+1),Int.add_comm];have:m+1-1-m=0:=by omega
    rw[this];congr 1;exact aH fun k hk=>by rw[show m-1-k+1=m+1-1-k by omega]
  rw[rev];exact aH fun k hk=>by rw[show n+rule.length-1-(rule.length-1-k)=n+k by omega]
 rw[e1,Int.one_mul,<-cj,e2,cj,cu,<-e3,<-fU,ha (n+rule.length) (by omega),fU,Int.neg_one_mul,Int.add_left_neg,tk0]
theorem Div.kp{b:Int}{p m q r:List Int}{a:Nat->Int}(h:Div b p m q r)(hm:Kp b m a):Kp b p a↔Kp b r a:=by
 have e:∀n,tk b (ks p a n)=tk b (ks r a n):=fun n=>by
  have e1:∀k,tk b (co (Pm.add b (mul b q m) r) k)=tk b (co p k):=fun k=>by rw[zq,kY,iI,cj];exact h.eq k
  rw[<-KZ e1,GN,<-cj,hm.Lr q n,Int.zero_add]
 exact⟨fun z n=>by rw[<-e];exact z n,fun z n=>by rw[e];exact z n⟩
def In2(b:Int)(p q x:List Int):Prop:=∃u v,∀k,tk b (co x k)=tk b (cv (co u) (co p) k+cv (co v) (co q) k)
theorem Ir(p q:List Int)(k:Nat):co (add 0 p q) k=co p k+co q k:=by rw[zq,bK]
theorem C0(p q:List Int)(k:Nat):co (mul 0 p q) k=cv (co p) (co q) k:=by rw[kY,bK]
theorem In2.left(b:Int)(p q:List Int):In2 b p q p:=⟨[1],[],fun k=>by
 rw[d8 (f:=co []) fun i _=> .inl (dR _),Int.add_zero,fY,fL (m:=1) (by omega) fun j h1 _=>by rw[show co [1] j=0 from bN (by simpa using h1),Int.zero_mul]];simp[sm,cZ]⟩
theorem In2.swap{b:Int}{p q x:List Int}(h:In2 b p q x):In2 b q p x:=by
 obtain⟨u,v,e⟩:=h;exact⟨v,u,fun k=>by rw[e,Int.add_comm]⟩
theorem In2.trans{b:Int}{p q g s x:List Int}(hg:In2 b p q g)(hs:In2 b p q s)(h:In2 b g s x):In2 b p q x:=by
 obtain⟨a,c,eg⟩:=hg;obtain⟨a',c',es⟩:=hs;obtain⟨u,v,e⟩:=h;refine⟨add 0 (mul 0 u a) (mul 0 v a'),add 0 (mul 0 u c) (mul 0 v c'),fun k=>?_⟩;have e1:tk b (cv (co u) (co g) k)=tk b (cv (co u) (fun i=>cv (co a) (co p) i+cv (co c) (co q) i) k):=iH (fun _ _=>rfl) fun i _=>eg i;have e2:tk b (cv (co v) (co s) k)=tk b (cv (co v) (fun i=>cv (co a') (co p) i+cv (co c') (co q) i) k):=iH (fun _ _=>rfl) fun i _=>es i;rw[e,bB e1 e2];congr 1;have f1:∀y z:List Int,co (add 0 (mul 0 u y) (mul 0 v z))=fun i=>cv (co u) (co y) i+cv (co v) (co z) i:=fun y z=>by
  funext i;rw[Ir,C0,C0]
 rw[f1,f1,eU (cv (co u) (co a)),eU (cv (co u) (co c)),xX,xX,bV,bV,bV,bV];omega
theorem In2.kp{b:Int}{p q x:List Int}{a:Nat->Int}(h:In2 b p q x)(hp:Kp b p a)(hq:Kp b q a):Kp b x a:=by
 obtain⟨u,v,e⟩:=h;refine((hp.Lr u).add (hq.Lr v)).congr fun k=>?_;rw[zq,kY,kY,iI,cj,fU,e]
theorem Div.in1{b:Int}{p m q r:List Int}(h:Div b p m q r):In2 b m r p:=by
 refine⟨q,[1],fun k=>?_⟩;obtain⟨u,v,e⟩:=In2.left b r [];rw[<-h.eq k];have:cv (co [1]) (co r) k=co r k:=by
  rw[fY,fL (m:=1) (by omega) fun j h1 _=>by rw[show co [1] j=0 from bN (by simpa using h1),Int.zero_mul]];simp[sm,cZ]
 rw[this]
theorem Div.in2{b:Int}{p m q r:List Int}(h:Div b p m q r):In2 b p m r:=by
 refine⟨[1],q.map (-1 * ·),fun k=>?_⟩;have e1:cv (co [1]) (co p) k=co p k:=by
  rw[fY,fL (m:=1) (by omega) fun j h1 _=>by rw[show co [1] j=0 from bN (by simpa using h1),Int.zero_mul]];simp[sm,cZ]
 have e2:co (q.map (-1 * ·))=fun i=>-1*co q i:=by funext i;rw[pD (by simp)]
 rw[e1,e2,fH];have:=bB (h.eq k) (rfl:tk b (-1*cv (co q) (co m) k)=tk b (-1*cv (co q) (co m) k));rw[<-this];congr 1;omega
structure Gcd(b:Int)(p q g:List Int):Prop where
 py:Py b g
 mon:Mon g
 sum:In2 b p q g
 one:In2 b g [] p
 two:In2 b g [] q
theorem In2.dv{b:Int}{g p:List Int}(h:In2 b g [] p):∃u,∀k,tk b (co p k)=tk b (cv (co u) (co g) k):=by
 obtain⟨u,v,e⟩:=h;exact⟨u,fun k=>by rw[e,d8 (g:=co []) fun i _=> .inr (dR _),Int.add_zero]⟩
end Pm
namespace Pm
open Rm
theorem rQ{p:List Int}(h:p≠[]):p=p.dropLast++[co p (p.length-1)]:=by
 have hp:0<p.length:=List.length_pos_iff.mpr h
 conv=>lhs;rw[<-List.dropLast_concat_getLast h]
 congr 2;rw[m7 (by omega),List.getLast_eq_getElem]
theorem fZ{p:List Int}(h:p≠[])(h0:co p (p.length-1)≠0):trim p=p:=by
 have e:=rQ h;rw[e,qz _ h0]
theorem qN{p:List Int}(h:p≠[])(ht:trim p=p):co p (p.length-1)≠0:=by
 intro z;have e:=rQ h;rw[z]at e;have e2:trim p=trim p.dropLast:=by
  conv=>lhs;rw[e]
  exact uO _
 have:=eE p.dropLast;rw[<-e2,ht,List.length_dropLast]at this;have hp:0<p.length:=List.length_pos_iff.mpr h;omega
structure sS(b:Int)(p m:List Int):Prop where
 py:Py b m
 len:m.length=p.length
 mon:p≠[]->Mon m
 to:∃c,∀k,tk b (co m k)=tk b (c*co p k)
 of:∃c,∀k,tk b (co p k)=tk b (c*co m k)
theorem In2.scale{b:Int}{p m:List Int}(h:∃c,∀k,tk b (co m k)=tk b (c*co p k))(q:List Int):In2 b p q m:=by
 obtain⟨c,e⟩:=h;refine⟨[c],[],fun k=>?_⟩;rw[d8 (f:=co []) fun i _=> .inl (dR _),Int.add_zero,e,fY,fL (m:=1) (by omega) fun j h1 _=>by rw[show co [c] j=0 from bN (by simpa using h1),Int.zero_mul]];simp[sm,cZ]
theorem sS.nil(b:Int):sS b [] []:=⟨Py.nil b,rfl,fun h=>absurd rfl h,⟨0,fun k=>by rw[dR,Int.zero_mul]⟩,⟨0,fun k=>by rw[dR,Int.zero_mul]⟩⟩
def gh(P:Nat)(p:List Int):List Int:=p.map fun x=>x*(co p (p.length-1))^(P-2)%(P:Int)
theorem DK{P:Nat}(hP:P∈Om.iu)(h2:2<=P){p:List Int}(hp:Py P p)(hn:p≠[]):sS P p (gh P p):=by
 have hpos:0<p.length:=List.length_pos_iff.mpr hn;have hP0:(P:Int)≠0:=by omega
 have tkP:∀n,tk (P:Int) n=n%(P:Int):=fun n=>fB hP0 n;have l0:=qN hn hp.tr;have l1:=hp.co (p.length-1);rw[tkP]at l1;have r0:0<=co p (p.length-1):=by rw[<-l1];exact Int.emod_nonneg _ hP0
 have r1:co p (p.length-1)<(P:Int):=by rw[<-l1];exact Int.emod_lt_of_pos _ (by omega)
 generalize hl:co p (p.length-1)=a at l0 r0 r1;have hinv:(a^(P-2)*a)%(P:Int)=1:=by
  rw[<-Int.pow_succ,show(P-2).succ=P-1 by omega];exact Om.qG rfl hP (by omega) r1
 have e:∀k,co (gh P p) k=co p k*a^(P-2)%(P:Int):=fun k=>by
  rw[gh,pD (by simp),hl]
 have len:(gh P p).length=p.length:=by rw[gh,List.length_map]
 have top:co (gh P p) ((gh P p).length-1)=1:=by
  rw[len,e,hl,Int.mul_comm];exact hinv
 have hm:gh P p≠[]:=fun z=>by rw[z]at len;simp at len;omega
 refine⟨⟨fZ hm (by rw[top];decide),fun x hx=>?_⟩,len,fun _=>⟨by omega,top⟩,⟨a^(P-2),fun k=>?_⟩,⟨a,fun k=>?_⟩⟩
 ·obtain⟨y,_,rfl⟩:=List.mem_map.mp hx;rw[tkP];exact Int.emod_emod_of_dvd _ (Int.dvd_refl _)
 ·rw[e,tkP,tkP,Int.emod_emod_of_dvd _ (Int.dvd_refl _),Int.mul_comm]
 ·rw[e,tkP,tkP,Int.mul_emod a,Int.emod_emod_of_dvd _ (Int.dvd_refl _),<-Int.mul_emod,Int.mul_left_comm a,Int.mul_comm a,Int.mul_emod,hinv];rw[Int.mul_one,Int.emod_emod_of_dvd _ (Int.dvd_refl _)]
structure FN(b:Int)(p q g s:List Int):Prop where
 gy:Py b g
 sy:Py b s
 gm:g≠[]->Mon g
 sm_:s≠[]->Mon s
 some:s=[]->g≠[]
 gi:In2 b p q g
 si:In2 b p q s
 pi:In2 b g s p
 qi:In2 b g s q
theorem FN.start{b:Int}{p q g s:List Int}(hg:sS b p g)(hs:sS b q s)(h:q=[]->p≠[]):FN b p q g s:=by
 have lg:=hg.len;have ls:=hs.len;have pn:g≠[]->p≠[]:=fun z e=>z (List.eq_nil_of_length_eq_zero (by rw[lg,e];rfl));have qn:s≠[]->q≠[]:=fun z e=>z (List.eq_nil_of_length_eq_zero (by rw[ls,e];rfl));refine⟨hg.py,hs.py,fun z=>hg.mon (pn z),fun z=>hs.mon (qn z),fun z e=>?_,In2.scale hg.to q,(In2.scale hs.to p).swap,In2.scale hg.of s,(In2.scale hs.of g).swap⟩;have q0:q=[]:=List.eq_nil_of_length_eq_zero (by rw[<-ls,z];rfl);exact h q0 (List.eq_nil_of_length_eq_zero (by rw[<-lg,e];rfl))
theorem FN.step{b:Int}{p q g s o l m:List Int}(h:FN b p q g s)(hs:s≠[])(d:Div b g s o l)(hm:sS b l m):FN b p q s m:=by
 have lm:=hm.len;have ln:m≠[]->l≠[]:=fun z e=>z (List.eq_nil_of_length_eq_zero (by rw[lm,e];rfl));have li:In2 b p q l:=h.gi.trans h.si d.in2;have gs:In2 b s m g:=(In2.left b s m).trans (In2.scale hm.of s).swap d.in1;refine⟨h.sy,hm.py,h.sm_,fun z=>hm.mon (ln z),fun _=>hs,h.si,li.trans li (In2.scale hm.to l),?_,?_⟩
 ·exact gs.trans (In2.left b s m) h.pi
 ·exact gs.trans (In2.left b s m) h.qi
theorem FN.stop{b:Int}{p q g s:List Int}(h:FN b p q g s)(hs:s=[]):Gcd b p q g:=by
 subst hs;exact⟨h.gy,h.gm (h.some rfl),h.gi,h.pi,h.qi⟩
end Pm
namespace Pm
open Rm
theorem pB{p:List Int}{k:Nat}(h:co p k≠0):k<p.length:=by
 by_cases c:k<p.length
 ·exact c
 ·exact absurd (bN (by omega)) h
theorem HZ{b:Int}(hb:tk b 1=1){p q:List Int}(hp:Mon p)(hq:Mon q):Mon (mul b p q)/\(mul b p q).length=p.length+q.length-1:=by
 have h1:=hp.pos;have h2:=hq.pos;have e:co (mul b p q) (p.length+q.length-2)=1:=by
  rw[kY,fY];have:sm (p.length+q.length-2+1) (fun j=>co p j*co q (p.length+q.length-2-j))=sm (p.length+q.length-2+1) (fun j=>if j=p.length-1 then 1 else 0):=aH fun j hj=>by
   by_cases c:j=p.length-1
   ·rw[if_pos c,c,hp.one,show p.length+q.length-2-(p.length-1)=q.length-1 by omega,hq.one];rfl
   ·rw[if_neg c];by_cases c2:j<p.length-1
    ·rw[bN (p:=q) (by omega),Int.mul_zero]
    ·rw[bN (p:=p) (by omega),Int.zero_mul]
  rw[this,cM,if_pos (by omega),hb]
 have l1:=pB (p:=mul b p q) (k:=p.length+q.length-2) (by rw[e];decide);have l2:(mul b p q).length<=p.length+q.length-1:=by
  refine lF fun k hk=>?_;rw[bZ];split
  ·rw[d8 fun i hi=>?_,tk0];by_cases c:i<p.length
   ·exact .inr (bN (by omega))
   ·exact .inl (bN (by omega))
  ·rfl
 have l3:(mul b p q).length=p.length+q.length-1:=by omega
 exact⟨⟨by omega,by rw[l3,show p.length+q.length-1-1=p.length+q.length-2 by omega];exact e⟩,l3⟩
theorem gQ(b:Int)(c:List Int):Mon (aX b c):=⟨by rw[bU];omega,by
 rw[bU,aX,dg,aZ,if_neg (by omega),show c.length+1-1-c.length=0 by omega];rfl⟩
theorem dj(b:Int)(p:List Int):(cG b p).length=p.length-1:=by rw[cG,aZ]
theorem gP{b:Int}{w:List Int}(hw:∀k,tk b (co w k)=co w k)(hm:Mon w):aX b (cG b w)=w:=by
 have hp:=hm.pos;refine jN (by rw[bU,dj];omega) fun k=>?_;rw[aX,dg,aZ,dj];by_cases h:k<w.length-1
 ·rw[if_pos h,bZ,if_pos h,cG,bZ,if_pos (by omega),nA,show w.length-1-1-(w.length-1-1-k)=k by omega,hw]
 ·rw[if_neg h];by_cases c:k=w.length-1
  ·rw[c,Nat.sub_self,hm.one];rfl
  ·rw[bN (p:=w) (by omega),bN];simp;omega
theorem D5{b:Int}{rule:List Int}{a:Nat->Int}(n:Nat):tk b (ks (aX b rule) a n)=tk b (a (n+rule.length)-S rule a (n+rule.length) rule.length):=by
 unfold ks;rw[bU,sm];have e1:co (aX b rule) rule.length=1:=by
  rw[aX,dg,aZ,if_neg (by omega),Nat.sub_self];rfl
 have e2:tk b (sm rule.length fun k=>co (aX b rule) k*a (n+k))=tk b (sm rule.length fun k=>-1*(co rule (rule.length-1-k)*a (n+k))):=jD fun k hk=>by
  rw[aX,dg,aZ,if_pos hk,bZ,if_pos hk,fR,Int.zero_sub,Int.neg_mul,Int.neg_one_mul]
 have e3:S rule a (n+rule.length) rule.length=sm rule.length fun k=>co rule (rule.length-1-k)*a (n+k):=by
  rw[Ez];have rev:∀(m:Nat) (f:Nat->Int),sm m f=sm m fun k=>f (m-1-k):=by
   intro m;induction m with
   |zero=>intro f;rfl
   |succ m ih=>
    intro f;rw[gG,sm,ih fun i=>f (i+1),Int.add_comm];have:m+1-1-m=0:=by omega
    rw[this];congr 1;exact aH fun k hk=>by rw[show m-1-k+1=m+1-1-k by omega]
  rw[rev];exact aH fun k hk=>by rw[show n+rule.length-1-(rule.length-1-k)=n+k by omega]
 rw[e1,Int.one_mul,<-cj,e2,cj,cu,<-e3];congr 1;omega
theorem Kp.rec{b:Int}{rule:List Int}{a:Nat->Int}(h:Kp b (Pm.aX b rule) a):∀n,rule.length<=n->tk b (a n)=tk b (S rule a n rule.length):=fun n hn=>by
 have:=h (n-rule.length);rw[D5,show n-rule.length+rule.length=n by omega]at this;exact dJ.mp this
theorem vL{b:Int}{w:List Int}{a:Nat->Int}(hw:∀k,tk b (co w k)=co w k)(hm:Mon w)(hk:Kp b w a)(ha:∀n,tk b (a n)=a n){starts:List Int}(hl:starts.length=w.length-1)(hs:∀i,i<starts.length->starts.getD i 0=a i)(n:Nat):
  at_ b (cG b w) starts n=a n:=by
 have lr:=dj b w;rw[<-gP hw hm]at hk;refine Cd (by omega) (g:=a) (fun i hi=>(hs i hi).symm) (fun i hi=>?_) n;rw[<-ha i];exact hk.rec i (by omega)
end Pm
namespace Dm
open Pm
def sg(m:Nat):Int:=if m%2=0 then 1 else -1
theorem nJ(m:Nat):sg (m+1)=-sg m:=by
 unfold sg;by_cases h:m%2=0
 ·rw[if_pos h,if_neg (by omega)]
 ·rw[if_neg h,if_pos (by omega)];rfl
theorem Cr(m n:Nat):sg (m+n)=sg m*sg n:=by
 induction n with
 |zero=>simp[sg]
 |succ n ih=>rw[<-Nat.add_assoc,nJ,nJ,ih,Int.mul_neg]
theorem Mt(m:Nat):sg m*sg m=1:=by
 unfold sg;split<;>rfl
def sk(c k:Nat):Nat:=if k<c then k else k+1
theorem QV(c k:Nat):sk c k≠c:=by unfold sk;split<;>omega
def det:Nat->(Nat->Nat->Int)->Int
 |0,_=>1
 |n+1,f=>sm (n+1) fun c=>sg (n+c)*f n c*det n fun i k=>f i (sk c k)
theorem cB:∀{n:Nat} {f g:Nat->Nat->Int},(∀i k,i<n->k<n->f i k=g i k)->det n f=det n g
 |0,_,_,_=>rfl
 |n+1,f,g,h=>by
  unfold det;refine aH fun c hc=>?_;rw[h n c (by omega) hc,cB fun i k hi hk=>h i (sk c k) (by omega) (by unfold sk;split<;>omega)]
def jz(f:Nat->Nat->Int)(j:Nat)(u:Nat->Int):Nat->Nat->Int:=fun i k=>if k=j then u i else f i k
def lG(f:Nat->Nat->Int)(j:Nat)(u:Nat->Int):Nat->Nat->Int:=fun i k=>if i=j then u k else f i k
theorem eY(f:Nat->Nat->Int)(j:Nat)(u:Nat->Int)(i:Nat):jz f j u i j=u i:=if_pos rfl
theorem jH{f:Nat->Nat->Int}{j k:Nat}{u:Nat->Int}{i:Nat}(h:k≠j):jz f j u i k=f i k:=if_neg h
theorem Iu{c j:Nat}(h:c≠j):∃j',sk c j'=j/\(∀k,sk c k=j->k=j'):=by
 refine⟨if j<c then j else j-1,?_,fun k hk=>?_⟩
 ·unfold sk;split<;>(try split)<;>omega
 ·unfold sk at hk;split at hk<;>split<;>omega
theorem qW{n c j:Nat}(f:Nat->Nat->Int)(u:Nat->Int)(h:c≠j)(hc:c<n+1)(hj:j<n+1):∃j',j'<n/\∀u,(fun i k=>jz f j u i (sk c k))=jz (fun i k=>f i (sk c k)) j' u:=by
 obtain⟨j',e1,e2⟩:=Iu h;refine⟨j',?_,fun u=>?_⟩
 ·unfold sk at e1;split at e1<;>omega
 ·funext i k
  unfold jz;by_cases z:k=j'
  ·rw[if_pos z,if_pos (by rw[z,e1])]
  ·rw[if_neg z,if_neg fun w=>z (e2 k w)]
theorem gW:∀{n:Nat} (f:Nat->Nat->Int) {j:Nat} (_:j<n) (a:Int) (u v:Nat->Int),det n (jz f j fun i=>a*u i+v i)=a*det n (jz f j u)+det n (jz f j v)
 |0,_,_,h,_,_,_=>absurd h (Nat.not_lt_zero _)
 |n+1,f,j,hj,a,u,v=>by
  unfold det;rw[<-cu,<-dY];refine aH fun c hc=>?_;by_cases e:c=j
  ·subst e;have m:∀w,(fun i k=>jz f c w i (sk c k))=fun i k=>f i (sk c k):=fun w=>by funext i k;exact jH (QV c k)
   rw[m,m,m,eY,eY,eY];rw[Int.mul_add,Int.add_mul];congr 1;rw[show sg (n+c)*(a*u n)=a*(sg (n+c)*u n)from Int.mul_left_comm ..,Int.mul_assoc a]
  ·obtain⟨j',hj',m⟩:=qW f u e hc hj;rw[m,m,m,gW _ hj',jH e,jH e,jH e,Int.mul_add];congr 1;exact Int.mul_left_comm ..
theorem kI:∀{n:Nat} {f:Nat->Nat->Int} {j:Nat},j+1<n->(∀i,i<n->f i j=f i (j+1))->det n f=0
 |0,_,_,h,_=>absurd h (Nat.not_lt_zero _)
 |n+1,f,j,hj,h=>by
  unfold det;have e:sm (n+1) (fun c=>sg (n+c)*f n c*det n fun i k=>f i (sk c k))=sm (n+1) (fun c=>(if c=j then sg (n+j)*f n j*det n (fun i k=>f i (sk j k))else 0)+(if c=j+1 then -(sg (n+j)*f n j*det n (fun i k=>f i (sk j k)))else 0)):=aH fun c hc=>by
   by_cases e1:c=j
   ·rw[if_pos e1,if_neg (by omega),e1,Int.add_zero]
   ·by_cases e2:c=j+1
    ·rw[if_neg e1,if_pos e2,e2,Int.zero_add,<-h n (by omega),show n+(j+1)=n+j+1 by omega,nJ];have:det n (fun i k=>f i (sk (j+1) k))=det n (fun i k=>f i (sk j k)):=cB fun i k hi hk=>by
      by_cases z:k=j
      ·subst z;rw[show sk (k+1) k=k by unfold sk;rw[if_pos (by omega)],show sk k k=k+1 by unfold sk;rw[if_neg (by omega)],h i (by omega)]
      ·rw[show sk (j+1) k=sk j k by unfold sk;split<;>split<;>omega]
     rw[this,Int.neg_mul,Int.neg_mul]
    ·rw[if_neg e1,if_neg e2,Int.add_zero];have:det n (fun i k=>f i (sk c k))=0:=by
      by_cases z:j+1<c
      ·exact kI (j:=j) (by omega) fun i hi=>by rw[show sk c j=j by unfold sk;rw[if_pos (by omega)],show sk c (j+1)=j+1 by unfold sk;rw[if_pos (by omega)]];exact h i (by omega)
      ·exact kI (j:=j-1) (by omega) fun i hi=>by rw[show sk c (j-1)=j by unfold sk;rw[if_neg (by omega)];omega,show sk c (j-1+1)=j+1 by unfold sk;rw[if_neg (by omega)];omega];exact h i (by omega)
     rw[this,Int.mul_zero]
  rw[e,dY];have s1:∀(x:Int) (t N:Nat),t<N->sm N (fun c=>if c=t then x else 0)=x:=fun x t N ht=>by rw[cM,if_pos ht]
  rw[s1 _ _ _ (by omega),s1 _ _ _ hj];omega
def sw(j i:Nat):Nat:=if i=j then j+1 else if i=j+1 then j else i
theorem mH(f:Nat->Nat->Int)(j:Nat):jz f j (fun i=>f i j)=f:=by
 funext i k;unfold jz;split
 ·rename_i h;rw[h]
 ·rfl
theorem xG{n:Nat}(f:Nat->Nat->Int){j:Nat}(hj:j+1<n):det n (fun i k=>f i (sw j k))=-det n f:=by
 let D:=fun(x y:Nat->Int)=>det n (jz (jz f j x) (j+1) y)
 have z:∀x,D x x=0:=fun x=>kI hj fun i _=>by
  rw[jH (by omega),eY,eY]
 have l2:∀x y y',D x (fun i=>1*y i+y' i)=1*D x y+D x y':=fun x y y'=>gW _ hj 1 y y';have cm:∀x y,jz (jz f j x) (j+1) y=jz (jz f (j+1) y) j x:=fun x y=>by
  funext i k;unfold jz;split<;>(try split)<;>first|rfl|omega
 have l1:∀x x' y,D (fun i=>1*x i+x' i) y=1*D x y+D x' y:=fun x x' y=>by
  show det n _=1*det n _+det n _;rw[cm,cm,cm];exact gW _ (by omega) 1 x x'
 have a:=z fun i=>1*f i j+f i (j+1);rw[l1,l2,l2,z,z]at a;have e1:D (fun i=>f i j) (fun i=>f i (j+1))=det n f:=by
  show det n _=_;rw[mH f j,mH]
 have e2:D (fun i=>f i (j+1)) (fun i=>f i j)=det n (fun i k=>f i (sw j k)):=cB fun i k _ _=>by
  unfold jz sw;by_cases c1:k=j+1
  ·rw[if_pos c1,if_neg (by omega),if_pos c1]
  ·rw[if_neg c1];by_cases c2:k=j
   ·rw[if_pos c2,if_pos c2]
   ·rw[if_neg c2,if_neg c2,if_neg c1]
 rw[e1,e2]at a;omega
def mv(h m k:Nat):Nat:=if k<h then k else if k<m then k+1 else if k=m then h else k
theorem Bq{h m:Nat}(hm:h<m)(k:Nat):mv h m k=sw h (mv (h+1) m k):=by
 unfold mv sw
 repeat' split
 all_goals omega
theorem lJ{n:Nat}:∀(d:Nat) (f:Nat->Nat->Int) {h m:Nat},m=h+d->m<n->det n (fun i k=>f i (mv h m k))=sg d*det n f
 |0,f,h,m,e,hm=>by
  have:det n (fun i k=>f i (mv h m k))=det n f:=cB fun i k _ _=>by
   rw[show mv h m k=k by unfold mv;split<;>(try split)<;>(try split)<;>omega]
  rw[this];simp[sg]
 |d+1,f,h,m,e,hm=>by
  have e1:(fun i k=>f i (mv h m k))=fun i k=>(fun i k=>f i (sw h k)) i (mv (h+1) m k):=by
   funext i k;rw[Bq (by omega)]
  rw[e1,lJ d (fun i k=>f i (sw h k)) (by omega) hm,xG f (by omega),nJ,Int.mul_neg,Int.neg_mul]
theorem m6{n:Nat}{f:Nat->Nat->Int}{a b:Nat}(hab:a<b)(hb:b<n)(h:∀i,i<n->f i a=f i b):det n f=0:=by
 have e:=lJ (n:=n) (b-1-a) f (h:=a) (m:=b-1) (by omega) (by omega);have z:det n (fun i k=>f i (mv a (b-1) k))=0:=kI (j:=b-1) (by omega) fun i hi=>by
  rw[show mv a (b-1) (b-1)=a by unfold mv;rw[if_neg (by omega),if_neg (by omega),if_pos rfl],show mv a (b-1) (b-1+1)=b by unfold mv;rw[if_neg (by omega),if_neg (by omega),if_neg (by omega)];omega];exact h i hi
 rw[z]at e;have s:=Mt (b-1-a);have:sg (b-1-a)*(sg (b-1-a)*det n f)=det n f:=by rw[<-Int.mul_assoc,s,Int.one_mul]
 rw[<-e,Int.mul_zero]at this;exact this.symm
theorem jq:∀{n:Nat} (f:Nat->Nat->Int) {j:Nat} (_:j<n) (a:Int) (u v:Nat->Int),det n (lG f j fun i=>a*u i+v i)=a*det n (lG f j u)+det n (lG f j v)
 |0,_,_,h,_,_,_=>absurd h (Nat.not_lt_zero _)
 |n+1,f,j,hj,a,u,v=>by
  unfold det;rw[<-cu,<-dY];refine aH fun c hc=>?_;by_cases e:j=n
  ·subst e;have m:∀w,det j (fun i k=>lG f j w i (sk c k))=det j (fun i k=>f i (sk c k)):=fun w=>cB fun i k hi _=>if_neg (by omega);rw[m,m,m];show sg (j+c)*(if j=j then _ else _)*_=a*(sg (j+c)*(if j=j then _ else _)*_)+sg (j+c)*(if j=j then _ else _)*_;rw[if_pos rfl,if_pos rfl,if_pos rfl,Int.mul_add,Int.add_mul];congr 1;rw[show sg (j+c)*(a*u c)=a*(sg (j+c)*u c)from Int.mul_left_comm ..,Int.mul_assoc a]
  ·have m:∀w:Nat->Int,(fun i k=>lG f j w i (sk c k))=lG (fun i k=>f i (sk c k)) j fun k=>w (sk c k):=fun w=>by funext i k;rfl
   have r:∀w:Nat->Int,lG f j w n c=f n c:=fun w=>if_neg (fun z=>e z.symm);rw[m,m,m,r,r,r,jq (fun i k=>f i (sk c k)) (by omega) a (fun k=>u (sk c k)) (fun k=>v (sk c k)),Int.mul_add];congr 1;exact Int.mul_left_comm ..
theorem tri(T:Nat->Nat->Int):∀N:Nat,sm (N+1) (fun c=>sm N (fun c'=>T c c'))=sm (N+1) (fun b=>sm b (fun a=>T b a+T a (b-1)))
 |0=>by simp[sm]
 |N+1=>by
  have ih:=tri T N;rw[sm,show(fun c=>sm (N+1) fun c'=>T c c')=fun c=>sm N (fun c'=>T c c')+T c N from rfl,dY,ih]
  conv=>rhs;rw[sm]
  rw[dY,Nat.add_sub_cancel];have e:(fun c'=>T (N+1) c')=T (N+1):=rfl;rw[e];omega
theorem Oa{a b:Nat}(h:a<b)(k:Nat):sk b (sk a k)=sk a (sk (b-1) k):=by
 unfold sk
 repeat' split
 all_goals omega
theorem nY:∀{n:Nat} {f:Nat->Nat->Int} {j:Nat},j+1<n->(∀k,k<n->f j k=f (j+1) k)->det n f=0
 |0,_,_,h,_=>absurd h (Nat.not_lt_zero _)
 |1,_,_,h,_=>absurd h (by omega)
 |n+2,f,j,hj,h=>by
  by_cases e:j=n
  ·subst e;have e1:det (j+2) f=sm (j+1+1) fun c=>sm (j+1) fun c'=>sg (j+1+c)*f (j+1) c*(sg (j+c')*f j (sk c c')*det j fun i k=>f i (sk c (sk c' k))):=by
    show sm (j+1+1) _=_;refine aH fun c _=>?_;rw[show det (j+1) (fun i k=>f i (sk c k))=sm (j+1) fun c'=>sg (j+c')*f j (sk c c')*det j fun i k=>f i (sk c (sk c' k))from rfl,<-cu]
   rw[e1,tri];refine gC fun b hb=>gC fun a ha=>?_;have f1:sk b a=a:=by unfold sk;rw[if_pos ha]
   have f2:sk a (b-1)=b:=by unfold sk;rw[if_neg (by omega)];omega
   have f3:(fun i k=>f i (sk b (sk a k)))=fun i k=>f i (sk a (sk (b-1) k)):=by funext i k;rw[Oa ha]
   rw[f1,f2,f3,<-h b (by omega),<-h a (by omega)];have s1:sg (j+1+b)*sg (j+a)=-(sg (j+1+a)*sg (j+(b-1))):=by
    rw[<-Cr,<-Cr,<-nJ];unfold sg;rw[show(j+1+b+(j+a))%2=(j+1+a+(j+(b-1))+1)%2 by omega]
   generalize det j (fun i k=>f i (sk a (sk (b-1) k)))=M;have t1:sg (j+1+b)*f j b*(sg (j+a)*f j a*M)=(sg (j+1+b)*sg (j+a))*(f j b*f j a*M):=by
    simp only[Int.mul_assoc,Int.mul_left_comm]
   have t2:sg (j+1+a)*f j a*(sg (j+(b-1))*f j b*M)=(sg (j+1+a)*sg (j+(b-1)))*(f j b*f j a*M):=by
    simp only[Int.mul_assoc,Int.mul_left_comm]
   rw[t1,t2,s1,Int.neg_mul];omega
  ·unfold det;refine gC fun c hc=>?_;rw[nY (n:=n+1) (j:=j) (by omega) fun k hk=>h (sk c k) (by unfold sk;split<;>omega),Int.mul_zero]
theorem mZ(f:Nat->Nat->Int)(j:Nat):lG f j (f j)=f:=by
 funext i k;unfold lG;split
 ·rename_i h;rw[h]
 ·rfl
theorem wQ{n:Nat}(f:Nat->Nat->Int){j:Nat}(hj:j+1<n):det n (fun i k=>f (sw j i) k)=-det n f:=by
 let D:=fun(x y:Nat->Int)=>det n (lG (lG f j x) (j+1) y)
 have z:∀x,D x x=0:=fun x=>nY hj fun k _=>by
  show(if j=j+1 then x k else if j=j then x k else f j k)=(if j+1=j+1 then x k else _);rw[if_neg (by omega),if_pos rfl,if_pos rfl]
 have l2:∀x y y',D x (fun i=>1*y i+y' i)=1*D x y+D x y':=fun x y y'=>jq _ hj 1 y y';have cm:∀x y,lG (lG f j x) (j+1) y=lG (lG f (j+1) y) j x:=fun x y=>by
  funext i k;unfold lG;split<;>(try split)<;>first|rfl|omega
 have l1:∀x x' y,D (fun i=>1*x i+x' i) y=1*D x y+D x' y:=fun x x' y=>by
  show det n _=1*det n _+det n _;rw[cm,cm,cm];exact jq _ (by omega) 1 x x'
 have a:=z fun i=>1*f j i+f (j+1) i;rw[l1,l2,l2,z,z]at a;have e1:D (fun i=>f j i) (fun i=>f (j+1) i)=det n f:=by
  show det n _=_;rw[mZ f j,mZ]
 have e2:D (fun i=>f (j+1) i) (fun i=>f j i)=det n (fun i k=>f (sw j i) k):=cB fun i k _ _=>by
  unfold lG sw;by_cases c1:i=j+1
  ·rw[if_pos c1,if_neg (by omega),if_pos c1]
  ·rw[if_neg c1];by_cases c2:i=j
   ·rw[if_pos c2,if_pos c2]
   ·rw[if_neg c2,if_neg c2,if_neg c1]
 rw[e1,e2]at a;omega
theorem pH{n:Nat}:∀(d:Nat) (f:Nat->Nat->Int) {h m:Nat},m=h+d->m<n->det n (fun i k=>f (mv h m i) k)=sg d*det n f
 |0,f,h,m,e,hm=>by
  have:det n (fun i k=>f (mv h m i) k)=det n f:=cB fun i k _ _=>by
   rw[show mv h m i=i by unfold mv;split<;>(try split)<;>(try split)<;>omega]
  rw[this];simp[sg]
 |d+1,f,h,m,e,hm=>by
  have e1:(fun i k=>f (mv h m i) k)=fun i k=>(fun i k=>f (sw h i) k) (mv (h+1) m i) k:=by
   funext i k;rw[Bq (by omega)]
  rw[e1,pH d (fun i k=>f (sw h i) k) (by omega) hm,wQ f (by omega),nJ,Int.mul_neg,Int.neg_mul]
theorem vR{n:Nat}{f:Nat->Nat->Int}{a b:Nat}(hab:a<b)(hb:b<n)(h:∀k,k<n->f a k=f b k):det n f=0:=by
 have e:=pH (n:=n) (b-1-a) f (h:=a) (m:=b-1) (by omega) (by omega);have z:det n (fun i k=>f (mv a (b-1) i) k)=0:=nY (j:=b-1) (by omega) fun k hk=>by
  rw[show mv a (b-1) (b-1)=a by unfold mv;rw[if_neg (by omega),if_neg (by omega),if_pos rfl],show mv a (b-1) (b-1+1)=b by unfold mv;rw[if_neg (by omega),if_neg (by omega),if_neg (by omega)];omega];exact h k hk
 rw[z]at e;have s:=Mt (b-1-a);have:sg (b-1-a)*(sg (b-1-a)*det n f)=det n f:=by rw[<-Int.mul_assoc,s,Int.one_mul]
 rw[<-e,Int.mul_zero]at this;exact this.symm
theorem xJ{n:Nat}(f:Nat->Nat->Int){a b:Nat}(hab:a<b)(hb:b<n):det n (lG (lG f a (f b)) b fun k=>-1*f a k+0)=det n f:=by
 let D:=fun(x y:Nat->Int)=>det n (lG (lG f a x) b y)
 have z:∀x,D x x=0:=fun x=>vR hab hb fun k _=>by
  show(if a=b then x k else if a=a then x k else f a k)=(if b=b then x k else _);rw[if_neg (by omega),if_pos rfl,if_pos rfl]
 have l2:∀(c:Int) x y y',D x (fun i=>c*y i+y' i)=c*D x y+D x y':=fun c x y y'=>jq _ hb c y y';have cm:∀x y,lG (lG f a x) b y=lG (lG f b y) a x:=fun x y=>by
  funext i k;unfold lG;split<;>(try split)<;>first|rfl|omega
 have l1:∀x x' y,D (fun i=>1*x i+x' i) y=1*D x y+D x' y:=fun x x' y=>by
  show det n _=1*det n _+det n _;rw[cm,cm,cm];exact jq _ (by omega) 1 x x'
 have q:=z fun i=>1*f a i+f b i;rw[l1,l2,l2,z,z]at q;have e1:D (f a) (f b)=det n f:=by
  show det n _=_;rw[mZ f a,mZ]
 have e3:D (f b) (fun k=>-1*f a k+0)=-1*D (f b) (f a)+D (f b) (fun _=>0):=l2 (-1) (f b) (f a) (fun _=>0);have e4:D (f b) (fun _=>0)=0:=by
  have:=l2 0 (f b) (fun _=>0) (fun _=>0);have e5:=l2 (-1) (f b) (fun _=>0) (fun _=>0);simp only[Int.mul_zero,Int.add_zero]at e5;omega
 show D (f b) (fun k=>-1*f a k+0)=_;rw[e3,e4];have e6:D (fun i=>f a i) (fun i=>f b i)=det n f:=e1;have e7:D (fun i=>f b i) (fun i=>f a i)=D (f b) (f a):=rfl;rw[e6,e7]at q;omega
end Dm
namespace Dm
open Pm
theorem lW{n:Nat}(f:Nat->Nat->Int){j:Nat}(hj:j<n):det n (jz f j fun _=>0)=0:=by
 have e:=gW f hj (-1) (fun _=>0) (fun _=>0);simp only[Int.mul_zero,Int.add_zero]at e;omega
theorem nj{n:Nat}(f:Nat->Nat->Int){j:Nat}(hj:j<n)(x:Nat->Int)(u:Nat->Nat->Int):∀m:Nat,det n (jz f j fun i=>sm m fun h=>x h*u h i)=sm m fun h=>x h*det n (jz f j (u h))
 |0=>lW f hj
 |m+1=>by
  rw[sm,<-nj f hj x u m];have e:=gW f hj (x m) (u m) (fun i=>sm m fun h=>x h*u h i);rw[Int.add_comm,<-e];congr 2
  funext i
  rw[sm,Int.add_comm]
theorem Jx{n:Nat}{f:Nat->Nat->Int}{x:Nat->Int}(h:∀i,i<n->sm n (fun k=>f i k*x k)=0){j:Nat}(hj:j<n):x j*det n f=0:=by
 have e1:det n (jz f j fun i=>sm n fun k=>x k*f i k)=0:=by
  rw[<-lW f hj];refine cB fun i k hi _=>?_;unfold jz;split
  ·rw[<-h i hi];exact aH fun k _=>Int.mul_comm ..
  ·rfl
 rw[nj f hj x (fun k i=>f i k)]at e1;have e2:sm n (fun k=>x k*det n (jz f j fun i=>f i k))=sm n (fun k=>if k=j then x j*det n f else 0):=aH fun k hk=>by
  by_cases c:k=j
  ·rw[if_pos c,c,mH]
  ·rw[if_neg c];have z:det n (jz f j fun i=>f i k)=0:=by
    rcases Nat.lt_or_gt_of_ne c with l|l
    ·exact m6 l hj fun i _=>by rw[eY,jH (by omega)]
    ·exact m6 l hk fun i _=>by rw[eY,jH (by omega)]
   rw[z,Int.mul_zero]
 rw[e2,cM,if_pos hj]at e1;exact e1
def Bk(A:Nat->Nat->Int)(hd:Nat->Nat):Nat->Nat->Int:=fun i h=>A i (hd h)
def dt(A:Nat->Nat->Int)(hd:Nat->Nat)(r:Nat):Int:=det r (Bk A hd)
def cr(A:Nat->Nat->Int)(hd:Nat->Nat)(r h k:Nat):Int:=det r (jz (Bk A hd) h fun i=>A i k)
def bd(A:Nat->Nat->Int)(hd:Nat->Nat)(r i k:Nat):Int:=det (r+1) fun i' k'=>A (if i'=r then i else i') (if k'=r then k else hd k')
theorem pJ(A:Nat->Nat->Int)(hd:Nat->Nat)(r i k:Nat):bd A hd r i k=A i k*dt A hd r-sm r fun h=>A i (hd h)*cr A hd r h k:=by
 unfold bd;rw[det,sm];have e1:sg (r+r)*A (if r=r then i else r) (if r=r then k else hd r)*det r (fun i' k'=>A (if i'=r then i else i') (if sk r k'=r then k else hd (sk r k')))=A i k*dt A hd r:=by
  rw[if_pos rfl,if_pos rfl,show sg (r+r)=1 by unfold sg;rw[if_pos (by omega)],Int.one_mul];congr 1;exact cB fun i' k' hi hk=>by
   rw[if_neg (by omega),show sk r k'=k' by unfold sk;rw[if_pos hk],if_neg (by omega)];rfl
 rw[e1];have e2:sm r (fun c=>sg (r+c)*A (if r=r then i else r) (if c=r then k else hd c)*det r (fun i' k'=>A (if i'=r then i else i') (if sk c k'=r then k else hd (sk c k'))))=sm r fun h=>-1*(A i (hd h)*cr A hd r h k):=aH fun c hc=>by
  rw[if_pos rfl,if_neg (by omega)];have m:det r (fun i' k'=>A (if i'=r then i else i') (if sk c k'=r then k else hd (sk c k')))=sg (r-1-c)*cr A hd r c k:=by
   rw[cr,<-lJ (n:=r) (r-1-c) (jz (Bk A hd) c fun i=>A i k) (h:=c) (m:=r-1) (by omega) (by omega)];refine cB fun i' k' hi hk=>?_;rw[if_neg (by omega)];unfold sk mv jz Bk;by_cases c1:k'<c
   ·rw[if_pos c1,if_pos c1,if_neg (by omega),if_neg (by omega)]
   ·rw[if_neg c1,if_neg c1];by_cases c2:k'<r-1
    ·rw[if_pos c2,if_neg (by omega),if_neg (by omega)]
    ·rw[if_neg c2,if_pos (show k'+1=r by omega),if_pos (show k'=r-1 by omega),if_pos rfl]
  rw[m];have s:sg (r+c)*sg (r-1-c)=-1:=by
   rw[<-Cr];unfold sg;rw[if_neg (by omega)]
  have t:sg (r+c)*A i (hd c)*(sg (r-1-c)*cr A hd r c k)=(sg (r+c)*sg (r-1-c))*(A i (hd c)*cr A hd r c k):=by simp only[Int.mul_assoc,Int.mul_left_comm]
  rw[t,s]
 rw[e2,cu];omega
theorem C7{A:Nat->Nat->Int}{hd:Nat->Nat}{r i:Nat}(k:Nat)(h:i<r):bd A hd r i k=0:=vR h (Nat.lt_succ_self r) fun k' _=>by
 rw[if_neg (by omega),if_pos rfl]
theorem GJ{A:Nat->Nat->Int}{hd:Nat->Nat}{r i:Nat}(k:Nat)(h:i<r):sm r (fun h=>A i (hd h)*cr A hd r h k)=A i k*dt A hd r:=by
 have:=pJ A hd r i k;rw[C7 k h]at this;omega
theorem Dp(A:Nat->Nat->Int)(hd:Nat->Nat)(r i k:Nat):sm r (fun h=>A i (hd h)*cr A hd r h k)=A i k*dt A hd r-bd A hd r i k:=by
 have:=pJ A hd r i k;omega
def more(hd:Nat->Nat)(r c:Nat):Nat->Nat:=fun h=>if h=r then c else hd h
theorem uI(A:Nat->Nat->Int)(hd:Nat->Nat)(r c:Nat):dt A (more hd r c) (r+1)=bd A hd r r c:=cB fun i k _ _=>by
 unfold Bk more;by_cases h:i=r
 ·rw[if_pos h,h]
 ·rw[if_neg h]
theorem Jg(A:Nat->Nat->Int)(hd:Nat->Nat)(r c k:Nat):cr A (more hd r c) (r+1) r k=bd A hd r r k:=cB fun i k' _ _=>by
 unfold jz Bk more;by_cases h:i=r
 ·rw[if_pos h,h];by_cases h2:k'=r
  ·rw[if_pos h2,if_pos h2]
  ·rw[if_neg h2,if_neg h2,if_neg h2]
 ·rw[if_neg h];by_cases h2:k'=r
  ·rw[if_pos h2,if_pos h2]
  ·rw[if_neg h2,if_neg h2,if_neg h2]
theorem zE(A:Nat->Nat->Int)(hd:Nat->Nat)(r c i k:Nat):
  sm r (fun h=>A i (hd h)*(bd A hd r r c*cr A hd r h k-cr A hd r h c*bd A hd r r k))+A i c*(dt A hd r*bd A hd r r k)=bd A hd r r c*(A i k*dt A hd r-bd A hd r i k)+bd A hd r r k*bd A hd r i c:=by
 have e1:sm r (fun h=>A i (hd h)*(bd A hd r r c*cr A hd r h k-cr A hd r h c*bd A hd r r k))=bd A hd r r c*sm r (fun h=>A i (hd h)*cr A hd r h k) + -(bd A hd r r k)*sm r (fun h=>A i (hd h)*cr A hd r h c):=by
  rw[<-cu,<-cu,<-dY];refine aH fun h _=>?_;rw[Int.mul_sub,Int.neg_mul,Int.mul_left_comm,<-Int.mul_assoc (A i (hd h)),Int.mul_comm (A i (hd h)*cr A hd r h c)];omega
 rw[e1,Dp,Dp,Int.mul_sub (-bd A hd r r k),Int.neg_mul,Int.neg_mul];have e2:A i c*(dt A hd r*bd A hd r r k)=bd A hd r r k*(A i c*dt A hd r):=by simp only[Int.mul_assoc,Int.mul_left_comm,Int.mul_comm]
 rw[e2];omega
theorem C8{A:Nat->Nat->Int}{hd:Nat->Nat}{r c:Nat}(hp:bd A hd r r c≠0){h:Nat}(hh:h<r)(k:Nat):dt A hd r*cr A (more hd r c) (r+1) h k=bd A hd r r c*cr A hd r h k-cr A hd r h c*bd A hd r r k:=by
 let x:=fun h=>dt A hd r*cr A (more hd r c) (r+1) h k-(if h=r then dt A hd r*bd A hd r r k else bd A hd r r c*cr A hd r h k-cr A hd r h c*bd A hd r r k)
 have key:=Jx (n:=r+1) (f:=Bk A (more hd r c)) (x:=x) (fun i hi=>?_) (j:=h) (by omega)
 ·have e:det (r+1) (Bk A (more hd r c))=bd A hd r r c:=uI A hd r c;rw[e]at key;rcases Int.mul_eq_zero.mp key with z|z
  ·have z':dt A hd r*cr A (more hd r c) (r+1) h k-(if h=r then dt A hd r*bd A hd r r k else bd A hd r r c*cr A hd r h k-cr A hd r h c*bd A hd r r k)=0:=z;rw[if_neg (by omega)]at z';omega
  ·exact absurd z hp
 ·have e1:sm (r+1) (fun h=>Bk A (more hd r c) i h*x h)=dt A hd r*sm (r+1) (fun h=>A i (more hd r c h)*cr A (more hd r c) (r+1) h k) + -1*sm (r+1) (fun h=>A i (more hd r c h)*(if h=r then dt A hd r*bd A hd r r k else bd A hd r r c*cr A hd r h k-cr A hd r h c*bd A hd r r k)):=by
   rw[<-cu,<-cu,<-dY];refine aH fun h _=>?_;show A i (more hd r c h)*(dt A hd r*cr A (more hd r c) (r+1) h k-_)=_;rw[Int.mul_sub,Int.mul_left_comm];omega
  rw[e1,GJ k hi,uI,sm,if_pos rfl,show more hd r c r=c from if_pos rfl];have e2:sm r (fun h=>A i (more hd r c h)*(if h=r then dt A hd r*bd A hd r r k else bd A hd r r c*cr A hd r h k-cr A hd r h c*bd A hd r r k))=sm r (fun h=>A i (hd h)*(bd A hd r r c*cr A hd r h k-cr A hd r h c*bd A hd r r k)):=aH fun h hh=>by
   rw[if_neg (by omega),show more hd r c h=hd h from if_neg (by omega)]
  rw[e2,zE];have e3:dt A hd r*(A i k*bd A hd r r c)=bd A hd r r c*(A i k*dt A hd r):=by simp only[Int.mul_assoc,Int.mul_left_comm,Int.mul_comm]
  rw[e3,Int.mul_sub];have e4:bd A hd r r c*bd A hd r i k=bd A hd r r k*bd A hd r i c:=by
   by_cases z:i<r
   ·rw[C7 k z,C7 c z,Int.mul_zero,Int.mul_zero]
   ·rw[show i=r by omega,Int.mul_comm]
  rw[e4];omega
theorem Jh{A:Nat->Nat->Int}{hd:Nat->Nat}{r c:Nat}(hp:bd A hd r r c≠0)(i k:Nat):dt A hd r*bd A (more hd r c) (r+1) i k=bd A hd r r c*bd A hd r i k-bd A hd r i c*bd A hd r r k:=by
 rw[pJ A (more hd r c) (r+1),uI,Int.mul_sub,<-cu,sm,Jg,show more hd r c r=c from if_pos rfl];have e2:sm r (fun h=>dt A hd r*(A i (more hd r c h)*cr A (more hd r c) (r+1) h k))=sm r (fun h=>A i (hd h)*(bd A hd r r c*cr A hd r h k-cr A hd r h c*bd A hd r r k)):=aH fun h hh=>by
  rw[Int.mul_left_comm,C8 hp hh,show more hd r c h=hd h from if_neg (by omega)]
 have e5:=zE A hd r c i k;rw[e2,show dt A hd r*(A i c*bd A hd r r k)=A i c*(dt A hd r*bd A hd r r k)from Int.mul_left_comm ..,e5,Int.mul_sub];have e3:dt A hd r*(A i k*bd A hd r r c)=bd A hd r r c*(A i k*dt A hd r):=by simp only[Int.mul_assoc,Int.mul_left_comm,Int.mul_comm]
 rw[e3,Int.mul_comm (bd A hd r i c)];omega
def En(A:Nat->Nat->Int)(hd:Nat->Nat)(r i k:Nat):Int:=if i<r then cr A hd r i k else bd A hd r i k
theorem HX{A:Nat->Nat->Int}{hd:Nat->Nat}{r c:Nat}(hp:En A hd r r c≠0){i:Nat}(hi:i≠r)(k:Nat):dt A hd r*En A (more hd r c) (r+1) i k=En A hd r r c*En A hd r i k-En A hd r i c*En A hd r r k:=by
 have er:∀k,En A hd r r k=bd A hd r r k:=fun k=>if_neg (by omega);rw[er]at hp⊢;rw[er];unfold En;by_cases h:i<r
 ·rw[if_pos (by omega),if_pos h,if_pos h];exact C8 hp h k
 ·rw[if_neg (by omega),if_neg h,if_neg h];exact Jh hp i k
theorem Hw(A:Nat->Nat->Int)(hd:Nat->Nat)(r c:Nat):dt A (more hd r c) (r+1)=En A hd r r c:=by
 rw[uI];exact(if_neg (by omega)).symm
theorem HS(A:Nat->Nat->Int)(hd:Nat->Nat):dt A hd 0=1:=rfl
theorem JQ(A:Nat->Nat->Int)(hd:Nat->Nat)(r i k:Nat):A i k*dt A hd r=sm r (fun h=>A i (hd h)*En A hd r h k)+(if i<r then 0 else En A hd r i k):=by
 have e:sm r (fun h=>A i (hd h)*En A hd r h k)=sm r (fun h=>A i (hd h)*cr A hd r h k):=aH fun h hh=>by
  unfold En;rw[if_pos hh]
 rw[e];by_cases c:i<r
 ·rw[if_pos c,GJ k c,Int.add_zero]
 ·rw[if_neg c,Dp];unfold En;rw[if_neg c];omega
end Dm
namespace Dm
open Pm Rm
def Dom(b:Int):Prop:=∀x y,tk b x≠0->tk b (x*y)=0->tk b y=0
theorem Dom.zero:Dom 0:=fun x y hx h=>by
 rw[bK]at *;rcases Int.mul_eq_zero.mp h with z|z
 ·exact absurd z hx
 ·exact z
theorem Dom.prime{P:Nat}(hP:P∈Om.iu)(h2:2<=P):Dom (P:Int):=fun x y hx h=>by
 have hP0:(P:Int)≠0:=by omega
 have tkP:∀n,tk (P:Int) n=n%(P:Int):=fun n=>fB hP0 n;rw[tkP]at *;have r0:=Int.emod_nonneg x hP0;have r1:=Int.emod_lt_of_pos x (show(0:Int)<P by omega);have hinv:((x%P)^(P-2)*(x%P))%(P:Int)=1:=by
  rw[<-Int.pow_succ,show(P-2).succ=P-1 by omega];exact Om.qG rfl hP (by omega) r1
 have e1:((x%P)^(P-2)*(x*y))%(P:Int)=0:=by rw[Int.mul_emod,h,Int.mul_zero];exact Int.zero_emod _
 have e2:((x%P)^(P-2)*(x*y))%(P:Int)=y%(P:Int):=by
  have e3:((x%P)^(P-2)*x)%(P:Int)=1:=by rw[Int.mul_emod,<-hinv,Int.mul_emod ((x%P)^(P-2)) (x%P),Int.emod_emod_of_dvd _ (Int.dvd_refl _)]
  rw[<-Int.mul_assoc,Int.mul_emod,e3,Int.one_mul,Int.emod_emod_of_dvd _ (Int.dvd_refl _)]
 rw[<-e2,e1]
theorem d7{b x:Int}:tk b x=0↔∃e,x=b*e:=by
 unfold tk;split
 ·rename_i h
  constructor
  ·intro z;exact⟨0,by rw[z,Int.mul_zero]⟩
  ·rintro⟨e,he⟩;rw[he,h,Int.zero_mul]
 ·constructor
  ·intro z;exact⟨x/b,(Int.mul_ediv_cancel' (Int.dvd_of_emod_eq_zero z)).symm⟩
  ·rintro⟨e,he⟩;rw[he];exact Int.mul_emod_right b e
def turn(A:Nat->Nat->Int)(a c:Nat):Nat->Nat->Int:=lG (lG A a (A c)) c fun k=>-1*A a k+0
inductive Swp(n:Nat)(A0:Nat->Nat->Int):(Nat->Nat->Int)->Prop
 |refl:Swp n A0 A0
 |step {A:Nat->Nat->Int} {a c:Nat}:Swp n A0 A->a<c->c<n->Swp n A0 (turn A a c)
theorem Swp.det{n:Nat}{A0 A:Nat->Nat->Int}(h:Swp n A0 A):Dm.det n A=Dm.det n A0:=by
 induction h with
 |refl=>rfl
 |step _ h1 h2 ih=>rw[<-ih];exact xJ _ h1 h2
theorem jF{A:Nat->Nat->Int}{a c i:Nat}(h1:i≠a)(h2:i≠c)(k:Nat):turn A a c i k=A i k:=by
 unfold turn lG;rw[if_neg h2,if_neg h1]
theorem sZ{A:Nat->Nat->Int}{a c:Nat}(h:a≠c)(k:Nat):turn A a c a k=A c k:=by
 unfold turn lG;rw[if_neg h,if_pos rfl]
theorem jk(A:Nat->Nat->Int)(a c k:Nat):turn A a c c k=-A a k:=by
 unfold turn lG;rw[if_pos rfl];show -1*A a k+0=-A a k;omega
theorem CM{A:Nat->Nat->Int}{hd:Nat->Nat}{r a c:Nat}(ha:r<=a)(hc:r<=c):dt (turn A a c) hd r=dt A hd r:=cB fun i k hi _=>jF (by omega) (by omega) _
theorem Ea{A:Nat->Nat->Int}{hd:Nat->Nat}{r a c:Nat}(ha:r<=a)(hc:r<=c)(h k:Nat):cr (turn A a c) hd r h k=cr A hd r h k:=cB fun i k' hi _=>by
 show(if k'=h then turn A a c i k else turn A a c i (hd k'))=if k'=h then A i k else A i (hd k');rw[jF (by omega) (by omega),jF (by omega) (by omega)]
theorem Ba{A:Nat->Nat->Int}{hd:Nat->Nat}{r a c:Nat}(ha:r<=a)(hac:a<c)(i k:Nat):En (turn A a c) hd r i k=if i=a then En A hd r c k else if i=c then -En A hd r a k else En A hd r i k:=by
 have hc:r<=c:=by omega
 unfold En;by_cases h:i<r
 ·rw[if_pos h,if_neg (by omega),if_neg (by omega),if_pos h];exact Ea ha hc i k
 ·rw[if_neg h,pJ,CM ha hc];have e:∀j,sm r (fun h=>turn A a c j (hd h)*cr (turn A a c) hd r h k)=sm r (fun h=>turn A a c j (hd h)*cr A hd r h k):=fun j=>aH fun h _=>by rw[Ea ha hc]
  rw[e];by_cases h1:i=a
  ·rw[if_pos h1,if_neg (by omega),pJ,h1,sZ (by omega)];congr 1;exact aH fun h _=>by rw[sZ (by omega)]
  ·rw[if_neg h1];by_cases h2:i=c
   ·rw[if_pos h2,if_neg (by omega),pJ,h2,jk];have:sm r (fun h=>turn A a c c (hd h)*cr A hd r h k)=-1*sm r (fun h=>A a (hd h)*cr A hd r h k):=by
     rw[<-cu];exact aH fun h _=>by rw[jk,Int.neg_mul];omega
    rw[this,Int.neg_mul];omega
   ·rw[if_neg h2,if_neg h,pJ,jF h1 h2];congr 1;exact aH fun h _=>by rw[jF h1 h2]
def ln(L:List (List Int))(i:Nat):List Int:=L.getD i []
structure ClI(b:Int)(n W u:Nat)(A0:Nat->Nat->Int)(c:Nat)(A:Nat->Nat->Int)(hd:Nat->Nat)(r:Nat)(L:List (List Int))(last:Int):Prop where
 sw:Swp n A0 A
 len:L.length=n
 wd:∀i,i<n->(ln L i).length=W
 en:∀i k,i<n->k<W->co (ln L i) k=tk b (En A hd r i k)
 la:last=tk b (dt A hd r)
 nz:tk b (dt A hd r)≠0
 rn:r<=n
 hc:∀h,h<r->hd h<c
 up:∀h h',h<h'->h'<r->hd h<hd h'
 zero:∀k,k<c->(∀h,h<r->hd h≠k)->∀i,r<=i->i<n->tk b (En A hd r i k)=0
 full:c<=n->(r=c/\∀h,h<r->hd h=h)∨tk b (det n A)=0
 bdd:∀i k,Bd u (A i k)
 ge:∀h,h<r->∀k,k<hd h->(∀h',h'<r->hd h'≠k)->tk b (En A hd r h k)=0
theorem C9{u:Nat}:∀{n:Nat} {f:Nat->Nat->Int},(∀i k,i<n->k<n->Bd u (f i k))->Bd (n*(u+n)+1) (det n f)
 |0,_,_=>by
  show Bd (0*(u+0)+1) 1;rw[Nat.zero_mul];exact Bd.of (by decide) (by decide)
 |n+1,f,h=>by
  unfold det;have e:Bd (u+(n*(u+n)+1)+(n+1)) (sm (n+1) fun c=>sg (n+c)*f n c*det n fun i k=>f i (sk c k)):=Ak _ fun c hc=>by
   have b1:=h n c (by omega) hc;have b2:=C9 (u:=u) (n:=n) (f:=fun i k=>f i (sk c k)) fun i k hi hk=>h i (sk c k) (by omega) (by unfold sk;split<;>omega);have b3:=b1.mul b2;unfold Bd at b3⊢;rw[Int.mul_assoc,Int.natAbs_mul];have:(sg (n+c)).natAbs=1:=by unfold sg;split<;>rfl
   rw[this,Nat.one_mul];exact b3
  refine e.mono ?_;have:(n+1)*(u+(n+1))=n*(u+n)+n+u+(n+1):=by
   rw[Nat.succ_mul,show u+(n+1)=u+n+1 by omega,Nat.mul_add n (u+n) 1];omega
  omega
end Dm
namespace Dm
open Rm Pm
theorem nW{b x:Int}(h:tk b x=0):tk b (-x)=0:=by
 have:=cD b (-1) x;rw[h,Int.mul_zero,tk0]at this;rw[show -x=-1*x by omega,<-this]
theorem BD{b x:Int}(y:Int)(h:tk b x=0):tk b (y*x)=0:=by rw[<-cD,h,Int.mul_zero,tk0]
theorem Hs{b x y:Int}(h:tk b x=0)(h':tk b y=0):tk b (x+y)=0:=by rw[<-cj,h,Int.zero_add,h']
theorem Hz{b x y:Int}(h:tk b x=0)(h':tk b y=0):tk b (x-y)=0:=by rw[Int.sub_eq_add_neg];exact Hs h (nW h')
theorem GK(f:Nat->Int)(n:Nat):sm n (fun k=>-f k)=-sm n f:=by
 have e:(fun k=>-f k)=fun k=>-1*f k:=funext fun k=>by omega
 rw[e,cu];omega
theorem MF(f g:Nat->Int)(n:Nat):sm n (fun k=>f k-g k)=sm n f-sm n g:=by
 have e:(fun k=>f k-g k)=fun k=>f k + -g k:=funext fun k=>by omega
 rw[e,dY,GK];omega
theorem KP{b:Int}{f:Nat->Int}{n:Nat}(h:∀k,k<n->tk b (f k)=0):tk b (sm n f)=0:=by
 have:=jD (b:=b) (f:=f) (g:=fun _=>0) (n:=n) fun k hk=>by rw[h k hk,tk0]
 rw[this,lD,tk0]
def Rel(b:Int)(n m:Nat)(A:Nat->Nat->Int)(x:Nat->Int):Prop:=∀i,i<n->tk b (sm m fun k=>A i k*x k)=0
theorem DQ(A:Nat->Nat->Int)(x:Nat->Int)(i m:Nat):sm m (fun k=>-A i k*x k)=-sm m fun k=>A i k*x k:=by
 rw[<-GK];exact aH fun k _=>Int.neg_mul ..
theorem Rel.turn{b:Int}{n m:Nat}{A:Nat->Nat->Int}{x:Nat->Int}{a c:Nat}(hac:a<c)(hc:c<n):Rel b n m A x↔Rel b n m (turn A a c) x:=by
 have ha:a<n:=by omega
 constructor
 ·intro h i hi;by_cases c1:i=c
  ·rw[c1,aH (g:=fun k=>-A a k*x k) fun k _=>by rw[jk],DQ];exact nW (h a ha)
  ·by_cases c2:i=a
   ·rw[c2,aH (g:=fun k=>A c k*x k) fun k _=>by rw[sZ (by omega)]];exact h c hc
   ·rw[aH (g:=fun k=>A i k*x k) fun k _=>by rw[jF c2 c1]];exact h i hi
 ·intro h i hi;by_cases c1:i=c
  ·have:=h a ha;rw[aH (g:=fun k=>A c k*x k) fun k _=>by rw[sZ (by omega)]]at this;rw[c1];exact this
  ·by_cases c2:i=a
   ·have:=h c hc;rw[aH (g:=fun k=>-A a k*x k) fun k _=>by rw[jk],DQ]at this;rw[c2];have:=nW this
    rwa [Int.neg_neg]at this
   ·have:=h i hi;rw[aH (g:=fun k=>A i k*x k) fun k _=>by rw[jF c2 c1]]at this;exact this
theorem Swp.rel{b:Int}{n m:Nat}{A0 A:Nat->Nat->Int}{x:Nat->Int}(h:Swp n A0 A):Rel b n m A0 x↔Rel b n m A x:=by
 induction h with
 |refl=>exact Iff.rfl
 |step _ h1 h2 ih=>exact ih.trans (Rel.turn h1 h2)
def Ind(b:Int)(n m:Nat)(A:Nat->Nat->Int):Prop:=∀x,Rel b n m A x->∀k,k<m->tk b (x k)=0
theorem Ey{A:Nat->Nat->Int}{hd:Nat->Nat}{r m k:Nat}{b:Int}{n:Nat}(hm:∀h,h<r->hd h<m)(hk:k<m)(hz:∀i,r<=i->i<n->tk b (En A hd r i k)=0):
  Rel b n m A fun j=>sm r (fun h=>if j=hd h then En A hd r h k else 0)-if j=k then dt A hd r else 0:=fun i hi=>by
 have e:sm m (fun j=>A i j*(sm r (fun h=>if j=hd h then En A hd r h k else 0)-if j=k then dt A hd r else 0))=sm r (fun h=>A i (hd h)*En A hd r h k)-A i k*dt A hd r:=by
  rw[aH (g:=fun j=>sm r (fun h=>if j=hd h then A i (hd h)*En A hd r h k else 0)-if j=k then A i k*dt A hd r else 0) fun j _=>?_,MF,cM,if_pos hk,oh]
  ·congr 1;exact aH fun h hh=>by rw[cM,if_pos (hm h hh)]
  ·rw[Int.mul_sub,<-cu];congr 1
   ·refine aH fun h _=>?_;by_cases c:j=hd h
    ·rw[if_pos c,if_pos c,c]
    ·rw[if_neg c,if_neg c,Int.mul_zero]
   ·by_cases c:j=k
    ·rw[if_pos c,if_pos c,c]
    ·rw[if_neg c,if_neg c,Int.mul_zero]
 rw[e];have q:=JQ A hd r i k;by_cases c:i<r
 ·rw[if_pos c,Int.add_zero]at q;rw[q,Int.sub_self,tk0]
 ·rw[if_neg c]at q;rw[q,show sm r (fun h=>A i (hd h)*En A hd r h k)-(sm r (fun h=>A i (hd h)*En A hd r h k)+En A hd r i k)=-En A hd r i k by omega];exact nW (hz i (by omega) hi)
end Dm
namespace Pm
open Rm
def Fs(f:Nat->Int)(n:Nat):Prop:=∀k,n<=k->f k=0
theorem Fs.co(p:List Int):Fs (co p) p.length:=fun _ h=>bN h
theorem Fs.mono{f:Nat->Int}{m n:Nat}(h:Fs f m)(hmn:m<=n):Fs f n:=fun k hk=>h k (by omega)
theorem Fs.add{f g:Nat->Int}{n:Nat}(h:Fs f n)(h':Fs g n):Fs (fun k=>f k+g k) n:=fun k hk=>by show f k+g k=0;rw[h k hk,h' k hk];rfl
theorem Fs.mul{f:Nat->Int}{n:Nat}(c:Int)(h:Fs f n):Fs (fun k=>c*f k) n:=fun k hk=>by show c*f k=0;rw[h k hk,Int.mul_zero]
theorem Fs.cv{f g:Nat->Int}{m n:Nat}(h:Fs f m)(h':Fs g n):Fs (Pm.cv f g) (m+n):=fun k hk=>d8 fun i _=>by
 by_cases c:m<=i
 ·exact .inl (h i c)
 ·exact .inr (h' _ (by omega))
theorem ur{b x:Int}(y:Int)(h:tk b x=0):tk b (y*x)=0:=by rw[<-cD,h,Int.mul_zero,tk0]
theorem kJ{b:Int}{m:List Int}(hm:Mon m){f:Nat->Int}{n:Nat}(hf:Fs f n)(h:∀k,m.length-1<=k->tk b (cv f (co m) k)=0):∀k,tk b (f k)=0:=by
 have q:∀d j,n<=j+d->tk b (f j)=0:=fun d=>by
  induction d with
  |zero=>intro j hj;rw[hf j hj,tk0]
  |succ d ih=>
   intro j hj;have e:=h (j+(m.length-1)) (by omega);rw[fY]at e;have e2:tk b (sm (j+(m.length-1)+1) fun i=>f i*co m (j+(m.length-1)-i))=tk b (sm (j+(m.length-1)+1) fun i=>if i=j then f j else 0):=jD fun i hi=>by
    by_cases c:i=j
    ·rw[if_pos c,c,Nat.add_sub_cancel_left,hm.one,Int.mul_one]
    ·rw[if_neg c,tk0];by_cases d2:i<j
     ·rw[bN (by have:=hm.pos;omega),Int.mul_zero,tk0]
     ·rw[Int.mul_comm];exact ur _ (ih i (by omega))
   rw[e2,cM,if_pos (by omega)]at e;exact e
 exact fun k=>q n k (by omega)
def Dv(b:Int)(m:List Int)(f:Nat->Int):Prop:=∃s n,Fs s n/\∀k,tk b (f k)=tk b (cv s (co m) k)
theorem Dv.congr{b:Int}{m:List Int}{f g:Nat->Int}(e:∀k,tk b (f k)=tk b (g k))(h:Dv b m f):Dv b m g:=by
 obtain⟨s,n,hs,h⟩:=h;exact⟨s,n,hs,fun k=>by rw[<-e,h]⟩
theorem Dv.zero(b:Int)(m:List Int):Dv b m fun _=>0:=⟨fun _=>0,0,fun _ _=>rfl,fun k=>by rw[d8 fun i _=> .inl rfl]⟩
theorem Dv.add{b:Int}{m:List Int}{f g:Nat->Int}(h:Dv b m f)(h':Dv b m g):Dv b m fun k=>f k+g k:=by
 obtain⟨s,n,hs,h⟩:=h;obtain⟨s',n',hs',h'⟩:=h';exact⟨fun k=>s k+s' k,n+n',(hs.mono (by omega)).add (hs'.mono (by omega)),fun k=>by rw[eU];exact bB (h k) (h' k)⟩
theorem Dv.smul{b:Int}{m:List Int}{f:Nat->Int}(c:Int)(h:Dv b m f):Dv b m fun k=>c*f k:=by
 obtain⟨s,n,hs,h⟩:=h;exact⟨fun k=>c*s k,n,hs.mul c,fun k=>by rw[fH,<-cD,h,cD]⟩
theorem Dv.sub{b:Int}{m:List Int}{f g:Nat->Int}(h:Dv b m f)(h':Dv b m g):Dv b m fun k=>f k-g k:=
 (h.add (h'.smul (-1))).congr fun k=>by rw[show f k + -1*g k=f k-g k by omega]
theorem Dv.mul{b:Int}{m:List Int}{f g:Nat->Int}{n:Nat}(hg:Fs g n)(h:Dv b m f):Dv b m (cv g f):=by
 obtain⟨s,n',hs,h⟩:=h;exact⟨cv g s,n+n',hg.cv hs,fun k=>by rw[bV];exact iH (fun i _=>rfl) fun i _=>h i⟩
theorem Dv.self{b:Int}{m:List Int}{g:Nat->Int}{n:Nat}(hg:Fs g n):Dv b m (cv g (co m)):=⟨g,n,hg,fun _=>rfl⟩
theorem Dv.short{b:Int}{m:List Int}(hm:Mon m){f:Nat->Int}(hf:Fs f (m.length-1))(h:Dv b m f):∀k,tk b (f k)=0:=by
 obtain⟨s,n,hs,h⟩:=h;have z:=kJ (b:=b) hm hs fun k hk=>by rw[<-h,hf k hk,tk0]
 intro k;rw[h,<-tk0 b,<-d8 (f:=fun _=>(0:Int)) (g:=co m) (k:=k) fun i _=> .inl rfl];exact iH (fun i _=>by rw[z,tk0]) fun i _=>rfl
def tp(P:List Int)(a:Nat->Int)(k:Nat):Int:=sm (P.length-1-k) fun i=>co P (k+1+i)*a i
theorem Aj(P:List Int)(a:Nat->Int):Fs (tp P a) (P.length-1):=fun k hk=>by unfold tp;rw[show P.length-1-k=0 by omega];rfl
theorem Lh{b:Int}{P:List Int}{a a':Nat->Int}(h:∀n,tk b (a n)=tk b (a' n))(k:Nat):tk b (tp P a k)=tk b (tp P a' k):=jD fun i _=>by rw[<-cD,h,cD]
theorem Lb(P:List Int)(c:Int)(a a':Nat->Int)(k:Nat):tp P (fun n=>c*a n+a' n) k=c*tp P a k+tp P a' k:=by
 unfold tp;rw[<-cu,<-dY];refine aH fun i _=>?_;rw[Int.mul_add,Int.mul_left_comm]
theorem El{b:Int}{P:List Int}(hP:0<P.length){a:Nat->Int}(h0:tk b (ks P a 0)=0)(k:Nat):tk b (if k=0 then 0 else tp P a (k-1))=tk b (tp P (fun n=>a (n+1)) k+a 0*co P k):=by
 by_cases c:k=0
 ·rw[if_pos c,c,tk0,<-h0];refine congrArg (tk b) ?_;unfold ks tp;obtain⟨N,hN⟩:∃N,P.length=N+1:=⟨P.length-1,by omega⟩;rw[hN,gG,Nat.add_sub_cancel,Nat.sub_zero,Int.add_comm,Int.mul_comm (co P 0)];congr 1;exact aH fun i _=>by rw[Nat.zero_add,Nat.zero_add,Nat.add_comm 1 i]
 ·rw[if_neg c];by_cases d:k<P.length
  ·refine congrArg (tk b) ?_;unfold tp;rw[show P.length-1-(k-1)=(P.length-1-k)+1 by omega,gG,Int.add_comm];congr 1
   ·exact aH fun i _=>by rw[show k-1+1+(i+1)=k+1+i by omega]
   ·rw[show k-1+1+0=k by omega,Int.mul_comm]
  ·rw[Aj P a (k-1) (by omega),Aj P _ k (by omega),bN (by omega),Int.mul_zero];rfl
theorem Dc(x:Int)(q:List Int)(f:Nat->Int)(k:Nat):cv (co (x::q)) f k=x*f k+(if k=0 then 0 else cv (co q) f (k-1)):=by
 cases k with
 |zero=>rw[cv,cZ,if_pos rfl,Int.add_zero]
 |succ k=>
  rw[cv,cZ,if_neg (by omega),Nat.add_sub_cancel];congr 1
theorem Y4(q f:Nat->Int)(k:Nat):(if k=0 then 0 else cv q f (k-1))=cv q (fun i=>if i=0 then 0 else f (i-1)) k:=by
 cases k with
 |zero=>rw[if_pos rfl,cv,if_pos rfl,Int.mul_zero]
 |succ k=>rw[if_neg (by omega),Nat.add_sub_cancel,xV,if_pos rfl,Int.mul_zero,Int.add_zero];rfl
theorem Ib(x:Int)(q:List Int)(a:Nat->Int)(n:Nat):ks (x::q) a n=x*a n+ks q (fun n=>a (n+1)) n:=by
 unfold ks;rw[List.length_cons,gG,cZ,Nat.add_zero];congr 1
theorem tO{b:Int}{P:List Int}(hP:0<P.length):∀(q:List Int) {a:Nat->Int},Kp b P a->Dv b P fun k=>cv (co q) (tp P a) k-tp P (ks q a) k
 |[],a,_=>(Dv.zero b P).congr fun k=>by
  rw[d8 fun i _=> .inl (dR i)];have:tp P (ks [] a) k=0:=gC fun i _=>by show co P (k+1+i)*0=0;exact Int.mul_zero _
  rw[this];rfl
 |x::q,a,h=>by
  have h1:Kp b P fun n=>a (n+1):=fun n=>by
   have e:ks P (fun n=>a (n+1)) n=ks P a (n+1):=aH fun k _=>by show _*a (n+k+1)=_*a (n+1+k);rw[show n+k+1=n+1+k by omega]
   rw[e];exact h (n+1)
  have ih:=tO hP q h1;have d:=Dv.self (b:=b) (m:=P) ((Fs.co q).mul (a 0));refine(ih.add d).congr fun k=>?_;have e1:tk b (if k=0 then 0 else cv (co q) (tp P a) (k-1))=tk b (cv (co q) (tp P fun n=>a (n+1)) k+a 0*cv (co q) (co P) k):=by
   rw[Y4,<-fH,iH (fun i _=>rfl) fun i _=>El hP (h 0) i,xX];congr 2;rw[dX,fH,fH,dX]
  have e2:tp P (ks (x::q) a) k=x*tp P a k+tp P (ks q fun n=>a (n+1)) k:=by
   rw[<-Lb];unfold tp;exact aH fun i _=>by rw[Ib]
  rw[Dc,e2,fH];have e3:=bB e1 (rfl:tk b (-(tp P (ks q fun n=>a (n+1)) k))=_);rw[show x*tp P a k+(if k=0 then 0 else cv (co q) (tp P a) (k-1))-(x*tp P a k+tp P (ks q fun n=>a (n+1)) k)=(if k=0 then 0 else cv (co q) (tp P a) (k-1)) + -(tp P (ks q fun n=>a (n+1)) k)by omega,e3];refine congrArg (tk b) ?_;omega
theorem yF{b:Int}{P:List Int}(hm:Mon P){e:Nat->Int}(h:∀k,tk b (tp P e k)=0):∀n,n<P.length-1->tk b (e n)=0:=fun n=>by
 induction n using Nat.strongRecOn with
 |ind n ih=>
  intro hn;have q:=h (P.length-1-1-n);unfold tp at q;rw[show P.length-1-(P.length-1-1-n)=n+1 by omega,sm]at q;have z:tk b (sm n fun i=>co P (P.length-1-1-n+1+i)*e i)=0:=by
   have:=jD (b:=b) (n:=n) (f:=fun i=>co P (P.length-1-1-n+1+i)*e i) (g:=fun _=>0) fun i hi=>by rw[tk0];exact ur _ (ih i hi (by omega))
   rw[this,lD,tk0]
  rw[<-cj,z,Int.zero_add,show P.length-1-1-n+1+n=P.length-1 by omega,hm.one,Int.one_mul]at q;exact q
theorem Bg{b:Int}{rule:List Int}{a:Nat->Int}(ha:∀n,rule.length<=n->tk b (a n)=tk b (S rule a n rule.length))(q:List Int):
  Kp b q a↔Dv b (aX b rule) (cv (co q) (tp (aX b rule) a)):=by
 have hm:=gQ b rule;have hK:Kp b (aX b rule) a:=Kp.aX ha;have A:=tO hm.pos q hK;constructor
 ·intro h;have z:Dv b (aX b rule) (tp (aX b rule) (ks q a)):=(Dv.zero b _).congr fun k=>by
   have:=Lh (b:=b) (P:=aX b rule) (a:=ks q a) (a':=fun _=>0) (fun n=>by rw[h n,tk0]) k;rw[this];exact(congrArg (tk b) (show tp (aX b rule) (fun _=>0) k=0 from gC fun i _=>Int.mul_zero _)).symm
  exact(A.add z).congr fun k=>by rw[Int.sub_add_cancel]
 ·intro h;have z:Dv b (aX b rule) (tp (aX b rule) (ks q a)):=(h.sub A).congr fun k=>by
   rw[show cv (co q) (tp (aX b rule) a) k-(cv (co q) (tp (aX b rule) a) k-tp (aX b rule) (ks q a) k)=tp (aX b rule) (ks q a) k by omega]
  have n0:=yF hm (z.short hm (Aj _ _));rw[bU,Nat.add_sub_cancel]at n0;exact DP ha n0
structure RL(b:Int)(p:List Int)(t:Nat->Int)(g:List Int):Prop where
 mon:Mon g
 one:Dv b g (co p)
 two:Dv b g t
 sum:∃(N:Int) (u v:Nat->Int) (n:Nat),tk b N≠0/\Fs u n/\Fs v n/\∀k,tk b (N*co g k)=tk b (cv u (co p) k+cv v t k)
theorem yI{b:Int}{m:List Int}(hm:Mon m){p:List Int}(hp:∀k,tk b (co p k)=co p k):∃q r,Div b p m q r:=by
 have go:∀d,d<=p.length-(m.length-1)->∃o l,Bw b p m (p.length-(m.length-1)-d) o l:=fun d=>by
  induction d with
  |zero=>intro _;exact⟨_,_,Bw.start hp⟩
  |succ d ih=>
   intro hd;obtain⟨o,l,I⟩:=ih (by omega);obtain⟨s,hs⟩:∃s,p.length-(m.length-1)-d=s+1:=⟨p.length-(m.length-1)-d-1,by omega⟩;rw[hs]at I;refine⟨o.set s (co l (s+(m.length-1))),ofF l.length fun k=>lf b (co l (s+(m.length-1))) s m.length l m k,?_⟩;rw[show p.length-(m.length-1)-(d+1)=s by omega];refine I.step hm (by omega) (aZ ..) fun k=>?_;rw[bZ];by_cases c:k<l.length
   ·rw[if_pos c]
   ·rw[if_neg c];have hl:=I.ll;have hmp:=hm.pos;unfold lf;rw[if_neg (by omega),bN (by omega)]
 obtain⟨o,l,I⟩:=go _ (Nat.le_refl _);rw[Nat.sub_self]at I;exact⟨_,_,I.stop hm⟩
theorem wg{b:Int}(hD:∀x y,tk b x≠0->tk b (x*y)=0->tk b y=0){L:List Int}(hL:Mon L){N:Int}(hN:tk b N≠0){f:Nat->Int}{n:Nat}(hf:Fs f n)(h:Dv b L fun k=>N*f k):Dv b L f:=by
 obtain⟨o,r,D⟩:=yI (b:=b) hL (p:=ofF n fun k=>tk b (f k)) fun k=>by
  rw[bZ];split
  ·exact iI ..
  ·exact tk0 b
 have ef:∀k,tk b (co (ofF n fun k=>tk b (f k)) k)=tk b (f k):=fun k=>by
  rw[bZ];by_cases c:k<n
  ·rw[if_pos c,iI]
  ·rw[if_neg c,hf k (by omega)]
 have e:∀k,tk b (f k)=tk b (cv (co o) (co L) k+co r k):=fun k=>by rw[D.eq,ef]
 have z:Dv b L fun k=>N*co r k:=(h.sub ((Dv.self (b:=b) (m:=L) (Fs.co o)).smul N)).congr fun k=>by
  rw[show N*f k-N*cv (co o) (co L) k=N*(f k-cv (co o) (co L) k)by rw[Int.mul_sub],<-cD,<-cD b N (co r k)];congr 2;have:=e k;have q:=bB this (rfl:tk b (-cv (co o) (co L) k)=_);rw[show f k-cv (co o) (co L) k=f k + -cv (co o) (co L) k by omega,q];exact congrArg (tk b) (by omega)
 have hr:Fs (fun k=>N*co r k) (L.length-1):=((Fs.co r).mono (by have:=D.short;omega)).mul N;have z0:=z.short hL hr;refine⟨co o,o.length,Fs.co o,fun k=>?_⟩;rw[e,<-fU,hD N _ hN (z0 k),Int.add_zero]
theorem RL.keeps{b:Int}(hD:∀x y,tk b x≠0->tk b (x*y)=0->tk b y=0){rule:List Int}{a:Nat->Int}(ha:∀n,rule.length<=n->tk b (a n)=tk b (S rule a n rule.length)){g L:List Int}(h:RL b (aX b rule) (tp (aX b rule) a) g)(hL:Mon L)
  (hP:∀k,tk b (co (aX b rule) k)=tk b (cv (co L) (co g) k)) (q:List Int):Kp b q a↔Dv b L (co q):=by
 rw[Bg ha q];generalize aX b rule=P at h hP;obtain⟨t,nt,ht,hT⟩:=h.two;obtain⟨N,u,v,n,hN,hu,hv,hs⟩:=h.sum;generalize tp P a=T at h hT hs;have bez:∀k,tk b ((if k=0 then N else 0)-(cv u (co L) k+cv v t k))=0:=by
  refine kJ (b:=b) h.mon (n:=1+(n+L.length)+(n+nt)) (fun k hk=>?_) fun k _=>?_
  ·show(if k=0 then N else 0)-(cv u (co L) k+cv v t k)=0;rw[if_neg (by omega),hu.cv (Fs.co L) k (by omega),hv.cv ht k (by omega)];rfl
  ·have e:cv (fun k=>(if k=0 then N else 0)-(cv u (co L) k+cv v t k)) (co g) k=N*co g k + -1*(cv u (cv (co L) (co g)) k+cv v (cv t (co g)) k):=by
    rw[<-bV,<-bV,<-eU,<-fH];have e2:N*co g k=cv (fun k=>if k=0 then N else 0) (co g) k:=by rw[lY,if_pos (Nat.zero_le _),Nat.sub_zero]
    rw[e2,<-eU];refine fj (fun i _=>?_) fun i _=>rfl;omega
   rw[e,<-cj,hs,cj];have e3:tk b (cv u (co P) k+cv v T k)=tk b (cv u (cv (co L) (co g)) k+cv v (cv t (co g)) k):=bB (iH (fun i _=>rfl) fun i _=>hP i) (iH (fun i _=>rfl) fun i _=>hT i);have e4:=bB e3 (rfl:tk b (-1*(cv u (cv (co L) (co g)) k+cv v (cv t (co g)) k))=_);rw[e4,show ∀x:Int,x + -1*x=0 from fun x=>by omega,tk0]
 constructor
 ·rintro⟨s,ns,hs',e⟩;have qt:∀k,tk b (cv (co q) t k-cv s (co L) k)=0:=by
   refine kJ (b:=b) h.mon (n:=(q.length+nt)+(ns+L.length)) (fun k hk=>?_) fun k _=>?_
   ·show cv (co q) t k-cv s (co L) k=0;rw[(Fs.co q).cv ht k (by omega),hs'.cv (Fs.co L) k (by omega)];rfl
   ·have e1:cv (fun k=>cv (co q) t k-cv s (co L) k) (co g) k=cv (co q) (cv t (co g)) k + -1*cv s (cv (co L) (co g)) k:=by
     rw[<-bV,<-bV,<-fH,<-eU];exact fj (fun i _=>by omega) fun i _=>rfl
    have e2:tk b (cv (co q) (cv t (co g)) k)=tk b (cv s (cv (co L) (co g)) k):=by
     rw[<-iH (fun i _=>rfl) (fun i _=>hT i),e,iH (fun i _=>rfl) fun i _=>hP i]
    have e3:=bB e2 (rfl:tk b (-1*cv s (cv (co L) (co g)) k)=_);rw[e1,e3,show ∀x:Int,x + -1*x=0 from fun x=>by omega,tk0]
  refine wg hD hL hN (Fs.co q) ?_;refine⟨fun k=>cv (co q) u k+cv v s k,(q.length+n)+(n+ns),((((Fs.co q).cv hu)).mono (by omega)).add ((hv.cv hs').mono (by omega)),fun k=>?_⟩;have e1:tk b (N*co q k)=tk b (cv (fun k=>cv u (co L) k+cv v t k) (co q) k):=by
   have e2:N*co q k=cv (fun k=>if k=0 then N else 0) (co q) k:=by rw[lY,if_pos (Nat.zero_le _),Nat.sub_zero]
   rw[e2];exact iH (fun i _=>dJ.mp (bez i)) fun i _=>rfl
  rw[e1,eU,eU];refine bB ?_ ?_
  ·exact congrArg (tk b) ((dX ..).trans (bV ..).symm)
  ·rw[bV,bV];refine iH (fun i _=>rfl) fun i _=>?_;rw[dX];exact dJ.mp (qt i)
 ·rintro⟨s,ns,hs',e⟩;refine⟨cv s t,ns+nt,hs'.cv ht,fun k=>?_⟩;rw[iH (fun i _=>e i) (fun i _=>hT i),iH (f:=cv s t) (fun i _=>rfl) (fun i _=>hP i)];refine congrArg (tk b) ?_;rw[bV,bV];refine fj (fun i _=>rfl) fun i _=>?_;rw[<-bV,<-bV];exact fj (fun j _=>dX ..) fun j _=>rfl
end Pm
namespace Om
def cC(p:Nat):Prop:=2<=p/\∀d,d∣p->d=1∨d=p
theorem cC.cop{p x:Nat}(h:cC p)(hx:¬p∣x):Nat.Coprime p x:=by
 rcases h.2 _ (Nat.gcd_dvd_left p x)with e|e
 ·exact e
 ·exact absurd (e▸Nat.gcd_dvd_right p x) hx
theorem cC.dvd{p x y:Nat}(h:cC p)(hd:p∣x*y):p∣x∨p∣y:=by
 by_cases c:p∣x
 ·exact .inl c
 ·exact .inr ((h.cop c).dvd_of_dvd_mul_left hd)
def ch:Nat->Nat->Nat
 |_,0=>1
 |0,_+1=>0
 |n+1,k+1=>ch n k+ch n (k+1)
theorem qO(n:Nat):ch n 0=1:=by cases n<;>rfl
theorem rG:∀(n k:Nat),n<k->ch n k=0
 |0,k+1,_=>rfl
 |n+1,k+1,h=>by rw[ch,rG n k (by omega),rG n (k+1) (by omega)]
theorem Br:∀n,ch n n=1
 |0=>rfl
 |n+1=>by rw[ch,Br n,rG n (n+1) (by omega)]
theorem mF:∀n k:Nat,(k+1)*ch (n+1) (k+1)=(n+1)*ch n k
 |0,0=>rfl
 |0,k+1=>by
  have e:ch (0+1) (k+1+1)=ch 0 (k+1)+ch 0 (k+1+1):=rfl;rw[e,rG 0 (k+1) (by omega),rG 0 (k+1+1) (by omega)];simp
 |n+1,0=>by
  have:=mF n 0;have e:ch (n+1+1) (0+1)=ch (n+1) 0+ch (n+1) (0+1):=rfl;simp only[qO]at e⊢;rw[e];rw[qO]at this;omega
 |n+1,k+1=>by
  have h1:=mF n k;have h2:=mF n (k+1);rw[ch,Nat.mul_add];have e1:(k+1+1)*ch (n+1) (k+1)=(n+1)*ch n k+ch (n+1) (k+1):=by rw[Nat.succ_mul,h1]
  rw[e1,h2];have e2:ch (n+1) (k+1)=ch n k+ch n (k+1):=rfl;rw[e2,Nat.succ_mul (n+1),Nat.mul_add];omega
theorem cC.dch{p k:Nat}(h:cC p)(h0:0<k)(hk:k<p):p∣ch p k:=by
 obtain⟨n,rfl⟩:∃n,p=n+1:=⟨p-1,by have:=h.1;omega⟩;obtain⟨j,rfl⟩:∃j,k=j+1:=⟨k-1,by omega⟩;have e:=mF n j;rcases h.dvd (x:=j+1) (y:=Om.ch (n+1) (j+1)) (by rw[e];exact Nat.dvd_mul_right ..)with d|d
 ·exact absurd (Nat.le_of_dvd (by omega) d) (by omega)
 ·exact d
def sN(f:Nat->Nat):Nat->Nat
 |0=>0
 |n+1=>sN f n+f n
theorem yp{f g:Nat->Nat}:∀{n:Nat},(∀k,k<n->f k=g k)->sN f n=sN g n
 |0,_=>rfl
 |n+1,h=>by rw[sN,sN,yp fun k hk=>h k (by omega),h n (by omega)]
theorem Gr(f g:Nat->Nat):∀n,sN (fun k=>f k+g k) n=sN f n+sN g n
 |0=>rfl
 |n+1=>by rw[sN,sN,sN,Gr f g n];omega
theorem GX(c:Nat)(f:Nat->Nat):∀n,sN (fun k=>c*f k) n=c*sN f n
 |0=>rfl
 |n+1=>by rw[sN,sN,GX c f n,Nat.mul_add]
theorem ux(f:Nat->Nat):∀n,sN f (n+1)=f 0+sN (fun k=>f (k+1)) n
 |0=>by rw[sN,sN,sN];omega
 |n+1=>by rw[sN,ux f n,sN];omega
theorem GZ{p:Nat}{f:Nat->Nat}:∀{n:Nat},(∀k,k<n->p∣f k)->p∣sN f n
 |0,_=>Nat.dvd_zero _
 |n+1,h=>Nat.dvd_add (GZ fun k hk=>h k (by omega)) (h n (by omega))
theorem K3(a:Nat):∀n,(a+1)^n=sN (fun k=>ch n k*a^k) (n+1)
 |0=>by simp[sN,ch]
 |n+1=>by
  rw[Nat.pow_succ,K3 a n,ux (fun k=>ch (n+1) k*a^k) (n+1)];have e1:sN (fun k=>ch (n+1) (k+1)*a^(k+1)) (n+1)=sN (fun k=>a*(ch n k*a^k)) (n+1)+sN (fun k=>ch n (k+1)*a^(k+1)) (n+1):=by
   rw[<-Gr];refine yp fun k _=>?_;rw[ch,Nat.add_mul,Nat.pow_succ];congr 1;rw[Nat.mul_comm a,Nat.mul_assoc]
  have e2:sN (fun k=>ch n k*a^k) (n+1)=1+sN (fun k=>ch n (k+1)*a^(k+1)) (n+1):=by
   have e3:sN (fun k=>ch n k*a^k) (n+1+1)=sN (fun k=>ch n k*a^k) (n+1):=by rw[sN,rG n (n+1) (by omega),Nat.zero_mul,Nat.add_zero]
   rw[<-e3,ux];rw[qO,Nat.pow_zero]
  rw[e1,GX,qO,Nat.pow_zero,Nat.mul_add,Nat.mul_one,Nat.mul_comm];omega
theorem cC.pow{p:Nat}(h:cC p):∀a:Nat,a^p%p=a%p
 |0=>by rw[Nat.zero_pow (by have:=h.1;omega)]
 |a+1=>by
  obtain⟨n,rfl⟩:∃n,p=n+1:=⟨p-1,by have:=h.1;omega⟩;have e:(a+1)^(n+1)=1+sN (fun k=>ch (n+1) (k+1)*a^(k+1)) n+a^(n+1):=by
   rw[K3,sN,ux,qO,Nat.pow_zero,Br,Nat.one_mul,Nat.one_mul]
  obtain⟨c,hc⟩:(n+1)∣sN (fun k=>ch (n+1) (k+1)*a^(k+1)) n:=GZ fun k hk=>Nat.dvd_trans (h.dch (by omega) (by omega)) (Nat.dvd_mul_right ..);rw[e,hc,show 1+(n+1)*c+a^(n+1)=(a^(n+1)+1)+(n+1)*c by omega,Nat.add_mul_mod_self_left,Nat.add_mod,cC.pow h a,<-Nat.add_mod]
theorem cC.KY{p a:Nat}(h:cC p)(h0:a≠0)(ha:a<p):a^(p-1)%p=1:=by
 have hp:=h.1;have e:=h.pow a;obtain⟨n,rfl⟩:∃n,p=n+1:=⟨p-1,by omega⟩;rw[Nat.add_sub_cancel];have one:1<=a^n:=Nat.pow_pos (by omega);have d:(n+1)∣a*(a^n-1):=by
  have e2:a*(a^n-1)=a^(n+1)-a:=by rw[Nat.mul_sub,Nat.mul_one,Nat.pow_succ,Nat.mul_comm]
  rw[e2];exact Nat.dvd_of_mod_eq_zero (Nat.sub_mod_eq_zero_of_mod_eq e)
 rcases h.dvd d with d|⟨c,hc⟩
 ·exact absurd (Nat.le_of_dvd (by omega) d) (by omega)
 ·rw[show a^n=1+(n+1)*c by omega,Nat.add_mul_mod_self_left];exact Nat.mod_eq_of_lt (by omega)
end Om
namespace Pm
open Rm
def Kf(f:Nat->Int)(n:Nat)(a:Nat->Int):Prop:=∀m,sm n (fun k=>f k*a (m+k))=0
theorem Kf.less{f:Nat->Int}{n m:Nat}{a:Nat->Int}(h:Kf f m a)(hf:Fs f n)(hm:n<=m):Kf f n a:=fun i=>by
 rw[<-fL (n:=m) hm fun k h1 _=>by rw[hf k h1,Int.zero_mul]];exact h i
theorem Kf.lin{f g:Nat->Int}{n:Nat}{a:Nat->Int}(c d:Int)(h:Kf f n a)(h':Kf g n a):Kf (fun k=>c*f k+d*g k) n a:=fun i=>by
 have e:sm n (fun k=>(c*f k+d*g k)*a (i+k))=c*sm n (fun k=>f k*a (i+k))+d*sm n (fun k=>g k*a (i+k)):=by
  rw[<-cu,<-cu,<-dY];exact aH fun k _=>by rw[Int.add_mul,Int.mul_assoc,Int.mul_assoc]
 rw[e,h i,h' i];simp
theorem Kf.shift{f:Nat->Int}{n:Nat}{a:Nat->Int}(s:Nat)(h:Kf f n a):Kf (fun k=>if s<=k then f (k-s)else 0) (s+n) a:=fun i=>by
 have e:∀s,sm (s+n) (fun k=>(if s<=k then f (k-s)else 0)*a (i+k))=sm n (fun k=>f k*a (i+s+k)):=fun s=>by
  induction s generalizing i with
  |zero=>rw[Nat.zero_add];exact aH fun k _=>by rw[if_pos (Nat.zero_le _)];rfl
  |succ s ih=>
   rw[show s+1+n=(s+n)+1 by omega,gG,if_neg (by omega),Int.zero_mul,Int.zero_add];rw[show i+(s+1)=(i+1)+s by omega,<-ih (i+1)];refine aH fun k _=>?_;rw[show i+(k+1)=i+1+k by omega];by_cases c:s<=k
   ·rw[if_pos c,if_pos (by omega),show k+1-(s+1)=k-s by omega]
   ·rw[if_neg c,if_neg (by omega)]
 rw[e];exact h _
theorem Kf.div{f:Nat->Int}{n:Nat}{a:Nat->Int}{c:Int}(hc:c≠0)(h:Kf (fun k=>c*f k) n a):Kf f n a:=fun i=>by
 have e:=h i;rw[show(fun k=>c*f k*a (i+k))=fun k=>c*(f k*a (i+k))from funext fun k=>Int.mul_assoc ..,cu]at e;exact(Int.mul_eq_zero.mp e).resolve_left hc
theorem Kf.of{p:List Int}{a:Nat->Int}(h:Kp 0 p a):Kf (co p) p.length a:=fun i=>by
 have:=h i;rw[bK]at this;exact this
theorem EV:∀n:Nat,2<=n->∃p,Om.cC p/\p∣n:=fun n=>by
 induction n using Nat.strongRecOn with
 |ind n ih=>
  intro hn;by_cases h:∀d,d∣n->d=1∨d=n
  ·exact⟨n,⟨hn,h⟩,Nat.dvd_refl n⟩
  ·obtain⟨d,hd⟩:=Classical.not_forall.mp h;obtain⟨hd,hn1⟩:=Classical.not_imp.mp hd;have h0:d≠0:=fun e=>by rw[e]at hd;have:=Nat.eq_zero_of_zero_dvd hd;omega
   have hl:=Nat.le_of_dvd (by omega) hd;have h1:d≠1:=fun e=>hn1 (.inl e);have h2:d≠n:=fun e=>hn1 (.inr e);obtain⟨p,hp,hq⟩:=ih d (by omega) (by omega);exact⟨p,hp,Nat.dvd_trans hq hd⟩
theorem least_of{Q:Nat->Prop}(h:∃n,Q n):∃n,Q n/\∀m,Q m->n<=m:=by
 obtain⟨n,hn⟩:=h;induction n using Nat.strongRecOn with
 |ind n ih=>
  by_cases c:∃m,m<n/\Q m
  ·obtain⟨m,h1,h2⟩:=c;exact ih m h1 h2
  ·exact⟨n,hn,fun m hm=>by
    by_cases d:m<n
    ·exact absurd ⟨m,d,hm⟩ c
    ·omega⟩
theorem pA{p:Nat}{x:Int}:(p:Int)∣x↔p∣x.natAbs:=Int.ofNat_dvd_left
theorem mD{p:Nat}(hp:Om.cC p){x y:Int}(h:(p:Int)∣x*y):(p:Int)∣x∨(p:Int)∣y:=by
 rw[pA,Int.natAbs_mul]at h;rcases hp.dvd h with h|h
 ·exact .inl (pA.mpr h)
 ·exact .inr (pA.mpr h)
theorem Gy{d:Int}{f:Nat->Int}:∀{n:Nat},(∀k,k<n->d∣f k)->d∣sm n f
 |0,_=>⟨0,by rw[Int.mul_zero];rfl⟩
 |n+1,h=>Int.dvd_add (Gy fun k hk=>h k (by omega)) (h n (by omega))
theorem Ft{d:Int}{f:Nat->Int}{n j:Nat}(hj:j<n)(h:d∣sm n f)(ho:∀k,k<n->k≠j->d∣f k):d∣f j:=by
 have e:sm n f=sm n (fun k=>if k=j then f j else 0)+sm n (fun k=>if k=j then 0 else f k):=by
  rw[<-dY];refine aH fun k _=>?_;by_cases c:k=j
  ·rw[if_pos c,if_pos c,c,Int.add_zero]
  ·rw[if_neg c,if_neg c,Int.zero_add]
 rw[cM,if_pos hj]at e;have h2:d∣sm n (fun k=>if k=j then 0 else f k):=Gy fun k hk=>by
  by_cases c:k=j
  ·rw[if_pos c];exact⟨0,by rw[Int.mul_zero]⟩
  ·rw[if_neg c];exact ho k hk c
 have:f j=sm n f-sm n (fun k=>if k=j then 0 else f k):=by omega
 rw[this];exact Int.dvd_sub h h2
theorem PJ{p:Nat}(hp:Om.cC p){f g:Nat->Int}(h:∀k,(p:Int)∣cv f g k):(∀k,(p:Int)∣f k)∨∀k,(p:Int)∣g k:=by
 by_cases hf:∀k,(p:Int)∣f k
 ·exact .inl hf
 by_cases hg:∀k,(p:Int)∣g k
 ·exact .inr hg
 obtain⟨i,hi,hi'⟩:=least_of (Classical.not_forall.mp hf);obtain⟨j,hj,hj'⟩:=least_of (Classical.not_forall.mp hg);have e:=h (i+j);rw[fY]at e;have t:=Ft (j:=i) (by omega) e fun k hk hne=>by
  by_cases c:k<i
  ·have:(p:Int)∣f k:=Classical.byContradiction fun z=>by have:=hi' k z;omega
   exact Int.dvd_trans this (Int.dvd_mul_right ..)
  ·have:(p:Int)∣g (i+j-k):=Classical.byContradiction fun z=>by have:=hj' _ z;omega
   exact Int.dvd_trans this (Int.dvd_mul_left ..)
 rw[Nat.add_sub_cancel_left]at t;rcases mD hp t with t|t
 ·exact absurd t hi
 ·exact absurd t hj
theorem Fs.top{f:Nat->Int}:∀{n:Nat},Fs f n->(∀k,f k=0)∨∃d,d<n/\f d≠0/\Fs f (d+1)
 |0,h=> .inl fun k=>h k (Nat.zero_le _)
 |n+1,h=>by
  by_cases c:f n=0
  ·have h':Fs f n:=fun k hk=>by
    by_cases e:k=n
    ·rw[e];exact c
    ·exact h k (by omega)
   rcases Fs.top h' with z|⟨d,h1,h2,h3⟩
   ·exact .inl z
   ·exact .inr ⟨d,by omega,h2,h3⟩
  ·exact .inr ⟨n,by omega,c,h⟩
structure Lk(a:Nat->Int)(d:Nat)(f:Nat->Int):Prop where
 fs:Fs f (d+1)
 ne:f d≠0
 kf:Kf f (d+1) a
theorem wI{a f:Nat->Int}{d:Nat}(hf:Lk a d f)(hd:∀e g,Lk a e g->d<=e):∀(n:Nat) (q:Nat->Int),Fs q n->Kf q n a->∃(m:Int) (G:Nat->Int) (N:Nat),m≠0/\Fs G N/\∀k,m*q k=cv G f k:=fun n=>by
 induction n using Nat.strongRecOn with
 |ind n ih=>
  intro q hq hk;rcases hq.top with z|⟨e,hen,hne,hfe⟩
  ·exact⟨1,fun _=>0,0,by decide,fun _ _=>rfl,fun k=>by rw[z k,d8 fun i _=> .inl rfl];rfl⟩
  ·have hke:Kf q (e+1) a:=hk.less hfe (by omega);have hde:=hd e q ⟨hfe,hne,hke⟩;have ks:=hf.kf.shift (e-d);rw[show e-d+(d+1)=e+1 by omega]at ks;have kl:=hke.lin (f d) (-(q e)) ks;have fl:Fs (fun k=>f d*q k + -(q e)*(if e-d<=k then f (k-(e-d))else 0)) e:=fun k hk=>by
    show f d*q k + -(q e)*(if e-d<=k then f (k-(e-d))else 0)=0;rw[if_pos (by omega)];by_cases c:k=e
    ·rw[c,show e-(e-d)=d by omega,Int.neg_mul,Int.mul_comm (q e),Int.add_right_neg]
    ·rw[hfe k (by omega),hf.fs (k-(e-d)) (by omega),Int.mul_zero,Int.mul_zero];rfl
   obtain⟨m,G,N,hm,hG,hE⟩:=ih e hen _ fl (kl.less fl (by omega));refine⟨m*f d,fun k=>G k+m*q e*(if k=e-d then 1 else 0),N+(e-d+1),Int.mul_ne_zero hm hf.ne,fun k hk=>?_,fun k=>?_⟩
   ·show G k+m*q e*(if k=e-d then 1 else 0)=0;rw[hG k (by omega),if_neg (by omega),Int.mul_zero];rfl
   ·rw[eU,fH,lY,<-hE k];by_cases c:e-d<=k
    ·rw[if_pos c,if_pos c,Int.mul_add,Int.one_mul,Int.neg_mul,Int.mul_neg,Int.mul_assoc,Int.mul_assoc,Int.neg_add_cancel_right]
    ·rw[if_neg c,if_neg c,Int.mul_add];simp[Int.mul_assoc]
theorem R5{a:Nat->Int}{P:List Int}(hP:Mon P)(hk:Kp 0 P a):∃L,Mon L/\Py 0 L/\Kp 0 L a/\L.length<=P.length/\(∀q,Kp 0 q a->Dv 0 L (co q))/\∀e g,Lk a e g->L.length-1<=e:=by
 have hp:=hP.pos;have p0:Lk a (P.length-1) (co P):=⟨by rw[show P.length-1+1=P.length by omega];exact Fs.co P,by rw[hP.one];decide,by rw[show P.length-1+1=P.length by omega];exact Kf.of hk⟩;obtain⟨d,⟨f0,hf0⟩,hd⟩:=least_of (Q:=fun d=>∃f,Lk a d f) ⟨_,_,p0⟩;have hd':∀e g,Lk a e g->d<=e:=fun e g h=>hd e ⟨g,h⟩;obtain⟨c,⟨f,hf,hc⟩,hc'⟩:=least_of (Q:=fun c=>∃f,Lk a d f/\(f d).natAbs=c) ⟨_,f0,hf0,rfl⟩;obtain⟨m0,G0,N0,hm0,hG0,hE0⟩:=wI hf hd' P.length (co P) (Fs.co P) (Kf.of hk);obtain⟨n,⟨m,G,N,hm,hG,hE,hn⟩,hn'⟩:=least_of (Q:=fun n=>∃(m:Int) (G:Nat->Int) (N:Nat),m≠0/\Fs G N/\(∀k,m*co P k=cv G f k)/\m.natAbs=n) ⟨_,m0,G0,N0,hm0,hG0,hE0,rfl⟩;have h1:m.natAbs=1:=by
  by_cases c2:m.natAbs=1
  ·exact c2
  ·have h0:m.natAbs≠0:=by omega
   obtain⟨p,hp,hd⟩:=EV m.natAbs (by omega);have hpp:=hp.1;have hp0:(p:Int)≠0:=by omega
   obtain⟨m',em⟩:=pA.mpr hd;have hm':m'≠0:=fun z=>hm (by rw[em,z,Int.mul_zero]);rcases PJ hp (f:=G) (g:=f) fun k=>by rw[<-hE k,em,Int.mul_assoc];exact Int.dvd_mul_right .. with z|z
   ·exfalso
    obtain⟨G',hg⟩:=Classical.skolem.mp z;refine absurd (hn' m'.natAbs ⟨m',G',N,hm',fun k hk=>?_,fun k=>?_,rfl⟩) ?_
    ·have:=hg k;rw[hG k hk]at this;exact(Int.mul_eq_zero.mp this.symm).resolve_left hp0
    ·refine Int.eq_of_mul_eq_mul_left hp0 ?_;rw[<-fH,<-Int.mul_assoc,<-em,hE k];exact fj (fun i _=>hg i) fun _ _=>rfl
    ·rw[<-hn,em,Int.natAbs_mul,Int.natAbs_natCast];have:0<m'.natAbs:=by omega
     have:2*m'.natAbs<=p*m'.natAbs:=Nat.mul_le_mul_right _ hpp;omega
   ·exfalso
    obtain⟨f',hg⟩:=Classical.skolem.mp z;have e:f=fun k=>p*f' k:=funext fun k=>hg k;have q:Lk a d f':=⟨fun k hk=>by
     have:=hg k;rw[hf.fs k hk]at this;exact(Int.mul_eq_zero.mp this.symm).resolve_left hp0,fun z=>hf.ne (by rw[hg d,z,Int.mul_zero]),by
     have:=hf.kf;rw[e]at this;exact this.div hp0⟩
    refine absurd (hc' _ ⟨_,q,rfl⟩) ?_;have e2:=congrArg Int.natAbs (hg d);rw[Int.natAbs_mul,Int.natAbs_natCast,hc]at e2;have hne:=q.ne;have:0<(f' d).natAbs:=by omega
    have:2*(f' d).natAbs<=p*(f' d).natAbs:=Nat.mul_le_mul_right _ hpp;rw[e2];show ¬p*(f' d).natAbs<=(f' d).natAbs;omega
 have hu:(f d).natAbs=1:=by
  rcases hG.top with z|⟨e,_,hne,hfe⟩
  ·exfalso
   have:=hE (P.length-1);rw[hP.one,Int.mul_one,d8 fun i _=> .inl (z i)]at this;exact hm this
  ·have t:cv G f (e+d)=G e*f d:=by
    rw[fY,aH (g:=fun i=>if i=e then G e*f d else 0) fun i _=>by
     by_cases c3:i=e
     ·rw[if_pos c3,c3,Nat.add_sub_cancel_left]
     ·rw[if_neg c3];by_cases c4:i<e
      ·rw[hf.fs _ (by omega),Int.mul_zero]
      ·rw[hfe i (by omega),Int.zero_mul],cM,if_pos (by omega)]
   have hx:G e*f d≠0:=Int.mul_ne_zero hne hf.ne;have e1:=hE (e+d);rw[t]at e1;have hl:e+d=P.length-1:=by
    by_cases c3:P.length<=e+d
    ·rw[bN c3,Int.mul_zero]at e1;exact absurd e1.symm hx
    ·by_cases c4:e+d=P.length-1
     ·exact c4
     ·exfalso
      have e2:=hE (P.length-1);rw[hP.one,Int.mul_one,d8 fun i hi=>by
       by_cases c5:e+1<=i
       ·exact .inl (hfe i c5)
       ·exact .inr (hf.fs _ (by omega))]at e2
      exact hm e2
   rw[hl,hP.one,Int.mul_one]at e1;have e3:=congrArg Int.natAbs e1;rw[Int.natAbs_mul,h1]at e3;exact Nat.eq_one_of_mul_eq_one_left e3.symm
 have hs:f d*f d=1:=by
  rcases Int.natAbs_eq (f d)with h|h<;>rw[h,hu]<;>rfl
 have hLc:∀k,co (ofF (d+1) fun k=>f d*f k) k=f d*f k:=fun k=>by
  rw[bZ];by_cases c3:k<d+1
  ·rw[if_pos c3]
  ·rw[if_neg c3,hf.fs k (by omega),Int.mul_zero]
 have hM:Mon (ofF (d+1) fun k=>f d*f k):=⟨by rw[aZ];omega,by rw[aZ,Nat.add_sub_cancel,hLc,hs]⟩;have hK:Kp 0 (ofF (d+1) fun k=>f d*f k) a:=fun i=>by
  rw[bK];unfold ks;rw[aZ,aH (g:=fun k=>f d*(f k*a (i+k))) fun k _=>by rw[hLc,Int.mul_assoc],cu,hf.kf i,Int.mul_zero]
 refine⟨ofF (d+1) fun k=>f d*f k,hM,⟨?_,fun x _=>bK x⟩,hK,?_,fun q hq=>?_,fun e g h=>by rw[aZ];exact hd' e g h⟩
 ·refine fZ (fun z=>?_) (by rw[hM.one];decide);have:=hM.pos;rw[z]at this;exact absurd this (by decide)
 ·rw[aZ];have:=hd' _ _ p0;omega
 ·obtain⟨o,r,D⟩:=yI (b:=0) hM (p:=q) fun k=>bK _;have kr:=(D.kp hK).mp hq;have rn:r=[]:=by
   by_cases c3:r=[]
   ·exact c3
   ·exfalso
    have hl:0<r.length:=List.length_pos_iff.mpr c3;have hne:=qN c3 D.ry.tr;have:=hd' (r.length-1) (co r) ⟨by rw[show r.length-1+1=r.length by omega];exact Fs.co r,hne,by rw[show r.length-1+1=r.length by omega];exact Kf.of kr⟩;have hsh:=D.short;rw[aZ]at hsh;omega
  refine⟨co o,o.length,Fs.co o,fun k=>?_⟩;rw[<-D.eq k,rn,dR,Int.add_zero]
end Pm
namespace Dm
open Pm Rm
theorem rT{n:Nat}(f:Nat->Nat->Int)(x:Nat->Int){j:Nat}(hj:j<n):det n (jz f j fun i=>sm n fun k=>f i k*x k)=x j*det n f:=by
 have e0:(fun i=>sm n fun k=>f i k*x k)=fun i=>sm n fun k=>x k*f i k:=funext fun i=>aH fun k _=>Int.mul_comm ..;rw[e0,nj f hj x (fun k i=>f i k)];have e2:sm n (fun k=>x k*det n (jz f j fun i=>f i k))=sm n (fun k=>if k=j then x j*det n f else 0):=aH fun k hk=>by
  by_cases c:k=j
  ·rw[if_pos c,c,mH]
  ·rw[if_neg c];have z:det n (jz f j fun i=>f i k)=0:=by
    rcases Nat.lt_or_gt_of_ne c with l|l
    ·exact m6 l hj fun i _=>by rw[eY,jH (by omega)]
    ·exact m6 l hk fun i _=>by rw[eY,jH (by omega)]
   rw[z,Int.mul_zero]
 rw[e2,cM,if_pos hj]
theorem Mh{b:Int}{n:Nat}{f:Nat->Nat->Int}{x:Nat->Int}(h:Rel b n n f x){j:Nat}(hj:j<n):tk b (x j*det n f)=0:=by
 have hx:∀i,∃e,i<n->(sm n fun k=>f i k*x k)=b*e:=fun i=>by
  by_cases c:i<n
  ·obtain⟨e,he⟩:=d7.mp (h i c);exact⟨e,fun _=>he⟩
  ·exact⟨0,fun z=>absurd z c⟩
 obtain⟨e,he⟩:=Classical.skolem.mp hx;rw[<-rT f x hj];have e1:det n (jz f j fun i=>sm n fun k=>f i k*x k)=det n (jz f j fun i=>b*e i+0):=cB fun i k hi _=>by
  unfold jz;split
  ·show(sm n fun k=>f i k*x k)=b*e i+0;rw[he i hi,Int.add_zero]
  ·rfl
 rw[e1,gW f hj b e (fun _=>0),lW f hj,Int.add_zero];exact d7.mpr ⟨_,rfl⟩
theorem Ag{b:Int}{n:Nat}{f:Nat->Nat->Int}(hD:Dom b)(h:tk b (det n f)≠0):Ind b n n f:=fun x hx k hk=>
 hD (det n f) (x k) h (by rw[Int.mul_comm];exact Mh hx hk)
structure Cp(b:Int)(n:Nat)(A0:Nat->Nat->Int)(c:Nat)(A:Nat->Nat->Int)(hd:Nat->Nat)(r:Nat):Prop where
 sw:Swp n A0 A
 nz:tk b (dt A hd r)≠0
 rn:r<=n
 hc:∀h,h<r->hd h<c
 up:∀h h',h<h'->h'<r->hd h<hd h'
 zero:∀k,k<c->(∀h,h<r->hd h≠k)->∀i,r<=i->i<n->tk b (En A hd r i k)=0
theorem Cp.bring{b:Int}{n:Nat}{A0:Nat->Nat->Int}{c:Nat}{A:Nat->Nat->Int}{hd:Nat->Nat}{r:Nat}(h:Cp b n A0 c A hd r){a:Nat}(hra:r<a)(han:a<n):Cp b n A0 c (turn A r a) hd r:=
 ⟨.step h.sw hra han,by rw[CM (Nat.le_refl _) (by omega)];exact h.nz,h.rn,h.hc,h.up,fun k hk hn i h1 h2=>by
  rw[Ba (Nat.le_refl _) hra];split
  ·exact h.zero k hk hn a (by omega) han
  ·split
   ·exact nW (h.zero k hk hn r (Nat.le_refl _) (by omega))
   ·exact h.zero k hk hn i h1 h2⟩
theorem Cp.free{b:Int}{n:Nat}{A0:Nat->Nat->Int}{c:Nat}{A:Nat->Nat->Int}{hd:Nat->Nat}{r:Nat}(h:Cp b n A0 c A hd r)(hD:Dom b)(hrn:r<n)(hp:tk b (En A hd r r c)≠0):Cp b n A0 (c+1) A (more hd r c) (r+1):=by
 have hpi:En A hd r r c≠0:=fun z=>hp (by rw[z];exact tk0 b);have ml:∀j,j<r->more hd r c j=hd j:=fun j hj=>if_neg (by omega);have me:more hd r c r=c:=if_pos rfl;refine⟨h.sw,by rw[Hw];exact hp,by omega,fun j hj=>?_,fun j j' h1 h2=>?_,fun k hk hn i h1 h2=>?_⟩
 ·by_cases e:j=r
  ·rw[e,me];omega
  ·rw[ml j (by omega)];have:=h.hc j (by omega);omega
 ·by_cases e:j'=r
  ·rw[e,me,ml j (by omega)];exact h.hc j (by omega)
  ·rw[ml j' (by omega),ml j (by omega)];exact h.up j j' h1 (by omega)
 ·have hkc:k≠c:=fun e=>hn r (by omega) (by rw[me,e]);have hn':∀j,j<r->hd j≠k:=fun j hj=>by rw[<-ml j hj];exact hn j (by omega)
  refine hD _ _ h.nz ?_;rw[HX hpi (by omega)];exact Hz (BD _ (h.zero k (by omega) hn' i (by omega) h2)) (BD _ (h.zero k (by omega) hn' r (Nat.le_refl _) hrn))
theorem Cp.step{b:Int}{n:Nat}{A0:Nat->Nat->Int}{c:Nat}{A:Nat->Nat->Int}{hd:Nat->Nat}{r:Nat}(h:Cp b n A0 c A hd r)(hD:Dom b):∃A hd r,Cp b n A0 (c+1) A hd r:=by
 by_cases z:∀i,r<=i->i<n->tk b (En A hd r i c)=0
 ·refine⟨A,hd,r,h.sw,h.nz,h.rn,fun j hj=>by have:=h.hc j hj;omega,h.up,fun k hk hn i h1 h2=>?_⟩;by_cases e:k=c
  ·rw[e];exact z i h1 h2
  ·exact h.zero k (by omega) hn i h1 h2
 ·obtain⟨i,hi⟩:=Classical.not_forall.mp z;obtain⟨h1,hi⟩:=Classical.not_imp.mp hi;obtain⟨h2,hi⟩:=Classical.not_imp.mp hi;by_cases e:i=r
  ·rw[e]at hi;exact⟨_,_,_,h.free hD (by omega) hi⟩
  ·refine⟨_,_,_,(h.bring (a:=i) (by omega) h2).free hD (by omega) ?_⟩;rw[Ba (Nat.le_refl _) (by omega),if_pos rfl];exact hi
theorem Cp.ex{b:Int}(hD:Dom b)(h1:tk b 1≠0)(n:Nat)(A0:Nat->Nat->Int):∀c,∃A hd r,Cp b n A0 c A hd r
 |0=>⟨A0,fun _=>0,0,.refl,by rw[HS];exact h1,Nat.zero_le _,fun h hh=>absurd hh (Nat.not_lt_zero _),fun _ _ _ h=>absurd h (Nat.not_lt_zero _),fun k hk=>absurd hk (Nat.not_lt_zero _)⟩
 |c+1=>by
  obtain⟨A,hd,r,h⟩:=Cp.ex hD h1 n A0 c;exact h.step hD
theorem Bh{hd:Nat->Nat}{r m:Nat}(hc:∀h,h<r->hd h<m)(up:∀h h',h<h'->h'<r->hd h<hd h')(sur:∀k,k<m->∃j,j<r/\hd j=k):r=m/\∀k,k<m->hd k=k:=by
 have ge:∀j,j<r->j<=hd j:=fun j=>by
  induction j with
  |zero=>intro _;exact Nat.zero_le _
  |succ j ih=>
   intro hj;have:=ih (by omega);have:=up j (j+1) (by omega) hj;omega
 have all:∀k,k<m->k<r/\hd k=k:=fun k=>by
  induction k using Nat.strongRecOn with
  |ind k ih=>
   intro hk;obtain⟨j,hj,e⟩:=sur k hk;have g:=ge j hj;by_cases c:j=k
   ·rw[<-c];exact⟨hj,by rw[e,c]⟩
   ·have:=(ih j (by omega) (by omega)).2;omega
 refine⟨?_,fun k hk=>(all k hk).2⟩;by_cases c:r<=m
 ·by_cases c2:r=m
  ·exact c2
  ·have:=(all r (by omega)).1;omega
 ·have:=hc m (by omega);have:=ge m (by omega);omega
theorem zN{b:Int}{n:Nat}{A0:Nat->Nat->Int}(hD:Dom b)(h1:tk b 1≠0)(hI:Ind b n n A0):tk b (det n A0)≠0:=by
 obtain⟨A,hd,r,h⟩:=Cp.ex hD h1 n A0 n;have H:=Bh h.hc h.up fun k hk=>by
  by_cases c:∃j,j<r/\hd j=k
  ·exact c
  ·exfalso
   have hn:∀j,j<r->hd j≠k:=fun j hj e=>c ⟨j,hj,e⟩;have R:=Ey (A:=A) (hd:=hd) (r:=r) (m:=n) (k:=k) (b:=b) (n:=n) h.hc hk (h.zero k hk hn);have z:=hI _ (h.sw.rel.mpr R) k hk;rw[if_pos rfl,gC (fun j hj=>by rw[if_neg (fun e=>hn j hj e.symm)]),Int.zero_sub]at z;have:=nW z;rw[Int.neg_neg]at this;exact h.nz this
 obtain⟨e,H⟩:=H;subst e;rw[<-h.sw.det];have:=h.nz;have q:dt A hd r=det r A:=cB fun i k _ hk=>by unfold Bk;rw[H k hk]
 rwa [q]at this
end Dm
namespace Dm
open Pm Rm
def hk(a:Nat->Int):Nat->Nat->Int:=fun i j=>a (i+j)
theorem K7(x a:Nat->Int)(l i:Nat):sm l (fun k=>hk a i k*x k)=ks (ofF l x) a i:=by
 unfold ks;rw[aZ];refine aH fun k hk'=>?_;rw[bZ,if_pos hk',Int.mul_comm];rfl
theorem CZ{b:Int}(hD:Dom b)(h1:tk b 1≠0){L:List Int}{a:Nat->Int}(hL:Mon L)(hw:∀k,tk b (co L k)=co L k)(hK:Kp b L a)(hm:∀q,Kp b q a->Dv b L (co q)):tk b (det (L.length-1) (hk a))≠0:=by
 refine zN hD h1 fun x hx k hk'=>?_;have e:=gP hw hL;have ha:∀n,(cG b L).length<=n->tk b (a n)=tk b (S (cG b L) a n (cG b L).length):=Kp.rec (by rw[e];exact hK);have hq:Kp b (ofF (L.length-1) x) a:=DP ha fun n hn=>by
  rw[dj]at hn;rw[<-K7];exact hx n hn
 have z:=(hm _ hq).short hL (by have:=Fs.co (ofF (L.length-1) x);rwa [aZ]at this) k
 rwa [bZ,if_pos hk']at z
theorem AH{b:Int}(hD:Dom b){l:Nat}{a:Nat->Int}(h:tk b (det l (hk a))≠0){q:List Int}(hq:q.length<=l)(hK:Kp b q a):∀k,tk b (co q k)=0:=fun k=>by
 have hI:=Ag hD h (co q) fun i hi=>by
  rw[K7];have e:ks (ofF l (co q)) a i=ks q a i:=by
   rw[<-jQ q a i hq];unfold ks;rw[aZ];exact aH fun k hk'=>by rw[bZ,if_pos hk']
  rw[e];exact hK i
 by_cases c:k<l
 ·exact hI k c
 ·rw[bN (by omega),tk0]
theorem Dom.pr{p:Nat}(hp:Om.cC p):Dom (p:Int):=fun x y hx h=>by
 have h2:=hp.1;obtain⟨e,he⟩:=d7.mp h;rcases mD hp (x:=x) (y:=y) ⟨e,he⟩with⟨z,hz⟩|⟨z,hz⟩
 ·exact absurd (d7.mpr ⟨z,hz⟩) hx
 ·exact d7.mpr ⟨z,hz⟩
end Dm
namespace Pm
open Rm Dm
structure GcZ(P:List Int)(T:Nat->Int)(g:List Int)(N:Int):Prop where
 mon:Mon g
 py:Py 0 g
 ne:N≠0
 one:Dv 0 g (co P)
 two:Dv 0 g T
 all:∀h:List Int,Mon h->Dv 0 h (co P)->Dv 0 h T->Dv 0 h (co g)
 good:∀(p:Nat) (s:List Int),Om.cC p->¬(p:Int)∣N->Mon s->Dv p s (co P)->Dv p s T->s.length<=g.length
theorem Dv.by{b:Int}{m:List Int}{f:Nat->Int}(h:Dv 0 m f):Dv b m f:=by
 obtain⟨s,n,hs,h⟩:=h;exact⟨s,n,hs,fun k=>by have:=h k;rw[bK,bK]at this;rw[this]⟩
theorem Dv.len{b:Int}(h1:tk b 1=1){m p:List Int}(hm:Mon m)(hp:Mon p)(h:Dv b m (co p)):m.length<=p.length:=by
 by_cases c:m.length<=p.length
 ·exact c
 ·exfalso
  have:=h.short hm ((Fs.co p).mono (by omega)) (p.length-1);rw[hp.one,h1]at this;exact absurd this (by decide)
theorem mY{b:Int}(h1:tk b 1=1){P g:List Int}(hP:Mon P)(hg:Mon g)(h:Dv b g (co P)):∃L:List Int,Mon L/\(∀k,tk b (co L k)=co L k)/\L.length+g.length=P.length+1/\∀k,tk b (co P k)=tk b (cv (co L) (co g) k):=by
 have hl:=h.len h1 hg hP;have hp:=hP.pos;have hgp:=hg.pos;obtain⟨s,n,hs,h⟩:=h;have key:∀d j,n<=j+d->P.length-g.length<j->tk b (s j)=0:=fun d=>by
  induction d with
  |zero=>intro j hj _;rw[hs j hj,tk0]
  |succ d ih=>
   intro j hj hj2;have e:=h (j+(g.length-1));rw[bN (by omega),tk0,fY]at e;have e2:tk b (sm (j+(g.length-1)+1) fun i=>s i*co g (j+(g.length-1)-i))=tk b (sm (j+(g.length-1)+1) fun i=>if i=j then s j else 0):=jD fun i hi=>by
    by_cases c:i=j
    ·rw[if_pos c,c,Nat.add_sub_cancel_left,hg.one,Int.mul_one]
    ·rw[if_neg c,tk0];by_cases d2:i<j
     ·rw[bN (by omega),Int.mul_zero,tk0]
     ·rw[Int.mul_comm];exact ur _ (ih i (by omega) (by omega))
   rw[e2,cM,if_pos (by omega)]at e;exact e.symm
 have z:∀k,P.length-g.length<k->tk b (s k)=0:=fun k hk=>key n k (by omega) hk;have t1:tk b (s (P.length-g.length))=1:=by
  have e:=h (P.length-1);rw[hP.one,h1,fY]at e;have e2:tk b (sm (P.length-1+1) fun i=>s i*co g (P.length-1-i))=tk b (sm (P.length-1+1) fun i=>if i=P.length-g.length then s (P.length-g.length)else 0):=jD fun i hi=>by
   by_cases c:i=P.length-g.length
   ·rw[if_pos c,c,show P.length-1-(P.length-g.length)=g.length-1 by omega,hg.one,Int.mul_one]
   ·rw[if_neg c,tk0];by_cases d2:i<P.length-g.length
    ·rw[bN (by omega),Int.mul_zero,tk0]
    ·rw[Int.mul_comm];exact ur _ (z i (by omega))
  rw[e2,cM,if_pos (by omega)]at e;exact e.symm
 have hc:∀k,co (ofF (P.length-g.length+1) fun k=>tk b (s k)) k=tk b (s k):=fun k=>by
  rw[bZ];by_cases c:k<P.length-g.length+1
  ·rw[if_pos c]
  ·rw[if_neg c,z k (by omega)]
 refine⟨ofF (P.length-g.length+1) fun k=>tk b (s k),⟨by rw[aZ];omega,?_⟩,fun k=>?_,by rw[aZ];omega,fun k=>?_⟩
 ·rw[aZ,Nat.add_sub_cancel,hc,t1]
 ·rw[hc,iI]
 ·rw[h k];exact iH (fun i _=>by rw[hc,iI]) fun i _=>rfl
theorem oK{b:Int}{P:List Int}(hP:Mon P)(k:Nat):tk b (co P k)=tk b (co (aX b (cG b P)) k):=by
 have hp:=hP.pos;rw[aX,dg,aZ,dj];by_cases c:k<P.length-1
 ·rw[if_pos c,bZ,if_pos c,cG,bZ,if_pos (by omega),nA,iI];rw[show P.length-1-1-(P.length-1-1-k)=k by omega]
 ·rw[if_neg c];by_cases d:k=P.length-1
  ·rw[d,hP.one,Nat.sub_self];rfl
  ·rw[bN (by omega),bN (by simp;omega)]
theorem keepsP{b:Int}{P:List Int}{a:Nat->Int}(hm:Mon P)(hK:Kp b P a)(q:List Int):Kp b q a↔Dv b P (cv (co q) (tp P a)):=by
 have A:=tO hm.pos q hK;constructor
 ·intro h;have z:Dv b P (tp P (ks q a)):=(Dv.zero b _).congr fun k=>by
   have:=Lh (b:=b) (P:=P) (a:=ks q a) (a':=fun _=>0) (fun n=>by rw[h n,tk0]) k;rw[this];exact(congrArg (tk b) (show tp P (fun _=>0) k=0 from gC fun i _=>Int.mul_zero _)).symm
  exact(A.add z).congr fun k=>by rw[Int.sub_add_cancel]
 ·intro h;have z:Dv b P (tp P (ks q a)):=(h.sub A).congr fun k=>by
   rw[show cv (co q) (tp P a) k-(cv (co q) (tp P a) k-tp P (ks q a) k)=tp P (ks q a) k by omega]
  have n0:=yF hm (z.short hm (Aj _ _));have ha:∀n,(cG b P).length<=n->tk b (a n)=tk b (S (cG b P) a n (cG b P).length):=Kp.rec (hK.congr (oK hm));exact DP ha fun n hn=>n0 n (by rw[dj]at hn;exact hn)
theorem yq{b:Int}{m:List Int}(hm:Mon m){f g:Nat->Int}{n n':Nat}(hf:Fs f n)(hg:Fs g n')(h:∀k,tk b (cv f (co m) k)=tk b (cv g (co m) k)):∀k,tk b (f k)=tk b (g k):=fun k=>by
 refine dJ.mp (kJ (b:=b) hm (f:=fun k=>f k-g k) (n:=n+n') (fun k hk=>?_) (fun k _=>?_) k)
 ·show f k-g k=0;rw[hf k (by omega),hg k (by omega)];rfl
 ·have e:cv (fun k=>f k-g k) (co m) k=cv f (co m) k + -1*cv g (co m) k:=by
   rw[<-fH,<-eU];exact fj (fun i _=>by omega) fun i _=>rfl
  rw[e,bB (h k) rfl,show ∀x:Int,x + -1*x=0 from fun x=>by omega,tk0]
theorem Gv{P:List Int}{a:Nat->Int}(hP:Mon P)(hK:Kp 0 P a):∃g L,Mon L/\Py 0 L/\Kp 0 L a/\(∀q,Kp 0 q a->Dv 0 L (co q))/\L.length+g.length=P.length+1/\(∀k,co P k=cv (co L) (co g) k)/\GcZ P (tp P a) g (det (L.length-1) (hk a)):=by
 obtain⟨L,hL,hLy,hKL,hLP,hall,_⟩:=R5 hP hK;obtain⟨g,hg,hgy,hlen,hE⟩:=mY (b:=0) rfl hP hL (hall P hK);have hE':∀k,co P k=cv (co g) (co L) k:=fun k=>by have:=hE k;rwa [bK,bK]at this
 have hgP:Py 0 g:=⟨fZ (fun z=>by have:=hg.pos;rw[z]at this;exact absurd this (by decide)) (by rw[hg.one];decide),fun x _=>bK x⟩;have hLp:=hL.pos;have hgp:=hg.pos;refine⟨g,L,hL,hLy,hKL,hall,by omega,fun k=>by rw[hE',dX],hg,hgP,?_,⟨co L,L.length,Fs.co L,fun k=>by rw[hE',dX]⟩,?_,fun h hh h1 h2=>?_,fun p s hp hN hs h1 h2=>?_⟩
 ·have:=CZ Dom.zero (by decide) hL (fun k=>bK _) hKL hall
  rwa [bK]at this
 ·obtain⟨s,n,hs,e⟩:=(keepsP hP hK L).mp hKL;refine⟨s,n,hs,yq hL (Aj P a) (hs.cv (Fs.co g)) fun k=>?_⟩;rw[dX,e k,bV];exact congrArg (tk 0) (fj (fun _ _=>rfl) fun i _=>hE' i)
 ·obtain⟨A,hA,hAy,hAl,hAe⟩:=mY (b:=0) rfl hP hh h1;obtain⟨B,nB,hB,hBe⟩:=h2;have hKA:Kp 0 A a:=(keepsP hP hK A).mpr ⟨B,nB,hB,fun k=>by
   have e1:tk 0 (cv (co A) (tp P a) k)=tk 0 (cv (co A) (cv B (co h)) k):=iH (fun _ _=>rfl) fun i _=>hBe i;have e2:tk 0 (cv B (co P) k)=tk 0 (cv B (cv (co A) (co h)) k):=iH (fun _ _=>rfl) fun i _=>hAe i;rw[e1,e2,<-bV,<-bV];exact congrArg (tk 0) (fj (fun i _=>dX ..) fun _ _=>rfl)⟩
  obtain⟨C,nC,hC,hCe⟩:=hall A hKA;refine⟨C,nC,hC,yq hL (Fs.co g) (hC.cv (Fs.co h)) fun k=>?_⟩;rw[<-hE',hAe k,iH (fun i _=>hCe i) fun _ _=>rfl,bV,bV];exact congrArg (tk 0) (fj (fun _ _=>rfl) fun i _=>dX ..)
 ·have hp2:=hp.1;have hp1:tk (p:Int) 1=1:=by rw[fB (by omega)];exact Int.emod_eq_of_lt (by decide) (by omega)
  obtain⟨A,hA,hAy,hAl,hAe⟩:=mY (b:=p) hp1 hP hs h1;obtain⟨B,nB,hB,hBe⟩:=h2;have hKp:Kp p P a:=fun n=>by have:=hK n;rw[bK]at this;rw[this,tk0]
  have hKA:Kp p A a:=(keepsP hP hKp A).mpr ⟨B,nB,hB,fun k=>by
   have e1:tk p (cv (co A) (tp P a) k)=tk p (cv (co A) (cv B (co s)) k):=iH (fun _ _=>rfl) fun i _=>hBe i;have e2:tk p (cv B (co P) k)=tk p (cv B (cv (co A) (co s)) k):=iH (fun _ _=>rfl) fun i _=>hAe i;rw[e1,e2,<-bV,<-bV];exact congrArg (tk p) (fj (fun i _=>dX ..) fun _ _=>rfl)⟩
  by_cases c:A.length<=L.length-1
  ·exfalso
   have z:=AH (Dom.pr hp) (fun z=>hN (d7.mp z)) c hKA (A.length-1);rw[hA.one,hp1]at z;exact absurd z (by decide)
  ·omega
end Pm
namespace Dm
open Rm Pm
end Dm
namespace Pm
open Rm Dm
theorem Mj{p:Int}(hp:p≠0){x y:Int}:tk p x=tk p y↔p∣x-y:=by
 rw[<-dJ,d7];exact⟨fun⟨e,h⟩=>⟨e,h⟩,fun⟨e,h⟩=>⟨e,h⟩⟩
theorem CV{p:Nat}(hp:Om.cC p):tk (p:Int) 1=1:=by
 have:=hp.1;rw[fB (by omega)];exact Int.emod_eq_of_lt (by decide) (by omega)
theorem Dv.same{b:Int}(h1:tk b 1=1){m p:List Int}(hm:Mon m)(hp:Mon p)(h:Dv b m (co p))(hl:m.length=p.length)(k:Nat):tk b (co p k)=tk b (co m k):=by
 obtain⟨L,hL,_,hlen,e⟩:=mY h1 hp hm h;have hm0:=hm.pos;have h2:L.length=1:=by omega
 have e0:co L 0=1:=by have:=hL.one;rwa [h2]at this
 rw[e k];refine congrArg (tk b) ?_;rw[fY,fL (m:=1) (by omega) fun j h3 _=>by rw[bN (p:=L) (by omega),Int.zero_mul]];simp[sm,e0]
structure Seen(g:List Int)(N:Int)(p:Nat)(s:List Int):Prop where
 mon:Mon s
 nu:∀k,tk (p:Int) (co s k)=co s k
 ge:g.length<=s.length
 eq:s.length=g.length->∀k,(p:Int)∣co s k-co g k
 good:¬(p:Int)∣N->s.length=g.length
theorem In2.to{b:Int}{g p q:List Int}(h:In2 b g [] p)(e:∀k,tk b (co p k)=tk b (co q k)):Dv b g (co q):=by
 obtain⟨u,h⟩:=h.dv;exact⟨co u,u.length,Fs.co u,fun k=>by rw[<-e,h]⟩
theorem GcZ.seen{P t g:List Int}{N:Int}(h:GcZ P (co t) g N){p:Nat}(hp:Om.cC p){P' t' s:List Int}(eP:∀k,tk (p:Int) (co P' k)=tk p (co P k))(et:∀k,tk (p:Int) (co t' k)=tk p (co t k))(hs:Gcd p P' t' s):Seen g N p s:=by
 have h2:=hp.1;have h1:=CV hp;have d1:Dv p s (co P):=hs.one.to eP;have d2:Dv p s (co t):=hs.two.to et;have d3:Dv p g (co s):=by
  obtain⟨u,v,e⟩:=hs.sum;refine((((h.one.by (b:=p))).mul (Fs.co u)).add ((h.two.by (b:=p)).mul (Fs.co v))).congr fun k=>?_;rw[e];exact bB (iH (fun _ _=>rfl) fun i _=>(eP i).symm) (iH (fun _ _=>rfl) fun i _=>(et i).symm)
 have hge:=d3.len h1 h.mon hs.mon;exact⟨hs.mon,hs.py.co,hge,fun e k=>(Mj (by omega)).mp (d3.same h1 h.mon hs.mon e.symm k),fun z=>by
  have:=h.good p s hp z hs.mon d1 d2;omega⟩
theorem GcZ.told{P t g h:List Int}{N:Int}(H:GcZ P (co t) g N)(hh:Mon h)(h1:Dv 0 h (co P))(h2:Dv 0 h (co t))(hl:g.length<=h.length):h=g:=by
 have d:=H.all h hh h1 h2;have:=d.len rfl hh H.mon;exact jN (by omega) fun k=>by have:=d.same rfl hh H.mon (by omega) k;rw[bK,bK]at this;exact this.symm
def nr(M x:Int):Int:=if 2*(x%M)>M then x%M-M else x%M
def Nr(M x:Int):Prop:=-M<2*x/\2*x<=M
theorem zx(M x:Int):M∣nr M x-x:=by
 have e:=Int.emod_add_mul_ediv x M;unfold nr;split
 ·exact⟨-(x/M)-1,by rw[Int.mul_sub,Int.mul_neg];omega⟩
 ·exact⟨-(x/M),by rw[Int.mul_neg];omega⟩
theorem v9{M:Int}(hM:0<M)(x:Int):Nr M (nr M x):=by
 have h0:=Int.emod_nonneg x (show M≠0 by omega);have h1:=Int.emod_lt_of_pos x hM;unfold nr Nr;split<;>omega
theorem Nr.eq{M x y:Int}(hM:0<M)(hx:Nr M x)(hy:Nr M y)(h:M∣x-y):x=y:=by
 obtain⟨c,hc⟩:=h;unfold Nr at hx hy;by_cases c0:c=0
 ·rw[c0,Int.mul_zero]at hc;omega
 ·exfalso
  rcases Int.lt_or_gt_of_ne c0 with l|l
  ·have:M*c<=M*(-1):=Int.mul_le_mul_of_nonneg_left (by omega) (by omega);omega
  ·have:M*1<=M*c:=Int.mul_le_mul_of_nonneg_left (by omega) (by omega);omega
theorem J1{M:Int}(hM:2<=M){x:Int}(h:M∣x-1):nr M x=1:=Nr.eq (M:=M) (by omega) (v9 (by omega) x) (by unfold Nr;omega) (by
 have:=Int.dvd_add (zx M x) h
 rwa [show nr M x-x+(x-1)=nr M x-1 by omega]at this)
theorem uw{M:Int}{p:Nat}(hp:Om.cC p)(hM:¬(p:Int)∣M){x:Int}(h1:M∣x)(h2:(p:Int)∣x):M*p∣x:=by
 obtain⟨y,rfl⟩:=h1;rcases mD hp h2 with z|⟨e,he⟩
 ·exact absurd z hM
 ·exact⟨e,by rw[he,Int.mul_assoc]⟩
structure WgI(P g:List Int)(N:Int)(told:List Int)(M:Int)(prime:Nat)(ripe:Bool)(bad good:Nat):Prop where
 mon:Mon told
 ge:g.length<=told.length
 le:told.length<=P.length
 pos:0<M
 div:∀q:Nat,Om.cC q->(q:Int)∣M->q<=prime
 cong:told.length=g.length->∀k,M∣co told k-co g k
 near:M≠1->∀k,Nr M (co told k)
 bads:∃X:Nat,(X:Int)∣N/\2^(19*bad)<=X/\∀q:Nat,Om.cC q->q∣X->q<=prime
 goods:0<good->told.length=g.length/\2^(19*good)<=M
 ripes:2<=good->(∀k,2*(co g k).natAbs<2^(19*(good-1)))->ripe=true/\told=g
 hi:M<=2^(21*(bad+good))
 first:M=1->told=P
theorem WgI.start{P g:List Int}{N:Int}(hP:Mon P)(hl:g.length<=P.length)(prime:Nat):WgI P g N P 1 prime true 0 0:=
 ⟨hP,hl,Nat.le_refl _,by decide,fun q hq h=>by
  have:=hq.1;have h3:=Int.le_of_dvd (by decide) h;omega,fun _ k=>⟨_,(Int.one_mul _).symm⟩,fun h=>absurd rfl h,⟨1,⟨N,(Int.one_mul N).symm⟩,by decide,fun q hq h=>by
  have:=hq.1;have h3:=Nat.le_of_dvd (by decide) h;omega⟩,fun h=>absurd h (by decide),fun h=>absurd h (by decide),by decide,fun _=>rfl⟩
theorem pQ{N:Int}{prime p bad:Nat}(hp:Om.cC p)(hlt:prime<p)(hbig:2^19<=p)(hN:(p:Int)∣N)(h:∃X:Nat,(X:Int)∣N/\2^(19*bad)<=X/\∀q:Nat,Om.cC q->q∣X->q<=prime):
  ∃X:Nat,(X:Int)∣N/\2^(19*(bad+1))<=X/\∀q:Nat,Om.cC q->q∣X->q<=p:=by
 obtain⟨X,h1,h2,h3⟩:=h;refine⟨X*p,?_,?_,fun q hq hd=>?_⟩
 ·have:=uw (M:=(X:Int)) hp (fun z=>by have:=h3 p hp (Int.ofNat_dvd.mp z);omega) h1 hN
  rwa [Int.natCast_mul]
 ·rw[Nat.mul_add,Nat.pow_add];exact Nat.mul_le_mul h2 hbig
 ·rcases hq.dvd hd with z|z
  ·have:=h3 q hq z;omega
  ·exact Nat.le_of_dvd (by omega) z
theorem WgI.stay{P g told s:List Int}{N M:Int}{prime p bad good:Nat}{ripe:Bool}(h:WgI P g N told M prime ripe bad good)(hp:Om.cC p)(hlt:prime<p)(hbig:2^19<=p)(hs:Seen g N p s)(hl:told.length<s.length):WgI P g N told M p ripe (bad+1) good:=by
 have hN:(p:Int)∣N:=Classical.byContradiction fun z=>by have:=hs.good z;have:=h.ge;omega
 exact⟨h.mon,h.ge,h.le,h.pos,fun q hq hd=>by have:=h.div q hq hd;omega,h.cong,h.near,pQ hp hlt hbig hN h.bads,h.goods,h.ripes,Int.le_trans h.hi (by
  have:(2:Nat)^(21*(bad+good))<=2^(21*(bad+1+good)):=Nat.pow_le_pow_right (by decide) (by omega)
  exact_mod_cast this),h.first⟩
theorem WgI.anew{P g told s:List Int}{N M:Int}{prime p bad good:Nat}{ripe:Bool}(h:WgI P g N told M prime ripe bad good)(hp:Om.cC p)(hlt:prime<p)(hbig:2^19<=p)(hhi:p<=2^21)(hs:Seen g N p s)(hl:s.length<told.length):
  ∃bad' good',bad'+good'=bad+good+1/\WgI P g N (s.map (nr p)) p p true bad' good':=by
 have hp2:=hp.1;have hg0:good=0:=by
  by_cases c:good=0
  ·exact c
  ·have:=(h.goods (by omega)).1;have:=hs.ge;omega
 have hle:=h.le;have hsp:=hs.mon.pos;have hpp:(2:Int)<=p:=by omega
 have hc:∀k,co (s.map (nr p)) k=nr p (co s k):=fun k=>pD (by unfold nr;rw[Int.zero_emod];split<;>omega) s k;have hm:Mon (s.map (nr p)):=⟨by rw[List.length_map];exact hsp,by rw[List.length_map,hc,hs.mon.one];exact J1 hpp ⟨0,by rw[Int.mul_zero];rfl⟩⟩;have hcong:(s.map (nr p)).length=g.length->∀k,(p:Int)∣co (s.map (nr p)) k-co g k:=fun e k=>by
  rw[hc];have:=Int.dvd_add (zx p (co s k)) (hs.eq (by rwa [List.length_map]at e) k)
  rwa [show nr p (co s k)-co s k+(co s k-co g k)=nr p (co s k)-co g k by omega]at this
 have hnear:(p:Int)≠1->∀k,Nr p (co (s.map (nr p)) k):=fun _ k=>by rw[hc];exact v9 (by omega) _
 have hdiv:∀q:Nat,Om.cC q->(q:Int)∣p->q<=p:=fun q _ hd=>Nat.le_of_dvd (by omega) (Int.ofNat_dvd.mp hd);by_cases c:s.length=g.length
 ·refine⟨bad,1,by omega,hm,by rw[List.length_map];exact hs.ge,by rw[List.length_map];omega,by omega,hdiv,hcong,hnear,?_,fun _=>⟨by rw[List.length_map];exact c,by exact_mod_cast hbig⟩,fun z=>absurd z (by decide),?_,fun z=>by omega⟩
  ·obtain⟨X,h1,h2,h3⟩:=h.bads;exact⟨X,h1,h2,fun q hq hd=>by have:=h3 q hq hd;omega⟩
  ·have:(2:Nat)^21<=2^(21*(bad+1)):=Nat.pow_le_pow_right (by decide) (by omega)
   exact_mod_cast Nat.le_trans hhi this
 ·have hN:(p:Int)∣N:=Classical.byContradiction fun z=>c (hs.good z);refine⟨bad+1,0,by omega,hm,by rw[List.length_map];exact hs.ge,by rw[List.length_map];omega,by omega,hdiv,hcong,hnear,pQ hp hlt hbig hN h.bads,fun z=>absurd z (by decide),fun z=>absurd z (by decide),?_,fun z=>by omega⟩;have:(2:Nat)^21<=2^(21*(bad+1+0)):=Nat.pow_le_pow_right (by decide) (by omega)
  exact_mod_cast Nat.le_trans hhi this
theorem WgI.join{P g told s told':List Int}{N M:Int}{prime p bad good:Nat}{ripe ripe':Bool}(h:WgI P g N told M prime ripe bad good)(hp:Om.cC p)(hlt:prime<p)(hbig:2^19<=p)(hhi:p<=2^21)(hs:Seen g N p s)(hl:s.length=told.length)
  (hl':told'.length=told.length) (ht:∀k,k<told.length->∃w:Int,(p:Int)∣M*w-(co s k-co told k)/\co told' k=nr (M*p) (co told k+M*w)) (hr:ripe'=true↔told'=told):
  ∃bad' good',bad'+good'=bad+good+1/\WgI P g N told' (M*p) p ripe' bad' good':=by
 have hp2:=hp.1;have hM:=h.pos;have hpM:¬(p:Int)∣M:=fun z=>by have:=h.div p hp z;omega
 have hpp:(2:Int)<=p:=by omega
 have hMp:(2:Int)<=M*p:=by
  have:1*(2:Int)<=M*p:=Int.mul_le_mul (by omega) hpp (by decide) (by omega);omega
 have hle:=h.le;have hge:=h.ge;have htp:=h.mon.pos;have a1:∀k,M∣co told' k-co told k:=fun k=>by
  by_cases c:k<told.length
  ·obtain⟨w,_,e⟩:=ht k c;rw[e];have e1:M∣nr (M*p) (co told k+M*w)-(co told k+M*w):=Int.dvd_trans (Int.dvd_mul_right M p) (zx _ _);have e2:M∣M*w:=Int.dvd_mul_right ..;have:=Int.dvd_add e1 e2
   rwa [show nr (M * ↑p) (co told k+M*w)-(co told k+M*w)+M*w=nr (M * ↑p) (co told k+M*w)-co told k by omega]at this
  ·rw[bN (by omega),bN (by omega)];exact⟨0,by rw[Int.mul_zero];rfl⟩
 have a2:∀k,(p:Int)∣co told' k-co s k:=fun k=>by
  by_cases c:k<told.length
  ·obtain⟨w,h1,e⟩:=ht k c;rw[e];have e1:(p:Int)∣nr (M*p) (co told k+M*w)-(co told k+M*w):=Int.dvd_trans (Int.dvd_mul_left M p) (zx _ _);have:=Int.dvd_add e1 h1
   rwa [show nr (M * ↑p) (co told k+M*w)-(co told k+M*w)+(M*w-(co s k-co told k))=nr (M * ↑p) (co told k+M*w)-co s k by omega]at this
  ·rw[bN (by omega),bN (by omega)];exact⟨0,by rw[Int.mul_zero];rfl⟩
 have hnear:M*p≠1->∀k,Nr (M*p) (co told' k):=fun _ k=>by
  by_cases c:k<told.length
  ·obtain⟨w,_,e⟩:=ht k c;rw[e];exact v9 (by omega) _
  ·rw[bN (by omega)];unfold Nr;omega
 have hlast:co told' (told'.length-1)=1:=by
  rw[hl'];refine Nr.eq (M:=M*p) (by omega) (hnear (by omega) _) (by unfold Nr;omega) (uw hp hpM ?_ ?_)
  ·have:=a1 (told.length-1)
   rwa [h.mon.one]at this
  ·have:=a2 (told.length-1);have e:=hs.mon.one;rw[hl]at e
   rwa [e]at this
 have hm:Mon told':=⟨by omega,hlast⟩;have hdiv:∀q:Nat,Om.cC q->(q:Int)∣M*p->q<=p:=fun q hq hd=>by
  rcases mD hq hd with z|z
  ·have:=h.div q hq z;omega
  ·exact Nat.le_of_dvd (by omega) (Int.ofNat_dvd.mp z)
 have hcong:told'.length=g.length->∀k,M*p∣co told' k-co g k:=fun e k=>by
  refine uw hp hpM ?_ ?_
  ·have:=Int.dvd_add (a1 k) (h.cong (by omega) k)
   rwa [show co told' k-co told k+(co told k-co g k)=co told' k-co g k by omega]at this
  ·have:=Int.dvd_add (a2 k) (hs.eq (by omega) k)
   rwa [show co told' k-co s k+(co s k-co g k)=co told' k-co g k by omega]at this
 have hhi':∀x,x=bad+good+1->M*p<=2^(21*x):=fun x hx=>by
  rw[hx,show 21*(bad+good+1)=21*(bad+good)+21 by omega,Int.pow_add];exact Int.mul_le_mul h.hi (by exact_mod_cast hhi) (by omega) (Int.le_of_lt (Int.pow_pos (by decide)))
 by_cases c:s.length=g.length
 ·refine⟨bad,good+1,by omega,hm,by omega,by omega,by omega,hdiv,hcong,hnear,?_,fun _=>⟨by omega,?_⟩,fun h2 hb=>?_,hhi' _ (by omega),fun z=>by omega⟩
  ·obtain⟨X,h1,h2,h3⟩:=h.bads;exact⟨X,h1,h2,fun q hq hd=>by have:=h3 q hq hd;omega⟩
  ·rw[show 19*(good+1)=19*good+19 by omega,Int.pow_add];refine Int.mul_le_mul ?_ (by exact_mod_cast hbig) (by decide) (by omega);by_cases c0:good=0
   ·rw[c0];show(1:Int)<=M;omega
   ·exact(h.goods (by omega)).2
  ·rw[Nat.add_sub_cancel]at hb;have hgo:=h.goods (by omega);have hM1:M≠1:=fun z=>by
    rw[z]at hgo;have h3:=hgo.2;have:(2:Int)^(19*1)<=2^(19*good):=by exact_mod_cast Nat.pow_le_pow_right (n:=2) (by decide) (show 19*1<=19*good by omega)
    have:(2:Int)^(19*1)=524288:=by decide
    omega
   have gn:∀k,Nr M (co g k):=fun k=>by
    have h3:=hb k;have h4:=hgo.2;have h5:((2*(co g k).natAbs:Nat):Int)<M:=Int.lt_of_lt_of_le (by exact_mod_cast h3) h4;unfold Nr;omega
   have et:told=g:=jN hgo.1 fun k=>(h.near hM1 k).eq hM (gn k) (h.cong hgo.1 k);have gn':∀k,Nr (M*p) (co g k):=fun k=>by
    have h3:=gn k;unfold Nr at h3⊢;have:M*1<=M*p:=Int.mul_le_mul_of_nonneg_left (by omega) (by omega);omega
   have et':told'=g:=jN (by omega) fun k=>(hnear (by omega) k).eq (by omega) (gn' k) (hcong (by omega) k);exact⟨hr.mpr (by rw[et',et]),et'⟩
 ·have hN:(p:Int)∣N:=Classical.byContradiction fun z=>c (hs.good z);have hg0:good=0:=by
   by_cases c0:good=0
   ·exact c0
   ·have:=(h.goods (by omega)).1;omega
  subst hg0;exact⟨bad+1,0,by omega,hm,by omega,by omega,by omega,hdiv,hcong,hnear,pQ hp hlt hbig hN h.bads,fun z=>absurd z (by decide),fun z=>absurd z (by decide),hhi' _ (by omega),fun z=>by omega⟩
theorem WgI.few{P g told:List Int}{N M:Int}{prime bad good U V:Nat}{ripe:Bool}(h:WgI P g N told M prime ripe bad good)(hN:N≠0)(hV:Bd V N)(hU:∀k,Bd U (co g k))(hne:¬(ripe=true/\told=g)):19*(bad+good)<=V+U+38:=by
 obtain⟨X,h1,h2,_⟩:=h.bads;have b1:19*bad<=V:=by
  have h3:=Nat.le_of_dvd (by omega) (pA.mp h1);have h4:2^(19*bad)<2^V:=Nat.lt_of_le_of_lt (Nat.le_trans h2 h3) hV;have:=(Nat.pow_lt_pow_iff_right (by decide:1<2)).mp h4;omega
 have b2:19*good<=U+38:=by
  by_cases c:2<=good
  ·by_cases d:∀k,2*(co g k).natAbs<2^(19*(good-1))
   ·exact absurd (h.ripes c d) hne
   ·obtain⟨k,hk⟩:=Classical.not_forall.mp d;have h3:(co g k).natAbs<2^U:=hU k;have h4:2^(19*(good-1))<2^(U+1):=by rw[Nat.pow_succ];omega
    have:=(Nat.pow_lt_pow_iff_right (by decide:1<2)).mp h4;omega
  ·omega
 omega
end Pm
namespace Om
theorem qP{n:Nat}(h2:2<=n)(h:∀d,2<=d->d*d<=n->¬d∣n):cC n:=⟨h2,fun d hd=>by
 by_cases c1:d=1
 ·exact .inl c1
 by_cases c2:d=n
 ·exact .inr c2
 exfalso
 obtain⟨e,he⟩:=hd;have d0:d≠0:=fun z=>by rw[z,Nat.zero_mul]at he;omega
 have e0:e≠0:=fun z=>by rw[z,Nat.mul_zero]at he;omega
 have e1:e≠1:=fun z=>by rw[z,Nat.mul_one]at he;omega
 by_cases c:d<=e
 ·exact h d (by omega) (by rw[he];exact Nat.mul_le_mul_left d c) ⟨e,he⟩
 ·exact h e (by omega) (by rw[he];exact Nat.mul_le_mul_right e (by omega)) ⟨d,by rw[he,Nat.mul_comm]⟩⟩
theorem CT{n d:Nat}(h2:2<=d)(h:d*d<=n)(hd:d∣n):¬cC n:=fun hp=>by
 have:d*2<=d*d:=Nat.mul_le_mul_left d h2;rcases hp.2 d hd with e|e<;>omega
def PR:Nat:=43571519119201362812999826845982751305620981793717429470673603275936152927709399635933610669671466973821241878720715105717436485894379942430461626673440299163796924436746229228614460476842261843714753967609841797025310982960825865753598345091694825344721438391478216968398650913464229700972723456395252658036295111351718208197542229884535562911430701228833268752819967566938433518416018400115565501955319083147587583881953995536441781216694995306260888155507575210
theorem JK:∀d,d<1100->2<=d->Nat.gcd d PR≠1:=by decide +kernel
theorem CW{n:Nat}(h2:2<=n)(hn:n<1210000)(h:Nat.gcd n PR=1):cC n:=qP h2 fun d hd hdd hdv=>by
 by_cases c:d<1100
 ·refine JK d c hd ?_;have:Nat.gcd d PR∣Nat.gcd n PR:=Nat.dvd_gcd (Nat.dvd_trans (Nat.gcd_dvd_left ..) hdv) (Nat.gcd_dvd_right ..);rw[h]at this;exact Nat.dvd_one.mp this
 ·have:1100*1100<=d*d:=Nat.mul_le_mul (by omega) (by omega);omega
def steps:List Nat:=[3,30,4,2,42,18,18,4,12,18,8,12,12,4,6,6,12,2,18,18,4,20,16,2,12,10,20,24,10,14,12,4,6,6,14,4,2,24,4,50,30,4,6,30,2,10,20,10,2,18,12,16,2,10,12,6,24,2,40,14,16,36,18,2,10,2,28,18,12,2,10,38,4,8,18,4,14,6,4,14,28,12,6,2,4,14,16,30,6,14,4,14,6,22,18,30,12,12,12,8,10,2,4,20,6,16,12,6,2,12,10,20,16,12,8,24,10,26,4,18,2,12,6,18,6,28,8,10,20,10,14,4,26,10,20,40,14,4,6,2,12,10,8,72,22,8,6,6,24,4,2,6,28,32,12,12,4,6,8,10,8,12,22,6,2,22,18,36,14,6,10,2,4,26,10,42,2,4,2,10,2,16,26,24,6,18,6,10,14,6,6,10,8,6,6,4,26,16,8,6,36,4,24,6,26,30,4,6,2,18,12,16,2,4,14,10,12,8,4,30,2,4,6,8,16,6,6,14,4,12,2,42,6,22,2,16,20,10,38,4,6,6,6,2,22,8,52,6,2,40,18,14,6,12,16,30,12,2,10,2,4,2,12,16,14,6,16,30,6,38,10,26,6,40,12,8,10,2,6,4,48,14,18,18,4,8,6,6,4,6,8,16,30,2,22,38,10,8,10,2,4,18,12,14,6,64,6,20,4,6,14,12,28,2,18,4,20,6,42,12,12,40,6,8,6,10,14,6,40,8,30,28,12,8,4,8,16,6,18,26,10,14,10,6,32,52,6,2,10,2,6,10,36,14,6,4,2,12,18,18,76,30,8,6,46,14,4,6,20,6,6,10,12,8,22,2,6,22,6,24,2,10,18,26,16,6,8,6,6,10,2,28,18,6,20,4,14,18,10,12,2,18,18,4,14,10,2,18,10,14,12,10,24,14,10,2,28,12,24,2,18,6,4,14,16,2,22,8,42,10,60,6,6,50,28,2,18,6,22,12,18,14,4,14,16,26,24,4,32,10,14,4,2,10,6,2,6,12,4,24,2,12,6,4,8,4,14,12,22,2,4,2,22,2,4,2,12,10,6,24,2,40,8,22,6,2,22,14,6,18,12,4,12,24,6,20,4,20,4,14,60,10,18,12,18,12,2,16,48,6,8,16,2,4,8,6,36,4,12,20,10,8,4,30,2,24,12,22,8,10,18,2,10,8,24,12,6,24,28,12,6,48,2,10,8,22,14,6,22,6,14,16,12,12,18,8,16,14,22,8,22,8,40,2,10,38,4,30,2,10,8,10,8,4,6,2,18,4,6,8,4,18,12,6,6,6,8,30,4,12,14,4,30,12,6,18,2,12,6,24,12,4,14,6,4,2,58,30,26,24,6,6,6,10,14,6,4,6,8,10,6,54,6,8,16,6,20,6,22,6,2,10,2,12,4,14,16,26,6,4,14,24,6,16,8,16,2,18,4,2,4,42,42,18,24,30,6,2,12,16,8,12,22,2,4,2,4,8,30,10,2,10,14,10,32,4,6,2,16,30,12,12,36,24,18,14,4,2,4,26,4,6,2,6,30,6,4,12,30,2,10,2,16,2,22,14,4,8,4,14,12,18,16,6,18,26,4,12,2,6,24,6,22,14,28,8,12,6,10,6,6,2,18,58,14,6,34,6,20,12,18,6,16,14,28,8,18,10,14,12,28,2,4,6,30,36,12,2,46,2,12,24,12,22,2,34,26,28,6,32,24,4,24,26,4,8,4,8,30,6,6,18,10,8,10,30,18,12,38,6,4,44,12,4,30,2,28,2,4,6,8,4,12,8,6,12,24,10,18,20,16,2,4,14,12,28,24,2,10,8,12,16,8,30,4,6,2,12,16,30,2,24,4,24,26,4,8,4,6,32,6,4,8,42,12,6,10,12,6,14,6,10,24,12,66,30,14,6,24,4,2,10,2,30,10,8,18,4,6,20,22,14,4,12,14,16,18,2,18,10,62,4,24,20,6,4,14,12,6,28,2,22,12,6,30,8,6,4,6,30,14,12,12,12,6,12,12,4,12,12,18,2,6,12,10,18,14,48,4,6,18,2,12,10,2,10,6,8,10,6,18,8,18,6,6,4,24,2,10,14,18,6,4,18,12,2,4,20,6,16,12,8,4,14,4,12,18,12,6,2,18,22,18,2,30,42,16,12,36,14,12,4,6,6,20,12,12,10,80,10,44,6,24,10,2,10,14,4,12,12,30,8,48,22,2,28,2,40,6,24,2,24,4,2,30,6,12,22,6,18,2,12,30,10,6,12,12,2,4,12,12,26,6,18,22,6,8,6,6,4,8,28,12,2,6,22,2,10,60,14,22,8,24,28,24,8,6,4,6,12,8,4,12,20,4,2,30,28,2,4,24,14,16,2,12,6,4,18,2,10,18,8,54,6,12,18,6,28,18,8,10,14,22,24,14,10,8,28,20,22,2,10,12,6,14,16,8,30,4,12,30,6,8,10,2,18,34,12,20,16,20,30,4,8,6,4,6,6,8,12,4,26,4,12,20,4,8,28,8,70,32,40,12,2,4,2,34,6,14,10,18,2,6,4,8,10,18,2,6,10,6,18,8,10,2,10,30,2,24,34,30,6,12,14,4,12,8,6,16,44,10,6,14,10,18,6,14,6,10,6,6,48,14,10,18,2,12,4,6,18,2,16,14,6,22,12,14,6,10,6,14,28,2,18,6,4,6,26,40,36,2,16,2,12,28,2,18,4,18,12,36,8,30,40,2,4,8,16,2,12,10,20,22,18,8,42,6,12,24,4,6,6,50,4,6,30,2,10,18,12,6,2,12,6,12,12,36,4,20,10,2,18,16,20,22,12,8,18,16,6,14,6,10,18,50,16,6,2,6,4,8,4,6,18,6,8,10,6,6,8,46,2,10,24,6,2,58,12,2,6,48,6,4,6,24,2,24,10,20,10,6,2,28,32,6,12,18,10,20,4,6,2,22,8,34,30,6,38,10,12,2,36,34,6,12,14,54,24,6,10,6,24,6,18,20,10,8,4,24,20,54,10,8,10,8,24,6,12,24,30,16,24,30,8,22,6,2,18,4,6,18,12,2,18,4,30,6,8,12,18,4,2,4,42,14,6,10,14,4,24,6,12,8,10,14,6,6,6,24,10,26,10,2,6,16,26,10,44,4,20,12,28,14,6,4,6,6,8,16,32,10,12,2,4,20,22,12,2,10,20,6,4,14,4,8,24,6,22,2,4,12,14,54,22,8,10,6,24,6,6,2,12,4,6,6,2,10,6,24,12,18,18,8,12,10,8,4,12,26,4,24,44,30,6,4,2,10,14,6,6,10,18,2,22,8,4,24,6,14,6,60,10,14,12,10,24,8,28,8,16,8,18,10,12,6,6,6,12,20,6,34,26,12,12,16,26,6,10,20,12,36,16,6,18,2,34,8,6,22,18,24,2,4,12,2,6,6,28,12,14,6,18,28,2,6,6,4,2,10,2,6,4,18,24,24,6,8,6,4,2,30,4,2,28,2,24,16,18,26,10,6,2,10,12,6,2,6,4,2,24,4,2,34,2,4,8,6,16,14,12,12,16,6,20,4,54,20,10,6,44,6,24,10,2,10,24,14,36,6,6,18,16,6,8,24,6,12,12,18,18,10,12,42,2,10,38,6,16,20,6,12,12,30,10,6,8,4,26,12,4,8,10,8,28,6,6,2,40,12,38,36,4,2,4,2,40,14,6,18,24,10,2,4,2,4,6,12,42,18,20,18,4,6,14,24,6,6,12,18,10,32,12,24,24,16,6,6,20,12,10,8,12,18,4,30,14,4,38,18,4,6,20,12,4,18,6,26,30,4,6,26,4,18,6,2,28,2,4,14,12,10,2,10,2,4,12,24,8,6,22,2,18,4,6,42,6,20,12,22,20,10,6,14,6,24,42,10,44,22,2,10,2,18,18,52,12,6,12,6,14,70,2,4,2,24,4,14,30,10,30,12,14,4,8,4,48,8,12,12,6,18,42,28,30,6,6,2,6,10,2,18,22,12,8,12,10,6,6,44,4,30,12,24,12,18,2,10,2,18,24,30,6,24,4,6,8,10,8,28,26,16,24,20,10,18,12,18,8,12,10,8,4,8,6,6,24,10,12,12,8,10,8,34,12,6,12,2,6,18,10,2,4,8,36,6,6,22,8,18,4,6,6,6,2,22,24,6,14,4,32,10,14,6,4,2,24,16,18,6,20,6,4,24,6,8,10,18,32,10,2,18,12,6,10,24,14,34,6,2,18,22,14,4,12,20,34,14,4,6,12,2,6,12,10,18,72,2,6,4,2,18,12,28,18,8,12,4,24,30,2,18,10,2,22,2,4,36,6,14,18,28,12,12,8,10,6,6,14,12,10,8,22,2,40,26,16,14,4,2,4,6,68,6,6,4,2,30,24,24,4,30,8,12,18,4,14,6,6,28,12,12,2,4,24,2,4,32,10,12,2,24,4,20,16,30,30,2,10,14,10,18,8,10,8,4,12,18,20,16,12,30,2,10,26,34,18,8,4,6,32,12,12,4,2,4,26,28,2,18,24,6,16,30,36,8,6,10,14,10,12,12,2,4,2,18,6,4,12,42,12,30,8,40,38,18,16,8,6,6,6,18,4,12,18,8,10,2,6,6,4,12,12,8,40,2,10,6,6,8,10,12,20,10,30,6,8,10,2,4,56,4,18,26,34,2,6,30,48,4,8,10,2,16,20,30,16,6,12,2,54,10,2,12,12,4,26,6,28,6,30,20,10,36,2,12,4,12,12,18,2,12,10,14,66,6,4,26,12,6,10,12,12,8,10,38,4,12,14,12,18,16,8,6,4,8,10,2,22,20,4,2,24,34,6,8,6,12,18,4,6,6,14,16,6,8,6,10,8,16,26,4,6,36,8,34,20,6,10,36,20,4,12,2,18,22,2,24,22,8,6,10,14,16,6,30,2,6,4,2,6,10,12,6,2,22,20,10,32,4,24,20,12,6,22,6,44,6,10,42,8,4,8,42,6,12,10,2,10,42,18,18,8,6,28,12,36,18,2,4,38,22,20,16,2,10,8,4,24,6,8,10,6,6,8,16,20,6,16,30,14,16,2,6,30,6,10,44,6,4,24,36,2,18,4,20,28,42,36,12,2,10,8,10,14,24,10,42,12,2,10,8,16,14,16,2,4,6,18,14,10,2,16,12,32,16,14,6,4,36,8,30,10,12,2,10,12,6,2,48,4,18,6,32,42,12,58,18,8,40,2,18,4,36,24,20,40,2,18,10,12,26,28,12,8,12,10,12,6,2,24,4,14,6,10,12,14,24,6,4,24,6,12,2,16,14,30,12,18,6,6,4,26,6,30,4,14,4,8,12,6,12,12,12,30,6,4,30,6,2,6,4,2,28,6,14,42,6,10,2,40,6,20,6,4,20,4,2,6,10,20,28,12,32,10,8,34,48,2,16,8,6,6,4,24,2,4,6,14,6,12,6,6,28,2,4,14,10,6,6,6,20,4,6,8,10,20,4,18,8,34,2,28,30,2,4,12,8,6,48,10,8,18,6,6,4,8,6,22,12,2,24,60,24,36,16,6,18,2,40,2,30,18,4,24,20,4,6,6,14,10,12,2,12,4,2,10,2,30,28,8,6,16,14,4,2,22,6,32,24,18,16,2,10,2,12,10,36,18,14,10,6,2,18,22,12,2,6,48,22,2,36,4,12,8,18,18,6,4,12,8,4,2,4,12,24,38,10,2,6,24,6,4,14,12,24,18,16,30,24,32,24,4,6,14,30,6,10,6,14,24,12,10,18,2,18,18,4,20,6,4,14,22,2,16,2,4,6,20,28,6,14,16,8,10,18,8,6,18,6,4,8,10,48,26,10,18,2,18,10,38,40,24,24,32,4,6,14,4,24,2,24,12,28,2,4,20,16,8,4,8,24,10,20,30,10,6,18,2,4,8,6,4,20,6,10,12,8,4,8,10,2,12,4,2,22,20,48,12,22,6,14,18,6,24,18,34,6,12,18,12,6,2,12,48,18,4,6,2,10,18,6,6,30,2,22,20,4,6,30,8,22,8,6,22,12,2,48,12,6,22,6,2,34,6,8,6,70,20,16,12,12,20,4,6,14,10,2,10,8,54,10,26,4,6,24,8,10,8,6,34,20,6,4,26,18,16,26,4,20,4,2,58,6,6,6,8,24,10,18,12,26,16,6,14,10,14,12,12,16,6,20,18,16,2,10,12,2,4,26,4,42,8,16,14,30,12,4,6,2,16,24,2,6,4,6,38,4,8,10,8,46,8,18,12,28,14,24,10,6,20,6,10,24,26,10,2,16,2,4,6,8,6,28,18,2,16,14,6,4,26,40,6,8,12,4,6,48,32,24,4,12,48,6,14,12,4,2,4,24,2,12,28,2,16,12,14,16,18,42,20,30,10,18,14,6,16,6,2,36,34,6,2,34,6,8,4,32,4,20,6,10,50,4,24,20,6,10,14,52,30,6,20,10,18,6,14,54,6,4,20,10,12,6,30,20,22,8,22,6,2,10,2,18,4,8,12,6,22,12,6,2,6,16,6,2,12,16,8,84,16,12,14,18,10,6,20,4,8,28,2,34,6,14,18,10,32,16,2,16,32,22,6,2,12,46,14,16,2,22,6,2,4,14,6,4,6,8,6,6,24,4,12,8,10,8,30,10,8,4,8,22,8,52,36,6,8,18,10,2,6,10,12,2,12,4,2,34,18,2,16,2,12,16,12,2,6,18,4,6,12,14,6,24,48,6,22,2,10,36,14,6,12,24,6,4,8,6,6,34,2,24,10,18,2,28,30,6,20,22,8,6,30,6,12,12,4,6,6,20,4,14,12,30,12,22,8,10,20,18,4,38,6,4,8,4,6,12,2,10,8,42,4,6,18,30,2,16,8,4,2,36,22,2,24,12,4,8,18,28,12,12,18,18,32,4,6,42,6,6,14,10,2,10,12,2,48,6,6,10,6,24,26,22,18,20,10,8,12,12,36,4,2,28,18,12,36,14,12,24,36,6,22,2,4,14,36,6,4,6,8,10,8,4,8,58,12,2,6,12,12,28,18,8,24,52,14,12,10,12,12,8,10,12,14,30,4,2,4,2,18,22,18,6,20,18,22,20,4,6,6,2,6,6,58,6,2,4,6,8,12,4,24,2,22,2,6,22,18,12,38,4,18,12,26,12,6,36,6,10,12,6,12,2,6,6,16,8,10,20,10,14,12,4,2,10,44,4,6,14,4,12,8,6,12,28,6,8,6,22,30,8,12,30,10,14,4,26,6,10,24,36,8,30,6,4,2,10,2,10,6,12,2,28,2,22,6,8,4,8,18,12,4,38,10,30,26,6,10,8,6,16,18,2,18,30,6,6,6,22,2,4,26,10,6,24,6,8,4,32,4,30,2,12,28,18,24,2,4,12,2,12,4,42,18,6,14,16,6,14,4,2,10,12,2,34,14,12,10,8,12,16,12,36,2,10,24,36,2,18,10,12,18,44,4,56,18,6,10,32,18,4,2,16,8,4,32,6,60,4,6,2,12,4,30,2,18,6,66,18,4,18,2,18,4,6,14,34,2,10,38,22,8,30,22,8,10,2,28,14,16,2,18,4,6,14,10,68,12,6,10,20,6,16,14,4,30,20,16,18,8,18,16,6,32,10,2,18,16,12,8,10,12,8,4,2,6,18,16,24,2,30,10,8,24,10,2,6,18,4,2,4,6,18,26,6,6,12,28,48,2,10,12,8,12,22,6,12,8,28,2,58,2,4,14,4,18,2,10,2,10,8,16,14,12,10,6,42,12,8,18,22,2,4,36,6,12,20,10,8,10,8,10,2,4,14,16,6,2,12,60,4,2,10,50,4,20,4,2,42,12,18,18,34,14,4,6,20,4,32,10,14,60,10,32,10,12,2,10,6,12,8,4,14,6,28,20,22,6,8,4,38,24,10,6,8,22,8,10,20,10,12,2,6,12,10,44,28,20,12,16,12,6,6,14,12,4,8,16,12,2,6,4,2,28,2,4,6,18,18,8,12,24,18,16,36,6,48,26,16,8,22,12,2,6,4,14,12,10,8,6,4,12,20,30,4,8,12,16,24,14,4,2,4,20,10,30,26,18,18,12,6,6,4,6,6,8,4,2,28,6,2,42,12,10,14,22,12,2,18,10,12,26,4,56,12,16,2,22,6,32,4,6,2,12,28,26,10,6,8,6,12,18,24,30,10,6,12,2,6,16,30,6,14,40,30,18,20,82,14,6,4,2,4,26,4,8,30,6,34,2,34,12,2,12,36,12,16,20,6,4,2,10,8,24,18,10,2,58,8,4,2,4,20,4,66,30,6,8,10,12,6,14,40,24,12,8,6,36,10,2,10,18,8,36,6,4,6,12,20,10,6,12,2,18,4,6,14,34,12,8,30,12,4,18,8,22,8,10,18,2,30,10,14,10,14,22,8,4,18,8,4,36,12,2,22,20,16,12,8,18,4,38,18,6,18,10,6,32,10,2,6,12,10,12,6,2,4,80,4,14,6,22,14,6,10,42,2,4,14,10,2,4,6,36,20,34,30,14,12,12,12,4,20,30,4,2,10,6,32,22,8,12,4,2,40,32,10,12,14,22,32,6,4,8,4,6,8,6,76,2,10,6,36,24,2,4,8,22,8,18,28,14,22,18,6,14,28,12,6,20,4,6,12,2,18,10,12,6,14,10,2,6,4,24,74,6,10,6,14,10,2,10,8,12,40,8,4,6,36,90,6,8,4,18,2,12,4,6,20,10,6,12,12,18,42,36,2,10,8,10,2,12,6,24,4,12,8,34,2,6,12,6,4,6,26,6,4,8,12,30,6,10,2,16,20,6,34,6,8,18,28,6,14,10,2,12,18,10,18,6,6,38,4,2,10,36,44,6,12,12,10,50,6,18,4,20,6,36,24,22,18,6,14,6,30,24,4,2,24,22,2,40,2,18,10,6,2,34,18,26,12,4,8,16,12,8,6,10,6,8,34,18,12,2,28,12,24,24,6,6,6,2,60,18,24,18,6,4,30,12,18,8,18,12,12,12,4,14,12,4,14,6,16,6,8,12,10,12,26,12,28,2,4,8,10,2,16,20,4,36,12,8,4,6,24,14,24,6,22,2,10,6,24,6,6,24,6,8,10,2,6,22,42,20,6,10,2,12,16,12,20,22,6,8,12,10,14,4,6,18,18,8,40,12,2,18,34,6,14,30,6,4,30,8,22,18,6,12,20,10,12,32,10,6,14,4,14,36,6,24,12,28,6,18,2,36,4,14,12,22,8,12,16,54,6,20,4,2,18,10,56,10,2,4,38,10,20,16,2,24,4,6,18,2,10,14,6,18,18,4,36,2,12,28,26,24,22,26,4,14,10,12,32,6,6,18,12,16,2,10,6,14,18,18,16,14,10,26,4,2,4,18,8,24,18,6,22,8,6,24,16,26,10,2,12,24,4,2,6,30,4,20,18,18,10,14,4,36,6,18,24,2,4,30,12,14,4,6,8,6,6,10,18,12,8,16,2,4,14,6,6,12,12,4,2,12,18,22,30,30,30,32,16,2,6,10,12,30,2,6,6,4,26,16,12,6,24,8,12,16,12,8,4,30,6,2,4,8,22,6,14,10,20,6,64,6,14,4,2,28,12,24,8,6,30,10,14,28,14,24,10,24,12,14,4,2,10,20,10,6,8,12,18,36,10,14,10,14,18,4,30,8,6,4,68,10,2,18,4,8,10,30,6,26,10,18,26,10,14,6,16,6,8,12,4,18,32,10,8,22,6,2,6,4,12,6,12,2,10,18,6,14,12,10,6,12,6,26,6,10,38,4,2,16,8,24,52,14,34,2,16,8,22,8,4,80,6,16,54,12,14,18,10,2,40,24,12,18,14,6,10,12,12,2,6,22,18,38,24,10,12,6,8,10,14,6,6,30,10,14,16,14,6,28,12,30,26,4,14,34,8,4,18,6,12,8,6,6,18,4,26,12,10,8,10,12,8,22,12,2,6,4,24,24,18,18,2,12,16,6,6,2,6,42,10,24,8,12,18,42,34,14,48,28,6,48,2,10,30,18,32,6,12,6,12,28,2,18,16,26,28,14,10,26,10,6,36,2,42,28,2,10,14,4,6,24,48,2,12,4,30,20,22,2,6,4,26,4,2,18,16,2,28,2,10,12,8,10,14,6,4,24,12,8,22,14,28,6,2,18,12,4,8,12,6,22,2,30,30,16,32,28,18,2,10,18,14,12,4,6,8,6,6,18,22,6,12,6,6,8,36,12,4,6,8,10,12,12,32,16,12,8,10,8,10,14,10,32,10,8,6,10,2,22,2,18,6,6,10,6,2,6,34,2,4,2,4,14,12,18,12,30,10,18,30,14,22,6,18,2,12,6,4,42,14,6,6,12,30,6,4,12,6,2,18,18,6,24,4,20,36,4,2,4,30,12,2,12,16,38,6,36,24,16,2,10,8,10,32,6,6,10,18,12,18,12,54,6,38,16,6,6,2,10,2,4,20,12,22,2,4,2,18,4,6,12,14,16,2,18,22,2,4,36,36,8,46,6,8,6,24,6,6,12,12,4,44,18,24,36,10,24,8,12,4,2,28,12,24,8,28,14,24,10,6,6,8,12,24,30,10,14,4,18,8,4,8,10,8,4,36,6,6,2,36,4,8,24,6,22,30,18,14,4,44,22,6,2,16,2,58,14,6,16,14,12,4,14,16,6,8,6,6,4,24,12,20,10,2,12,10,14,64,6,6,8,22,8,6,10,42,2,22,8,18,18,6,28,8,24,4,20,12,22,6,30,12,8,16,6,20,4,18,42,6,2,6,12,10,14,6,18,10,6,6,14,54,10,12,8,12,24,4,14,18,24,30,34,2,18,4,8,12,12,4,24,30,18,8,4,18,2,6,12,28,14,6,10,2,24,4,14,10,18,14,16,18,14,6,4,30,6,2,12,6,10,12,8,34,6,12,2,28,14,10,6,12,18,12,36,12,20,18,24,22,18,2,4,6,18,18,42,12,14,16,8,6,4,2,4,2,12,36,4,12,6,14,24,4,6,6,24,2,28,2,22,8,12,10,6,2,18,42,18,12,22,8,10,2,46,24,2,4,2,4,6,2,30,6,4,18,24,8,6,40,14,6,10,2,12,12,4,24,48,12,6,24,8,4,8,36,12,28,2,12,30,12,10,6,8,10,2,4,44,6,18,12,4,42,14,16,42,6,2,12,10,8,4,36,2,6,10,26,4,6,8,10,2,4,6,8,6,6,6,22,8,28,20,6,4,30,14,10,26,30,4,8,4,30,14,52,2,6,4,2,16,2,22,6,8,22,2,10,12,6,24,18,6,6,38,18,22,18,8,6,4,14,10,2,10,6,8,30,4,18,8,6,16,2,6,10,12,20,22,6,6,6,2,22,18,20,6,4,12,14,6,10,14,4,6,2,10,42,38,22,2,6,64,8,16,12,14,24,16,8,18,4,26,22,12,6,8,34,6,36,24,6,8,6,54,10,8,10,2,6,24,12,4,26,4,2,4,8,12,16,14,28,2,24,4,8,10,14,4,2,22,6,12,20,4,8,6,22,8,42,4,8,22,6,2,18,12,40,2,16,2,10,12,20,36,4,18,12,14,16,14,4,20,16,14,28,8,4,8,18,6,34,2,12,18,30,64,26,4,14,10,6,24,12,14,6,10,2,70,26,12,24,4,6,8,6,10,32,4,6,8,10,2,12,46,20,6,70,14,6,4,20,54,22,30,30,8,10,12,6,2,6,6,6,10,8,34,18,12,2,4,6,14,4,8,22,6,2,54,16,8,12,10,14,4,14,10,2,4,6,30,18,8,4,8,18,4,20,16,18,14,10,30,2,28,2,10,6,12,30,6,14,30,16,2,12,16,26,10,14,6,6,4,24,20,4,36,24,2,4,12,44,16,2,12,16,18,20,12,10,2,28,2,10,30,2,30,18,22,18,20,6,4,8,4,24,2,4,8,12,34,56,28,2,6,18,10,2,10,30,14,18,10,6,2,10,38,6,28,12,8,28,2,12,10,26,22,26,10,24,2,6,24,10,8,10,6,2,4,6,32,10,2,70,6,8,4,26,6,6,12,6,10,2,4,6,20,22,2,4,12,2,16,6,8,6,42,4,6,12,2,10,30,8,6,12,4,6,2,6,10,14,30,6,4,18,20,10,14,34,2,12,6,34,6,12,20,4,8,12,10,6,20,4,6,8,12,12,6,24,16,24,18,2,22,6,2,12,4,6,8,10,2,6,4,24,2,28,2,10,2,16,20,36,10,6,38,12,48,16,30,8,6,12,10,12,6,6,6,8,30,4,2,10,6,8,6,24,4,20,12,10,24,26,16,2,22,20,6,24,6,22,18,2,16,12,14,4,14,12,4,24,2,4,6,6,38,6,24,24,6,22,12,6,14,36,10,14,22,14,4,2,40,8,6,16,18,8,10,14,10,14,4,32,28,36,6,24,12,20,22,26,16,18,18,12,12,18,6,6,56,10,2,10,26,10,6,18,26,16,8,28,8,12,30,34,6,2,22,36,8,34,32,4,14,6,10,12,2,12,10,8,10,2,30,6,22,2,4,14,18,4,30,18,2,4,26,28,6,20,4,8,10,8,4,12,38,28,2,16,24,2,6,4,6,14,16,20,22,6,84,2,34,2,4,14,6,10,6,2,6,54,18,18,30,22,30,54,14,16,8,10,8,12,6,16,6,18,30,2,18,6,4,24,8,4,20,6,40,8,10,6,8,16,14,12,16,2,10,12,20,6,10,8,4,6,6,8,6,16,24,6,20,16,24,14,6,18,18,22,6,14,6,12,10,18,2,10,14,16,18,14,22,8,10,2,30,6,18,4,8,30,24,16,12,8,4,14,4,18,2,10,30,6,36,24,2,4,14,12,12,10,18,12,6,12,8,30,10,2,4,24,6,14,6,4,12,8,22,14,6,10,14,4,6,6,2,6,22,18,6,30,26,18,6,6,22,8,4,6,2,10,20,6,4,18,12,6,6,30,30,6,14,6,10,2,12,16,2,10,32,16,14,4,2,30,24,34,2,12,18,4,30,36,8,6,4,6,14,4,6,6,8,6,6,18,6,4,6,42,2,6,6,10,18,2,28,2,10,44,10,14,10,18,18,2,22,2,4,6,6,14,10,56,10,2,6,6,4,30,2,12,12,4,24,6,14,10,8,34,14,12,12,36,24,12,28,42,48,6,20,22,2,6,12,10,2,10,2,10,8,16,6,8,6,4,8,4,20,10,30,6,32,10,6,12,18,2,40,2,36,6,4,20,36,6,4,6,30,12,2,6,4,8,10,6,12,8,12,22,2,10,30,44,4,30,18,8,4,2,4,12,30,14,4,20,24,36,4,2,40,6,2,12,4,6,18,8,18,12,22,18,8,10,6,6,14,18,16,24,80,10,20,58,2,18,4,6,8,24,6,22,14,4,2]
def Gg:Nat->List Nat->Bool
 |_,[]=>true
 |c,d::r=>match decide (0<d)&&(decide (c+d<1210000)&&Nat.beq (Nat.gcd (c+d) PR) 1)with
  |true=>Gg (c+d) r
  |false=>false
theorem Jc:Gg 1000000 steps=true:=by decide +kernel
theorem Bu:steps.length=6000:=by decide +kernel
inductive Many:Nat->Nat->Prop
 |none (c:Nat):Many 0 c
 |more {k c q:Nat}:cC q->c<q->q<1210000->Many k q->Many (k+1) c
theorem BW:∀(l:List Nat) (c:Nat),2<=c->Gg c l=true->Many l.length c
 |[],c,_,_=> .none c
 |d::r,c,h2,h=>by
  rw[Gg]at h;split at h
  ·rename_i e
   obtain⟨e1,e2⟩:=Bool.and_eq_true_iff.mp e;obtain⟨e2,e3⟩:=Bool.and_eq_true_iff.mp e2;have h1:=of_decide_eq_true e1;have h3:=of_decide_eq_true e2;exact .more (CW (by omega) h3 (Nat.eq_of_beq_eq_true e3)) (by omega) h3 (BW r (c+d) (by omega) h)
  ·exact absurd h (by decide)
theorem many:Many 6000 1000000:=by
 have:=BW steps 1000000 (by decide) Jc
 rwa [Bu]at this
theorem Many.down{k c c':Nat}(h:Many k c)(hc:c'<=c):Many k c':=by
 cases h with
 |none=>exact .none _
 |more h1 h2 h3 h4=>exact .more h1 (by omega) h3 h4
theorem Many.next{k c:Nat}(h:Many (k+1) c):∃q,cC q/\c<q/\q<1210000/\∀p,p<=q->Many k p:=by
 cases h with
 |more h1 h2 h3 h4=>exact⟨_,h1,h2,h3,fun p hp=>h4.down hp⟩
theorem cC.qG{p:Nat}{a:Int}(h:cC p)(h0:0<a)(ha:a<(p:Int)):a^(p-1)%(p:Int)=1:=by
 obtain⟨n,rfl⟩:∃n:Nat,a=(n:Int):=⟨a.toNat,by omega⟩;have:=h.KY (a:=n) (by omega) (by omega);have e:((n^(p-1)%p:Nat):Int)=((1:Nat):Int):=by rw[this]
 rw[Int.natCast_emod,Int.natCast_pow]at e;exact e
end Om
namespace Pm
open Rm
theorem BL{P:Nat}(hP:Om.cC P){p:List Int}(hp:Py P p)(hn:p≠[]):sS P p (gh P p):=by
 have h2:=hP.1;have hpos:0<p.length:=List.length_pos_iff.mpr hn;have hP0:(P:Int)≠0:=by omega
 have tkP:∀n,tk (P:Int) n=n%(P:Int):=fun n=>fB hP0 n;have l0:=qN hn hp.tr;have l1:=hp.co (p.length-1);rw[tkP]at l1;have r0:0<=co p (p.length-1):=by rw[<-l1];exact Int.emod_nonneg _ hP0
 have r1:co p (p.length-1)<(P:Int):=by rw[<-l1];exact Int.emod_lt_of_pos _ (by omega)
 generalize hl:co p (p.length-1)=a at l0 r0 r1;have hinv:(a^(P-2)*a)%(P:Int)=1:=by
  rw[<-Int.pow_succ,show(P-2).succ=P-1 by omega];exact hP.qG (by omega) r1
 have e:∀k,co (gh P p) k=co p k*a^(P-2)%(P:Int):=fun k=>by
  rw[gh,pD (by simp),hl]
 have len:(gh P p).length=p.length:=by rw[gh,List.length_map]
 have top:co (gh P p) ((gh P p).length-1)=1:=by
  rw[len,e,hl,Int.mul_comm];exact hinv
 have hm:gh P p≠[]:=fun z=>by rw[z]at len;simp at len;omega
 refine⟨⟨fZ hm (by rw[top];decide),fun x hx=>?_⟩,len,fun _=>⟨by omega,top⟩,⟨a^(P-2),fun k=>?_⟩,⟨a,fun k=>?_⟩⟩
 ·obtain⟨y,_,rfl⟩:=List.mem_map.mp hx;rw[tkP];exact Int.emod_emod_of_dvd _ (Int.dvd_refl _)
 ·rw[e,tkP,tkP,Int.emod_emod_of_dvd _ (Int.dvd_refl _),Int.mul_comm]
 ·rw[e,tkP,tkP,Int.mul_emod a,Int.emod_emod_of_dvd _ (Int.dvd_refl _),<-Int.mul_emod,Int.mul_left_comm a,Int.mul_comm a,Int.mul_emod,hinv];rw[Int.mul_one,Int.emod_emod_of_dvd _ (Int.dvd_refl _)]
theorem HJ{P:Nat}(hP:Om.cC P){one other:Int}(h0:0<other)(h:other<(P:Int)):(P:Int)∣other*(one*other^(P-2)%(P:Int))-one:=by
 have h2:=hP.1;have hinv:(other^(P-2)*other)%(P:Int)=1:=by
  rw[<-Int.pow_succ,show(P-2).succ=P-1 by omega];exact hP.qG h0 h
 have h1:(1:Int)%(P:Int)=1:=Int.emod_eq_of_lt (by decide) (by omega);refine Int.dvd_of_emod_eq_zero (Int.emod_eq_emod_iff_emod_sub_eq_zero.mp ?_);rw[Int.mul_emod,Int.emod_emod_of_dvd _ (Int.dvd_refl _),<-Int.mul_emod,Int.mul_left_comm,Int.mul_comm other,Int.mul_emod,hinv,Int.mul_one,Int.emod_emod_of_dvd _ (Int.dvd_refl _)]
theorem Kl{b f:Int}{s t:Nat}{l m:List Int}{u v:Nat}(hb:0<=b)(hb1:b<2097152)(hu:21<=u)(hf:Bd u f)(hl:∀k,Bd u (co l k))(hm:∀x∈m,Bd v x)(k:Nat):Bd (u+v+1) (lf b f s t l m k):=by
 unfold lf;split
 ·refine su hb ((Bd.of (n:=21) (by omega) (by omega)).mono (by omega)) ?_;rw[Int.sub_eq_add_neg];refine Bd.add ((hl k).mono (by omega)) ?_;have:=hf.mul (jV hm (k-s));unfold Bd at this⊢;rw[Int.natAbs_neg];exact this
 ·exact(hl k).mono (by omega)
def jw(M t:Int)(p:Nat)(s:Int):Int:=(tk p (s-t))*(tk p M)^(p-2)%(p:Int)
def jn(M t:Int)(p:Nat)(s:Int):Int:=nr (M*p) (t+M*jw M t p s)
theorem Uq{M t s:Int}{p:Nat}(hp:Om.cC p)(hM:¬(p:Int)∣M):(p:Int)∣M*jw M t p s-(s-t):=by
 have h2:=hp.1;have hp0:(p:Int)≠0:=by omega
 have r0:=Int.emod_nonneg M hp0;have r1:=Int.emod_lt_of_pos M (show(0:Int)<p by omega);have rn:M%(p:Int)≠0:=fun z=>hM (Int.dvd_of_emod_eq_zero z);have h:=HJ hp (one:=tk p (s-t)) (other:=M%(p:Int)) (by omega) r1;unfold jw;rw[fB hp0 M];generalize tk (p:Int) (s-t)*(M%(p:Int))^(p-2)%(p:Int)=w at h;rw[fB hp0]at h;have e1:(p:Int)∣M*w-M%(p:Int)*w:=by
  rw[<-Int.sub_mul];exact Int.dvd_trans (Int.dvd_self_sub_emod) (Int.dvd_mul_right ..)
 have e2:(p:Int)∣(s-t)%(p:Int)-(s-t):=by
  have:(p:Int)∣(s-t)-(s-t)%(p:Int):=Int.dvd_self_sub_emod;have:=Int.dvd_neg.mpr this
  rwa [Int.neg_sub]at this
 have:=Int.dvd_add (Int.dvd_add e1 h) e2
 rwa [show M*w-M%(p:Int)*w+(M%(p:Int)*w-(s-t)%(p:Int))+((s-t)%(p:Int)-(s-t))=M*w-(s-t)by omega]at this
theorem Es{M t s:Int}{p:Nat}(hp:Om.cC p):0<=jw M t p s/\jw M t p s<p:=by
 have h2:=hp.1;exact⟨Int.emod_nonneg _ (by omega),Int.emod_lt_of_pos _ (by omega)⟩
theorem Div.dv{b:Int}{P M q r:List Int}(h:Div b P M q r)(hM:Mon M):r=[]↔Dv b M (co P):=by
 constructor
 ·rintro rfl;exact⟨co q,q.length,Fs.co q,fun k=>by rw[<-h.eq k,dR,Int.add_zero]⟩
 ·intro d;have e:Dv b M (co r):=(d.sub (Dv.self (b:=b) (m:=M) (Fs.co q))).congr fun k=>by
   have e1:tk b (co P k + -cv (co q) (co M) k)=tk b ((cv (co q) (co M) k+co r k) + -cv (co q) (co M) k):=bB (h.eq k).symm rfl;rw[show co P k-cv (co q) (co M) k=co P k + -cv (co q) (co M) k by omega,e1];exact congrArg (tk b) (by omega)
  have z:=e.short hM ((Fs.co r).mono (by have:=h.short;omega));rw[<-h.ry.tr];exact oX.mpr fun k=>by rw[<-h.ry.co k];exact z k
end Pm
namespace Pm
open Rm Dm
theorem vB{n:Nat}{x:Int}(h:Bd n x):Bd n (-x):=by unfold Bd at h ⊢;rw[Int.natAbs_neg];exact h
theorem mX{L:List Int}{a:Nat->Int}(hL:Mon L)(hK:Kp 0 L a)(hN:det (L.length-1) (hk a)≠0){u:Nat}(hu:∀n,n<=2*(L.length-1)->Bd u (a n))(k:Nat):Bd ((L.length-1)*(u+(L.length-1))+1) (co L k):=by
 have hp:=hL.pos;by_cases c:k<L.length-1
 ·have e:=rT (n:=L.length-1) (hk a) (co L) c;have e2:det (L.length-1) (jz (hk a) k fun i=>sm (L.length-1) fun j=>hk a i j*co L j)=det (L.length-1) (jz (hk a) k fun i=>-a (i+(L.length-1))):=cB fun i j _ _=>by
   unfold jz;split
   ·have h:=hK i;rw[bK]at h;unfold ks at h;obtain⟨l,hl⟩:∃l,L.length=l+1:=⟨L.length-1,by omega⟩;have h1:=hL.one;rw[hl,Nat.add_sub_cancel]at h1;rw[hl,sm,h1,Int.one_mul]at h;show sm (L.length-1) (fun j=>hk a i j*co L j)=-a (i+(L.length-1));rw[hl,Nat.add_sub_cancel,aH (g:=fun k=>co L k*a (i+k)) fun j _=>by rw[Int.mul_comm];rfl];omega
   ·rfl
  have b:Bd ((L.length-1)*(u+(L.length-1))+1) (co L k*det (L.length-1) (hk a)):=by
   rw[<-e,e2];refine C9 fun i j hi hj=>?_;unfold jz;split
   ·exact vB (hu _ (by omega))
   ·exact hu _ (by omega)
  unfold Bd at b⊢;rw[Int.natAbs_mul]at b;refine Nat.lt_of_le_of_lt ?_ b;have:1<=(det (L.length-1) (hk a)).natAbs:=by omega
  have:=Nat.mul_le_mul_left (co L k).natAbs this;omega
 ·by_cases d:k=L.length-1
  ·rw[d,hL.one];exact(Bd.of (n:=1) (by decide) (by decide)).mono (by omega)
  ·rw[bN (by omega)];exact Bd.zero _
end Pm
namespace Pm
open Rm Dm
theorem Ij{f:Nat->Int}{n:Nat}(h:Fs f n):∃S:List Int,∀k,co S k=f k:=⟨ofF n f,fun k=>by
 rw[bZ];by_cases c:k<n
 ·rw[if_pos c]
 ·rw[if_neg c,h k (by omega)]⟩
theorem Kp.VH{b:Int}{p t:List Int}{f:Nat->Int}(h:Kp b (mul b p t) f):Kp b p (ks t f):=fun n=>by rw[<-DF];exact h n
theorem Kp.Qe{b:Int}{p t:List Int}{f:Nat->Int}(h:Kp b p (ks t f)):Kp b (mul b p t) f:=fun n=>by rw[DF];exact h n
end Pm
namespace Pm
open Rm
def ev(p:List Int)(x:Int):Int:=sm p.length fun k=>co p k*x^k
theorem jU{p:List Int}{n:Nat}(h:p.length<=n)(x:Int):sm n (fun k=>co p k*x^k)=ev p x:=
 fL h fun k h1 _=>by rw[bN h1,Int.zero_mul]
theorem yR(x:Int):ev [] x=0:=rfl
theorem BX(c x:Int):ev [c] x=c:=by
 show 0+co [c] 0*x^0=c;rw[cZ,Int.pow_zero,Int.mul_one,Int.zero_add]
abbrev lin(r:Int):List Int:=[0-r,1]
theorem HL(r:Int):Mon (lin r):=⟨by show 0<2;decide,rfl⟩
theorem Gm(f:Nat->Int)(r:Int):∀k,cv f (co (lin r)) k=(if k=0 then 0 else f (k-1))-r*f k:=fun k=>by
 rw[fY];cases k with
 |zero=>
  show 0+f 0*co (lin r) 0=_;rw[if_pos rfl,cZ,Int.zero_add,Int.mul_sub,Int.mul_zero,Int.mul_comm]
 |succ k=>
  rw[if_neg (Nat.succ_ne_zero _),Nat.add_sub_cancel];rw[sm,Nat.sub_self,sm,show k+1-k=1 by omega];rw[gC fun j hj=>by rw[bN (p:=lin r) (show 2<=k+1-j by omega),Int.mul_zero]];rw[cZ,jc,cZ,Int.mul_one,Int.zero_add,Int.mul_sub,Int.mul_zero,Int.zero_sub,Int.mul_comm (f (k+1))];rfl
theorem yD(f:Nat->Int)(x:Int):∀n,sm (n+1) (fun k=>(if k=0 then 0 else f (k-1))*x^k)=x*sm n fun k=>f k*x^k:=fun n=>by
 rw[gG,if_pos rfl,Int.zero_mul,Int.zero_add,<-cu];refine aH fun k _=>?_;rw[if_neg (Nat.succ_ne_zero _),Nat.add_sub_cancel,Int.pow_succ,Int.mul_comm (x^k) x,<-Int.mul_assoc,<-Int.mul_assoc,Int.mul_comm (f k) x]
theorem Div.ev{p q l:List Int}{r:Int}(h:Div 0 p (lin r) q l)(x:Int):Pm.ev p x=(x-r)*Pm.ev q x+Pm.ev l x:=by
 obtain⟨n,h1,h2,h3⟩:∃n,p.length<=n+1/\q.length<=n/\l.length<=n+1:=⟨p.length+q.length+l.length,by omega,by omega,by omega⟩;rw[<-jU h1 x,<-jU h2 x,<-jU h3 x];have e:∀k,co p k=(if k=0 then 0 else co q (k-1))-r*co q k+co l k:=fun k=>by
  have:=h.eq k;rw[bK,bK,Gm]at this;exact this.symm
 rw[aH (g:=fun k=>(if k=0 then 0 else co q (k-1))*x^k+(-r*(co q k*x^k)+co l k*x^k)) fun k _=>?_,dY,dY,yD,cu]
 ·have e2:sm (n+1) (fun k=>co q k*x^k)=sm n fun k=>co q k*x^k:=by
   rw[sm,bN h2,Int.zero_mul,Int.add_zero]
  rw[e2,Int.sub_mul,Int.neg_mul];omega
 ·rw[e k,Int.add_mul,Int.sub_mul,Int.neg_mul,Int.mul_assoc];omega
theorem Div.root{p q l:List Int}{r:Int}(h:Div 0 p (lin r) q l):l=[]↔Pm.ev p r=0:=by
 have e:=h.ev r;rw[Int.sub_self,Int.zero_mul,Int.zero_add]at e;have hs:l.length<2:=h.short
 match l,hs,h.ry with
 |[],_,_=>exact⟨fun _=>by rw[e,yR],fun _=>rfl⟩
 |[c],_,hr=>
  rw[BX]at e;constructor
  ·intro z;cases z
  ·intro z;rw[e]at z
   exfalso
   have:=hr.tr;rw[z]at this;simp[trim]at this
end Pm
namespace Pm
open Rm
theorem IX(a:Int)(p:List Int)(x:Int):ev (a::p) x=a+x*ev p x:=by
 rw[<-jU (p:=a::p) (n:=p.length+1) (Nat.le_refl _) x,gG,cZ,Int.pow_zero,Int.mul_one,<-jU (p:=p) (Nat.le_refl _) x,<-cu];congr 1;refine aH fun k _=>?_;rw[jc,Int.pow_succ,Int.mul_comm (x^k) x,<-Int.mul_assoc,<-Int.mul_assoc,Int.mul_comm (co p k) x]
theorem Ma(x:Int)(g:List Int):∀(L P:List Int),(∀k,co P k=cv (co L) (co g) k)->ev P x=ev L x*ev g x
 |[],P,h=>by
  rw[yR,Int.zero_mul];unfold ev;exact gC fun k _=>by rw[h,d8 (fun i _=> .inl (dR i)),Int.zero_mul]
 |a::L,P,h=>by
  obtain⟨Q,hQ⟩:∃Q:List Int,∀k,co Q k=cv (co L) (co g) k:=Ij ((Fs.co L).cv (Fs.co g));have ih:=Ma x g L Q hQ;obtain⟨n,h1,h2,h3⟩:∃n,P.length<=n+1/\Q.length<=n/\g.length<=n+1:=⟨P.length+Q.length+g.length,by omega,by omega,by omega⟩;have e:∀k,co P k=a*co g k+(if k=0 then 0 else co Q (k-1)):=fun k=>by
   rw[h,Dc];split
   ·rfl
   ·rw[hQ]
  rw[IX,<-jU h1 x,aH (g:=fun k=>a*(co g k*x^k)+(if k=0 then 0 else co Q (k-1))*x^k) fun k _=>by rw[e k,Int.add_mul,Int.mul_assoc],dY,cu,yD,jU h3,jU h2,ih,Int.add_mul,Int.mul_assoc]
theorem Dk(p:List Int)(r:Int):∃q l,Div 0 p (lin r) q l/\(∀k,co p k=(if k=0 then 0 else co q (k-1))-r*co q k+co l k)/\q.length<=p.length-1:=by
 obtain⟨q,l,h⟩:=yI (b:=0) (HL r) (p:=p) fun k=>bK _;have e:∀k,co p k=(if k=0 then 0 else co q (k-1))-r*co q k+co l k:=fun k=>by
  have:=h.eq k;rw[bK,bK,Gm]at this;exact this.symm
 have hs:l.length<2:=h.short;refine⟨q,l,h,e,?_⟩;by_cases hq:q=[]
 ·rw[hq];exact Nat.zero_le _
 ·have h0:=qN hq h.qy.tr;have hp:0<q.length:=List.length_pos_iff.mpr hq;have h1:=e q.length;rw[if_neg (by omega),bN (p:=q) (Nat.le_refl _),Int.mul_zero,bN (p:=l) (by omega),Int.sub_zero,Int.add_zero]at h1;have:=pB (p:=p) (k:=q.length) (by rw[h1];exact h0);omega
theorem yu:∀(m:Nat) (L:List Int),Mon L->L.length=m+1->∀xs:List Int,xs.Nodup->(∀x∈xs,ev L x=0)->xs.length<=m
 |_,_,_,_,[],_,_=>Nat.zero_le _
 |0,L,hL,hl,r::ys,_,hr=>by
  exfalso
  have e:L=[1]:=jN (q:=[1]) hl fun k=>by
   cases k with
   |zero=>have:=hL.one;rw[hl]at this;exact this
   |succ k=>rw[bN (by omega),bN (by show 1<=k+1;omega)]
  have:=hr r (List.mem_cons_self ..);rw[e,BX]at this;exact absurd this (by decide)
 |m+1,L,hL,hl,r::ys,hn,hr=>by
  obtain⟨q,l,h,e,lq⟩:=Dk L r;have h0:=hr r (List.mem_cons_self ..);have l0:=h.root.mpr h0;subst l0;have hm:co q m=1:=by
   have h1:=e (m+1);rw[if_neg (by omega),Nat.add_sub_cancel,bN (p:=q) (show q.length<=m+1 by omega),Int.mul_zero,dR,Int.sub_zero,Int.add_zero]at h1;have h2:=hL.one;rw[hl,Nat.add_sub_cancel,h1]at h2;exact h2
  have hlq:q.length=m+1:=by
   have:=pB (p:=q) (k:=m) (by rw[hm];decide);omega
  obtain⟨hn1,hn2⟩:=List.nodup_cons.mp hn;have:=yu m q ⟨by omega,by rw[hlq,Nat.add_sub_cancel];exact hm⟩ hlq ys hn2 fun y hy=>by
   have h1:=h.ev y;rw[hr y (List.mem_cons_of_mem _ hy),yR,Int.add_zero]at h1;rcases Int.mul_eq_zero.mp h1.symm with z|z
   ·exact absurd (show y=r by omega) (fun z=>hn1 (z▸hy))
   ·exact z
  rw[List.length_cons];omega
theorem Bo{M:Nat}{x y:Int}(hx:x≠0)(h:Bd M (x*y)):Bd M y:=by
 unfold Bd at h⊢;rw[Int.natAbs_mul]at h;have h1:1<=x.natAbs:=by omega
 have:1*y.natAbs<=x.natAbs*y.natAbs:=Nat.mul_le_mul_right _ h1;omega
theorem uK{e:Nat}:∀(d:Nat) (g:List Int) (M:Nat),g.length<=d->∀xs:List Int,xs.Nodup->d<=xs.length->(∀x∈xs,Bd e x)->(∀x∈xs,Bd M (ev g x))->∀k,Bd (M+d*(e+3)) (co g k)
 |0,g,_,hl,_,_,_,_,_,k=>by rw[bN (by omega)];exact Bd.zero _
 |d+1,_,_,_,[],_,hd,_,_,_=>absurd hd (by show ¬d+1<=0;omega)
 |d+1,g,M,hl,r::ys,hn,hd,hx,hv,k=>by
  obtain⟨q,l,h,eq,lq⟩:=Dk g r;obtain⟨hn1,hn2⟩:=List.nodup_cons.mp hn;have hl2:l.length<2:=h.short;have er:ev l r=ev g r:=by rw[h.ev r,Int.sub_self,Int.zero_mul,Int.zero_add]
  have el:∀x,ev l x=co l 0:=fun x=>by
   match l,hl2 with
   |[],_=>rw[yR,dR]
   |[c],_=>rw[BX,cZ]
  have c0:co l 0=ev g r:=by rw[<-el r,er]
  have hr:=hv r (List.mem_cons_self ..);have ih:=uK (e:=e) d q (M+1) (by omega) ys hn2 (by rw[List.length_cons]at hd;omega) (fun x h=>hx x (List.mem_cons_of_mem _ h)) fun y hy=>by
   refine Bo (x:=y-r) (fun z=>hn1 ((show y=r by omega)▸hy)) ?_;have h1:=h.ev y;rw[el y,c0]at h1;rw[show(y-r)*ev q y=ev g y + -(ev g r)by omega];exact(hv y (List.mem_cons_of_mem _ hy)).add (vB hr)
  have b1:Bd (e+(M+1+d*(e+3))) (if k=0 then 0 else co q (k-1)):=by
   split
   ·exact Bd.zero _
   ·exact(ih _).mono (by omega)
  have b2:=vB ((hx r (List.mem_cons_self ..)).mul (ih k));have b3:Bd (e+(M+1+d*(e+3))+1) (co l k):=by
   cases k with
   |zero=>rw[c0];exact hr.mono (by omega)
   |succ k=>rw[bN (by omega)];exact Bd.zero _
  have b4:=(b1.add b2).add b3;have e1:(d+1)*(e+3)=d*(e+3)+(e+3):=Nat.succ_mul ..;rw[eq k,Int.sub_eq_add_neg];exact b4.mono (by omega)
theorem Wm{P:List Int}{x:Int}{u e:Nat}(hu:∀k,Bd u (co P k))(hx:Bd e x):Bd (u+P.length*(e+1)+P.length) (ev P x):=by
 have hp:∀k,Bd (k*e+1) (x^k):=fun k=>by
  induction k with
  |zero=>rw[Int.pow_zero];exact(Bd.of (n:=1) (by decide) (by decide)).mono (by omega)
  |succ k ih=>
   have e1:(k+1)*e=k*e+e:=Nat.succ_mul ..;rw[Int.pow_succ];exact(ih.mul hx).mono (by omega)
 unfold ev;refine(Ak (c:=u+P.length*(e+1)) P.length fun k hk=>((hu k).mul (hp k)).mono ?_).mono (by omega);have h1:(k+1)*(e+1)<=P.length*(e+1):=Nat.mul_le_mul_right _ (by omega);have h2:(k+1)*(e+1)=k*(e+1)+(e+1):=Nat.succ_mul ..;have h3:k*(e+1)=k*e+k:=Nat.mul_succ ..;omega
theorem qM(p:Int->Bool):∀xs:List Int,xs.length=(xs.filter p).length+(xs.filter fun x=>!p x).length
 |[]=>rfl
 |x::xs=>by
  have:=qM p xs;cases h:p x
  ·rw[List.filter_cons_of_neg (by rw[h];decide),List.filter_cons_of_pos (by rw[h];rfl),List.length_cons,List.length_cons];omega
  ·rw[List.filter_cons_of_pos h,List.filter_cons_of_neg (by rw[h];decide),List.length_cons,List.length_cons];omega
theorem Et{P L g:List Int}(hL:Mon L)(he:∀k,co P k=cv (co L) (co g) k)(hl:L.length+g.length=P.length+1){u e:Nat}(hu:∀k,Bd u (co P k))(h2:P.length<=2^e)(k:Nat):Bd (u+P.length*(e+1)+P.length+g.length*(e+3)) (co g k):=by
 obtain⟨xs,hxs⟩:∃xs:List Int,xs=(List.range P.length).map Int.ofNat:=⟨_,rfl⟩;have nd:xs.Nodup:=by
  rw[hxs];refine List.Pairwise.map _ (fun a b h=>?_) (List.nodup_range (n:=P.length));exact fun z=>h (Int.ofNat.inj z)
 have ln:xs.length=P.length:=by rw[hxs];simp
 have bx:∀x∈xs,Bd e x:=fun x hx=>by
  rw[hxs]at hx;obtain⟨i,hi,rfl⟩:=List.mem_map.mp hx;have:=List.mem_range.mp hi;show(Int.ofNat i).natAbs<2^e;show i<2^e;omega
 have h0:(xs.filter fun x=>decide (ev L x=0)).length<=L.length-1:=by
  have:=hL.pos;exact yu (L.length-1) L hL (by omega) _ (nd.filter _) fun x hx=>of_decide_eq_true (List.mem_filter.mp hx).2
 have hc:xs.length=(xs.filter fun x=>decide (ev L x=0)).length+(xs.filter fun x=>!decide (ev L x=0)).length:=qM _ xs;have hp:=hL.pos;refine uK g.length g _ (Nat.le_refl _) (xs.filter fun x=>!decide (ev L x=0)) (nd.filter _) (by omega) (fun x hx=>bx x (List.mem_filter.mp hx).1) (fun x hx=>?_) k;have hne:ev L x≠0:=fun z=>by
  have:=(List.mem_filter.mp hx).2;rw[decide_eq_true z]at this;exact absurd this (by decide)
 refine Bo hne ?_;rw[<-Ma x g L P he];exact Wm hu (bx x (List.mem_filter.mp hx).1)
theorem IK{P:List Int}{a:Nat->Int}(hP:Mon P)(hK:Kp 0 P a){d u ua e U:Nat}(hS:∃Q0,Mon Q0/\Kp 0 Q0 a/\Q0.length<=d+1)(ha:∀n,n<=2*d->Bd ua (a n))(hu:∀k,Bd u (co P k))(h2:P.length<=2^e)(hU:u+P.length*(e+1)+P.length+P.length*(e+3)<=U):
  ∃g L N,Mon L/\Py 0 L/\Kp 0 L a/\(∀q,Kp 0 q a->Dv 0 L (co q))/\L.length+g.length=P.length+1/\(∀k,co P k=cv (co L) (co g) k)/\GcZ P (tp P a) g N/\Bd (d*(ua+d)+1) N/\∀k,Bd U (co g k):=by
 obtain⟨g,L,hL,hLy,hKL,hall,hlen,hE,G⟩:=Gv hP hK;obtain⟨Q0,hQ,hKQ,hQl⟩:=hS;have hLp:=hL.pos;have hl:L.length<=d+1:=Nat.le_trans ((hall Q0 hKQ).len rfl hL hQ) hQl;have hm:(L.length-1)*(ua+(L.length-1))+1<=d*(ua+d)+1:=by
  have:=Nat.mul_le_mul (show L.length-1<=d by omega) (show ua+(L.length-1)<=ua+d by omega);omega
 refine⟨g,L,_,hL,hLy,hKL,hall,hlen,hE,G,?_,fun k=>?_⟩
 ·exact(Dm.C9 (u:=ua) fun i j hi hj=>ha _ (by omega)).mono hm
 ·refine(Et hL hE hlen hu h2 k).mono (Nat.le_trans ?_ hU);have:=Nat.mul_le_mul_right (e+3) (show g.length<=P.length by omega);omega
end Pm
namespace K35
open PySem L2
seal PA PE PS PSs PT PW PI PG PGs PO PIf
def top(i:Nat):Stmt:=PySem.Challenge.pw_nextbyrule_k35_mixes_refused.main.body.getD i (.Pass ⟨0,0,0,0⟩)
abbrev nM:Stmt:=top 11
abbrev xU:Stmt:=top 12
abbrev qj:Stmt:=top 13
abbrev Ca:Stmt:=top 14
abbrev lu:Stmt:=top 17
abbrev jZ:Stmt:=top 18
abbrev iR:Stmt:=top 19
abbrev qQ:Stmt:=top 21
abbrev wJ:Stmt:=top 22
abbrev qd:Stmt:=top 23
abbrev wV:Stmt:=top 24
abbrev oE:Stmt:=top 25
abbrev qC:Stmt:=top 26
abbrev pI:Stmt:=top 27
abbrev iW:Stmt:=top 29
abbrev j5:Stmt:=top 30
abbrev iV:Stmt:=top 31
abbrev jL:Stmt:=top 34
abbrev qb:Stmt:=top 35
abbrev j8:Stmt:=top 36
abbrev pL:Stmt:=top 37
abbrev tu:Stmt:=top 38
abbrev gw:Stmt:=top 39
abbrev gF:Stmt:=top 40
abbrev tY:Stmt:=top 42
abbrev nU:Stmt:=top 43
abbrev nF:Stmt:=top 44
abbrev jA:Stmt:=top 46
abbrev nq:Stmt:=top 47
abbrev lA:Stmt:=top 48
abbrev iz:Stmt:=top 49
abbrev jg:Stmt:=top 50
abbrev nZ:Stmt:=top 51
abbrev lK:Stmt:=top 52
abbrev xM:Stmt:=top 53
abbrev sU:Stmt:=top 54
abbrev jR:Stmt:=top 55
abbrev nD:Stmt:=top 57
abbrev BF:Stmt:=top 58
abbrev uf:Stmt:=top 60
abbrev jG:Stmt:=top 61
abbrev iZ:Stmt:=top 62
abbrev jY:Stmt:=top 63
abbrev qH:Stmt:=top 64
abbrev tG:Stmt:=top 65
abbrev CD:Stmt:=top 66
abbrev jT:Stmt:=top 67
abbrev xY:Stmt:=top 68
theorem lV:aY ["number","divisor"] ["number"] (aj nM):=⟨rfl,rfl,rfl,by decide +kernel,rfl,by decide +kernel,by decide +kernel⟩
theorem Ga:aY ["by","number"] ["by","number"] (aj xU):=⟨rfl,rfl,rfl,by decide +kernel,rfl,by decide +kernel,by decide +kernel⟩
theorem fG:aY ["prime","number","power","square","left"] ["prime","number"] (aj qj):=⟨rfl,rfl,rfl,by decide +kernel,rfl,by decide +kernel,by decide +kernel⟩
theorem Ik:aY ["by","one","other"] ["by","one","other"] (aj Ca):=⟨rfl,rfl,rfl,by decide +kernel,rfl,by decide +kernel,by decide +kernel⟩
theorem uM:aY ["one","other"] ["one","other"] (aj lu):=⟨rfl,rfl,rfl,by decide +kernel,rfl,by decide +kernel,by decide +kernel⟩
theorem gK:aY ["by","rule","before","total","k"] ["by","rule","before"] (aj jZ):=⟨rfl,rfl,rfl,by decide +kernel,rfl,by decide +kernel,by decide +kernel⟩
theorem dI:aY ["row","count","by","rule","starts","found"] ["row","count"] (aj iR):=⟨rfl,rfl,rfl,by decide +kernel,rfl,by decide +kernel,by decide +kernel⟩
theorem nR:aY ["numbers","end"] ["numbers"] (aj qQ):=⟨rfl,rfl,rfl,by decide +kernel,rfl,by decide +kernel,by decide +kernel⟩
theorem oV:aY ["by","one","other","total","i","k"] ["by","one","other"] (aj wJ):=⟨rfl,rfl,rfl,by decide +kernel,rfl,by decide +kernel,by decide +kernel⟩
theorem fM:aY ["by","one","other","top","often","left","shift","factor","k"] ["by","one","other"] (aj qd):=⟨rfl,rfl,rfl,by decide +kernel,rfl,by decide +kernel,by decide +kernel⟩
theorem yJ:aY ["prime","poly","last"] ["prime","poly"] (aj wV):=⟨rfl,rfl,rfl,by decide +kernel,rfl,by decide +kernel,by decide +kernel⟩
theorem fO:aY ["by","one","other","great","small","left"] ["by","one","other"] (aj oE):=⟨rfl,rfl,rfl,by decide +kernel,rfl,by decide +kernel,by decide +kernel⟩
theorem ou:aY ["by","rule","length","numbers"] ["by","rule"] (aj qC):=⟨rfl,rfl,rfl,by decide +kernel,rfl,by decide +kernel,by decide +kernel⟩
theorem rZ:aY ["by","poly","length"] ["by","poly"] (aj pI):=⟨rfl,rfl,rfl,by decide +kernel,rfl,by decide +kernel,by decide +kernel⟩
theorem j9:aY ["rule","sums","k","reach"] ["rule","sums","k"] (aj iW):=⟨rfl,rfl,rfl,by decide +kernel,rfl,by decide +kernel,by decide +kernel⟩
theorem gH:aY ["rule","count","sums","k","own"] ["rule","count"] (aj j5):=⟨rfl,rfl,rfl,by decide +kernel,rfl,by decide +kernel,by decide +kernel⟩
theorem iw:aY ["sums","rule","k"] ["sums"] (aj iV):=⟨rfl,rfl,rfl,by decide +kernel,rfl,by decide +kernel,by decide +kernel⟩
theorem jd:aY ["number","found"] ["number"] (aj jL):=⟨rfl,rfl,rfl,by decide +kernel,rfl,by decide +kernel,by decide +kernel⟩
theorem Ah:aY ["monic_one","poly"] ["monic_one","poly"] (aj qb):=⟨rfl,rfl,rfl,by decide +kernel,rfl,by decide +kernel,by decide +kernel⟩
theorem sV:aY ["prime","poly"] ["prime","poly"] (aj j8):=⟨rfl,rfl,rfl,by decide +kernel,rfl,by decide +kernel,by decide +kernel⟩
theorem rR:aY ["modulus","number","rest"] ["modulus","number"] (aj pL):=⟨rfl,rfl,rfl,by decide +kernel,rfl,by decide +kernel,by decide +kernel⟩
theorem uY:aY ["modulus","number","prime","rest","more"] ["modulus","number","prime","rest"] (aj tu):=⟨rfl,rfl,rfl,by decide +kernel,rfl,by decide +kernel,by decide +kernel⟩
theorem bf:aY ["one","other","told","modulus","prime","ripe","seen","before"] ["one","other"] (aj gw):=⟨rfl,rfl,rfl,by decide +kernel,rfl,by decide +kernel,by decide +kernel⟩
theorem n8:aY ["by","one","other"] ["by","one","other"] (aj gF):=⟨rfl,rfl,rfl,by decide +kernel,rfl,by decide +kernel,by decide +kernel⟩
theorem jm:aY ["row","poly","by","starts","top","k","parts"] ["row","poly"] (aj tY):=⟨rfl,rfl,rfl,by decide +kernel,rfl,by decide +kernel,by decide +kernel⟩
theorem jK:aY ["row","by","poly","top"] ["row"] (aj nU):=⟨rfl,rfl,rfl,by decide +kernel,rfl,by decide +kernel,by decide +kernel⟩
theorem lQ:aY ["row","least","rule"] ["row"] (aj nF):=⟨rfl,rfl,rfl,by decide +kernel,rfl,by decide +kernel,by decide +kernel⟩
theorem rE:aY ["length"] ["length"] (aj jA):=⟨rfl,rfl,rfl,by decide +kernel,rfl,by decide +kernel,by decide +kernel⟩
theorem lE:aY ["by","rule","starts","rule_taken","starts_taken"] ["by","rule","starts"] (aj nq):=⟨rfl,rfl,rfl,by decide +kernel,rfl,by decide +kernel,by decide +kernel⟩
theorem vP:aY ["ours","theirs","n"] ["ours","theirs","n"] (aj lA):=⟨rfl,rfl,rfl,by decide +kernel,rfl,by decide +kernel,by decide +kernel⟩
theorem oH:aY ["ours","theirs","n"] ["ours","theirs","n"] (aj iz):=⟨rfl,rfl,rfl,by decide +kernel,rfl,by decide +kernel,by decide +kernel⟩
theorem qJ:aY ["ours","theirs","n"] ["ours","theirs","n"] (aj jg):=⟨rfl,rfl,rfl,by decide +kernel,rfl,by decide +kernel,by decide +kernel⟩
theorem jE:aY ["one","other","rule","pair_place","length","ours","theirs"] ["one","other","rule","pair_place"] (aj nZ):=⟨rfl,rfl,rfl,by decide +kernel,rfl,by decide +kernel,by decide +kernel⟩
theorem fX:aY ["one","other","pair_place","by","ours","theirs","poly"] ["one","other","pair_place"] (aj lK):=⟨rfl,rfl,rfl,by decide +kernel,rfl,by decide +kernel,by decide +kernel⟩
theorem Fx:aY ["one","other"] ["one","other"] (aj xM):=⟨rfl,rfl,rfl,by decide +kernel,rfl,by decide +kernel,by decide +kernel⟩
theorem Dd:aY ["one","other"] ["one","other"] (aj sU):=⟨rfl,rfl,rfl,by decide +kernel,rfl,by decide +kernel,by decide +kernel⟩
theorem cV:aY ["one","other","ours","theirs","length","our_sums","their_sums","rule"] ["one","other"] (aj jR):=⟨rfl,rfl,rfl,by decide +kernel,rfl,by decide +kernel,by decide +kernel⟩
theorem wu:aY ["_law_script","_law_k"] ["_law_script","_law_k"] (aj nD):=⟨rfl,rfl,rfl,by decide +kernel,rfl,by decide +kernel,by decide +kernel⟩
theorem w6:aY ["_law_cell","_law_k","_law_number"] ["_law_cell","_law_k"] (aj BF):=⟨rfl,rfl,rfl,by decide +kernel,rfl,by decide +kernel,by decide +kernel⟩
theorem Bj:aY ["_law_by","_law_number"] ["_law_by","_law_number"] (aj uf):=⟨rfl,rfl,rfl,by decide +kernel,rfl,by decide +kernel,by decide +kernel⟩
theorem iT:aY ["_law_by","_law_cell","_law_k","_law_far","_law_small"] ["_law_by","_law_cell","_law_k"] (aj jG):=⟨rfl,rfl,rfl,by decide +kernel,rfl,by decide +kernel,by decide +kernel⟩
theorem cH:aY ["_law_row","_law_number","_law_by","_law_rule","_law_starts","_law_some","_law_longer","_law_k"] ["_law_row","_law_number"] (aj iZ):=⟨rfl,rfl,rfl,by decide +kernel,rfl,by decide +kernel,by decide +kernel⟩
theorem cL:aY ["_law_script","_law_start","_law_by","_law_most","_law_cell","_law_size","_law_mine","_law_rule","_law_k","_law_row"] ["_law_script","_law_start","_law_by","_law_most"] (aj jY):=⟨rfl,rfl,rfl,by decide +kernel,rfl,by decide +kernel,by decide +kernel⟩
theorem gU:aY ["_law_row","_law_count","_law_by","_law_rule","_law_starts","_law_found","_law_total"] ["_law_row","_law_count"] (aj qH):=⟨rfl,rfl,rfl,by decide +kernel,rfl,by decide +kernel,by decide +kernel⟩
theorem mV:aY ["_law_told","_law_kept","e"] ["_law_told"] (aj tG):=⟨rfl,rfl,rfl,by decide +kernel,rfl,by decide +kernel,by decide +kernel⟩
theorem tV:aY ["_law_one","_law_other","_law_found","_law_first","_law_second"] ["_law_one","_law_other"] (aj CD):=⟨rfl,rfl,rfl,by decide +kernel,rfl,by decide +kernel,by decide +kernel⟩
theorem m5:aY ["_law_by","_law_size","_law_cell","_law_rule"] ["_law_by","_law_size","_law_cell"] (aj jT):=⟨rfl,rfl,rfl,by decide +kernel,rfl,by decide +kernel,by decide +kernel⟩
theorem f9:aY ["_law_script","_law_bys","_law_cell","_law_by","_law_other_by","_law_one","_law_size","_law_more","_law_first","_law_second","_law_due","_law_wide","_law_high","_law_third","_law_fourth"] ["_law_script"] (aj xY):=⟨rfl,rfl,rfl,by decide +kernel,rfl,by decide +kernel,by decide +kernel⟩
abbrev Bm:Scope:={ kind:= .function,names:=[(".0",.local),("number",.local),("over",.globalImplicit),("last",.cell),("prime",.cell)],isGenerator:=false,isCoroutine:=false }
abbrev xW:Scope:={ kind:= .function,names:=[(".0",.local),("k",.local),("taken",.globalImplicit),("by",.cell),("length",.cell),("rule",.cell)],isGenerator:=false,isCoroutine:=false }
abbrev v8:Scope:={ kind:= .function,names:=[(".0",.local),("k",.local),("taken",.globalImplicit),("by",.cell),("length",.cell),("poly",.cell)],isGenerator:=false,isCoroutine:=false }
abbrev oO:Scope:={ kind:= .function,names:=[(".0",.local),("i",.local),("k",.cell),("rule",.cell),("sums",.cell)],isGenerator:=false,isCoroutine:=false }
abbrev qY:Scope:={ kind:= .function,names:=[(".0",.local),("number",.local),("taken",.globalImplicit),("prime",.cell)],isGenerator:=false,isCoroutine:=false }
abbrev mq:Scope:={ kind:= .function,names:=[(".0",.local),("rest",.local),("nearest",.globalImplicit),("prime",.cell)],isGenerator:=false,isCoroutine:=false }
abbrev mW:Scope:={ kind:= .function,names:=[(".0",.local),("k",.local),("joined",.globalImplicit),("before",.cell),("modulus",.cell),("prime",.cell),("seen",.cell)],isGenerator:=false,isCoroutine:=false }
abbrev zY:Scope:={ kind:= .function,names:=[(".0",.local),("j",.local),("k",.cell),("poly",.cell),("starts",.cell)],isGenerator:=false,isCoroutine:=false }
abbrev vq:Scope:={ kind:= .function,names:=[(".0",.local),("number",.local),("taken",.globalImplicit),("by",.cell)],isGenerator:=false,isCoroutine:=false }
abbrev uN:Scope:={ kind:= .function,names:=[(".0",.local),("number",.local),("taken",.globalImplicit),("by",.cell)],isGenerator:=false,isCoroutine:=false }
abbrev oJ:Scope:={ kind:= .function,names:=[(".0",.local),("i",.local),("n",.cell),("ours",.cell),("theirs",.cell)],isGenerator:=false,isCoroutine:=false }
abbrev vN:Scope:={ kind:= .function,names:=[(".0",.local),("n",.local),("ours",.cell),("pair_place",.cell),("theirs",.cell)],isGenerator:=false,isCoroutine:=false }
abbrev qX:Scope:={ kind:= .function,names:=[(".0",.local),("k",.local),("our_sums",.cell),("their_sums",.cell)],isGenerator:=false,isCoroutine:=false }
abbrev oN:Scope:={ kind:= .function,names:=[(".0",.local),("_law_one",.local),("_law_taken",.globalImplicit),("_law_by",.cell)],isGenerator:=false,isCoroutine:=false }
abbrev rC:Scope:={ kind:= .function,names:=[(".0",.local),("_law_k",.local),("_law_one_number",.globalImplicit),("_law_by",.cell),("_law_mine",.cell)],isGenerator:=false,isCoroutine:=false }
abbrev rA:Scope:={ kind:= .function,names:=[(".0",.local),("_law_k",.local),("_law_one_number",.globalImplicit),("_law_by",.cell),("_law_mine",.cell)],isGenerator:=false,isCoroutine:=false }
abbrev v7:Scope:={ kind:= .function,names:=[(".0",.local),("_law_k",.local),("_law_found",.cell),("_law_rule",.cell)],isGenerator:=false,isCoroutine:=false }
abbrev rB:Scope:={ kind:= .function,names:=[(".0",.local),("_law_k",.local),("_law_one_number",.globalImplicit),("_law_by",.cell),("_law_cell",.cell)],isGenerator:=false,isCoroutine:=false }
structure Bt(mg:Str->Option Value):Prop where
 b_ValueError:mg "ValueError" = none
 b_int:mg "int" = none
 b_isinstance:mg "isinstance" = none
 b_len:mg "len" = none
 b_list:mg "list" = none
 b_max:mg "max" = none
 b_min:mg "min" = none
 b_range:mg "range" = none
 b_sum:mg "sum" = none
 b_tuple:mg "tuple" = none
 g_BELOW_THE_PRIMES:∃t,mg "BELOW_THE_PRIMES" = some (.int 1000000 t)
 g_LONGEST:∃t,mg "LONGEST" = some (.int 12 t)
structure Ms(K:PySem.W.Frag)(mg:Str->Option Value)(base:Heap)(aL aN aF aV aP aB aM aO aq:Addr):Prop where
 m_NoBy:mg "NoBy" = some (.ref aL)
 m_NoName:mg "NoName" = some (.ref aN)
 m_NoNumber:mg "NoNumber" = some (.ref aF)
 m_NoRow:mg "NoRow" = some (.ref aV)
 m_NoText:mg "NoText" = some (.ref aP)
 m_RuleError:mg "RuleError" = some (.ref aB)
 m_TooBig:mg "TooBig" = some (.ref aM)
 m_TooFar:mg "TooFar" = some (.ref aO)
 m_TooLong:mg "TooLong" = some (.ref aq)
 x_NoBy:ExC mg base "NoBy" aL
 s_NoBy_RuleError:ExS base aL aB
 i_NoBy:ExI K aL
 k_NoBy_NoBy:PySem.W.kitOne K (.ref aL) (.ref aL)=some true
 k_NoBy_NoName:PySem.W.kitOne K (.ref aL) (.ref aN)=some false
 k_NoBy_NoNumber:PySem.W.kitOne K (.ref aL) (.ref aF)=some false
 k_NoBy_NoRow:PySem.W.kitOne K (.ref aL) (.ref aV)=some false
 k_NoBy_NoText:PySem.W.kitOne K (.ref aL) (.ref aP)=some false
 k_NoBy_RuleError:PySem.W.kitOne K (.ref aL) (.ref aB)=some true
 k_NoBy_TooBig:PySem.W.kitOne K (.ref aL) (.ref aM)=some false
 k_NoBy_TooFar:PySem.W.kitOne K (.ref aL) (.ref aO)=some false
 k_NoBy_TooLong:PySem.W.kitOne K (.ref aL) (.ref aq)=some false
 k_NoBy_ValueError:PySem.W.kitOne K (.ref aL) (.type "ValueError")=some true
 x_TooLong:ExC mg base "TooLong" aq
 s_TooLong_RuleError:ExS base aq aB
 i_TooLong:ExI K aq
 k_TooLong_NoBy:PySem.W.kitOne K (.ref aq) (.ref aL)=some false
 k_TooLong_NoName:PySem.W.kitOne K (.ref aq) (.ref aN)=some false
 k_TooLong_NoNumber:PySem.W.kitOne K (.ref aq) (.ref aF)=some false
 k_TooLong_NoRow:PySem.W.kitOne K (.ref aq) (.ref aV)=some false
 k_TooLong_NoText:PySem.W.kitOne K (.ref aq) (.ref aP)=some false
 k_TooLong_RuleError:PySem.W.kitOne K (.ref aq) (.ref aB)=some true
 k_TooLong_TooBig:PySem.W.kitOne K (.ref aq) (.ref aM)=some false
 k_TooLong_TooFar:PySem.W.kitOne K (.ref aq) (.ref aO)=some false
 k_TooLong_TooLong:PySem.W.kitOne K (.ref aq) (.ref aq)=some true
 k_TooLong_ValueError:PySem.W.kitOne K (.ref aq) (.type "ValueError")=some true
abbrev Vn:Nat:=18
theorem dF(a:Int){b:Int}(h:0<b):0<=a%b:=Int.emod_nonneg _ (by omega)
theorem dD(a:Int){b:Int}(h:0<b):a%b<b:=Int.emod_lt_of_pos _ h
theorem bH{ns:List Int}{k:Int}(h0:0<=k)(h1:k<(ns.length:Int)):atI (ns.map V.int) k=some (.int (ns.getD k.toNat 0)):=by
 have e:k=((k.toNat:Nat):Int):=by omega
 have hk:k.toNat<ns.length:=by omega
 conv=>lhs;rw[e]
 exact IL (by rw[List.getElem?_map,List.getElem?_eq_getElem hk,List.getD_eq_getElem?_getD,List.getElem?_eq_getElem hk]<;>rfl)
theorem dec_true{p:Prop}[Decidable p](c:decide p=true):p:=of_decide_eq_true c
theorem dec_false{p:Prop}[Decidable p](c:¬decide p=true):¬p:=of_decide_eq_false (Bool.eq_false_iff.mpr c)
def jh(b x:Int):Prop:=b=0∨(0<=x/\x<b)
structure Rw where
 b:Int
 rule:List Int
 starts:List Int
structure o9(r:Rw):Prop where
 len:r.rule.length=r.starts.length
 short:r.rule.length<=24
 by0:0<=r.b
 by1:r.b<1000
 ruleNum:∀x∈r.rule,jh r.b x
 startsNum:∀x∈r.starts,jh r.b x
 ruleBd:∀x∈r.rule,Rm.Bd 60000 x
 startsBd:∀x∈r.starts,Rm.Bd 3000 x
def Rw.row(r:Rw)(n:Nat):List Int:=Rm.row r.b r.rule r.starts n
def Rw.at(r:Rw)(n:Nat):Int:=Rm.at_ r.b r.rule r.starts n
theorem o9.bd{r:Rw}(h:o9 r)(n:Nat)(hn:n<=1000):Rm.Bd 61000000 (r.at n):=by
 have q:=Rm.zK (b:=r.b) (rule:=r.rule) (starts:=r.starts) (a:=60000) (c:=3000) h.len h.by0 ((Rm.Bd.of (n:=10) (by have:=h.by0;omega) (by have:=h.by1;omega)).mono (by decide)) h.ruleBd h.startsBd n;refine q.mono ?_;have h1:=h.short;have h2:n*(60000+r.rule.length)<=1000*60024:=Nat.mul_le_mul hn (by omega);omega
theorem o9.Fz{r:Rw}(h:o9 r)(n:Nat)(hn:n<=1000):∀x∈r.row n,Rm.Bd 61000000 x:=by
 intro x hx;have e:r.row n=(List.range n).map r.at:=Rm.Dh ..;rw[e]at hx;obtain⟨i,hi,rfl⟩:=List.mem_map.mp hx;exact h.bd i (by have:=List.mem_range.mp hi;omega)
theorem Rw.eG(r:Rw)(n:Nat):(r.row n).length=n:=Rm.eG ..
theorem oU{x y:Int}{m n:Nat}(h:Rm.Bd m x)(h':Rm.Bd n y)(hn:m+n<=134217728):IntMulOk x y:=
 IntMulOk.of_le (intBits_le_iff.mpr h) (intBits_le_iff.mpr h') hn
def cU(H:Hp)(v:V)(r:Rw):Prop:=
 ∃a p q,v = .ref a/\H a=some (.tup [.int r.b,.ref p,.ref q])/\H p=some (.tup (r.rule.map V.int))/\H q=some (.tup (r.starts.map V.int))
theorem cU.same{H H':Hp}{v:V}{r:Rw}(h:cU H v r)(g:Same H H'):cU H' v r:=by
 obtain⟨a,p,q,e,h1,h2,h3⟩:=h;exact⟨a,p,q,e,g _ _ h1,g _ _ h2,g _ _ h3⟩
theorem LX(rule:List Int)(f:Nat->Int)(n:Nat):∀m:Nat,((List.range m).map fun k=>rule.getD k 0*f (n-1-k)).sum=Rm.S rule f n m
 |0=>rfl
 |m+1=>by
  rw[List.range_succ,List.map_append,List.sum_append,LX rule f n m];simp[Rm.S]
theorem tH(xs:List Int)(x:Int):(xs++[x]).map V.int=xs.map V.int++[.int x]:=by rw[List.map_append];rfl
def Told(H:Hp)(Q:VK)(xs:List V):Prop:=∀r H',Same H H'->H r=none->H' r=some (.lst xs)->Q (.ref r) H'
theorem Cy(xs:List V)(k:Nat):vU xs none (some (k:Int))=xs.take k:=by
 unfold vU;rw[HT.jM,HT.gM,List.drop_zero,Nat.sub_zero,List.take_eq_take_iff];omega
def vJ(H:Hp)(Q:VK)(ns:List Int):Prop:=∀p H',Same H H'->H' p=some (.tup (ns.map V.int))->Q (.ref p) H'
theorem uJ{xs:List Int}{n:Nat}(h:0<n)(hn:n<=xs.length):xs.take n=xs.take (n-1)++[xs.getD (n-1) 0]:=by
 obtain⟨m,rfl⟩:∃m,n=m+1:=⟨n-1,by omega⟩;rw[Nat.add_sub_cancel,List.take_add_one,List.getElem?_eq_getElem (by omega),List.getD_eq_getElem?_getD,List.getElem?_eq_getElem (by omega)];rfl
theorem CK{xs:List Int}{n:Nat}(h:0<n)(hn:n<=xs.length)(ht:Pm.trim (xs.take n)=Pm.trim xs)(h0:xs.getD (n-1) 0=0):Pm.trim (xs.take (n-1))=Pm.trim xs:=by
 rw[uJ h hn,h0,Pm.uO]at ht;exact ht
theorem vD{xs:List Int}{n:Nat}(hn:n<=xs.length)(ht:Pm.trim (xs.take n)=Pm.trim xs)(h0:n=0∨xs.getD (n-1) 0≠0):xs.take n=Pm.trim xs:=by
 rcases h0 with h0|h0
 ·subst h0;rw[<-ht];rfl
 ·by_cases hz:n=0
  ·subst hz;rw[<-ht];rfl
  ·rw[<-ht,uJ (by omega) hn,Pm.qz _ h0]
theorem vO{n j:Nat}{i:Int}(e:i=(j:Int))(h:j<n):ixN n i=some j:=by
 subst e;unfold ixN;rw[if_pos (by omega),if_pos (by omega),Int.toNat_natCast]
theorem iD(L:List Int)(j:Nat)(x:Int):(L.map V.int).set j (.int x)=(L.set j x).map V.int:=by rw[List.map_set]
theorem gJ(n:Nat):(List.replicate n [V.int 0]).flatten=(Pm.ofF n fun _=>0).map V.int:=by
 induction n with
 |zero=>rfl
 |succ n ih=>
  rw[Pm.zu,List.map_append,<-ih,List.replicate_succ',List.flatten_append];rfl
theorem oY{n:Nat}{ix:List (Option Nat)}{te:TE}{σ:St}{H1:Hp}{Q:VK}(hz:n<=1000){rest:St}(hst:cst ix σ=none::rest)(f:Nat->Int)
  (he:∀H' k,Same H1 H'->k<n->∀kk:VK,kk (.int (f k)) H'->te (some (.int (0+(k:Int)))::rest) H' kk)
  (hQ:∀D,H1 D=none->Q (.ref D) (upd H1 D (.lst ((Pm.ofF n f).map V.int)))):oR ix (lZ 0) Dy te σ Q (Itr 0 n) H1:=by
 refine jW mU (by rw[List.length_map,List.length_range];exact Nat.le_of_lt (bQ hz)) hst (fun _=>true) (fun x=>match x with | .int k=> .int (f k.toNat)|_=> .non) ?_ ?_ ?_
 ·intro H2 x g2 hx k hk;exact hk
 ·intro H2 x g2 hx _ k hk;obtain⟨j,hj,rfl⟩:=List.mem_map.mp hx;have e1:(0+(j:Int)).toNat=j:=by omega
  refine he H2 j g2 (List.mem_range.mp hj) k ?_;have hk':k (V.int (f (0+(j:Int)).toNat)) H2:=hk
  rwa [e1]at hk'
 ·intro D hD;have el:((((List.range n).map fun i=>V.int (0+(i:Nat))).filter fun _=>true).map fun x=>match x with | .int k=>V.int (f k.toNat)|_=>V.non)=(Pm.ofF n f).map V.int:=by
   rw[List.filter_eq_self.mpr (by simp),List.map_map,Pm.ofF,List.map_map];refine List.map_congr_left fun k _=>?_;show V.int (f (0+(k:Int)).toNat)=V.int (f k);rw[show(0+(k:Int)).toNat=k by omega]
  rw[el];exact hQ D hD
theorem uF{K:PySem.W.Frag}{a:Addr}{xs:List Int}{ix:List (Option Nat)}{te:TE}{σ:St}{H1:Hp}{Q:VK}(hA:H1 a=some (.tup (xs.map V.int)))(hz:xs.length<=1000){rest:St}(hst:cst ix σ=none::rest)(f:Int->Int)
  (he:∀H' x,Same H1 H'->x∈xs->∀kk:VK,kk (.int (f x)) H'->te (some (.int x)::rest) H' kk)
  (hQ:∀D,H1 D=none->Q (.ref D) (upd H1 D (.lst ((xs.map f).map V.int)))):oR ix (lZ 0) Dy te σ Q (Itt K a) H1:=by
 refine jW (D4 (SqT.of hA)) (by rw[List.length_map];exact Nat.le_of_lt (bQ hz)) hst (fun _=>true) (fun x=>match x with | .int k=> .int (f k)|_=> .non) ?_ ?_ ?_
 ·intro H2 x g2 hx k hk;exact hk
 ·intro H2 x g2 hx _ k hk;obtain⟨y,hy,rfl⟩:=List.mem_map.mp hx;exact he H2 y g2 hy k hk
 ·intro D hD;have el:(((xs.map V.int).filter fun _=>true).map fun x=>match x with | .int k=>V.int (f k)|_=>V.non)=(xs.map f).map V.int:=by
   rw[List.filter_eq_self.mpr (by simp),List.map_map,List.map_map];rfl
  rw[el];exact hQ D hD
theorem Fb{K:PySem.W.Frag}{a:Addr}{xs:List Int}{ix:List (Option Nat)}{te:TE}{σ:St}{H1:Hp}{Q:VK}(hA:H1 a=some (.lst (xs.map V.int)))(hz:xs.length<=1000){rest:St}(hst:cst ix σ=none::rest)(f:Int->Int)
  (he:∀H' x,Same H1 H'->x∈xs->∀kk:VK,kk (.int (f x)) H'->te (some (.int x)::rest) H' kk)
  (hQ:∀D,H1 D=none->Q (.ref D) (upd H1 D (.lst ((xs.map f).map V.int)))):oR ix (lZ 0) Dy te σ Q (Itl K a) H1:=by
 refine jW (yw (SqL.of hA)) (by rw[List.length_map];exact Nat.le_of_lt (bQ hz)) hst (fun _=>true) (fun x=>match x with | .int k=> .int (f k)|_=> .non) ?_ ?_ ?_
 ·intro H2 x g2 hx k hk;exact hk
 ·intro H2 x g2 hx _ k hk;obtain⟨y,hy,rfl⟩:=List.mem_map.mp hx;exact he H2 y g2 hy k hk
 ·intro D hD;have el:(((xs.map V.int).filter fun _=>true).map fun x=>match x with | .int k=>V.int (f k)|_=>V.non)=(xs.map f).map V.int:=by
   rw[List.filter_eq_self.mpr (by simp),List.map_map,List.map_map];rfl
  rw[el];exact hQ D hD
theorem eV:∀P∈Om.iu,2<=P/\P<1000:=by decide +kernel
def ByP(b:Int):Prop:=b=0∨∃P:Nat,P∈Om.iu/\b=(P:Int)
theorem ByP.dom{b:Int}(h:ByP b):Dm.Dom b:=by
 rcases h with rfl|⟨P,hP,rfl⟩
 ·exact Dm.Dom.zero
 ·exact Dm.Dom.prime hP (eV P hP).1
theorem ByP.one{b:Int}(h:ByP b):Rm.tk b 1=1:=by
 rcases h with rfl|⟨P,hP,rfl⟩
 ·exact Rm.bK 1
 ·have:=eV P hP;rw[Rm.fB (by omega)];exact Int.emod_eq_of_lt (by decide) (by omega)
inductive FP(vs:List V)(H:Hp)(Q:VK)(E:XK):Prop|mk (b n:Int) (z_0:vs=[.int b,.int n]) (z_1:0<=b) (z_2:Q (.int (Rm.tk b n)) H)
def dM:Sp:=fun vs H Q E=>FP  vs H Q E
inductive Js(K:PySem.W.Frag)(vs:List V)(H:Hp)(Q:VK)(E:XK):Prop|mk (b:Int) (r s:Addr) (rule before:List Int) (z_0:vs=[.int b,.ref r,.ref s]) (z_1:0<=b) (z_2:SqT K H r (rule.map V.int)) (z_3:SqL K H s (before.map V.int)) (z_4:rule.length<=before.length) (z_5:rule.length<=24) (z_6:before.length<=1000) (z_7:(∀x∈rule,Rm.Bd 60000 x)) (z_8:(∀x∈before,Rm.Bd 61000000 x)) (z_9:Q (.int (Rm.tk b (Rm.S rule (fun i=>before.getD i 0) before.length rule.length))) H)
def GQ(K:PySem.W.Frag):Sp:=fun vs H Q E=>Js K vs H Q E
inductive Gd(K:PySem.W.Frag)(vs:List V)(H:Hp)(Q:VK)(E:XK):Prop|mk (v:V) (r:Rw) (c:Int) (z_0:vs=[v,.int c]) (z_1:cU H v r) (z_2:o9 r) (z_3:0<=c) (z_4:c<=900) (z_5:Told H Q ((r.row c.toNat).map V.int))
def AZ(K:PySem.W.Frag):Sp:=fun vs H Q E=>Gd K vs H Q E
inductive DC(vs:List V)(H:Hp)(Q:VK)(E:XK):Prop|mk (n:Nat) (z_0:vs=[.int n]) (z_1:n<2097152) (z_2:∀b:Bool,(b=true↔Om.cC n)->Q (.bl b) H)
def yh:Sp:=fun vs H Q E=>DC  vs H Q E
inductive EJ(vs:List V)(H:Hp)(Q:VK)(E:XK):Prop|mk (n q:Nat) (z_0:vs=[.int n]) (z_1:Om.cC q) (z_2:n<q) (z_3:q<2097152) (z_4:∀p:Nat,Om.cC p->n<p->p<=q->Q (.int p) H)
def DX:Sp:=fun vs H Q E=>EJ  vs H Q E
inductive yd(vs:List V)(H:Hp)(Q:VK)(E:XK):Prop|mk (P:Nat) (a:Int) (z_0:vs=[.int P,.int a]) (z_1:Om.cC P) (z_2:P<2097152) (z_3:0<a) (z_4:a<(P:Int)) (z_5:∀x:Int,0<=x->x<2097152->x%(P:Int)=a^(P-2)%(P:Int)->Q (.int x) H)
def rF:Sp:=fun vs H Q E=>yd  vs H Q E
inductive FW(vs:List V)(H:Hp)(Q:VK)(E:XK):Prop|mk (P:Nat) (one other:Int) (z_0:vs=[.int P,.int one,.int other]) (z_1:Om.cC P) (z_2:P<2097152) (z_3:0<other) (z_4:other<(P:Int)) (z_5:Q (.int (one*other^(P-2)%(P:Int))) H)
def wG:Sp:=fun vs H Q E=>FW  vs H Q E
inductive HB(K:PySem.W.Frag)(vs:List V)(H:Hp)(Q:VK)(E:XK):Prop|mk (l:Addr) (xs:List Int) (z_0:vs=[.ref l]) (z_1:SqL K H l (xs.map V.int)) (z_2:vJ H Q (Pm.trim xs))
def uV(K:PySem.W.Frag):Sp:=fun vs H Q E=>HB K vs H Q E
inductive E9(vs:List V)(H:Hp)(Q:VK)(E:XK):Prop|mk (b:Int) (a c:Addr) (p r:List Int) (z_0:vs=[.int b,.ref a,.ref c]) (z_1:0<=b) (z_2:H a=some (.tup (p.map V.int))) (z_3:H c=some (.tup (r.map V.int))) (z_4:p.length<=400) (z_5:r.length<=400) (z_6:(∀x∈p,Rm.Bd 1000000 x)) (z_7:(∀x∈r,Rm.Bd 1000000 x)) (z_8:vJ H Q (Pm.mul b p r))
def Di:Sp:=fun vs H Q E=>E9  vs H Q E
def N8(H:Hp)(Q:VK)(b:Int)(P M:List Int):Prop:=∀t x y q r H',Same H H'->H' t=some (.tup [.ref x,.ref y])->H' x=some (.tup (List.map V.int q))->H' y=some (.tup (List.map V.int r))->Pm.Div b P M q r->
 (∀z∈q,Rm.Bd 5300000 z)->(∀z∈r,Rm.Bd 5300000 z)->q.length<=P.length->Q (.ref t) H'
inductive wD(vs:List V)(H:Hp)(Q:VK)(E:XK):Prop|mk (b:Int) (a c:Addr) (P M:List Int) (z_0:vs=[.int b,.ref a,.ref c]) (z_1:0<=b) (z_2:b<2097152) (z_3:H a=some (.tup (P.map V.int))) (z_4:H c=some (.tup (M.map V.int))) (z_5:P.length<=40) (z_6:M.length<=40) (z_7:Pm.Mon M) (z_8:(∀k,Rm.tk b (Pm.co P k)=Pm.co P k)) (z_9:(∀x∈P,Rm.Bd 300000 x)) (z_10:(∀x∈M,Rm.Bd 124000 x)) (z_11:N8 H Q b P M)
def kj:Sp:=fun vs H Q E=>wD  vs H Q E
theorem Cz{L:List Int}{u:Nat}(h:∀k,Rm.Bd u (Pm.co L k)):∀x∈Pm.trim L,Rm.Bd u x:=fun x hx=>by
 obtain⟨k,hk,e⟩:=List.mem_iff_getElem.mp hx;rw[<-e,<-Pm.m7 hk,Pm.iy];exact h k
theorem max_zero(m n:Nat):(if(m:Int)-((n:Int)-1)>0 then(m:Int)-((n:Int)-1)else 0).toNat=m-(n-1)∨n=0:=by
 by_cases h:n=0
 ·exact .inr h
 ·left;split<;>omega
def Qt(H:Hp)(Q:VK)(b:Int)(p:List Int):Prop:=∀t m H',Same H H'->H' t=some (.tup (List.map V.int m))->Pm.sS b p m->Q (.ref t) H'
inductive B5(vs:List V)(H:Hp)(Q:VK)(E:XK):Prop|mk (P:Nat) (a:Addr) (p:List Int) (z_0:vs=[.int P,.ref a]) (z_1:Om.cC P) (z_2:P<2097152) (z_3:H a=some (.tup (p.map V.int))) (z_4:p.length<=300) (z_5:Pm.Py P p) (z_6:Qt H Q P p)
def zj:Sp:=fun vs H Q E=>B5  vs H Q E
def K5(H:Hp)(Q:VK)(b:Int)(p r:List Int):Prop:=∀t g H',Same H H'->H' t=some (.tup (List.map V.int g))->Pm.Gcd b p r g->g.length<=max p.length r.length->Q (.ref t) H'
inductive vh(vs:List V)(H:Hp)(Q:VK)(E:XK):Prop|mk (P:Nat) (a c:Addr) (p r:List Int) (z_0:vs=[.int P,.ref a,.ref c]) (z_1:Om.cC P) (z_2:P<2097152) (z_3:H a=some (.tup (p.map V.int))) (z_4:H c=some (.tup (r.map V.int))) (z_5:p.length<=40) (z_6:r.length<=40) (z_7:Pm.Py P p) (z_8:Pm.Py P r) (z_9:(r=[]->p≠[])) (z_10:K5 H Q P p r)
def lH:Sp:=fun vs H Q E=>vh  vs H Q E
theorem Iw{P:Nat}(h0:2<=P)(h:P<2097152){p:List Int}(hp:Pm.Py P p):∀x∈p,Rm.Bd 124000 x:=fun x hx=>by
 have:=hp.nu x hx;rw[Rm.fB (by omega)]at this;rw[<-this];exact Rm.Bd.emod (by omega) ((Rm.Bd.of (n:=21) (by omega) (by omega)).mono (by decide))
inductive zV(vs:List V)(H:Hp)(Q:VK)(E:XK):Prop|mk (M x:Int) (z_0:vs=[.int M,.int x]) (z_1:0<M) (z_2:Q (.int (Pm.nr M x)) H)
def qT:Sp:=fun vs H Q E=>zV  vs H Q E
inductive Dj(vs:List V)(H:Hp)(Q:VK)(E:XK):Prop|mk (M t:Int) (p:Nat) (s:Int) (z_0:vs=[.int M,.int t,.int p,.int s]) (z_1:Om.cC p) (z_2:p<2097152) (z_3:0<M) (z_4:¬(p:Int)∣M) (z_5:Q (.int (Pm.jn M t p s)) H)
def yN:Sp:=fun vs H Q E=>Dj  vs H Q E
inductive uR(vs:List V)(H:Hp)(Q:VK)(E:XK):Prop|mk (p:Nat) (a:Addr) (P:List Int) (z_0:vs=[.int p,.ref a]) (z_1:0<p) (z_2:H a=some (.tup (P.map V.int))) (z_3:P.length<=100) (z_4:vJ H Q (Pm.trim (P.map (Rm.tk p))))
def pO:Sp:=fun vs H Q E=>uR  vs H Q E
inductive AF(vs:List V)(H:Hp)(Q:VK)(E:XK):Prop|mk (m a:Addr) (M P:List Int) (z_0:vs=[.ref m,.ref a]) (z_1:H m=some (.tup (M.map V.int))) (z_2:H a=some (.tup (P.map V.int))) (z_3:M.length<=40) (z_4:P.length<=40) (z_5:Pm.Mon M) (z_6:(∀x∈M,Rm.Bd 124000 x)) (z_7:(∀x∈P,Rm.Bd 300000 x)) (z_8:∀b H',Same H H'->(b=true↔Pm.Dv 0 M (Pm.co P))->Q (.bl b) H')
def vH:Sp:=fun vs H Q E=>AF  vs H Q E
inductive Wb(vs:List V)(H:Hp)(Q:VK)(E:XK):Prop|mk (a c:Addr) (P t g:List Int) (N:Int) (U V':Nat) (z_0:vs=[.ref a,.ref c]) (z_1:H a=some (.tup (P.map V.int))) (z_2:H c=some (.tup (t.map V.int))) (z_3:P.length<=40) (z_4:t.length<=40) (z_5:Pm.Mon P) (z_6:(∀x∈P,Rm.Bd 124000 x)) (z_7:(∀x∈t,Rm.Bd 300000 x)) (z_8:Pm.GcZ P (Pm.co t) g N) (z_9:Rm.Bd V' N) (z_10:(∀k,Rm.Bd U (Pm.co g k))) (z_11:V'+U+57<=112100) (z_12:vJ H Q g)
def Yb:Sp:=fun vs H Q E=>Wb  vs H Q E
theorem Dn(p:Nat)(P:List Int)(k:Nat):Rm.tk (p:Int) (Pm.co (Pm.trim (P.map (Rm.tk p))) k)=Rm.tk p (Pm.co P k):=by
 rw[Pm.iy,Pm.pD (Pm.tk0 _),Rm.iI]
theorem Hq(p:Nat)(P:List Int):Pm.Py p (Pm.trim (P.map (Rm.tk p))):=Pm.Py.of fun x hx=>by
 obtain⟨y,_,rfl⟩:=List.mem_map.mp hx;exact Rm.iI ..
theorem Cu(p:Nat)(P:List Int):(Pm.trim (P.map (Rm.tk p))).length<=P.length:=by
 have:=Pm.eE (P.map (Rm.tk p))
 rwa [List.length_map]at this
theorem KJ{p:Nat}(hp:Om.cC p){P:List Int}(hP:Pm.Mon P):Pm.trim (P.map (Rm.tk p))≠[]:=fun z=>by
 have:=Dn p P (P.length-1);rw[z,Pm.dR,hP.one,Pm.CV hp,Pm.tk0]at this;exact absurd this (by decide)
theorem Uk{P g told:List Int}{N M:Int}{prime bad good:Nat}{ripe:Bool}(I:Pm.WgI P g N told M prime ripe bad good)(bP:∀x∈P,Rm.Bd 124000 x)(h:bad+good<=5900):∀x∈told,Rm.Bd 124000 x:=fun x hx=>by
 by_cases c:M=1
 ·rw[I.first c]at hx;exact bP x hx
 ·obtain⟨k,hk,e⟩:=List.mem_iff_getElem.mp hx;have n:=I.near c k;rw[Pm.m7 hk,e]at n;unfold Pm.Nr at n;have h1:=I.hi;have h2:(2:Int)^(21*(bad+good))<=2^123900:=by exact_mod_cast Nat.pow_le_pow_right (n:=2) (by decide) (show 21*(bad+good)<=123900 by omega)
  have h3:M<=2^123900:=Int.le_trans h1 h2;have hpos:=I.pos;refine(show Rm.Bd 123900 x from ?_).mono (by decide);generalize hB:(2:Int)^123900=B at h3;have h4:-B<x/\x<B:=by omega
  unfold Rm.Bd;have h5:(x.natAbs:Int)<((2^123900:Nat):Int):=by
   rw[Int.natCast_pow];show(x.natAbs:Int)<(2:Int)^123900;rw[hB];omega
  exact_mod_cast h5
def Mi(H:Hp)(a c:Addr)(P' g:List Int)(N:Int)(m:Nat)(σ':St)(H':Hp):Prop:=∃(o6 o7:Option V) (tt:Addr) (told:List Int) (M:Int) (prime:Nat) (ripe:Bool) (bad good:Nat),m=6000-(bad+good)/\σ'=[some (.ref a),some (.ref c),some (.ref tt),some (.int M),some (.int (prime:Int)),some (.bl ripe),o6,o7]/\Same H H'/\H' tt=some (.tup (told.map V.int))/\Pm.WgI P' g N told M prime ripe bad good/\Om.Many (6000-(bad+good)) prime/\1000000<=prime/\bad+good<=5900
inductive Dw(vs:List V)(H:Hp)(Q:VK)(E:XK):Prop|mk (b:Int) (a:Addr) (c:List Int) (z_0:vs=[.int b,.ref a]) (z_1:0<=b) (z_2:H a=some (.tup (c.map V.int))) (z_3:c.length<=100) (z_4:vJ H Q (Pm.aX b c))
def sH:Sp:=fun vs H Q E=>Dw  vs H Q E
inductive Bf(vs:List V)(H:Hp)(Q:VK)(E:XK):Prop|mk (b:Int) (a:Addr) (p:List Int) (z_0:vs=[.int b,.ref a]) (z_1:0<=b) (z_2:H a=some (.tup (p.map V.int))) (z_3:0<p.length) (z_4:p.length<=100) (z_5:vJ H Q (Pm.cG b p))
def tD:Sp:=fun vs H Q E=>Bf  vs H Q E
theorem Dt{lo:Int}{n:Nat}{ix:List (Option Nat)}{te:TE}{σ:St}{H1:Hp}{Q:VK}(hz:n<=1000){rest:St}(hst:cst ix σ=none::rest)(f:Nat->Int)
  (he:∀H' k,Same H1 H'->k<n->∀kk:VK,kk (.int (f k)) H'->te (some (.int (lo+(k:Int)))::rest) H' kk)
  (hQ:∀D,H1 D=none->Q (.ref D) (upd H1 D (.lst ((Pm.ofF n f).map V.int)))):oR ix (lZ 0) Dy te σ Q (Itr lo n) H1:=by
 refine jW mU (by rw[List.length_map,List.length_range];exact Nat.le_of_lt (bQ hz)) hst (fun _=>true) (fun x=>match x with | .int k=> .int (f (k-lo).toNat)|_=> .non) ?_ ?_ ?_
 ·intro H2 x g2 hx k hk;exact hk
 ·intro H2 x g2 hx _ k hk;obtain⟨j,hj,rfl⟩:=List.mem_map.mp hx;have e1:(lo+(j:Int)-lo).toNat=j:=by omega
  refine he H2 j g2 (List.mem_range.mp hj) k ?_;have hk':k (V.int (f (lo+(j:Int)-lo).toNat)) H2:=hk
  rwa [e1]at hk'
 ·intro D hD;have el:((((List.range n).map fun i=>V.int (lo+(i:Nat))).filter fun _=>true).map fun x=>match x with | .int k=>V.int (f (k-lo).toNat)|_=>V.non)=(Pm.ofF n f).map V.int:=by
   rw[List.filter_eq_self.mpr (by simp),List.map_map,Pm.ofF,List.map_map];refine List.map_congr_left fun k _=>?_;show V.int (f (lo+(k:Int)-lo).toNat)=V.int (f k);rw[show(lo+(k:Int)-lo).toNat=k by omega]
  rw[el];exact hQ D hD
theorem wO:(Om.iu.all fun p=>(List.range 32).all fun d=>decide (d<2)||decide (p<d*d)||decide (p%d≠0))=true:=by decide +kernel
theorem zZ{P:Nat}(h:P∈Om.iu):Om.cC P:=by
 have hr:=eV P h;refine Om.qP hr.1 fun d hd hdd hdv=>?_;have h32:d<32:=by
  by_cases c:d<32
  ·exact c
  ·have:32*32<=d*d:=Nat.mul_le_mul (by omega) (by omega);omega
 have:=List.all_eq_true.mp (List.all_eq_true.mp wO P h) d (List.mem_range.mpr h32);simp only[Bool.or_eq_true,decide_eq_true_eq]at this;have:=Nat.mod_eq_zero_of_dvd hdv;omega
def BR(r:Rw):List Int:=Pm.trim (Pm.ofF r.rule.length fun k=>Rm.tk r.b (Pm.tp (Pm.aX r.b r.rule) r.at k))
theorem xZ(r:Rw)(k:Nat):Pm.co (BR r) k=Rm.tk r.b (Pm.tp (Pm.aX r.b r.rule) r.at k):=by
 rw[BR,Pm.iy,Pm.bZ];by_cases c:k<r.rule.length
 ·rw[if_pos c]
 ·rw[if_neg c,Pm.Aj _ _ k (by rw[Pm.bU];omega),Pm.tk0]
theorem FQ(r:Rw):(BR r).length<=r.rule.length:=by
 have:=Pm.eE (Pm.ofF r.rule.length fun k=>Rm.tk r.b (Pm.tp (Pm.aX r.b r.rule) r.at k))
 rwa [Pm.aZ]at this
theorem o9.pC{r:Rw}(ok:o9 r):∀x∈Pm.aX r.b r.rule,Rm.Bd 60000 x:=Pm.vM ok.by0 ok.by1 (by decide) ok.ruleBd
theorem Jl{r:Rw}(ok:o9 r):∀x∈BR r,Rm.Bd 300000 x:=fun x hx=>by
 obtain⟨k,_,rfl⟩:=Pm.dH (Pm.sY hx);refine Rm.su ok.by0 ((Rm.Bd.of (n:=10) (by have:=ok.by0;omega) (by have:=ok.by1;omega)).mono (by decide)) ?_;have hs:=ok.short;have hl:=ok.len;unfold Pm.tp;rw[Pm.bU,Nat.add_sub_cancel];refine(Pm.Ak (c:=63000) _ fun i hi=>?_).mono (by omega);refine(Rm.Bd.mul (m:=60000) (n:=3000) (Pm.jV ok.pC _) ?_).mono (by omega);have e:r.at i=r.starts.getD i 0:=Rm.rz (by omega);rw[e];exact Rm.Bd.getD ok.startsBd _
inductive J6(vs:List V)(H:Hp)(Q:VK)(E:XK):Prop|mk (v:V) (r:Rw) (a:Addr) (z_0:vs=[v,.ref a]) (z_1:cU H v r) (z_2:o9 r) (z_3:H a=some (.tup ((Pm.aX r.b r.rule).map V.int))) (z_4:vJ H Q (BR r))
def LQ:Sp:=fun vs H Q E=>J6  vs H Q E
inductive Cw(vs:List V)(H:Hp)(Q:VK)(E:XK):Prop|mk (b:Int) (a c:Addr) (P t:List Int) (z_0:vs=[.int b,.ref a,.ref c]) (z_1:H a=some (.tup (P.map V.int))) (z_2:H c=some (.tup (t.map V.int))) (z_3:P.length<=40) (z_4:t.length<=40) (z_5:Pm.Mon P) (z_6:(∀x∈P,Rm.Bd 124000 x)) (z_7:(∀x∈t,Rm.Bd 300000 x)) (z_8:((b=0/\∃(g:List Int) (N:Int) (U V':Nat),Pm.GcZ P (Pm.co t) g N/\Rm.Bd V' N/\(∀k,Rm.Bd U (Pm.co g k))/\V'+U+57<=112100/\vJ H Q g)∨
 (∃p:Nat,b=(p:Int)/\Om.cC p/\p<2097152/\Pm.Py p P/\Pm.Py p t/\K5 H Q p P t)))
def yx:Sp:=fun vs H Q E=>Cw  vs H Q E
structure cI(b:Int)(f:Nat->Int)(L:List Int):Prop where
 mon:Pm.Mon L
 nu:∀k,Rm.tk b (Pm.co L k)=Pm.co L k
 kp:Pm.Kp b L f
 all:∀q,Pm.Kp b q f->Pm.Dv b L (Pm.co q)
def Tame(r:Rw):Prop:=r.b=0->∃d ua u:Nat,10<=u/\(∀x∈r.rule,Rm.Bd u x)/\(∃Q0,Pm.Mon Q0/\Pm.Kp 0 Q0 r.at/\Q0.length<=d+1)/\(∀n,n<=2*d->Rm.Bd ua (r.at n))/\d*(ua+d)+1+(u+400)+57<=112100
theorem o9.kp{r:Rw}(ok:o9 r):Pm.Kp r.b (Pm.aX r.b r.rule) r.at:=Pm.Kp.aX (Pm.Hj ok.len)
theorem GR{b:Int}{L:List Int}(h:Pm.Mon L)(hn:∀k,Rm.tk b (Pm.co L k)=Pm.co L k):Pm.Py b L:=⟨Pm.fZ (fun z=>by have:=h.pos;rw[z]at this;exact absurd this (by decide)) (by rw[h.one];decide),fun x hx=>by
 obtain⟨k,hk,e⟩:=List.mem_iff_getElem.mp hx;have:=hn k
 rwa [Pm.m7 hk,e]at this⟩
theorem qF(b:Int)(c:List Int)(h1:Rm.tk b 1=1)(k:Nat):Rm.tk b (Pm.co (Pm.aX b c) k)=Pm.co (Pm.aX b c) k:=by
 have h:∀x∈Pm.aX b c,Rm.tk b x=x:=fun x hx=>by
  rcases List.mem_append.mp hx with hx|hx
  ·obtain⟨j,_,e⟩:=Pm.dH hx;rw[e,Rm.iI]
  ·rw[List.mem_singleton.mp hx,h1]
 by_cases hk:k<(Pm.aX b c).length
 ·exact h _ (Pm.za hk)
 ·rw[Pm.bN (by omega),Pm.tk0]
theorem Eu{p:Nat}(hp:Om.cC p){r:Rw}(ok:o9 r)(hb:r.b=(p:Int)){g L o:List Int}(hG:Pm.Gcd p (Pm.aX r.b r.rule) (BR r) g)(D:Pm.Div p (Pm.aX r.b r.rule) g o L):cI r.b r.at o/\o.length<=r.rule.length+1:=by
 have h1:=Pm.CV hp;have hm:=Pm.gQ r.b r.rule;have hd:Pm.Dv p g (Pm.co (Pm.aX r.b r.rule)):=hG.one.to fun _=>rfl;obtain⟨L',hL',hn',hl',e'⟩:=Pm.mY h1 hm hG.mon hd;have D':Pm.Div p (Pm.aX r.b r.rule) g L' []:=⟨GR hL' hn',Pm.Py.nil _,hG.mon.pos,fun k=>by rw[Pm.dR,Int.add_zero];exact(e' k).symm⟩;obtain⟨eo,_⟩:=D.uniq hG.mon D';subst eo;have W:Pm.RL p (Pm.aX p r.rule) (Pm.tp (Pm.aX p r.rule) r.at) g:=by
  rw[<-hb];refine⟨hG.mon,by rw[hb];rw[hb]at hd;exact hd,?_,?_⟩
  ·rw[hb];refine(hG.two.to (q:=BR r) fun _=>rfl).congr fun k=>?_;rw[xZ,hb,Rm.iI]
  ·obtain⟨u,v,e⟩:=hG.sum;refine⟨1,Pm.co u,Pm.co v,u.length+v.length,by rw[hb,h1];decide,(Pm.Fs.co u).mono (by omega),(Pm.Fs.co v).mono (by omega),fun k=>?_⟩;rw[Int.one_mul,hb];rw[hb]at e;rw[e k];refine Rm.bB rfl (Pm.iH (fun _ _=>rfl) fun i _=>?_);rw[xZ,hb,Rm.iI]
 have ha:∀n,r.rule.length<=n->Rm.tk (p:Int) (r.at n)=Rm.tk p (Rm.S r.rule r.at n r.rule.length):=by
  rw[<-hb];exact Pm.Hj ok.len
 have K:=W.keeps (Dm.Dom.pr hp) ha hL' (by rw[<-hb];rw[<-hb]at e';exact e');refine⟨⟨hL',by rw[hb];exact hn',?_,fun q hq=>?_⟩,?_⟩
 ·rw[hb];refine(K o).mpr ⟨fun k=>if k=0 then 1 else 0,1,fun k hk=>if_neg (by omega),fun k=>?_⟩;rw[Pm.lY,if_pos (Nat.zero_le _),Int.one_mul,Nat.sub_zero]
 ·rw[hb]at hq ⊢;exact(K q).mp hq
 ·have:=hG.mon.pos;rw[Pm.bU]at hl';omega
inductive Eh(vs:List V)(H:Hp)(Q:VK)(E:XK):Prop|mk (v:V) (r:Rw) (z_0:vs=[v]) (z_1:cU H v r) (z_2:o9 r) (z_3:ByP r.b) (z_4:Tame r) (z_5:∀t L H',Same H H'->H' t=some (.tup (List.map V.int L))->cI r.b r.at L->L.length<=r.rule.length+1->Q (.ref t) H')
def Dz:Sp:=fun vs H Q E=>Eh  vs H Q E
def cO(r:Rw)(L:List Int):Rw:=⟨r.b,Pm.cG r.b L,r.starts.take (L.length-1)⟩
inductive E7(vs:List V)(H:Hp)(Q:VK)(E:XK):Prop|mk (v:V) (r:Rw) (z_0:vs=[v]) (z_1:cU H v r) (z_2:o9 r) (z_3:ByP r.b) (z_4:Tame r) (z_5:∀v' L H',Same H H'->cU H' v' (cO r L)->cI r.b r.at L->L.length<=r.rule.length+1->Q v' H')
def tZ:Sp:=fun vs H Q E=>E7  vs H Q E
theorem ql{n:Nat}{ix:List (Option Nat)}{te:TE}{σ:St}{H1:Hp}{Q:VK}(hz:n<=1000){rest:St}(hst:cst ix σ=none::rest)(P:Int->Prop)
  (he:∀H' k,Same H1 H'->k<n->∀kk:VK,(∀x H2,Same H' H2->P x->kk (.int x) H2)->te (some (.int (0+(k:Int)))::rest) H' kk)
  (hQ:∀D H' xs,H1 D=none->Same H1 H'->H' D=some (.lst (List.map V.int xs))->xs.length=n->(∀x∈xs,P x)->Q (.ref D) H'):oR ix (lZ 0) Dy te σ Q (Itr 0 n) H1:=by
 have I:ItS (Itr 0 n) ((List.range n).map fun i=>V.int (0+(i:Nat))) H1:=mU;have lI:((List.range n).map fun i=>V.int (0+(i:Nat))).length=n:=by rw[List.length_map,List.length_range]
 constructor;intro D hD;refine⟨fun i m σ' H'=>m=n-i/\i<=n/\(∃o,σ'=o::rest)/\Same H1 H'/\∃xs:List Int,H' D=some (.lst (xs.map V.int))/\xs.length=i/\∀x∈xs,P x,⟨n,rfl,Nat.zero_le _,⟨none,hst⟩,Same.new hD _,[],au,rfl,fun _ h=>nomatch h⟩,?_⟩;rintro i m σ' H' ⟨rfl,hi,⟨o,rfl⟩,g,xs,hl,lx,hP⟩;by_cases hlt:i<n
 ·refine .inr ⟨I.go i _ g (by rw[lI];exact hlt),fun x H2 y=>?_⟩;obtain⟨rfl,hx⟩:=I.yld i _ x H2 g y;have hx:=hx (by rw[lI];exact hlt);rw[List.getElem?_map,List.getElem?_range hlt]at hx;cases hx;change te (some (.int (0+(i:Int)))::rest) H2 _;refine he H2 i g hlt _ fun x H3 g3 hx=>⟨_,g3 _ _ hl,by rw[List.length_map,lx];exact bQ (by omega),n-(i+1),by omega,rfl,hlt,⟨_,rfl⟩,Same.upd (g.trans g3) hD _,xs++[x],?_,by rw[List.length_append,lx];rfl,fun z hz=>?_⟩
  ·rw[au,tH]
  ·rcases List.mem_append.mp hz with hz|hz
   ·exact hP z hz
   ·rw[List.mem_singleton.mp hz];exact hx
 ·have e:i=n:=by omega
  subst e;exact .inl ⟨I.stop _ _ g (by rw[lI];exact Nat.le_refl _),hQ D H' xs hD g hl lx hP⟩
theorem EW{ns:List Int}{k:Int}(j:Nat)(h0:k<0)(e:k+(ns.length:Int)=(j:Int)):atI (ns.map V.int) k=some (.int (ns.getD j 0)):=by
 have hj:j<ns.length:=by omega
 unfold atI ixN;rw[List.length_map,if_neg (by omega),if_pos (by omega),show(k+(ns.length:Int)).toNat=j by omega];show(ns.map V.int)[j]?=_;rw[List.getElem?_map,List.getElem?_eq_getElem hj,List.getD_eq_getElem?_getD,List.getElem?_eq_getElem hj];rfl
theorem Gn{x:Int}{n:Nat}(h:Rm.Bd n x):∀k:Nat,Rm.Bd (n*k+1) (x^k)
 |0=>by rw[Int.pow_zero,Nat.mul_zero];exact Rm.Bd.of (by decide) (by decide)
 |k+1=>by
  rw[Int.pow_succ];exact((Gn h k).mul h).mono (by rw[Nat.mul_succ];omega)
def byF:List Int:=[0,0,0,2,3,5,7,11,101,997]
structure ByF(b:Int):Prop where
 lo:0<=b
 hi:b<1000
 one:Rm.tk b 1=1
 p:ByP b
theorem RW:∀k<10,byF.getD k 0=0∨((byF.getD k 0).toNat∈Om.iu/\byF.getD k 0=((byF.getD k 0).toNat:Int)):=by decide +kernel
theorem BP:∀k<10,0<=byF.getD k 0/\byF.getD k 0<1000/\Rm.tk (byF.getD k 0) 1=1:=by decide
theorem Mz{k:Nat}(h:k<10):ByF (byF.getD k 0):=⟨(BP k h).1,(BP k h).2.1,(BP k h).2.2,(RW k h).imp id fun z=>⟨_,z⟩⟩
theorem jo{b:Int}(hb:0<=b)(x:Int):jh b (Rm.tk b x):=by
 by_cases h:b=0
 ·exact .inl h
 ·rw[Rm.fB h];exact .inr ⟨dF _ (by omega),dD _ (by omega)⟩
theorem kZ{b x:Int}{n:Nat}(hb:ByF b)(hn:10<=n)(h:Rm.Bd n x):Rm.Bd n (Rm.tk b x):=
 Rm.su hb.lo ((Rm.Bd.of (n:=10) (by have:=hb.lo;omega) (by have:=hb.hi;omega)).mono hn) h
theorem UO{rule:List Int}{f:Nat->Int}{n a c:Nat}(hr:∀k,Rm.Bd a (rule.getD k 0)):∀m:Nat,m<=16->(∀k,k<m->Rm.Bd c (f (n-1-k)))->Rm.Bd (a+c+4) (Rm.S rule f n m):=fun m hm h=>by
 have key:∀m,(∀k,k<m->Rm.Bd c (f (n-1-k)))->(Rm.S rule f n m).natAbs<=m*2^(a+c):=fun m=>by
  induction m with
  |zero=>intro _;exact Nat.zero_le _
  |succ m ih=>
   intro h;unfold Rm.S;have h1:=ih fun k hk=>h k (by omega);have h2:(rule.getD m 0*f (n-1-m)).natAbs<2^(a+c):=(hr m).mul (h m (by omega));have h3:=Int.natAbs_add_le (Rm.S rule f n m) (rule.getD m 0*f (n-1-m));rw[Nat.succ_mul];omega
 have k1:=key m h;have k2:m*2^(a+c)<=16*2^(a+c):=Nat.mul_le_mul_right _ hm;show(Rm.S rule f n m).natAbs<2^(a+c+4);by_cases h0:m=0
 ·rw[h0];exact Nat.pow_pos (by decide)
 ·have k3:(Rm.S rule f n m).natAbs<16*2^(a+c):=by
   obtain⟨m',rfl⟩:∃m',m=m'+1:=⟨m-1,by omega⟩;have q1:=key m' fun k hk=>h k (by omega);unfold Rm.S;have h2:(rule.getD m' 0*f (n-1-m')).natAbs<2^(a+c):=(hr m').mul (h m' (by omega));have h3:=Int.natAbs_add_le (Rm.S rule f n m') (rule.getD m' 0*f (n-1-m'));have q2:m'*2^(a+c)<=15*2^(a+c):=Nat.mul_le_mul_right _ (by omega);omega
  rw[Nat.pow_add];have:(2:Nat)^4=16:=by decide
  omega
theorem C4{b:Int}{rule starts:List Int}{a c:Nat}(hl:rule.length=starts.length)(h16:rule.length<=16)(hb:0<=b)(hb':Rm.Bd c b)(hr:∀x∈rule,Rm.Bd a x)(hs:∀x∈starts,Rm.Bd c x):
  ∀n,Rm.Bd (c+n*(a+4)) (Rm.at_ b rule starts n):=by
 intro n;induction n using Nat.strongRecOn with
 |ind n ih=>
  by_cases h:n<starts.length
  ·rw[Rm.rz h];exact(Rm.Bd.getD hs n).mono (by omega)
  ·rw[Rm.xg hl (by omega)];by_cases h0:rule.length=0
   ·rw[h0];exact Rm.su hb (hb'.mono (by omega)) (.zero _)
   ·have hn:0<n:=by omega
    have q:=UO (rule:=rule) (f:=Rm.at_ b rule starts) (n:=n) (a:=a) (c:=c+(n-1)*(a+4)) (fun k=>Rm.Bd.getD hr k) rule.length h16 fun k hk=>by
     refine(ih (n-1-k) (by omega)).mono ?_;have:(n-1-k)*(a+4)<=(n-1)*(a+4):=Nat.mul_le_mul_right _ (by omega);omega
    have e:n*(a+4)=(n-1)*(a+4)+(a+4):=by
     obtain⟨m,rfl⟩:∃m,n=m+1:=⟨n-1,by omega⟩;rw[Nat.add_sub_cancel,Nat.succ_mul]
    exact Rm.su hb (hb'.mono (by omega)) (q.mono (by omega))
theorem Ci{b x:Int}(h:jh b x):Rm.tk b x=x:=by
 rcases h with rfl|⟨h1,h2⟩
 ·exact Rm.bK x
 ·rw[Rm.fB (by omega)];exact Int.emod_eq_of_lt h1 h2
theorem uQ{b x:Int}{n:Nat}(hb:ByF b)(hn:10<=n)(h0:b≠0)(h:jh b x):Rm.Bd n x:=by
 have:=hb.hi;rcases h with z|z
 ·exact absurd z h0
 ·exact(Rm.Bd.of (n:=10) (by omega) (by omega)).mono hn
structure Bs(b:Int)(m:Nat)(r:Rw):Prop where
 by_:r.b=b
 len:r.rule.length=r.starts.length
 short:r.rule.length<=m
 m12:m<=12
 ruleNum:∀x∈r.rule,jh b x
 startsNum:∀x∈r.starts,jh b x
 ruleBd:∀x∈r.rule,Rm.Bd 13 x
 startsBd:∀x∈r.starts,Rm.Bd 31 x
theorem Bs.zK{b:Int}{m:Nat}{r:Rw}(hb:ByF b)(h:Bs b m r)(n:Nat):Rm.Bd (31+n*17) (r.at n):=by
 have e:=h.by_;have:=h.short;have:=h.m12;have:=hb.lo;have:=hb.hi;exact C4 h.len (by omega) (by rw[e];exact hb.lo) (Rm.Bd.of (by omega) (by omega)) h.ruleBd h.startsBd n
theorem Bs.zG{b:Int}{m:Nat}{r:Rw}(hb:ByF b)(h:Bs b m r)(n:Nat):jh b (r.at n):=by
 by_cases z:b=0
 ·exact .inl z
 ·have e:=h.by_;have h0:=hb.lo;have:=Rm.yQ (b:=r.b) (rule:=r.rule) (starts:=r.starts) h.len (by omega) (fun x hx=>?_) n
  ·rw[e]at this;exact .inr (by have q:r.at n=Rm.at_ b r.rule r.starts n:=(by rw[<-e];rfl);rw[q];exact this)
  ·rcases h.startsNum x hx with y|y
   ·exact absurd y z
   ·rw[e];exact y
def uS(s:Nat):Nat:=13+12*s
structure RwS(b:Int)(r0:Rw)(s:Nat)(r:Rw):Prop where
 by_:r.b=b
 len:r.rule.length=r.starts.length
 short:r.rule.length<=12
 ruleNum:∀x∈r.rule,jh b x
 ruleBd:∀x∈r.rule,Rm.Bd (uS s) x
 same:∀n,r.at n=r0.at n
theorem RwS.up{b:Int}{r0:Rw}{s:Nat}{r:Rw}(h:RwS b r0 s r):RwS b r0 (s+1) r:=
 ⟨h.by_,h.len,h.short,h.ruleNum,fun x hx=>(h.ruleBd x hx).mono (by unfold uS;omega),h.same⟩
theorem RwS.starts{b:Int}{r0:Rw}{s:Nat}{r:Rw}(h:RwS b r0 s r){x:Int}(hx:x∈r.starts):∃k,k<r.starts.length/\x=r0.at k:=by
 obtain⟨k,hk,e⟩:=List.mem_iff_getElem.mp hx;refine⟨k,hk,?_⟩;have e1:r.at k=r.starts.getD k 0:=Rm.rz hk;rw[<-h.same k,e1,List.getD_eq_getElem?_getD,List.getElem?_eq_getElem hk,<-e];rfl
theorem RwS.ok{b:Int}(hb:ByF b){m:Nat}{r0 r:Rw}{s:Nat}(h0:Bs b m r0)(h:RwS b r0 s r)(hs:s<=3):o9 r:=by
 have e:=h.by_;have h12:=h.short;have hl:=h.len;refine⟨h.len,by omega,by rw[e];exact hb.lo,by rw[e];exact hb.hi,by rw[e];exact h.ruleNum,fun x hx=>?_,fun x hx=>(h.ruleBd x hx).mono (by unfold uS;omega),fun x hx=>?_⟩
 ·obtain⟨k,_,rfl⟩:=h.starts hx;rw[e];exact h0.zG hb k
 ·obtain⟨k,hk,rfl⟩:=h.starts hx;exact(h0.zK hb k).mono (by have:k*17<=12*17:=Nat.mul_le_mul_right _ (by omega);omega)
def Az(n:Int)(rule:List Int)(i k:Nat):Int:=(if k=0 then n else if k<=i then -(n*Pm.co rule (k-1))else 0)+(if k<i then Pm.co rule k else 0)
def dG(n:Int)(rule:List Int)(i:Nat):List Int:=Pm.ofF (rule.length+1) fun k=>Az n rule i k
theorem cF(n:Int)(rule:List Int)(i:Nat):(dG n rule i).length=rule.length+1:=Pm.aZ ..
theorem kE{n:Int}{rule:List Int}{i k:Nat}(h:k<rule.length+1):Pm.co (dG n rule i) k=Az n rule i k:=by rw[dG,Pm.bZ,if_pos h]
theorem zJ(n:Int)(rule:List Int):dG n rule 0=[n]++Pm.ofF rule.length fun _=>0:=by
 refine Pm.jN (by rw[cF,List.length_append,Pm.aZ];simp;omega) fun k=>?_;by_cases h:k<rule.length+1
 ·rw[kE h,Pm.dg,Pm.bZ];unfold Az;rw[if_neg (Nat.not_lt_zero _),Int.add_zero];by_cases c:k=0
  ·rw[if_pos c,if_pos (by simp;omega),c];rfl
  ·rw[if_neg c,if_neg (by omega),if_neg (by simp;omega)];split<;>rfl
 ·rw[Pm.bN (by rw[cF];omega),Pm.bN (by rw[List.length_append,Pm.aZ];simp;omega)]
theorem Aq{n:Int}{rule:List Int}{i:Nat}(hi:i<rule.length):
  ((dG n rule i).set i (Pm.co (dG n rule i) i+Pm.co rule i)).set (i+1) (Pm.co ((dG n rule i).set i (Pm.co (dG n rule i) i+Pm.co rule i)) (i+1)-n*Pm.co rule i)=dG n rule (i+1):=by
 refine Pm.jN (by rw[List.length_set,List.length_set,cF,cF]) fun k=>?_;rw[Pm.oG _ _ _ _ (by rw[List.length_set,cF];omega),Pm.oG _ _ _ _ (by rw[cF];omega),Pm.oG _ _ _ _ (by rw[cF];omega)];by_cases h:k<rule.length+1
 ·rw[kE h,kE (by omega),kE (by omega),kE h,if_neg (by omega:¬i+1=i)];unfold Az;by_cases c:k=i+1
  ·rw[if_pos c,if_neg (by omega),if_neg (by omega),if_neg (by omega),if_neg (by omega),if_pos (by omega),if_neg (by omega),c,Nat.add_sub_cancel];omega
  ·rw[if_neg c];by_cases d:k=i
   ·rw[if_pos d,d,if_neg (Nat.lt_irrefl i),if_pos (by omega:i<i+1)];by_cases z:i=0
    ·rw[if_pos z,if_pos z];omega
    ·rw[if_neg z,if_neg z,if_pos (by omega),if_pos (by omega)];omega
   ·rw[if_neg d];by_cases z:k=0
    ·rw[if_pos z,if_pos z];by_cases y:k<i
     ·rw[if_pos y,if_pos (by omega)]
     ·rw[if_neg y,if_neg (by omega)]
    ·rw[if_neg z,if_neg z];by_cases y:k<i
     ·rw[if_pos (by omega:k<=i),if_pos y,if_pos (by omega:k<=i+1),if_pos (by omega:k<i+1)]
     ·rw[if_neg (by omega:¬k<=i),if_neg y,if_neg (by omega:¬k<=i+1),if_neg (by omega:¬k<i+1)]
 ·rw[if_neg (by omega),if_neg (by omega),Pm.bN (by rw[cF];omega),Pm.bN (by rw[cF];omega)]
theorem E3{n:Int}{rule:List Int}{u:Nat}(hu:10<=u)(hn:Rm.Bd 10 n)(h:∀x∈rule,Rm.Bd u x)(i:Nat):∀x∈dG n rule i,Rm.Bd (u+12) x:=fun x hx=>by
 obtain⟨k,_,rfl⟩:=Pm.dH hx;unfold Az;refine(Rm.Bd.add (n:=u+11) ?_ ?_).mono (by omega)
 ·split
  ·exact hn.mono (by omega)
  ·split
   ·have:=(hn.mul (Pm.jV h (k-1))).mono (show 10+u<=u+11 by omega);unfold Rm.Bd at this⊢;rw[Int.natAbs_neg];exact this
   ·exact Rm.Bd.zero _
 ·split
  ·exact(Pm.jV h k).mono (by omega)
  ·exact Rm.Bd.zero _
def m9(b n:Int)(rule:List Int):List Int:=Pm.ofF (rule.length+1) fun k=>Rm.tk b (0-((if k<rule.length then 0-Pm.co rule k else 0)-n*(if k=0 then 1 else 0-Pm.co rule (k-1))))
theorem jB(b n:Int)(rule:List Int):(m9 b n rule).length=rule.length+1:=Pm.aZ ..
theorem Ae{b n:Int}{r:Rw}(hl:r.rule.length=r.starts.length)(hs:∀x∈r.starts,jh b x)(hb:r.b=b)(m:Nat):Rm.at_ b (m9 b n r.rule) (r.row (r.rule.length+1)) m=r.at m:=by
 have e0:∀i,i<r.rule.length+1->(r.row (r.rule.length+1)).getD i 0=r.at i:=fun i hi=>Rm.xr _ _ _ hi;refine Rm.Cd (by rw[jB,Rw.eG]) (g:=r.at) (fun i hi=>?_) (fun i hi=>?_) m
 ·rw[Rw.eG]at hi;exact(e0 i hi).symm
 ·rw[Rw.eG]at hi;have h1:r.at i=Rm.tk b (Rm.S r.rule r.at i r.rule.length):=by rw[<-hb];exact Rm.xg hl (by omega)
  rw[jB,h1,Pm.Ez,Pm.Ez];have e1:Rm.tk b (Pm.sm (r.rule.length+1) fun k=>Pm.co (m9 b n r.rule) k*r.at (i-1-k))=Rm.tk b (Pm.sm (r.rule.length+1) fun k=>(if k<r.rule.length then Pm.co r.rule k*r.at (i-1-k)else 0)+n*(if k=0 then r.at (i-1)else -(Pm.co r.rule (k-1)*r.at (i-1-k)))):=Pm.jD fun k hk=>by
   rw[m9,Pm.bZ,if_pos hk,Rm.fR];refine congrArg (Rm.tk b) ?_;by_cases c:k=0
   ·rw[if_pos c,if_pos c,c];by_cases d:0<r.rule.length
    ·rw[if_pos d,if_pos d,Nat.sub_zero,Int.mul_one,show(0-(0-Pm.co r.rule 0-n))=Pm.co r.rule 0+n by omega,Int.add_mul]
    ·rw[if_neg d,if_neg d,Nat.sub_zero,Int.mul_one,show(0-(0-n))=n by omega,Int.zero_add]
   ·rw[if_neg c,if_neg c];by_cases d:k<r.rule.length
    ·rw[if_pos d,if_pos d,Int.sub_mul,Int.sub_mul,Int.mul_assoc,Int.sub_mul,Int.sub_mul,Int.mul_sub,Int.mul_neg];omega
    ·rw[if_neg d,if_neg d,Int.sub_mul,Int.sub_mul,Int.mul_assoc,Int.sub_mul,Int.mul_sub,Int.mul_neg];omega
  rw[e1,Pm.dY,Pm.cu];have e2:Pm.sm (r.rule.length+1) (fun k=>if k<r.rule.length then Pm.co r.rule k*r.at (i-1-k)else 0)=Pm.sm r.rule.length fun k=>Pm.co r.rule k*r.at (i-1-k):=by
   rw[Pm.sm,if_neg (Nat.lt_irrefl _),Int.add_zero];exact Pm.aH fun k hk=>if_pos hk
  have e3:Pm.sm (r.rule.length+1) (fun k=>if k=0 then r.at (i-1)else -(Pm.co r.rule (k-1)*r.at (i-1-k)))=r.at (i-1) + -1*Pm.sm r.rule.length fun k=>Pm.co r.rule k*r.at (i-1-1-k):=by
   rw[Pm.gG,if_pos rfl,<-Pm.cu];congr 1;refine Pm.aH fun k _=>?_;rw[if_neg (by omega),Nat.add_sub_cancel,show i-1-(k+1)=i-1-1-k by omega];omega
  rw[e2,e3];have z:Rm.tk b (r.at (i-1) + -1*Pm.sm r.rule.length fun k=>Pm.co r.rule k*r.at (i-1-1-k))=0:=by
   have h2:r.at (i-1)=Rm.tk b (Rm.S r.rule r.at (i-1) r.rule.length):=by rw[<-hb];exact Rm.xg hl (by omega)
   rw[h2,Pm.Ez,Rm.cj,show ∀x:Int,x + -1*x=0 from fun x=>by omega,Pm.tk0]
  rw[<-Rm.fU,<-Rm.cD,z,Int.mul_zero,Pm.tk0,Int.add_zero]
theorem tQ(b n:Int)(rule:List Int):(dG n rule rule.length).map (Rm.tk b)=m9 b n rule:=by
 refine Pm.jN (by rw[List.length_map,cF,jB]) fun k=>?_;by_cases hk:k<rule.length+1
 ·rw[Pm.pD (Pm.tk0 b),kE hk,m9,Pm.bZ,if_pos hk];refine congrArg (Rm.tk b) ?_;unfold Az;by_cases c:k=0
  ·rw[if_pos c,if_pos c,Int.mul_one];split<;>omega
  ·rw[if_neg c,if_neg c,if_pos (by omega),Int.mul_sub,Int.mul_zero];split<;>omega
 ·rw[Pm.bN (by rw[List.length_map,cF];omega),Pm.bN (by rw[jB];omega)]
theorem RwS.longer{b:Int}{m:Nat}{r0:Rw}{s:Nat}{r:Rw}(hb:ByF b)(h0:Bs b m r0)(h:RwS b r0 s r)(hs3:s<=3)(hs:r.rule.length<12){n:Int}(hn:Rm.Bd 10 n):
  RwS b r0 (s+1) ⟨b,(dG n r.rule r.rule.length).map (Rm.tk b),r.row (r.rule.length+1)⟩:=by
 have e:=h.by_;have ok:=h.ok hb h0 hs3;refine⟨rfl,?_,?_,fun x hx=>?_,fun x hx=>?_,fun k=>?_⟩
 ·show((dG n r.rule r.rule.length).map (Rm.tk b)).length=(r.row (r.rule.length+1)).length;rw[List.length_map,cF,Rw.eG]
 ·show((dG n r.rule r.rule.length).map (Rm.tk b)).length<=12;rw[List.length_map,cF];omega
 ·obtain⟨y,_,rfl⟩:=List.mem_map.mp hx;exact jo hb.lo y
 ·obtain⟨y,hy,rfl⟩:=List.mem_map.mp hx;exact kZ hb (by unfold uS;omega) ((E3 (by unfold uS;omega) hn h.ruleBd _ y hy).mono (by unfold uS;omega))
 ·have:=Ae (b:=b) (n:=n) (r:=r) h.len (fun x hx=>by have:=ok.startsNum x hx;rw[e]at this;exact this) e k;rw[<-h.same k,<-this];show Rm.at_ b ((dG n r.rule r.rule.length).map (Rm.tk b)) _ k=_;rw[tQ]
theorem Fy{J:It}{xs:List V}{ix:List (Option Nat)}{te:TE}{σ:St}{H1:Hp}{Q:VK}(I:ItS J xs H1)(hz:xs.length<=sizeLine){rest:St}(hst:cst ix σ=none::rest)(F:V->V)
  (he:∀(H':Hp) (x:V),Same H1 H'->x∈xs->∀k:VK,(∀H2,Same H' H2->k (F x) H2)->te (some x::rest) H' k)
  (hQ:∀D H',H1 D=none->Same H1 H'->H' D=some (.lst (xs.map F))->Q (.ref D) H'):
  oR ix (lZ 0) Dy te σ Q J H1:=by
 constructor;intro D hD;refine⟨fun i m σ' H'=>m=xs.length-i/\i<=xs.length/\(∃o,σ'=o::rest)/\Same H1 H'/\H' D=some (.lst ((xs.take i).map F)),⟨xs.length,by simp,Nat.zero_le _,⟨none,hst⟩,Same.new hD _,by rw[au];rfl⟩,?_⟩;rintro i m σ' H' ⟨rfl,hi,⟨o,rfl⟩,g,hl⟩;by_cases hlt:i<xs.length
 ·refine .inr ⟨I.go i _ g hlt,fun x H2 y=>?_⟩;obtain⟨rfl,hx⟩:=I.yld i _ x H2 g y;have hx:=hx hlt;have hm:x∈xs:=List.mem_of_getElem? hx;have et:xs.take (i+1)=xs.take i++[x]:=by rw[List.take_add_one,hx];rfl
  change te (some x::rest) H2 _;refine he H2 x g hm _ fun H3 g3=>⟨_,g3 _ _ hl,by rw[List.length_map,List.length_take];omega,xs.length-(i+1),by omega,rfl,hlt,⟨_,rfl⟩,Same.upd (g.trans g3) hD _,?_⟩;rw[au,et,List.map_append];rfl
 ·have e:i=xs.length:=by omega
  subst e;rw[List.take_length]at hl;exact .inl ⟨I.stop _ _ g (Nat.le_refl _),hQ D H' hD g hl⟩
inductive FT(K:PySem.W.Frag)(vs:List V)(H:Hp)(Q:VK)(E:XK):Prop|mk (a:Addr) (ns:List Int) (k:Int) (z_0:vs=[.ref a,.int k]) (z_1:SqL K H a (ns.map V.int)) (z_2:0<=k) (z_3:k<=1000) (z_4:(∀x∈ns,PySem.Builtin.Int.intBits x<=1048576)) (z_5:∀c,Rm.Bd 1048576 c->Q (.int c) H)
def wN(K:PySem.W.Frag):Sp:=fun vs H Q E=>FT K vs H Q E
def Px(c k:Int):Int:=((c%2147483629+1)*(48271+69621*k+2*k*k)+k)%2147483647
def Nq(c k:Int):Int:=Px c k*Px c k%2147483629
def Xk(c k:Int):Int:=Nq c k*(Nq c k+k+1)%2147483587/3
inductive IY(vs:List V)(H:Hp)(Q:VK)(E:XK):Prop|mk (c k:Int) (z_0:vs=[.int c,.int k]) (z_1:0<=k) (z_2:k<=1000) (z_3:∀x,0<=x->(x<2147483587/\x=Xk c k)->Q (.int x) H)
def yH:Sp:=fun vs H Q E=>IY  vs H Q E
def yW:List Int:=[0,1,-1,2,1,-2,3,0,1,5]
theorem Dl:∀k<10,-8<yW.getD k 0/\yW.getD k 0<8:=by decide
inductive IZ(vs:List V)(H:Hp)(Q:VK)(E:XK):Prop|mk (b c k:Int) (z_0:vs=[.int b,.int c,.int k]) (z_1:ByF b) (z_2:Rm.Bd 1048576 c) (z_3:0<=k) (z_4:k<=30) (z_5:∀x H',Same H H'->jh b x->Rm.Bd 31 x->(k<15->Rm.Bd 13 x/\(b=0->Rm.Bd 3 x))->Q (.int x) H')
def DL:Sp:=fun vs H Q E=>IZ  vs H Q E
structure RwW(r:Rw)(c:Nat):Prop where
 len:r.rule.length=r.starts.length
 short:r.rule.length<=24
 by0:0<=r.b
 ruleBd:∀x∈r.rule,Rm.Bd 60000 x
 Fz:∀n,n<=c->∀x∈r.row n,Rm.Bd 61000000 x
theorem o9.w{r:Rw}(h:o9 r){c:Nat}(hc:c<=1000):RwW r c:=⟨h.len,h.short,h.by0,h.ruleBd,fun n hn=>h.Fz n (by omega)⟩
inductive Ab(vs:List V)(H:Hp)(Q:VK)(E:XK):Prop|mk (v:V) (r:Rw) (c:Int) (z_0:vs=[v,.int c]) (z_1:cU H v r) (z_2:RwW r c.toNat) (z_3:0<=c) (z_4:c<=900) (z_5:Told H Q ((r.row c.toNat).map V.int))
def uU:Sp:=fun vs H Q E=>Ab  vs H Q E
inductive Bl(vs:List V)(H:Hp)(Q:VK)(E:XK):Prop|mk (b:Int) (m:Nat) (r0:Rw) (s:Nat) (v:V) (r:Rw) (n:Int) (z_0:vs=[v,.int n]) (z_1:cU H v r) (z_2:ByF b) (z_3:Bs b m r0) (z_4:RwS b r0 s r) (z_5:s<3) (z_6:r.rule.length<12) (z_7:Rm.Bd 10 n) (z_8:∀v' r' H',Same H H'->cU H' v' r'->RwS b r0 (s+1) r'->r'.rule.length=r.rule.length+1->Q v' H')
def yL:Sp:=fun vs H Q E=>Bl  vs H Q E
def pN:List Int:=[0,0,1,0,2,0,0,3]
theorem BH:∀k<8,0<=pN.getD k 0/\pN.getD k 0<=3:=by decide
inductive Gf(K:PySem.W.Frag)(vs:List V)(H:Hp)(Q:VK)(E:XK):Prop|mk (a:Addr) (ns:List Int) (st b m:Int) (z_0:vs=[.ref a,.int st,.int b,.int m]) (z_1:SqL K H a (ns.map V.int)) (z_2:0<=st) (z_3:st<=500) (z_4:(∀x∈ns,PySem.Builtin.Int.intBits x<=1048576)) (z_5:ByF b) (z_6:0<=m) (z_7:m<=12) (z_8:∀v r0 s r H',Same H H'->cU H' v r->Bs b m.toNat r0->RwS b r0 s r->s<=3->r.rule.length<=m.toNat+s->Q v H')
def B4(K:PySem.W.Frag):Sp:=fun vs H Q E=>Gf K vs H Q E
theorem mK{n:Nat}{ix:List (Option Nat)}{te:TE}{σ:St}{H1:Hp}{Q:VK}(hz:n<=1000){rest:St}(hst:cst ix σ=none::rest)(f:Nat->Int)
  (he:∀H' k,Same H1 H'->k<n->∀kk:VK,(∀H2,Same H' H2->kk (.int (f k)) H2)->te (some (.int (0+(k:Int)))::rest) H' kk)
  (hQ:∀D H',H1 D=none->Same H1 H'->H' D=some (.lst ((Pm.ofF n f).map V.int))->Q (.ref D) H'):oR ix (lZ 0) Dy te σ Q (Itr 0 n) H1:=by
 refine Fy mU (by rw[List.length_map,List.length_range];exact Nat.le_of_lt (bQ hz)) hst (fun x=>match x with | .int k=> .int (f k.toNat)|_=> .non) ?_ ?_
 ·intro H2 x g2 hx k hk;obtain⟨j,hj,rfl⟩:=List.mem_map.mp hx;have e1:(0+(j:Int)).toNat=j:=by omega
  refine he H2 j g2 (List.mem_range.mp hj) k fun H3 g3=>?_;have hk':k (V.int (f (0+(j:Int)).toNat)) H3:=hk H3 g3
  rwa [e1]at hk'
 ·intro D H' hD g hl;refine hQ D H' hD g ?_;rw[hl,Pm.ofF,List.map_map,List.map_map];refine congrArg (fun z=>some (HO.lst z)) (List.map_congr_left fun k _=>?_);show V.int (f (0+(k:Int)).toNat)=V.int (f k);rw[show(0+(k:Int)).toNat=k by omega]
theorem Cv{P0:Nat}(hP:P0∈Om.iu)(h2:2<=P0){a:Nat->Int}:∀(n:Nat) (P:List Int),P.length=n->Pm.Mon P->(∀k,Rm.tk P0 (Pm.co P k)=Pm.co P k)->Pm.Kp P0 P a->∃L,cI P0 a L/\L.length<=n:=fun n=>by
 induction n using Nat.strongRecOn with
 |ind n ih=>
  intro P hl hm hn hK;by_cases c:∀q,Pm.Kp P0 q a->Pm.Dv P0 P (Pm.co q)
  ·exact⟨P,⟨hm,hn,hK,c⟩,by omega⟩
  ·obtain⟨q,hq⟩:=Classical.not_forall.mp c;have hq1:Pm.Kp P0 q a:=Classical.byContradiction fun z=>hq fun y=>absurd y z;have hq2:¬Pm.Dv P0 P (Pm.co q):=fun z=>hq fun _=>z;have eq:∀k,Pm.co (q.map (Rm.tk (P0:Int))) k=Rm.tk P0 (Pm.co q k):=fun k=>Pm.pD (Pm.tk0 _) ..;obtain⟨s,r,D⟩:=Pm.yI hm (p:=q.map (Rm.tk (P0:Int))) (fun k=>by rw[eq,Rm.iI]);have hr:Pm.Kp P0 r a:=(D.kp hK).mp (hq1.congr fun k=>by rw[eq,Rm.iI]);by_cases z:r=[]
   ·refine absurd ⟨Pm.co s,s.length,Pm.Fs.co s,fun k=>?_⟩ hq2;have:=D.eq k;rw[z,Pm.dR,Int.add_zero,eq,Rm.iI]at this;exact this.symm
   ·have M:=Pm.DK hP h2 D.ry z;have hs:=D.short;obtain⟨L,h1,h3⟩:=ih r.length (by omega) _ M.len (M.mon z) (fun k=>M.py.co k) ((Pm.In2.scale M.to r).kp hr hr);exact⟨L,h1,by omega⟩
theorem Ek{b:Int}(hB:ByP b){P:List Int}{a:Nat->Int}(hm:Pm.Mon P)(hn:∀k,Rm.tk b (Pm.co P k)=Pm.co P k)(hK:Pm.Kp b P a):∃L,cI b a L/\L.length<=P.length:=by
 rcases hB with rfl|⟨P0,hP,rfl⟩
 ·obtain⟨g,L,hL,hy,hk,hall,hl,_,G⟩:=Pm.Gv hm hK;have:=G.mon.pos;exact⟨L,⟨hL,fun k=>Rm.bK _,hk,hall⟩,by omega⟩
 ·exact Cv hP (eV P0 hP).1 _ P rfl hm hn hK
theorem cI.uniq{b:Int}(h1:Rm.tk b 1=1){f:Nat->Int}{L L':List Int}(h:cI b f L)(h':cI b f L'):L=L':=by
 have d:=h.all L' h'.kp;have d':=h'.all L h.kp;have l1:=d.len h1 h.mon h'.mon;have l2:=d'.len h1 h'.mon h.mon;refine Pm.jN (by omega) fun k=>?_;rw[<-h.nu k,<-h'.nu k];exact(d.same h1 h.mon h'.mon (by omega) k).symm
theorem cI.congr{b:Int}{f f':Nat->Int}(e:∀n,f n=f' n){L:List Int}(h:cI b f L):cI b f' L:=by
 have:f=f':=funext e;rw[<-this];exact h
theorem jx{r:Rw}(hn:∀n,Rm.tk r.b (r.at n)=r.at n){L:List Int}(h:cI r.b r.at L)(hl:L.length<=r.starts.length+1)(n:Nat):(cO r L).at n=r.at n:=by
 have hp:=h.mon.pos;refine Pm.vL h.nu h.mon h.kp hn (starts:=r.starts.take (L.length-1)) ?_ ?_ n
 ·rw[List.length_take];omega
 ·intro i hi;rw[List.length_take]at hi;have e:r.at i=r.starts.getD i 0:=Rm.rz (by omega);rw[e,List.getD_eq_getElem?_getD,List.getElem?_take,if_pos (by omega),<-List.getD_eq_getElem?_getD]
theorem o9.zG{r:Rw}(ok:o9 r)(n:Nat):jh r.b (r.at n):=by
 by_cases h:r.b=0
 ·exact .inl h
 ·have h0:=ok.by0;refine .inr (Rm.yQ ok.len (by omega) (fun x hx=>?_) n);rcases ok.startsNum x hx with z|z
  ·exact absurd z h
  ·exact z
theorem o9.zR{r:Rw}(ok:o9 r)(n:Nat):Rm.tk r.b (r.at n)=r.at n:=Ci (ok.zG n)
structure Mr(b:Int)(r:Rw)(ua u:Nat):Prop where
 hB:ByF b
 by_:r.b=b
 ok:o9 r
 len12:r.rule.length<=12
 ruleBd:∀x∈r.rule,Rm.Bd u x
 at_:∀n,n<=24->Rm.Bd ua (r.at n)
 u10:10<=u
 ua10:10<=ua
 sz:12*(ua+12)+1+(u+400)+57<=112100
theorem Mr.tame{b:Int}{r:Rw}{ua u:Nat}(h:Mr b r ua u):Tame r:=fun hz=>by
 have hl:=h.len12;have hk:=h.ok.kp;rw[hz]at hk;exact⟨12,ua,u,h.u10,h.ruleBd,⟨_,Pm.gQ _ _,hk,by rw[Pm.bU];omega⟩,fun n hn=>h.at_ n (by omega),h.sz⟩
theorem Mr.byp{b:Int}{r:Rw}{ua u:Nat}(h:Mr b r ua u):ByP r.b:=by rw[h.by_];exact h.hB.p
theorem Mr.ex{b:Int}{r:Rw}{ua u:Nat}(h:Mr b r ua u):∃L,cI b r.at L/\L.length<=r.rule.length+1:=by
 have hk:=h.ok.kp;rw[h.by_]at hk;obtain⟨L,h1,h2⟩:=Ek h.hB.p (Pm.gQ b r.rule) (qF b r.rule h.hB.one) hk;exact⟨L,h1,by rw[Pm.bU]at h2;exact h2⟩
theorem Mr.mX{b:Int}{r:Rw}{ua u:Nat}(h:Mr b r ua u){L:List Int}(lst:cI b r.at L)(ll:L.length<=13)(k:Nat):Rm.Bd (12*(ua+12)+11) (Pm.co L k):=by
 by_cases z:b=0
 ·have hne:=Dm.CZ h.hB.p.dom (by rw[h.hB.one];decide) lst.mon lst.nu lst.kp lst.all;have hk:=lst.kp;rw[z]at hne hk;rw[Rm.bK]at hne;have q:=Pm.mX lst.mon hk hne (u:=ua) (fun n hn=>h.at_ n (by omega)) k;have z1:(L.length-1)*(ua+(L.length-1))<=12*(ua+12):=Nat.mul_le_mul (by omega) (by omega);exact q.mono (by omega)
 ·have:=lst.nu k;rw[<-this];exact uQ h.hB (by omega) z (jo h.hB.lo _)
theorem gR{r:Rw}{L:List Int}(hl:L.length<=r.rule.length+1)(ok:o9 r):(cO r L).rule.length=L.length-1/\(cO r L).starts.length=L.length-1:=by
 have:=ok.len;refine⟨Pm.dj ..,?_⟩;show(r.starts.take (L.length-1)).length=_;rw[List.length_take];omega
theorem Mr.short{b:Int}{r:Rw}{ua u:Nat}(h:Mr b r ua u){L:List Int}(lst:cI b r.at L)(ll:L.length<=r.rule.length+1)(hs:12*(ua+12)+1+(12*(ua+12)+11+400)+57<=112100):Mr b (cO r L) ua (12*(ua+12)+11):=by
 have e:=h.by_;have ok:=h.ok;have l12:=h.len12;obtain⟨l1,l2⟩:=gR ll ok;have lst':cI r.b r.at L:=by rw[e];exact lst
 have bd:∀x∈(cO r L).rule,Rm.Bd (12*(ua+12)+11) x:=fun x hx=>by
  obtain⟨k,_,rfl⟩:=Pm.dH (show x∈Pm.ofF _ _ from hx);rw[e];refine kZ h.hB (by omega) ?_;rw[Int.zero_sub];exact Pm.vB (h.mX lst (by omega) _)
 have hl:=ok.len;refine⟨h.hB,e,⟨by omega,by omega,ok.by0,ok.by1,fun x hx=>?_,fun x hx=>ok.startsNum x (List.mem_of_mem_take hx),fun x hx=>(bd x hx).mono (by omega),fun x hx=>ok.startsBd x (List.mem_of_mem_take hx)⟩,by omega,bd,fun n hn=>?_,by omega,h.ua10,hs⟩
 ·obtain⟨k,_,rfl⟩:=Pm.dH (show x∈Pm.ofF _ _ from hx);exact jo ok.by0 _
 ·rw[jx ok.zR lst' (by omega)];exact h.at_ n hn
theorem RwS.mr{b:Int}(hb:ByF b){m:Nat}{r0 r:Rw}{s:Nat}(h0:Bs b m r0)(h:RwS b r0 s r)(hs:s<=3):Mr b r 439 49:=
 ⟨hb,h.by_,h.ok hb h0 hs,h.short,fun x hx=>(h.ruleBd x hx).mono (by unfold uS;omega),fun n hn=>by
  rw[h.same n];exact(h0.zK hb n).mono (by omega),by decide,by decide,by decide⟩
theorem D7(r:Rw)(n:Nat):r.row n=Pm.ofF n r.at:=Rm.Dh ..
structure TR(b:Int)(r:Rw)(a:Nat->Int)(L:List Int):Prop where
 by_:r.b=b
 ok:o9 r
 same:∀n,r.at n=a n
 lst:cI b a L
 len:r.rule.length=L.length-1
 len12:r.rule.length<=12
theorem TR.congr{b:Int}{r:Rw}{a a':Nat->Int}{L:List Int}(h:TR b r a L)(e:∀n,a n=a' n):TR b r a' L:=⟨h.by_,h.ok,fun n=>(h.same n).trans (e n),h.lst.congr e,h.len,h.len12⟩
theorem Mr.told{b:Int}{r:Rw}{ua u:Nat}(h:Mr b r ua u){L:List Int}(lst:cI b r.at L)(ll:L.length<=r.rule.length+1)(hs:12*(ua+12)+1+(12*(ua+12)+11+400)+57<=112100):TR b (cO r L) r.at L:=by
 have l:=gR ll h.ok;have:=h.len12;have hl:=h.ok.len;exact⟨h.by_,(h.short lst ll hs).ok,jx h.ok.zR (by rw[h.by_];exact lst) (by omega),lst,l.1,by rw[l.1];omega⟩
theorem DM{b:Int}{xs:List Int}(h:∀x∈xs,jh b x):xs.map (Rm.tk b)=xs:=by
 exact(List.map_congr_left (f:=Rm.tk b) (g:=id) fun x hx=>Ci (h x hx)).trans (List.map_id xs)
theorem JM{b:Int}{P:List Int}{f:Nat->Int}(h:Pm.Kp b P f):Pm.Kp b P fun n=>f (n+1):=fun n=>by
 have:Pm.ks P (fun n=>f (n+1)) n=Pm.ks P f (n+1):=Pm.aH fun k _=>by rw[show n+1+k=n+k+1 by omega]
 rw[this];exact h _
theorem zB{b:Int}{P:List Int}{f g:Nat->Int}(e:∀n,Rm.tk b (f n)=Rm.tk b (g n))(h:Pm.Kp b P f):Pm.Kp b P g:=fun n=>by
 rw[<-h n];exact Pm.jD fun k _=>by rw[<-Rm.cD,<-e,Rm.cD]
theorem yG{J:It}{xs:List Int}{ix:List (Option Nat)}{te:TE}{σ:St}{H1:Hp}{Q:VK}(I:ItS J (xs.map V.int) H1)(hz:xs.length<=1000){rest:St}(hst:cst ix σ=none::rest)(f:Int->Int)
  (he:∀H' x,Same H1 H'->x∈xs->∀kk:VK,kk (.int (f x)) H'->te (some (.int x)::rest) H' kk)
  (hQ:∀D,H1 D=none->Q (.ref D) (upd H1 D (.lst ((xs.map f).map V.int)))):oR ix (lZ 0) Dy te σ Q J H1:=by
 refine jW I (by rw[List.length_map];exact Nat.le_of_lt (bQ hz)) hst (fun _=>true) (fun x=>match x with | .int k=> .int (f k)|_=> .non) ?_ ?_ ?_
 ·intro H2 x g2 hx k hk;exact hk
 ·intro H2 x g2 hx _ k hk;obtain⟨y,hy,rfl⟩:=List.mem_map.mp hx;exact he H2 y g2 hy k hk
 ·intro D hD;have el:(((xs.map V.int).filter fun _=>true).map fun x=>match x with | .int k=>V.int (f k)|_=>V.non)=(xs.map f).map V.int:=by
   rw[List.filter_eq_self.mpr (by simp),List.map_map,List.map_map];rfl
  rw[el];exact hQ D hD
def Ints(H:Hp)(a:Addr)(xs:List Int):Prop:=H a=some (.lst (xs.map V.int))∨H a=some (.tup (xs.map V.int))
theorem Ints.same{H H':Hp}{a:Addr}{xs:List Int}(h:Ints H a xs)(g:Same H H'):Ints H' a xs:=h.imp (g _ _) (g _ _)
theorem uT{K:PySem.W.Frag}{a:Addr}{xs:List Int}{ix:List (Option Nat)}{te:TE}{σ:St}{H1:Hp}{Q:VK}(hA:Ints H1 a xs)(hz:xs.length<=1000){rest:St}(hst:cst ix σ=none::rest)(f:Int->Int)
  (he:∀H' x,Same H1 H'->x∈xs->∀kk:VK,kk (.int (f x)) H'->te (some (.int x)::rest) H' kk)
  (hQ:∀D,H1 D=none->Q (.ref D) (upd H1 D (.lst ((xs.map f).map V.int)))):∃a',V.ref a = .ref a'/\(((∃ys,SqL K H1 a' ys)/\oR ix (lZ 0) Dy te σ Q (Itl K a') H1)∨((∃ys,SqT K H1 a' ys)/\oR ix (lZ 0) Dy te σ Q (Itt K a') H1)):=by
 rcases hA with h|h
 ·exact⟨a,rfl,.inl ⟨⟨_,SqL.of h⟩,yG (yw (SqL.of h)) hz hst f he hQ⟩⟩
 ·exact⟨a,rfl,.inr ⟨⟨_,SqT.of h⟩,yG (D4 (SqT.of h)) hz hst f he hQ⟩⟩
inductive Jp(C:Addr)(vs:List V)(H:Hp)(Q:VK)(E:XK):Prop|mk (n:Int) (z_0:vs=[.int n]) (z_1:(n<=12->Q .non H)) (z_2:(12<n->E (.ref C) none H))
def CG(C:Addr):Sp:=fun vs H Q E=>Jp C vs H Q E
inductive Ju(vs:List V)(H:Hp)(Q:VK)(E:XK):Prop|mk (b:Int) (a c:Addr) (ns ms:List Int) (ua u:Nat) (z_0:vs=[.int b,.ref a,.ref c]) (z_1:Ints H a ns) (z_2:Ints H c ms) (z_3:ns.length<=1000) (z_4:ms.length<=1000) (z_5:Mr b ⟨b,ns.map (Rm.tk b),ms.map (Rm.tk b)⟩ ua u) (z_6:12*(ua+12)+1+(12*(ua+12)+11+400)+57<=112100) (z_7:∀v' r' L H',Same H H'->cU H' v' r'->TR b r' (⟨b,ns.map (Rm.tk b),ms.map (Rm.tk b)⟩:Rw).at L->L.length<=ns.length+1->Q v' H')
def Gj:Sp:=fun vs H Q E=>Ju  vs H Q E
abbrev PF:=(Nat->Int)->(Nat->Int)->Nat->Int
def YC(b:Int)(f:PF)(L1 L2:List Int)(a c:Nat->Int):Rw:=⟨b,Pm.cG b (Pm.mul b L1 L2),Pm.ofF (L1.length-1+(L2.length-1)) fun n=>Rm.tk b (f a c n)⟩
theorem vY{b:Int}(hb:ByF b){L1 L2:List Int}(m1:Pm.Mon L1)(m2:Pm.Mon L2):Pm.Mon (Pm.mul b L1 L2)/\(Pm.mul b L1 L2).length=L1.length-1+(L2.length-1)+1:=by
 have:=Pm.HZ hb.one m1 m2;have h1:=m1.pos;have h2:=m2.pos;exact⟨this.1,by rw[this.2];omega⟩
theorem GB{b:Int}(hb:ByF b){f:PF}{L1 L2:List Int}{a c:Nat->Int}(m1:Pm.Mon L1)(m2:Pm.Mon L2)(hk:Pm.Kp b (Pm.mul b L1 L2) fun n=>Rm.tk b (f a c n))(n:Nat):(YC b f L1 L2 a c).at n=Rm.tk b (f a c n):=by
 obtain⟨hm,hl⟩:=vY hb m1 m2;refine Pm.vL (w:=Pm.mul b L1 L2) (a:=fun n=>Rm.tk b (f a c n)) (fun k=>by rw[Pm.kY,Rm.iI]) hm hk (fun n=>Rm.iI _ _) (by show(Pm.ofF _ _).length=_;rw[Pm.aZ,hl];rfl) (fun i hi=>?_) n;have hi':i<L1.length-1+(L2.length-1):=by rw[<-Pm.aZ (L1.length-1+(L2.length-1)) fun n=>Rm.tk b (f a c n)];exact hi
 exact(Pm.bZ _ _ _).trans (if_pos hi')
theorem Ja{b:Int}(hb:ByF b){L1 L2:List Int}{u v:Nat}(hu:10<=u)(hl:L1.length<=13)(h1:∀k,Rm.Bd u (Pm.co L1 k))(h2:∀k,Rm.Bd v (Pm.co L2 k)):∀x∈Pm.mul b L1 L2,Rm.Bd (u+v+13) x:=fun x hx=>by
 refine(Pm.LN hb.lo hb.hi hu (p:=L1) (q:=L2) (v:=v) (fun x hx=>?_) (fun x hx=>?_) x hx).mono (by omega)
 ·obtain⟨k,hk,e⟩:=List.mem_iff_getElem.mp hx;have:=h1 k;rw[Pm.m7 hk,e]at this;exact this
 ·obtain⟨k,hk,e⟩:=List.mem_iff_getElem.mp hx;have:=h2 k;rw[Pm.m7 hk,e]at this;exact this
theorem La{b:Int}(hb:ByF b){f:PF}{L1 L2:List Int}{a c:Nat->Int}{u v ua:Nat}(hu:10<=u)(hu2:u<=13000)(hv:v<=13000)(m1:Pm.Mon L1)(m2:Pm.Mon L2)(h1:∀k,Rm.Bd u (Pm.co L1 k))(h2:∀k,Rm.Bd v (Pm.co L2 k))(hl:L1.length-1+(L2.length-1)<=12)
  (hk:Pm.Kp b (Pm.mul b L1 L2) fun n=>Rm.tk b (f a c n)) (hua:ua<=1000) (ua10:10<=ua) (bd:∀n,n<=24->Rm.Bd ua (Rm.tk b (f a c n))):Mr b (YC b f L1 L2 a c) ua (u+v+13):=by
 obtain⟨hm,hl2⟩:=vY hb m1 m2;have hb0:=hb.lo;have p1:=m1.pos;have lr:(Pm.cG b (Pm.mul b L1 L2)).length=L1.length-1+(L2.length-1):=by rw[Pm.dj,hl2];rfl
 have rb:∀x∈Pm.cG b (Pm.mul b L1 L2),Rm.Bd (u+v+13) x:=fun x hx=>by
  obtain⟨k,_,rfl⟩:=Pm.dH (show x∈Pm.ofF _ _ from hx);refine kZ hb (by omega) ?_;rw[Int.zero_sub];exact Pm.vB (Pm.jV (Ja hb hu (by omega) h1 h2) _)
 refine⟨hb,rfl,⟨?_,?_,hb0,hb.hi,fun x hx=>?_,fun x hx=>?_,fun x hx=>(rb x hx).mono (by omega),fun x hx=>?_⟩,?_,rb,fun n hn=>?_,by omega,ua10,by omega⟩
 ·show(Pm.cG b (Pm.mul b L1 L2)).length=(Pm.ofF _ _).length;rw[lr,Pm.aZ]
 ·show(Pm.cG b (Pm.mul b L1 L2)).length<=24;omega
 ·obtain⟨k,_,rfl⟩:=Pm.dH (show x∈Pm.ofF _ _ from hx);exact jo hb0 _
 ·obtain⟨k,_,rfl⟩:=Pm.dH (show x∈Pm.ofF _ _ from hx);exact jo hb0 _
 ·obtain⟨k,hk',rfl⟩:=Pm.dH (show x∈Pm.ofF _ _ from hx);exact(bd k (by omega)).mono (by omega)
 ·show(Pm.cG b (Pm.mul b L1 L2)).length<=12;omega
 ·rw[GB hb m1 m2 hk];exact bd n hn
theorem K4{b:Int}{P:List Int}{a c:Nat->Int}(h1:Pm.Kp b P a)(h2:Pm.Kp b P c):Pm.Kp b P fun n=>a n+c n:=fun n=>by
 have e:Pm.ks P (fun n=>a n+c n) n=Pm.ks P a n+Pm.ks P c n:=by
  unfold Pm.ks;rw[<-Pm.dY];exact Pm.aH fun k _=>Int.mul_add ..
 rw[e,<-Rm.cj,<-Rm.fU,h1 n,h2 n];exact Pm.tk0 b
theorem MN{b:Int}{P:List Int}{f:Nat->Int}(h:Pm.Kp b P f):Pm.Kp b P fun n=>Rm.tk b (f n):=zB (fun n=>(Rm.iI b (f n)).symm) h
def mJ:PF:=fun a c n=>Pm.sm (n+1) fun i=>a i*c (n-i)
theorem Gp(f:Nat->Int)(j:Nat):∀d,Pm.sm (j+d) f=Pm.sm j f+Pm.sm d fun i=>f (j+i)
 |0=>by rw[Nat.add_zero];exact(Int.add_zero _).symm
 |d+1=>by
  show Pm.sm (j+d) f+f (j+d)=Pm.sm j f+(Pm.sm d (fun i=>f (j+i))+f (j+d));rw[Gp f j d,Int.add_assoc]
def cvW(L:List Int)(c:Nat->Int)(j:Nat):Int:=Pm.sm L.length fun k=>if j<k then Pm.co L k*c (k-1-j)else 0
theorem Hv(L:List Int)(a c:Nat->Int)(n:Nat):Pm.ks L (mJ a c) n=Pm.sm (n+1) (fun i=>a i*Pm.ks L c (n-i))+Pm.ks (Pm.ofF L.length (cvW L c)) (fun n=>a (n+1)) n:=by
 have e1:∀k,mJ a c (n+k)=Pm.sm (n+1) (fun i=>a i*c (n+k-i))+Pm.sm k (fun j=>a (n+1+j)*c (n+k-(n+1+j))):=fun k=>by
  unfold mJ;rw[show n+k+1=n+1+k by omega,Gp]
 have e2:Pm.ks L (mJ a c) n=Pm.sm L.length (fun k=>Pm.co L k*Pm.sm (n+1) (fun i=>a i*c (n+k-i)))+Pm.sm L.length (fun k=>Pm.co L k*Pm.sm k (fun j=>a (n+1+j)*c (n+k-(n+1+j)))):=by
  unfold Pm.ks;rw[<-Pm.dY];exact Pm.aH fun k _=>by rw[e1,Int.mul_add]
 have e3:Pm.sm L.length (fun k=>Pm.co L k*Pm.sm (n+1) (fun i=>a i*c (n+k-i)))=Pm.sm (n+1) fun i=>a i*Pm.ks L c (n-i):=by
  have q1:Pm.sm L.length (fun k=>Pm.co L k*Pm.sm (n+1) (fun i=>a i*c (n+k-i)))=Pm.sm L.length fun k=>Pm.sm (n+1) fun i=>Pm.co L k*(a i*c (n+k-i)):=Pm.aH fun k _=>by rw[Pm.cu]
  rw[q1,Pm.oh];refine Pm.aH fun i hi=>?_;unfold Pm.ks;rw[<-Pm.cu];exact Pm.aH fun k _=>by rw[show n+k-i=n-i+k by omega,Int.mul_left_comm]
 have e4:Pm.sm L.length (fun k=>Pm.co L k*Pm.sm k (fun j=>a (n+1+j)*c (n+k-(n+1+j))))=Pm.ks (Pm.ofF L.length (cvW L c)) (fun n=>a (n+1)) n:=by
  have q1:Pm.sm L.length (fun k=>Pm.co L k*Pm.sm k (fun j=>a (n+1+j)*c (n+k-(n+1+j))))=Pm.sm L.length fun k=>Pm.sm L.length fun j=>a (n+j+1)*(if j<k then Pm.co L k*c (k-1-j)else 0):=Pm.aH fun k hk=>by
   rw[Pm.fL (m:=k) (n:=L.length) (by omega) fun j h1 _=>by rw[if_neg (by omega),Int.mul_zero],<-Pm.cu];exact Pm.aH fun j hj=>by rw[if_pos hj,show n+1+j=n+j+1 by omega,show n+k-(n+j+1)=k-1-j by omega,Int.mul_left_comm]
  rw[q1,Pm.oh];unfold Pm.ks;rw[Pm.aZ];refine Pm.aH fun j hj=>?_;rw[Pm.bZ,if_pos hj,Pm.cu,Int.mul_comm];rfl
 rw[e2,e3,e4]
theorem Jb{b:Int}{L1 L2:List Int}{a c:Nat->Int}(h1:Pm.Kp b L1 a)(h2:Pm.Kp b L2 c):Pm.Kp b (Pm.mul b L1 L2) fun n=>Rm.tk b (mJ a c n):=by
 refine MN (Pm.Kp.Qe (zB (f:=Pm.ks (Pm.ofF L2.length (cvW L2 c)) fun n=>a (n+1)) (fun n=>?_) (((JM h1).W6 _).VH)));have z:Rm.tk b (Pm.sm (n+1) fun i=>a i*Pm.ks L2 c (n-i))=0:=Dm.KP fun k _=>by rw[<-Rm.cD,h2,Int.mul_zero,Pm.tk0]
 rw[Hv,<-Rm.cj,z,Int.zero_add]
theorem Jy{b:Int}(hb:ByF b){a c:Nat->Int}(h1:∀n,n<=24->Rm.Bd (31+n*17) (a n))(h2:∀n,n<=24->Rm.Bd (31+n*17) (c n))(n:Nat)(hn:n<=24):Rm.Bd 500 (Rm.tk b (mJ a c n)):=by
 refine kZ hb (by decide) ?_;refine(Pm.Ak (c:=62+n*17) (n+1) fun k hk=>?_).mono (by omega);exact((h1 k (by omega)).mul (h2 (n-k) (by omega))).mono (by omega)
def bhd(rule sums:List Int)(k:Nat):Int:=Pm.sm (min (k-1) rule.length) fun i=>Pm.co rule i*Pm.co sums (k-2-i)
abbrev Le(x:Int)(n:Nat):Prop:=x.natAbs<=n
theorem Le.sm{f:Nat->Int}{c:Nat}:∀n:Nat,(∀k,k<n->Le (f k) c)->Le (Pm.sm n f) (n*c)
 |0,_=>Nat.zero_le _
 |n+1,h=>by
  have h1:=Le.sm n fun k hk=>h k (by omega);have h2:=h n (by omega);have h3:=Int.natAbs_add_le (Pm.sm n f) (f n);show(Pm.sm n f+f n).natAbs<=(n+1)*c;rw[Nat.succ_mul];unfold Le at h1 h2;omega
theorem Le.mul{x y:Int}{m n:Nat}(h1:Le x m)(h2:Le y n):Le (x*y) (m*n):=by
 show(x*y).natAbs<=m*n;rw[Int.natAbs_mul];exact Nat.mul_le_mul h1 h2
theorem Le.bd{x:Int}{n:Nat}(h:Le x (2^n)):Rm.Bd (n+1) x:=by
 show x.natAbs<2^(n+1);have:0<2^n:=Nat.pow_pos (by decide);rw[Nat.pow_succ];unfold Le at h;omega
theorem Ew{Z:Nat}{rule sums:List Int}{k:Nat}(hk:1<=k)(hl:rule.length=k-1)(hr:∀i,i<k-1->Le (Pm.co rule i) (Z^(i+1)))(hs:∀i,i<k->Le (Pm.co sums i) (Z^(i+1))):Le ((Pm.co sums (k-1)-bhd rule sums k)/(k:Int)) (Z^k):=by
 have e1:Le (bhd rule sums k) ((k-1)*Z^k):=by
  unfold bhd;rw[hl,Nat.min_self];refine Le.sm (k-1) fun i hi=>?_;have:=(hr i hi).mul (hs (k-2-i) (by omega));rw[<-Nat.pow_add,show i+1+(k-2-i+1)=k by omega]at this;exact this
 have e2:=hs (k-1) (by omega);rw[show k-1+1=k by omega]at e2;obtain⟨m,rfl⟩:∃m,k=m+1:=⟨k-1,by omega⟩;rw[Nat.add_sub_cancel]at e1 e2⊢;generalize Pm.co sums m=s at e2;generalize bhd rule sums (m+1)=t at e1;generalize Z^(m+1)=z at e1 e2;have h3:Le (s-t) ((m+1)*z):=by
  unfold Le at *;rw[Nat.succ_mul];omega
 generalize s-t=d at h3;unfold Le at *;have h4:-(((m+1)*z:Nat):Int)<=d/\d<=(((m+1)*z:Nat):Int):=by omega
 rw[Int.natCast_mul]at h4;have p:(0:Int)<((m+1:Nat):Int):=by omega
 have h5:d/((m+1:Nat):Int)<=(z:Int):=by
  have:=Int.ediv_le_ediv p h4.2;rw[Int.mul_ediv_cancel_left _ (by omega)]at this;exact this
 have h6:-(z:Int)<=d/((m+1:Nat):Int):=by
  have:=Int.ediv_le_ediv p h4.1;rw[<-Int.mul_neg,Int.mul_ediv_cancel_left _ (by omega)]at this;exact this
 omega
theorem Hl{X:Nat}(hX:2<=X)(c:Nat):∀(n:Nat) (f:Nat->Int),(∀i,i<n->Le (f i) (c*X^(n-i)))->Le (Pm.sm n f) (c*(2*X^n))
 |0,_,_=>Nat.zero_le _
 |n+1,f,h=>by
  have h0:=h 0 (by omega);have h1:=Hl hX c n (fun i=>f (i+1)) fun i hi=>by have:=h (i+1) (by omega);rw[show n+1-(i+1)=n-i by omega]at this;exact this
  rw[Pm.gG];have h3:=Int.natAbs_add_le (f 0) (Pm.sm n fun i=>f (i+1));have e:X^(n+1-0)=X^n*X:=Nat.pow_succ ..;rw[e]at h0;have e2:c*(2*X^(n+1))=c*(X^n*X)+c*(X^n*X):=by rw[Nat.pow_succ,<-Nat.mul_add,<-Nat.two_mul]
  have e3:c*(2*X^n)<=c*(X^n*X):=Nat.mul_le_mul_left _ (by rw[Nat.mul_comm];exact Nat.mul_le_mul_left _ hX);unfold Le at *;omega
theorem HN{w:Nat}{rule sums:List Int}{k:Nat}(hk:1<=k)(k24:k<=24)(hr:∀i,Le (Pm.co rule i) (2^w))(hs:∀i,i<k-1->Le (Pm.co sums i) ((2^(w+3))^(i+1))):Le ((if k<=rule.length then(k:Int)*Pm.co rule (k-1)else 0)+bhd rule sums k) ((2^(w+3))^k):=by
 obtain⟨m,rfl⟩:∃m,k=m+1:=⟨k-1,by omega⟩;rw[Nat.add_sub_cancel]at hs⊢;have X2:2<=2^(w+3):=by
  have:0<2^w:=Nat.pow_pos (by decide);rw[Nat.pow_add];omega
 have e1:Le (bhd rule sums (m+1)) (2^w*(2*(2^(w+3))^m)):=by
  have e:bhd rule sums (m+1)=Pm.sm m fun i=>if i<rule.length then Pm.co rule i*Pm.co sums (m+1-2-i)else 0:=by
   unfold bhd;rw[Nat.add_sub_cancel,Pm.fL (m:=min m rule.length) (n:=m) (by omega) fun i h1 h2=>if_neg (by omega)];exact Pm.aH fun i hi=>(if_pos (by omega)).symm
  rw[e];refine Hl X2 _ m _ fun i hi=>?_;split
  ·have:=(hr i).mul (hs (m+1-2-i) (by omega));rw[show m+1-2-i+1=m-i by omega]at this;exact this
  ·exact Nat.zero_le _
 have e2:Le (if m+1<=rule.length then((m+1:Nat):Int)*Pm.co rule m else 0) ((m+1)*2^w):=by
  split
  ·have h1:Le ((m+1:Nat):Int) (m+1):=by unfold Le;omega
   exact h1.mul (hr m)
  ·exact Nat.zero_le _
 have h3:=Int.natAbs_add_le (if m+1<=rule.length then((m+1:Nat):Int)*Pm.co rule m else 0) (bhd rule sums (m+1));have kX:∀m,m+1<=6*8^m:=fun m=>by
  induction m with
  |zero=>decide
  |succ m ih=>rw[Nat.pow_succ];omega
 have p8:8^m<=(2^(w+3))^m:=Nat.pow_le_pow_left (by
  have:0<2^w:=Nat.pow_pos (by decide);rw[Nat.pow_add];omega) m
 have e5:(2^(w+3))^(m+1)=2^w*(2*(2^(w+3))^m)+2^w*(6*(2^(w+3))^m):=by
  rw[Nat.pow_succ,Nat.mul_comm,Nat.pow_add,<-Nat.mul_add,<-Nat.add_mul,Nat.mul_assoc]
 have e6:(m+1)*2^w<=2^w*(6*(2^(w+3))^m):=by
  rw[Nat.mul_comm];refine Nat.mul_le_mul_left _ (Nat.le_trans (kX m) (Nat.mul_le_mul_left _ p8))
 unfold Le at *;omega
theorem rO{m n:Nat}{a:Nat->Int}(h:n<m):atI ((Pm.ofF m a).map V.int) (n:Int)=some (.int (a n)):=by
 rw[bH (by omega) (by rw[Pm.aZ];omega),Int.toNat_natCast];show some (V.int (Pm.co (Pm.ofF m a) n))=_;rw[Pm.bZ,if_pos h]
theorem Ar{xs:List Int}{n:Nat}(h:n<xs.length):atI (xs.map V.int) (n:Int)=some (.int (Pm.co xs n)):=by
 rw[bH (by omega) (by omega),Int.toNat_natCast];rfl
theorem Bv(n:Nat)(f:Nat->Int):(Pm.ofF n f).sum=Pm.sm n f:=by rw[Pm.ofF,Pm.ud]
inductive Vi(f:PF)(vs:List V)(H:Hp)(Q:VK)(E:XK):Prop|mk (l1 l2:Addr) (m:Nat) (a c:Nat->Int) (n:Nat) (z_0:vs=[.ref l1,.ref l2,.int (n:Int)]) (z_1:H l1=some (.lst ((Pm.ofF m a).map V.int))) (z_2:H l2=some (.lst ((Pm.ofF m c).map V.int))) (z_3:n<m) (z_4:m<=12) (z_5:(∀i,i<=24->Rm.Bd 1000 (a i))) (z_6:(∀i,i<=24->Rm.Bd 1000 (c i))) (z_7:∀H',Same H H'->Q (.int (f a c n)) H')
def Eo(f:PF):Sp:=fun vs H Q E=>Vi f vs H Q E
def Eb:PF:=fun a c n=>a n+c n
def Mp:PF:=fun a c n=>a n*c n
def Yd(mg:Str->Option Value)(g:Addr)(f:PF):Prop:=(mg "sum_place" = some (.ref g)/\f=Eb)∨(mg "rolled_place" = some (.ref g)/\f=mJ)∨(mg "product_place" = some (.ref g)/\f=Mp)
inductive K8(vs:List V)(H:Hp)(Q:VK)(E:XK):Prop|mk (a c:Addr) (rule sums:List Int) (k:Nat) (z_0:vs=[.ref a,.ref c,.int (k:Int)]) (z_1:Ints H a rule) (z_2:Ints H c sums) (z_3:1<=k) (z_4:k<=24) (z_5:k-1<=sums.length) (z_6:(∀x∈rule,Rm.Bd 2000 x)) (z_7:(∀x∈sums,Rm.Bd 2000 x)) (z_8:∀H',Same H H'->Q (.int (bhd rule sums k)) H')
def Ji:Sp:=fun vs H Q E=>K8  vs H Q E
theorem Le.list{xs:List Int}{w z:Nat}(hz:(xs.length)*w+1<=z)(h:∀i,i<xs.length->Le (Pm.co xs i) ((2^w)^(i+1))):∀x∈xs,Rm.Bd z x:=fun x hx=>by
 obtain⟨k,hk,e⟩:=List.mem_iff_getElem.mp hx;have:=h k hk;rw[Pm.m7 hk,e,<-Nat.pow_mul]at this;refine this.bd.mono ?_;have:w*(k+1)<=xs.length*w:=by rw[Nat.mul_comm];exact Nat.mul_le_mul_right _ hk
 omega
theorem Le.grow{xs:List Int}{x:Int}{n Z:Nat}(hl:xs.length=n)(h:∀i,i<n->Le (Pm.co xs i) (Z^(i+1)))(hx:Le x (Z^(n+1))):∀i,i<n+1->Le (Pm.co (xs++[x]) i) (Z^(i+1)):=fun i hi=>by
 rw[Pm.dg];by_cases d:i<n
 ·rw[if_pos (by omega)];exact h i d
 ·have e:i=n:=by omega
  subst e;rw[if_neg (by omega),hl,Nat.sub_self];exact hx
inductive JW(vs:List V)(H:Hp)(Q:VK)(E:XK):Prop|mk (a:Addr) (rule:List Int) (n w:Nat) (z_0:vs=[.ref a,.int (n:Int)]) (z_1:H a=some (.tup (rule.map V.int))) (z_2:n<=12) (z_3:w<=20) (z_4:(∀i,Le (Pm.co rule i) (2^w))) (z_5:∀l sums H',Same H H'->H' l=some (.lst (sums.map V.int))->sums.length=n->(∀i,i<n->Le (Pm.co sums i) ((2^(w+3))^(i+1)))->Q (.ref l) H')
def MD:Sp:=fun vs H Q E=>JW  vs H Q E
inductive Kc(vs:List V)(H:Hp)(Q:VK)(E:XK):Prop|mk (c:Addr) (sums:List Int) (n z:Nat) (z_0:vs=[.ref c]) (z_1:H c=some (.lst (sums.map V.int))) (z_2:sums.length=n) (z_3:n<=12) (z_4:z<=60) (z_5:(∀i,i<n->Le (Pm.co sums i) ((2^z)^(i+1)))) (z_6:∀l rule H',Same H H'->H' l=some (.lst (rule.map V.int))->rule.length=n->(∀i,i<n->Le (Pm.co rule i) ((2^z)^(i+1)))->Q (.ref l) H')
def JL:Sp:=fun vs H Q E=>Kc  vs H Q E
inductive E6(mg:Str->Option Value)(vs:List V)(H:Hp)(Q:VK)(E:XK):Prop|mk (f:PF) (v1 v2:V) (t g:Addr) (b:Int) (r1 r2:Rw) (ns:List Int) (ua u w1 w2 w3 w4:Nat) (z_0:vs=[v1,v2,.ref t,.ref g]) (z_1:Yd mg g f) (z_2:cU H v1 r1) (z_3:cU H v2 r2) (z_4:Mr b r1 w1 w2) (z_5:Mr b r2 w3 w4) (z_6:Ints H t ns) (z_7:ns.length<=12) (z_8:w1<=1000) (z_9:w3<=1000) (z_10:Mr b ⟨b,ns.map (Rm.tk b),Pm.ofF ns.length fun n=>Rm.tk b (f r1.at r2.at n)⟩ ua u) (z_11:12*(ua+12)+1+(12*(ua+12)+11+400)+57<=112100) (z_12:∀v' r' L H',Same H H'->cU H' v' r'->TR b r' (⟨b,ns.map (Rm.tk b),Pm.ofF ns.length fun n=>Rm.tk b (f r1.at r2.at n)⟩:Rw).at L->L.length<=ns.length+1->Q v' H')
def wZ(mg:Str->Option Value):Sp:=fun vs H Q E=>E6 mg vs H Q E
def MZ(C:Addr)(f:PF)(v1 v2:V)(H:Hp)(Q:VK)(E:XK):Prop:=∃(b:Int) (r1 r2:Rw) (w1 w2 w3 w4:Nat) (L1 L2:List Int),cU H v1 r1/\cU H v2 r2/\Mr b r1 w1 w2/\Mr b r2 w3 w4/\w1<=1000/\w3<=1000/\cI b r1.at L1/\L1.length<=r1.rule.length+1/\cI b r2.at L2/\L2.length<=r2.rule.length+1/\
 (L1.length-1+(L2.length-1)<=12->∃ua,ua<=1000/\10<=ua/\Pm.Kp b (Pm.mul b L1 L2) (fun n=>Rm.tk b (f r1.at r2.at n))/\(∀n,n<=24->Rm.Bd ua (Rm.tk b (f r1.at r2.at n)))/\∀v' r' L' H',Same H H'->cU H' v' r'->TR b r' (fun n=>Rm.tk b (f r1.at r2.at n)) L'->r'.rule.length<=L1.length-1+(L2.length-1)->Q v' H')/\
 (12<L1.length-1+(L2.length-1)->∀H',Same H H'->E (.ref C) none H')
def Unl(C:Addr)(v1 v2:V)(H:Hp)(E:XK):Prop:=∃(r1 r2:Rw),cU H v1 r1/\cU H v2 r2/\r1.b≠r2.b/\E (.ref C) none H
inductive E5(C:Addr)(vs:List V)(H:Hp)(Q:VK)(E:XK):Prop|mk (v1 v2:V) (r1 r2:Rw) (z_0:vs=[v1,v2]) (z_1:cU H v1 r1) (z_2:cU H v2 r2) (z_3:(r1.b=r2.b->Q (.int r1.b) H)) (z_4:(r1.b≠r2.b->E (.ref C) none H))
def wj(C:Addr):Sp:=fun vs H Q E=>E5 C vs H Q E
inductive Fi(C1 C:Addr)(mg:Str->Option Value)(vs:List V)(H:Hp)(Q:VK)(E:XK):Prop|mk (f:PF) (v1 v2:V) (g:Addr) (z_0:vs=[v1,v2,.ref g]) (z_1:Yd mg g f) (z_2:(Unl C1 v1 v2 H E∨MZ C f v1 v2 H Q E))
def wF(C1 C:Addr)(mg:Str->Option Value):Sp:=fun vs H Q E=>Fi C1 C mg vs H Q E
inductive Em(C1 C:Addr)(f:PF)(vs:List V)(H:Hp)(Q:VK)(E:XK):Prop|mk (v1 v2:V) (z_0:vs=[v1,v2]) (z_1:(Unl C1 v1 v2 H E∨MZ C f v1 v2 H Q E))
def ug(C1 C:Addr)(f:PF):Sp:=fun vs H Q E=>Em C1 C f vs H Q E
theorem Ka{b:Int}{L1 L2:List Int}{a c:Nat->Int}(h1:Pm.Kp b L1 a)(h2:Pm.Kp b L2 c):Pm.Kp b (Pm.mul b L1 L2) fun n=>Rm.tk b (Eb a c n):=MN (K4 (h1.W6 L2) (h2.Lr L1))
theorem Kr{b:Int}(hb:ByF b){a c:Nat->Int}{u:Nat}(hu:10<=u)(h1:∀n,n<=24->Rm.Bd u (a n))(h2:∀n,n<=24->Rm.Bd u (c n))(n:Nat)(hn:n<=24):Rm.Bd (u+1) (Rm.tk b (Eb a c n)):=kZ hb (by omega) (Rm.Bd.add (h1 n hn) (h2 n hn))
theorem Jd{b:Int}(hb:ByF b){rule:List Int}{n:Nat}(hl:rule.length=n)(n12:n<=12){f:Nat->Int}(hz:b=0->∀i,i<n->Le (Pm.co rule i) ((2^12)^(i+1)))(hf:∀k,k<12->Rm.Bd 200 (f k)):Mr b ⟨b,rule.map (Rm.tk b),Pm.ofF n fun k=>Rm.tk b (f k)⟩ 3800 145:=by
 have hb0:=hb.lo;have hb1:=hb.hi;have rn:∀x∈rule.map (Rm.tk b),jh b x:=fun x hx=>by obtain⟨y,_,rfl⟩:=List.mem_map.mp hx;exact jo hb0 _
 have sn:∀x∈Pm.ofF n fun k=>Rm.tk b (f k),jh b x:=fun x hx=>by obtain⟨k,_,rfl⟩:=Pm.dH hx;exact jo hb0 _
 have rb:∀x∈rule.map (Rm.tk b),Rm.Bd 145 x:=fun x hx=>by
  by_cases z:b=0
  ·obtain⟨y,hy,rfl⟩:=List.mem_map.mp hx;rw[z,Rm.bK];exact Le.list (w:=12) (z:=145) (by omega) (fun i hi=>hz z i (by omega)) y hy
  ·exact uQ hb (by decide) z (rn x hx)
 have sb:∀x∈Pm.ofF n fun k=>Rm.tk b (f k),Rm.Bd 200 x:=fun x hx=>by
  obtain⟨k,hk,rfl⟩:=Pm.dH hx;exact kZ hb (by decide) (hf k (by omega))
 have lr:(rule.map (Rm.tk b)).length=(Pm.ofF n fun k=>Rm.tk b (f k)).length:=by rw[List.length_map,Pm.aZ,hl]
 have l12:(rule.map (Rm.tk b)).length<=12:=by rw[List.length_map];omega
 refine⟨hb,rfl,⟨lr,by show(rule.map (Rm.tk b)).length<=24;omega,hb0,hb1,rn,sn,fun x hx=>(rb x hx).mono (by decide),fun x hx=>(sb x hx).mono (by decide)⟩,l12,rb,fun m hm=>?_,by decide,by decide,by decide⟩;have:=C4 (b:=b) (rule:=rule.map (Rm.tk b)) (starts:=Pm.ofF n fun k=>Rm.tk b (f k)) (a:=145) (c:=200) lr (by omega) hb0 (Rm.Bd.of (by omega) (by omega)) rb sb m;exact Rm.Bd.mono this (by have:m*(145+4)<=24*149:=Nat.mul_le_mul hm (by decide);omega)
def Yn(C:Addr)(v1 v2:V)(H:Hp)(Q:VK)(E:XK):Prop:=∃(b:Int) (r1 r2:Rw) (w1 w2 w3 w4:Nat) (L1 L2:List Int) (w:Nat),cU H v1 r1/\cU H v2 r2/\Mr b r1 w1 w2/\Mr b r2 w3 w4/\w1<=1000/\w3<=1000/\cI b r1.at L1/\L1.length<=r1.rule.length+1/\cI b r2.at L2/\L2.length<=r2.rule.length+1/\
 (∀i,Le (Pm.co (cO r1 L1).rule i) (2^w))/\(∀i,Le (Pm.co (cO r2 L2).rule i) (2^w))/\w<=20/\(b=0->w=3)/\(∀n,n<12->Rm.Bd 100 (r1.at n))/\(∀n,n<12->Rm.Bd 100 (r2.at n))/\
 ((L1.length-1)*(L2.length-1)<=12->∀v' H',Same H H'->Q v' H')/\(12<(L1.length-1)*(L2.length-1)->∀H',Same H H'->E (.ref C) none H')
inductive J9(C1 C:Addr)(vs:List V)(H:Hp)(Q:VK)(E:XK):Prop|mk (v1 v2:V) (z_0:vs=[v1,v2]) (z_1:(Unl C1 v1 v2 H E∨Yn C v1 v2 H Q E))
def KL(C1 C:Addr):Sp:=fun vs H Q E=>J9 C1 C vs H Q E
theorem cU.uh{H H':Hp}{v:V}{r:Rw}(h:cU H v r)(g:fJ H H'):cU H' v r:=by
 obtain⟨a,p,q,e,h1,h2,h3⟩:=h;exact⟨a,p,q,e,g.tup h1,g.tup h2,g.tup h3⟩
abbrev Km(x:Str):Str:=(x++ ".<locals>.")++ "<lambda>"
inductive IG(K:PySem.W.Frag)(T:Addr)(vs:List V)(H:Hp)(Q:VK)(E:XK):Prop|mk (a:Addr) (ns:List Int) (z_0:vs=[.ref a]) (z_1:SqL K H a (ns.map V.int)) (z_2:ns.length<=63) (z_3:(∀x∈ns,PySem.Builtin.Int.intBits x<=1048576)) (z_4:(∀q,kO H T q)) (z_5:∀H',Q (.bl true) H')
def C6(K:PySem.W.Frag)(T:Addr):Sp:=fun vs H Q E=>IG K T vs H Q E
def kdS(kd:Nat):Str:=if kd=0 then "told" else if kd=1 then "long" else "by"
def Kd(C1 C2:Addr)(kd:Nat)(H:Hp)(Q':VK)(E':XK):Prop:=(kd=0/\∀v H2,Same H H2->Q' v H2)∨(kd=1/\∀H2,Same H H2->E' (.ref C2) none H2)∨(kd=2/\∀H2,Same H H2->E' (.ref C1) none H2)
def yE(C1 C2:Addr):(Hp->VK->XK->Prop)->Hp->VK->XK->Prop:=fun sp0 H Q _=>∃(kd:Nat),kd<3/\(∀Q' E',Kd C1 C2 kd H Q' E'->sp0 H Q' E')/\∀H3,Same H H3->Q (.str (kdS kd)) H3
structure AllP(C1 C2:Addr)(H:Hp)(v1 v2:V)(ka km:Nat):Prop where
 add:∀H1,fJ H H1->∀Q' E',Kd C1 C2 ka H1 Q' E'->(Unl C1 v1 v2 H1 E'∨MZ C2 Eb v1 v2 H1 Q' E')
 mul:∀H1,fJ H H1->∀Q' E',Kd C1 C2 km H1 Q' E'->(Unl C1 v1 v2 H1 E'∨Yn C2 v1 v2 H1 Q' E')
 rol:∀H1,fJ H H1->∀Q' E',Kd C1 C2 ka H1 Q' E'->(Unl C1 v1 v2 H1 E'∨MZ C2 mJ v1 v2 H1 Q' E')
theorem pW{H H':Hp}(g:fJ H H'){l:Addr}(hl:H l=none)(o:HO):fJ H (upd H' l o):=fun b u n h=>by
 have:b≠l:=fun z=>by rw[z,hl]at h;cases h
 rw[bD this];exact g b u n h
theorem wR{H:Hp}{T l:Addr}{q:Str}(h:kO H T q){xs ys:List V}(hl:H l=some (.lst xs)):kO (upd H l (.lst ys)) T q:=by
 obtain⟨ps,h1,h2,h3⟩:=h;refine⟨ps,by rw[bD (fun z=>by rw[z,hl]at h1;cases h1)];exact h1,h2,fun pos cv hc=>?_⟩;obtain⟨c',oc,vs,t,e1,e2,e3,e4⟩:=h3 pos cv hc;exact⟨c',oc,vs,t,e1,by rw[bD (fun z=>by rw[z,hl]at e2;cases e2)];exact e2,e3,e4⟩
abbrev kdL(ks:List Nat):List V:=ks.map fun k=>V.str (kdS k)
theorem xO(ks:List Nat)(k:Nat):kdL (ks++[k])=kdL ks++[.str (kdS k)]:=List.map_append ..
inductive Mf(C1 C2 T:Addr)(vs:List V)(H:Hp)(Q:VK)(E:XK):Prop|mk (v1 v2:V) (ka km:Nat) (z_0:vs=[v1,v2]) (z_1:ka<3) (z_2:km<3) (z_3:AllP C1 C2 H v1 v2 ka km) (z_4:AllP C1 C2 H v2 v1 ka km) (z_5:kO H T (Km "_law_all")) (z_6:∀l H',fJ H H'->kO H' T (Km "_law_all")->H' l=some (.lst (kdL [ka,km,ka,ka,km,ka]))->Q (.ref l) H')
def K6(C1 C2 T:Addr):Sp:=fun vs H Q E=>Mf C1 C2 T vs H Q E
structure OfL(b:Int)(m:Nat)(r:Rw):Prop where
 by_:r.b=b
 len:r.rule.length=m
 st:r.starts=Pm.ofF m fun k=>if k+1=m then 1 else 0
 num:∀x∈r.rule,jh b x
 bd:∀x∈r.rule,Rm.Bd 13 x
 bd0:b=0->∀x∈r.rule,Rm.Bd 3 x
 m1:1<=m
 m12:m<=12
theorem V7{b:Int}(hb:ByF b)(p:Prop)[Decidable p]:jh b (if p then 1 else 0):=by
 split
 ·have:=jo hb.lo 1;rw[hb.one]at this;exact this
 ·have:=jo hb.lo 0;rw[Pm.tk0]at this;exact this
theorem YB(p:Prop)[Decidable p]:Rm.Bd 1 (if p then(1:Int)else 0):=by
 split
 ·exact Rm.Bd.of (by decide) (by decide)
 ·exact Rm.Bd.zero _
theorem OfL.bs{b:Int}{m:Nat}{r:Rw}(h:OfL b m r)(hb:ByF b):Bs b 12 r:=by
 have hl:=h.len;have m12:=h.m12;refine⟨h.by_,by rw[h.st,Pm.aZ];exact hl,by omega,by decide,h.num,fun x hx=>?_,h.bd,fun x hx=>?_⟩
 ·rw[h.st]at hx;obtain⟨k,_,rfl⟩:=Pm.dH hx;exact V7 hb _
 ·rw[h.st]at hx;obtain⟨k,_,rfl⟩:=Pm.dH hx;exact(YB _).mono (by decide)
theorem OfL.mr{b:Int}{m:Nat}{r:Rw}(h:OfL b m r)(hb:ByF b):Mr b r 439 49:=by
 have B:=h.bs hb;exact RwS.mr hb B (s:=0) ⟨h.by_,B.len,B.short,h.num,fun x hx=>(h.bd x hx).mono (by decide),fun _=>rfl⟩ (by decide)
theorem OfL.at_{b:Int}{m:Nat}{r:Rw}(h:OfL b m r){k:Nat}(hk:k<m):r.at k=if k+1=m then 1 else 0:=by
 have e:r.at k=r.starts.getD k 0:=Rm.rz (by rw[h.st,Pm.aZ];exact hk);rw[e,h.st];exact(Pm.bZ _ _ _).trans (if_pos hk)
theorem OfL.least{b:Int}{m:Nat}{r:Rw}(h:OfL b m r)(hb:ByF b):∃L,cI b r.at L/\L.length=m+1/\(cO r L).rule=r.rule:=by
 have M:=h.mr hb;obtain⟨L,lst,ll⟩:=M.ex;have hl:=h.len;have hp:=lst.mon.pos;have full:L.length=m+1:=by
  refine Classical.byContradiction fun c=>?_;obtain⟨d,hd⟩:∃d,L.length=d+1:=⟨L.length-1,by omega⟩;have k0:=lst.kp (m-1-d);have e:Pm.ks L r.at (m-1-d)=1:=by
   unfold Pm.ks;rw[hd];show Pm.sm d _+Pm.co L d*r.at (m-1-d+d)=1;rw[Pm.gC fun k hk=>by rw[h.at_ (by omega),if_neg (by omega),Int.mul_zero],h.at_ (by omega),if_pos (by omega),Int.mul_one,Int.zero_add];have:=lst.mon.one;rw[hd,Nat.add_sub_cancel]at this;exact this
  rw[e,hb.one]at k0;cases k0
 refine⟨L,lst,full,?_⟩;have hk:=M.ok.kp;rw[h.by_]at hk;have hm:=Pm.gQ b r.rule;have l1:=Pm.bU b r.rule;have eL:Pm.aX b r.rule=L:=by
  refine Pm.jN (by omega) fun k=>?_;rw[<-lst.nu k,<-qF b r.rule hb.one k];exact(lst.all _ hk).same hb.one lst.mon hm (by omega) k
 show Pm.cG r.b L=r.rule;rw[h.by_,<-eL];exact Pm.tU fun x hx=>Ci (h.num x hx)
abbrev wB(b:Int):Nat:=if b=0 then 3 else 10
theorem OfL.le{b:Int}{m:Nat}{r:Rw}(h:OfL b m r)(hb:ByF b)(i:Nat):Le (Pm.co r.rule i) (2^wB b):=by
 have:Rm.Bd (wB b) (Pm.co r.rule i):=by
  by_cases z:b=0
  ·have e:wB b=3:=if_pos z;rw[e];exact Pm.jV (h.bd0 z) i
  ·have e:wB b=10:=if_neg z;rw[e];exact Pm.jV (fun x hx=>uQ hb (by decide) z (h.num x hx)) i
 exact Nat.le_of_lt this
theorem OfL.pl{b:Int}{m:Nat}{r:Rw}(h:OfL b m r)(hb:ByF b)(n:Nat)(hn:n<12):Rm.Bd 100 (r.at n):=by
 have M:=h.mr hb;have B:=h.bs hb;by_cases z:b=0
 ·have h0:=hb.lo;have:=C4 (b:=r.b) (rule:=r.rule) (starts:=r.starts) (a:=3) (c:=10) B.len (by have:=h.len;have:=h.m12;omega) M.ok.by0 (by rw[h.by_,z];exact Rm.Bd.zero _) (h.bd0 z) (fun x hx=>by
   rw[h.st]at hx;obtain⟨k,_,rfl⟩:=Pm.dH hx;exact(YB _).mono (by decide)) n
  exact Rm.Bd.mono this (by omega)
 ·have:=M.ok.zG n;rw[h.by_]at this;exact uQ hb (by decide) z this
abbrev kP(p:Prop)[Decidable p]:Nat:=if p then 0 else 1
theorem Kd.told{C1 C2:Addr}{p:Prop}[Decidable p]{H:Hp}{Q':VK}{E':XK}(h:Kd C1 C2 (kP p) H Q' E')(hp:p):∀v H2,Same H H2->Q' v H2:=by
 have e:kP p=0:=if_pos hp;rw[e]at h;rcases h with⟨_,z⟩|⟨z,_⟩|⟨z,_⟩
 ·exact z
 ·cases z
 ·cases z
theorem Kd.long{C1 C2:Addr}{p:Prop}[Decidable p]{H:Hp}{Q':VK}{E':XK}(h:Kd C1 C2 (kP p) H Q' E')(hp:¬p):∀H2,Same H H2->E' (.ref C2) none H2:=by
 have e:kP p=1:=if_neg hp;rw[e]at h;rcases h with⟨z,_⟩|⟨_,z⟩|⟨z,_⟩
 ·cases z
 ·exact z
 ·cases z
theorem OfL.all{C1 C2:Addr}{H:Hp}{v1 v2:V}{b:Int}{m1 m2:Nat}{r1 r2:Rw}(hb:ByF b)(h1:OfL b m1 r1)(h2:OfL b m2 r2)(hR1:cU H v1 r1)(hR2:cU H v2 r2):AllP C1 C2 H v1 v2 (kP (m1+m2<=12)) (kP (m1*m2<=12)):=by
 have M1:=h1.mr hb;have M2:=h2.mr hb;obtain⟨L1,lst1,ll1,er1⟩:=h1.least hb;obtain⟨L2,lst2,ll2,er2⟩:=h2.least hb;have k1:=h1.len;have k2:=h2.len;have e1:L1.length-1=m1:=by omega
 have e2:L2.length-1=m2:=by omega
 have at1:∀n,n<=24->Rm.Bd (31+n*17) (r1.at n):=fun n _=>(h1.bs hb).zK hb n;have at2:∀n,n<=24->Rm.Bd (31+n*17) (r2.at n):=fun n _=>(h2.bs hb).zK hb n;refine⟨fun H1 g Q' E' hk=> .inr ⟨b,r1,r2,439,49,439,49,L1,L2,hR1.uh g,hR2.uh g,M1,M2,by decide,by decide,lst1,by omega,lst2,by omega,fun hle=>?_,fun hlt=>?_⟩,fun H1 g Q' E' hk=> .inr ⟨b,r1,r2,439,49,439,49,L1,L2,wB b,hR1.uh g,hR2.uh g,M1,M2,by decide,by decide,lst1,by omega,lst2,by omega,fun i=>by rw[er1];exact h1.le hb i,fun i=>by rw[er2];exact h2.le hb i,(by unfold wB;split<;>decide),fun z=>if_pos z,h1.pl hb,h2.pl hb,fun hle=>?_,fun hlt=>?_⟩,fun H1 g Q' E' hk=> .inr ⟨b,r1,r2,439,49,439,49,L1,L2,hR1.uh g,hR2.uh g,M1,M2,by decide,by decide,lst1,by omega,lst2,by omega,fun hle=>?_,fun hlt=>?_⟩⟩
 ·rw[e1,e2]at hle;exact⟨440,by decide,by decide,Ka lst1.kp lst2.kp,Kr hb (by decide) M1.at_ M2.at_,fun v' r' L' H' g' _ _ _=>hk.told hle v' H' g'⟩
 ·rw[e1,e2]at hlt;exact hk.long (by omega)
 ·rw[e1,e2]at hle;exact hk.told hle
 ·rw[e1,e2]at hlt;exact hk.long (by omega)
 ·rw[e1,e2]at hle;exact⟨500,by decide,by decide,Jb lst1.kp lst2.kp,Jy hb at1 at2,fun v' r' L' H' g' _ _ _=>hk.told hle v' H' g'⟩
 ·rw[e1,e2]at hlt;exact hk.long (by omega)
theorem sW{C1 C2:Addr}{H:Hp}{v1 v2:V}{r1 r2:Rw}(hR1:cU H v1 r1)(hR2:cU H v2 r2)(ne:r1.b≠r2.b):AllP C1 C2 H v1 v2 2 2:=by
 have key:∀H1,fJ H H1->∀Q' E',Kd C1 C2 2 H1 Q' E'->Unl C1 v1 v2 H1 E':=fun H1 g Q' E' hk=>by
  rcases hk with⟨z,_⟩|⟨z,_⟩|⟨_,z⟩
  ·cases z
  ·cases z
  ·exact⟨r1,r2,hR1.uh g,hR2.uh g,ne,z _ (Same.refl _)⟩
 exact⟨fun H1 g Q' E' hk=> .inl (key H1 g Q' E' hk),fun H1 g Q' E' hk=> .inl (key H1 g Q' E' hk),fun H1 g Q' E' hk=> .inl (key H1 g Q' E' hk)⟩
inductive LV(vs:List V)(H:Hp)(Q:VK)(E:XK):Prop|mk (b c:Int) (m:Nat) (z_0:vs=[.int b,.int (m:Int),.int c]) (z_1:ByF b) (z_2:Rm.Bd 1048576 c) (z_3:1<=m) (z_4:m<=12) (z_5:∀v r H',Same H H'->cU H' v r->OfL b m r->Q v H')
def ML:Sp:=fun vs H Q E=>LV  vs H Q E
abbrev kdD(ks:List Nat):List PyData:=ks.map fun k=>PyData.str (kdS k)
theorem LK(k:Nat):PyData.strOk (kdS k)=true:=by
 unfold kdS;split
 ·decide +kernel
 ·split<;>decide +kernel
theorem uH{K:PySem.W.Frag}{H:Hp}:∀ks:List Nat,AW K H (kdL ks) (kdD ks)
 |[]=> .nil
 |k::r=> .cons (.str _) (uH r)
theorem Hf:∀ks:List Nat,PyData.canLayAll0 (kdD ks)=true
 |[]=>rfl
 |k::r=>by
  have:=Hf r;have h:=LK k;simp[PyData.canLayAll0,PyData.canLay0,this,h]
theorem zF:∀ks:List Nat,PyData.depthAll (kdD ks)<=1
 |[]=>by simp[PyData.depthAll]
 |k::r=>by
  have:=zF r;simp[PyData.depthAll,PyData.depth];omega
theorem uW(ks:List Nat):SeqAt.shaped (.list (kdD ks))=true:=by
 have h1:=Hf ks;have h2:=zF ks;simp only[SeqAt.shaped,PyData.canLay0,PyData.depth,h1,Bool.true_and];exact decide_eq_true (by omega)
theorem vG:∀ks:List Nat,PyData.eqvAll (kdD ks) (kdD ks)=true
 |[]=>rfl
 |k::r=>by
  have:=vG r;simp[PyData.eqvAll,PyData.eqv,this]
theorem MS{K:PySem.W.Frag}{g:Bool->Bool}{H:Hp}{a b:Addr}{ks:List Nat}{Q:VK}(ha:H a=some (.lst (kdL ks)))(hb:H b=some (.lst (kdL ks)))(q:Q (.bl (g true)) H):Gx K g (.ref a) (.ref b) H Q:=
 .inl ⟨_,_,.lst (SqL.of ha) (uH ks),.lst (SqL.of hb) (uH ks),uW ks,uW ks,by rw[show PyData.eqv (.list (kdD ks)) (.list (kdD ks))=true by rw[PyData.eqv];exact vG ks];exact q⟩
def byT:List Int:=[0,2,3,5,7,11,101,997]
theorem Ky:∀k<8,byT.getD k 0=byF.getD (k+2) 0:=by decide
theorem Gk{k:Nat}(h:k<8):ByF (byT.getD k 0):=by rw[Ky k h];exact Mz (by omega)
theorem Ku:∀i<8,∀j<8,i≠j->byT.getD i 0≠byT.getD j 0:=by decide
theorem yj{p:Prop}[Decidable p]{c:Bool}(h:c=decide (¬p)):atI [V.str "told",V.str "long"] (if c=true then 1 else 0)=some (V.str (kdS (kP p))):=by
 subst h;by_cases hp:p
 ·have e:kP p=0:=if_pos hp;rw[e,decide_eq_false (fun z=>z hp)];rfl
 ·have e:kP p=1:=if_neg hp;rw[e,decide_eq_true hp];rfl
theorem CQ{c:Int}{n:Nat}(h:Rm.Bd n c){k:Int}(hk:0<k):Rm.Bd n (c/k):=by
 have h':c.natAbs<2^n:=h;show(c/k).natAbs<2^n;by_cases z:0<=c
 ·have h1:=Int.ediv_nonneg z (Int.le_of_lt hk);have h2:=Int.ediv_le_self k z;omega
 ·have h1:c/k<=0:=by
   have:=Int.ediv_le_ediv hk (show c<=0 by omega);rw[Int.zero_ediv]at this;exact this
  have h2:c<=c/k:=by
   refine Int.le_ediv_of_mul_le hk ?_;have e:=Int.mul_nonneg (show 0<=-c by omega) (show 0<=k-1 by omega);rw[Int.neg_mul,Int.mul_sub,Int.mul_one]at e;omega
  omega
theorem ED(p:Prop)[Decidable p]:kP p<3:=by unfold kP;split<;>decide
theorem OfL.Xi{C1 C2:Addr}{H:Hp}{v1 v2:V}{b:Int}{m1 m2:Nat}{r1 r2:Rw}(hb:ByF b)(h1:OfL b m1 r1)(h2:OfL b m2 r2)(hR1:cU H v1 r1)(hR2:cU H v2 r2):AllP C1 C2 H v2 v1 (kP (m1+m2<=12)) (kP (m1*m2<=12)):=by
 have:=OfL.all (C1:=C1) (C2:=C2) hb h2 h1 hR2 hR1;rw[Nat.add_comm m2 m1,Nat.mul_comm m2 m1]at this;exact this
section
variable {P:Program} {w:World} {K:PySem.W.Frag} {mg:Str->Option Value} {base:Heap}
variable {aL aN aF aV aP aB aM aO aq:Addr}
theorem Er(B:Bt mg)(F:Fn K mg "taken" xU ["by","number"])(M:Ms K mg base aL aN aF aV aP aB aM aO aq):Cal P w K mg base "taken" 1 ["by","number"] dM:=by
 refine F.cal Ga (fun vs H Q E h=>?_) (fun f cdv A outer s H vs Q E hr h=>?_)
 ·obtain⟨b,n,rfl,_⟩:=h;rfl
 ·obtain⟨b,n,rfl,h0,q⟩:=h;refine⟨_,(ao (iU (bW (xeq K hr) (pv 0) aA (bY _))
   (aJ (bw (pv 1)))
   cR)
   (aJ (bw (aR dW (pv 1) (pv 0))))),?_⟩
  refine⟨_,rfl,_,rfl,?_⟩;refine lX (fun c=>?_) (fun c=>?_)
  ·refine⟨_,rfl,?_⟩;have c':b=0:=dec_true c;have e:Rm.tk b n=n:=by rw[c',Rm.bK]
   rw[e]at q;exact q
  ·have c':¬b=0:=dec_false c;refine⟨_,rfl,_,rfl,_,_,rfl,rfl,(by omega:(0:Int)<b),?_⟩;rw[Rm.fB c']at q;exact q
theorem um(B:Bt mg)(F:Fn K mg "next_place" jZ ["by","rule","before"])(M:Ms K mg base aL aN aF aV aP aB aM aO aq)(bI:Cal P w K mg base "taken" 1 ["by","number"] dM):Cal P w K mg base "next_place" 2 ["by","rule","before"] (GQ K):=by
 refine F.cal gK (fun vs H Q E h=>?_) (fun f cdv A outer s H vs Q E hr h=>?_)
 ·obtain⟨b,r,s,rule,before,rfl,_⟩:=h;rfl
 ·obtain⟨b,r,s',rule,before,rfl,hb,hR,hS,hl,hl2,hl3,bR,bS,q⟩:=h;refine⟨_,(ao (aQ (i:=3) gK.nd rfl (Or.inl rfl) aA)
   (ao (j4 PassesOwn.never rfl (cg rfl B.b_range (aK (aU (jy K) rfl B.b_len boot_len (aW (pv 1) ak)) ak)) (bG (i:=4) gK.nd rfl (Or.inl rfl))
   (aJ (aQ (i:=3) gK.nd rfl (Or.inl rfl) (aR (gO K) (pv 3) (aR v_mul (bF (xix K) (pv 1) (pv 4) (fun _ _=>rfl)) (bF (xix K) (pv 2) (aR cA (aR cA (aU (jy K) rfl B.b_len boot_len (aW (pv 2) ak)) aA) (pv 4)) (fun _ _=>rfl)))))))
   (aJ (bw (aC bI hr rfl (aW (pv 0) (aW (pv 3) ak))))))),?_⟩
  have lR:(rule.map V.int).length=rule.length:=List.length_map _;have lS:(before.map V.int).length=before.length:=List.length_map _;refine⟨_,rfl,.ref r,rule.length,rfl,.inr ⟨_,hR,lR.symm⟩,?_⟩;refine⟨(rule.length:Int),rfl,(by omega:-(2^62)<=(rule.length:Int)),(by omega:(rule.length:Int)<2^62),?_⟩;refine eX (lo:=0) (n:=(rule.length:Int).toNat) (fun i σ' H'=>∃o,σ'=[some (.int b),some (.ref r),some (.ref s'),some (.int (Rm.S rule (fun i=>before.getD i 0) before.length i)),o]/\H'=H) ⟨none,rfl,rfl⟩ ?_ ?_
  ·rintro i σ' H' hi ⟨o,rfl,rfl⟩;have hi':i<rule.length:=by omega
   have e0:(0:Int)+(i:Int)=(i:Int):=by omega
   have e1:(before.length:Int)-1-(0+(i:Int))=((before.length-1-i:Nat):Int):=by omega
   refine⟨_,rfl,?_⟩;refine⟨_,rfl,_,rfl,_,_,.inr hR,bH (ns:=rule) (by omega:(0:Int)<=0+(i:Int)) (by omega),?_⟩;refine⟨_,rfl,_,rfl,.ref s',before.length,rfl,.inl ⟨_,hS,lS.symm⟩,_,_,rfl,rfl,_,rfl,_,_,rfl,rfl,?_⟩;refine⟨_,_,.inl hS,bH (ns:=before) (by omega:(0:Int)<=(before.length:Int)-1-(0+(i:Int))) (by omega),?_⟩;refine⟨oU (Rm.Bd.getD bR _) (Rm.Bd.getD bS _) (by decide),?_⟩;refine⟨some (.int (0+(i:Int))),?_,rfl⟩;rw[e1,e0,Int.toNat_natCast,Int.toNat_natCast];rfl
  ·rintro σ' H' ⟨o,rfl,rfl⟩;refine⟨_,rfl,_,rfl,b,_,rfl,hb,?_⟩;rw[show(rule.length:Int).toNat=rule.length from Int.toNat_natCast _];exact q
theorem pq(B:Bt mg)(F:Fn K mg "first_places" iR ["row","count"])(M:Ms K mg base aL aN aF aV aP aB aM aO aq)(j6:Cal P w K mg base "next_place" 2 ["by","rule","before"] (GQ K)):Cal P w K mg base "first_places" 3 ["row","count"] (AZ K):=by
 refine F.cal dI (fun vs H Q E h=>?_) (fun f cdv A outer s H vs Q E hr h=>?_)
 ·obtain⟨v,r,c,rfl,_⟩:=h;rfl
 ·obtain⟨v,r,c,rfl,⟨a,p,p2,rfl,hA,hR,hS⟩,ok,hc0,hc1,q⟩:=h;refine⟨_,(ao (aQ (i:=2) dI.nd rfl (Or.inl rfl) (bF (xix K) (pv 0) aA (fun _ _=>rfl)))
   (ao (aQ (i:=3) dI.nd rfl (Or.inl rfl) (bF (xix K) (pv 0) aA (fun _ _=>rfl)))
   (ao (aQ (i:=4) dI.nd rfl (Or.inl rfl) (bF (xix K) (pv 0) aA (fun _ _=>rfl)))
   (ao (aQ (i:=5) dI.nd rfl (Or.inl rfl) (Ce (bJ (xlist K) rfl B.b_list boot_list (aK (oW (xsl K) (pv 4) uc (tW (pv 1))) ak))))
   (ao (iM PassesOwn.never (bW zQ (aU (jy K) rfl B.b_len boot_len (aW (pv 5) ak)) (pv 1) (bY _))
   (aJ (iB (jX K (pv 5) (aC j6 hr rfl (aW (pv 2) (aW (pv 3) (aW (pv 5) ak))))))))
   (aJ (bw (pv 5)))))))),?_⟩
  have hl:=ok.len;have hl2:=ok.short;have lS:(r.starts.map V.int).length=r.starts.length:=List.length_map _;refine⟨_,rfl,_,_,.inr (SqT.of hA),rfl,?_⟩;refine⟨_,rfl,_,_,.inr (SqT.of hA),rfl,?_⟩;refine⟨_,rfl,_,_,.inr (SqT.of hA),rfl,?_⟩;have hcut:vU (r.starts.map V.int) none (some c)=(r.row (min c.toNat r.starts.length)).map V.int:=by
   have e:r.row (min c.toNat r.starts.length)=r.starts.take (min c.toNat r.starts.length):=Rm.jl (Nat.min_le_right _ _);rw[e];have e2:c=((c.toNat:Nat):Int):=by omega
   unfold vU;rw[e2,HT.jM,HT.gM,List.drop_zero,Nat.sub_zero,lS,List.map_take,Int.toNat_natCast]
  refine Bar.by (fun v H1=>∃l,v = .ref l/\Same H H1/\H l=none/\H1 l=some (.lst ((r.row (min c.toNat r.starts.length)).map V.int))) (fun kk hkk=>?_) ?_
  ·refine⟨_,rfl,_,rfl,_,rfl,?_⟩;by_cases hw:r.starts.length<=c.toNat
   ·-- the whole of it
    refine .inr (.inr ⟨_,SqT.of hS,?_,?_⟩)
    ·have e2:c=((c.toNat:Nat):Int):=by omega
     rw[e2,HT.jM,HT.gM,lS];omega
    ·refine⟨p2,_,rfl,.inr (SqT.of hS),fun l hl1=>hkk _ _ ⟨l,rfl,Same.new hl1 _,hl1,?_⟩⟩;rw[au,Nat.min_eq_right hw];have e:r.row r.starts.length=r.starts:=(Rm.jl (Nat.le_refl _)).trans (List.take_length ..);rw[e]
   ·refine .inr (.inl ⟨_,SqT.of hS,?_,fun p3 hp3=>?_⟩)
    ·have e2:c=((c.toNat:Nat):Int):=by omega
     rw[e2,HT.jM,HT.gM,lS];omega
    ·refine⟨p3,_,rfl,.inr (SqT.of au),fun l hl1=>?_⟩;have g3:=Same.new hp3 (.tup (vU (r.starts.map V.int) none (some c)));refine hkk _ _ ⟨l,rfl,g3.trans (Same.new hl1 _),g3.free hl1,?_⟩;rw[au,hcut]
  rintro v H1 ⟨l,rfl,g1,hl1,hr1⟩;refine⟨fun m σ' H'=>∃n:Nat,m=c.toNat-n/\min c.toNat r.starts.length<=n/\n<=c.toNat/\σ'=[some (.ref a),some (.int c),some (.int r.b),some (.ref p),some (.ref p2),some (.ref l)]/\Same H H'/\H' l=some (.lst ((r.row n).map V.int)),
   ⟨_,min c.toNat r.starts.length,rfl,Nat.le_refl _,Nat.min_le_left _ _,rfl,g1,hr1⟩,?_⟩
  rintro m σ' H' ⟨n,rfl,h1,h2,rfl,g,hL⟩;have lL:((r.row n).map V.int).length=n:=by rw[List.length_map,Rw.eG]
  refine⟨_,rfl,.ref l,n,rfl,.inl ⟨_,SqL.of hL,lL.symm⟩,_,rfl,_,_,rfl,rfl,_,rfl,?_⟩;refine lX (fun cc=>?_) (fun cc=>?_)
  ·have hn:n<c.toNat:=by have:=dec_true cc;omega
   refine⟨_,fun _ _ z=>z,?_⟩;refine⟨_,rfl,.inl ⟨rfl,_,SqL.of hL⟩,_,rfl,_,rfl,_,rfl,r.b,p,l,r.rule,r.row n,rfl,ok.by0,SqT.of (g _ _ hR),SqL.of hL,?_,hl2,?_,ok.ruleBd,ok.Fz n (by omega),?_⟩
   ·rw[Rw.eG];omega
   ·rw[Rw.eG];omega
   ·refine⟨l,_,_,rfl,rfl,hL,?_,?_⟩
    ·rw[lL];exact bQ (by omega)
    ·refine⟨c.toNat-(n+1),by omega,n+1,rfl,by omega,by omega,rfl,g.upd hl1 _,?_⟩;rw[au,Rw.eG];have e:r.row (n+1)=r.row n++[Rm.tk r.b (Rm.S r.rule (fun i=>(r.row n).getD i 0) n r.rule.length)]:=by
      show _++[if n<r.starts.length then r.starts.getD n 0 else _]=_;rw[if_neg (by omega)];rfl
     rw[e,List.map_append];rfl
  ·have hn:n=c.toNat:=by have:=dec_false cc;omega
   subst hn;refine⟨_,rfl,?_⟩;exact q l H' g hl1 hL
theorem wK(B:Bt mg)(F:Fn K mg "is_prime" nM ["number"])(M:Ms K mg base aL aN aF aV aP aB aM aO aq):Cal P w K mg base "is_prime" 1 ["number"] yh:=by
 refine F.cal lV (fun vs H Q E h=>?_) (fun f cdv A outer s H vs Q E hr h=>?_)
 ·obtain⟨n,rfl,_⟩:=h;rfl
 ·obtain⟨n,rfl,hn,q⟩:=h;refine⟨_,(ao (iU (bW zQ (pv 0) aA (bY _))
   (aJ (bw vV))
   cR)
   (ao (aQ (i:=1) lV.nd rfl (Or.inl rfl) aA)
   (ao (iM PassesOwn.never (bW KD (aR v_mul (pv 1) (pv 1)) (pv 0) (bY _))
   (ao (iU (bW (xeq K hr) (aR dW (pv 0) (pv 1)) aA (bY _))
   (aJ (bw vV))
   cR)
   (aJ (aQ (i:=1) lV.nd rfl (Or.inl rfl) (aR (gO K) (pv 1) aA)))))
   (aJ (bw vV))))),?_⟩
  refine⟨_,rfl,_,_,rfl,rfl,_,rfl,?_⟩;refine lX (fun c=>?_) (fun c=>?_)
  ·have c':(n:Int)<2:=dec_true c;exact q false ⟨fun z=>absurd z (by decide),fun z=>by have:=z.1;omega⟩
  ·have c':¬(n:Int)<2:=dec_false c;refine⟨fun m σ' H'=>∃d:Nat,σ'=[some (.int n),some (.int (d:Int))]/\H'=H/\2<=d/\d<=n+1/\m=n+2-d/\∀e:Nat,2<=e->e<d->¬e∣n,⟨_,2,rfl,rfl,by omega,by omega,rfl,fun e h1 h2=>by omega⟩,?_⟩;rintro m σ' H' ⟨d,rfl,rfl,h2,hdn,rfl,hd⟩;refine⟨_,rfl,_,rfl,mulL (by omega) (by omega),_,rfl,_,_,rfl,rfl,_,rfl,?_⟩;refine lX (fun c2=>?_) (fun c2=>?_)
   ·have c2':(d:Int)*d<=n:=dec_true c2;have c2n:d*d<=n:=by exact_mod_cast c2'
    have hdl:d*1<=d*d:=Nat.mul_le_mul_left d (by omega);refine⟨_,fun _ _ z=>z,?_⟩;refine⟨_,rfl,_,rfl,_,_,rfl,rfl,(by omega:(0:Int)<(d:Int)),?_⟩;refine⟨_,rfl,?_⟩;refine lX (fun c3=>?_) (fun c3=>?_)
    ·have c3':(n:Int)%(d:Int)=0:=dec_true c3;have hdv:d∣n:=Int.ofNat_dvd.mp (Int.dvd_of_emod_eq_zero c3');exact q false ⟨fun z=>absurd z (by decide),fun z=>absurd z (Om.CT h2 c2n hdv)⟩
    ·have c3':¬(n:Int)%(d:Int)=0:=dec_false c3;refine⟨_,rfl,?_⟩;exact⟨n+2-(d+1),by omega,d+1,by simp,rfl,by omega,by omega,rfl,fun e h1 h3=>by
      rcases Nat.lt_or_ge e d with z|z
      ·exact hd e h1 z
      ·have:e=d:=by omega
       subst this;exact fun z=>c3' (Int.emod_eq_zero_of_dvd (Int.ofNat_dvd.mpr z))⟩
   ·have c2':¬(d:Int)*d<=n:=dec_false c2;have c2n:¬d*d<=n:=fun z=>c2' (by exact_mod_cast z);exact q true ⟨fun _=>Om.qP (by omega) fun e h1 h3 hdv=>by
     by_cases c4:e<d
     ·exact hd e h1 c4 hdv
     ·have:d*d<=e*e:=Nat.mul_le_mul (by omega) (by omega);omega,fun _=>rfl⟩
theorem qU(B:Bt mg)(F:Fn K mg "prime_above" jL ["number"])(M:Ms K mg base aL aN aF aV aP aB aM aO aq)(oB:Cal P w K mg base "is_prime" 1 ["number"] yh):Cal P w K mg base "prime_above" 2 ["number"] DX:=by
 refine F.cal jd (fun vs H Q E h=>?_) (fun f cdv A outer s H vs Q E hr h=>?_)
 ·obtain⟨n,q,rfl,_⟩:=h;rfl
 ·obtain⟨n,q',rfl,hq,hnq,hqb,q⟩:=h;refine⟨_,(ao (aQ (i:=1) jd.nd rfl (Or.inl rfl) (aR (gO K) (pv 0) aA))
   (ao (iM PassesOwn.never (uL (rW (aC oB hr rfl (aW (pv 1) ak))))
   (aJ (aQ (i:=1) jd.nd rfl (Or.inl rfl) (aR (gO K) (pv 1) aA))))
   (aJ (bw (pv 1))))),?_⟩
  refine⟨_,rfl,?_⟩;refine⟨fun m σ' H'=>∃f:Nat,σ'=[some (.int n),some (.int (f:Int))]/\H'=H/\n<f/\f<=q'/\m=q'-f,⟨_,n+1,rfl,rfl,by omega,by omega,rfl⟩,?_⟩;rintro m σ' H' ⟨f,rfl,rfl,h1,h2,rfl⟩;refine⟨_,rfl,f,rfl,by omega,fun b hb=>?_⟩;refine⟨b,rfl,?_⟩;cases b with
  |false=>
   refine⟨_,fun _ _ z=>z,?_⟩;refine⟨_,rfl,?_⟩;have hne:f≠q':=fun e=>absurd (hb.mpr (e▸hq)) (by decide);exact⟨q'-(f+1),by omega,f+1,rfl,rfl,by omega,by omega,rfl⟩
  |true=>
   refine⟨_,rfl,?_⟩;exact q f (hb.mp rfl) h1 h2
theorem AJ(B:Bt mg)(F:Fn K mg "inverse" qj ["prime","number"])(M:Ms K mg base aL aN aF aV aP aB aM aO aq)(bI:Cal P w K mg base "taken" 1 ["by","number"] dM):Cal P w K mg base "inverse" 2 ["prime","number"] rF:=by
 refine F.cal fG (fun vs H Q E h=>?_) (fun f cdv A outer s H vs Q E hr h=>?_)
 ·obtain⟨P,a,rfl,_⟩:=h;rfl
 ·obtain⟨P',a,rfl,hP,hPb,h0,h1,q⟩:=h;have hr2:2<=P'/\P'<2097152:=⟨hP.1,hPb⟩;refine⟨_,(ao (aQ (i:=2) fG.nd rfl (Or.inl rfl) aA)
   (ao (aQ (i:=3) fG.nd rfl (Or.inl rfl) (pv 1))
   (ao (aQ (i:=4) fG.nd rfl (Or.inl rfl) (aR cA (pv 0) aA))
   (ao (iM PassesOwn.never (bW qD (pv 4) aA (bY _))
   (ao (yU (iU (bW (xeq K hr) (aR dW (pv 4) aA) aA (bY _))
   (aJ (aQ (i:=2) fG.nd rfl (Or.inl rfl) (aC bI hr rfl (aW (pv 0) (mR (aR v_mul (pv 2) (pv 3)) ak)))))
   cR))
   (ao (aQ (i:=3) fG.nd rfl (Or.inl rfl) (aC bI hr rfl (aW (pv 0) (mR (aR v_mul (pv 3) (pv 3)) ak))))
   (aJ (aQ (i:=4) fG.nd rfl (Or.inl rfl) (aR pZ (pv 4) aA))))))
   (aJ (bw (pv 2))))))),?_⟩
  refine⟨_,rfl,?_⟩;refine⟨_,rfl,_,_,rfl,rfl,?_⟩;have e0:((P':Int)-2).toNat=P'-2:=by omega
  refine⟨fun m σ' H'=>∃power square left:Int,σ'=[some (.int P'),some (.int a),some (.int power),some (.int square),some (.int left)]/\H'=H/\m=left.toNat/\0<=power/\power<2097152/\0<=square/\square<2097152/\0<=left/\Om.Keeps P' a (P'-2) power square left.toNat,
   ⟨_,1,a,(P':Int)-2,rfl,rfl,rfl,by decide,by decide,by omega,by omega,by omega,by rw[e0];exact Om.xT _ _ _⟩,?_⟩
  rintro m σ' H' ⟨power,square,left,rfl,rfl,rfl,p0,p1,s0,s1,l0,hk⟩;refine⟨_,rfl,_,_,rfl,rfl,_,rfl,?_⟩;refine lX (fun c=>?_) (fun c=>?_)
  ·have c':0<left:=dec_true c;refine⟨_,fun _ _ z=>z,?_⟩;have hpos:(0:Int)<(P':Int):=by omega
   have tkP:∀n,Rm.tk (P':Int) n=n%(P':Int):=fun n=>Rm.fB (by omega) n;refine Ii.by (fun σ' H2=>∃power':Int,σ'=[some (.int P'),some (.int a),some (.int power'),some (.int square),some (.int left)]/\H2=H'/\((left%2=1/\power'=power*square%(P':Int))∨(¬left%2=1/\power'=power))) (fun N hN=>?_) ?_
   ·refine⟨_,rfl,_,_,rfl,rfl,(by decide:(0:Int)<2),_,rfl,?_⟩;refine lX (fun c2=>?_) (fun c2=>?_)
    ·refine⟨_,rfl,_,rfl,_,rfl,mulL (by omega) (by omega),P',_,rfl,by omega,?_⟩;exact hN _ _ ⟨_,rfl,rfl,.inl ⟨dec_true c2,tkP _⟩⟩
    ·exact hN _ _ ⟨_,rfl,rfl,.inr ⟨dec_false c2,rfl⟩⟩
   rintro σ' H2 ⟨power',rfl,rfl,hp⟩;refine⟨_,rfl,_,rfl,_,rfl,mulL (by omega) (by omega),P',_,rfl,by omega,?_⟩;refine⟨_,rfl,_,_,rfl,rfl,⟨by decide,by decide⟩,?_⟩;have b1:=dF (square*square) hpos;have b2:=dD (square*square) hpos;have b3:=dF (power*square) hpos;have b4:=dD (power*square) hpos;have el:(left/2).toNat=left.toNat/2:=by omega
   refine⟨_,?_,power',square*square%(P':Int),left/2,by rw[tkP];rfl,rfl,rfl,?_,?_,b1,by omega,by omega,?_⟩
   ·omega
   ·rcases hp with⟨_,rfl⟩|⟨_,rfl⟩
    ·exact b3
    ·exact p0
   ·rcases hp with⟨_,rfl⟩|⟨_,rfl⟩
    ·omega
    ·exact p1
   ·rw[el];rcases hp with⟨hodd,rfl⟩|⟨hodd,rfl⟩
    ·exact Om.DG hk (by omega)
    ·exact Om.zW hk (by omega)
  ·have c':left=0:=by have:=dec_false c;omega
   subst c';refine⟨_,rfl,?_⟩;exact q power p0 p1 (Om.Bp hk)
theorem Ih(B:Bt mg)(F:Fn K mg "over" Ca ["by","one","other"])(M:Ms K mg base aL aN aF aV aP aB aM aO aq)(bI:Cal P w K mg base "taken" 1 ["by","number"] dM)(qR:Cal P w K mg base "inverse" 2 ["prime","number"] rF):Cal P w K mg base "over" 3 ["by","one","other"] wG:=by
 refine F.cal Ik (fun vs H Q E h=>?_) (fun f cdv A outer s H vs Q E hr h=>?_)
 ·obtain⟨P,one,other,rfl,_⟩:=h;rfl
 ·obtain⟨P',one,other,rfl,hP,hPb,o0,o1,q⟩:=h;refine⟨_,(ao (iU (bW (xeq K hr) (pv 0) aA (bY _))
   (aJ yS)
   cR)
   (ao (iU (bW (xeq K hr) (aC bI hr rfl (aW (pv 0) (aW (pv 2) ak))) aA (bY _))
   (aJ yS)
   cR)
   (aJ (bw (aC bI hr rfl (aW (pv 0) (mR (aR v_mul (pv 1) (aC qR hr rfl (aW (pv 0) (aW (pv 2) ak)))) ak))))))),?_⟩
  have hr2:2<=P'/\P'<2097152:=⟨hP.1,hPb⟩;refine⟨_,rfl,_,rfl,?_⟩;refine lX (fun c=>absurd (dec_true c) (by omega)) (fun _=>?_);have tkP:∀n,Rm.tk (P':Int) n=n%(P':Int):=fun n=>Rm.fB (by omega) n;refine⟨_,rfl,_,rfl,P',other,rfl,by omega,_,rfl,?_⟩;have et:Rm.tk (P':Int) other=other:=by rw[tkP];exact Int.emod_eq_of_lt (by omega) o1
  rw[et];refine lX (fun c2=>absurd (dec_true c2) (by omega)) (fun _=>?_);refine⟨_,rfl,_,rfl,_,rfl,_,rfl,P',other,rfl,hP,hPb,o0,o1,fun x x0 x1 hx=>?_⟩;refine⟨mulR (by omega) (by omega),P',_,rfl,by omega,?_⟩;rw[tkP,Om.mod_mul (rfl:one%(P':Int)=one%(P':Int)) hx];exact q
theorem zH(B:Bt mg)(F:Fn K mg "trimmed" qQ ["numbers"])(M:Ms K mg base aL aN aF aV aP aB aM aO aq):Cal P w K mg base "trimmed" 1 ["numbers"] (uV K):=by
 refine F.cal nR (fun vs H Q E h=>?_) (fun f cdv A outer s H vs Q E hr h=>?_)
 ·obtain⟨l,xs,rfl,_⟩:=h;rfl
 ·obtain⟨l,xs,rfl,hL,q⟩:=h;refine⟨_,(ao (aQ (i:=1) nR.nd rfl (Or.inl rfl) (aU (jy K) rfl B.b_len boot_len (aW (pv 0) ak)))
   (ao (iM PassesOwn.never (PW.pt (GY (bW qD (pv 1) aA (bY _)) (Dg (bW (xeq K hr) (bF (xix K) (pv 0) (aR cA (pv 1) aA) (fun _ _=>rfl)) aA (bY _)))))
   (aJ (aQ (i:=1) nR.nd rfl (Or.inl rfl) (aR cA (pv 1) aA))))
   (aJ (bw (bJ (ig K) rfl B.b_tuple boot_tuple (aK (oW (xsl K) (pv 0) uc (tW (pv 1))) ak)))))),?_⟩
  have lL:(xs.map V.int).length=xs.length:=List.length_map _;refine⟨_,rfl,.ref l,xs.length,rfl,.inl ⟨_,hL,lL.symm⟩,?_⟩;refine⟨fun m σ' H'=>∃n:Nat,m=n/\n<=xs.length/\σ'=[some (.ref l),some (.int (n:Int))]/\H'=H/\Pm.trim (xs.take n)=Pm.trim xs,⟨_,xs.length,rfl,Nat.le_refl _,rfl,rfl,by rw[List.take_length]⟩,?_⟩;rintro m σ' H' ⟨n,e0,hn,rfl,rfl,ht⟩;refine⟨_,rfl,_,_,rfl,rfl,_,rfl,?_⟩;refine lX (fun c=>?_) (fun c=>zy ?_)
  ·have h0:0<n:=by have:=dec_true c;omega
   have e1:((n:Int)-1).toNat=n-1:=by omega
   refine⟨_,rfl,_,rfl,_,_,rfl,rfl,_,_,.inl hL,bH (ns:=xs) (by omega:(0:Int)<=(n:Int)-1) (by omega),_,rfl,?_⟩;refine lX (fun c2=>?_) (fun c2=>?_)
   ·have hz:=dec_true c2;rw[e1]at hz;refine⟨_,fun _ _ z=>z,?_⟩;refine⟨_,rfl,_,_,rfl,rfl,?_⟩;refine⟨n-1,by omega,n-1,rfl,by omega,?_,rfl,CK h0 hn ht hz⟩;rw[show((n-1:Nat):Int)=(n:Int)-1 by omega];rfl
   ·have hz:=dec_false c2;rw[e1]at hz;refine⟨_,rfl,_,rfl,_,rfl,.inl ⟨_,hL,fun p hp=>?_⟩⟩;refine⟨p,_,rfl,.inl ⟨SqL.of au,fun p2 hp2=>?_⟩⟩;refine q p2 _ ((Same.new hp _).trans (Same.new hp2 _)) ?_;rw[au,Cy,<-List.map_take,vD hn ht (.inr hz)]
  ·have h0:n=0:=by have:=dec_false c;omega
   refine⟨_,rfl,_,rfl,_,rfl,.inl ⟨_,hL,fun p hp=>?_⟩⟩;refine⟨p,_,rfl,.inl ⟨SqL.of au,fun p2 hp2=>?_⟩⟩;refine q p2 _ ((Same.new hp _).trans (Same.new hp2 _)) ?_;rw[au,Cy,<-List.map_take,vD hn ht (.inl h0)]
theorem EY(B:Bt mg)(F:Fn K mg "times" wJ ["by","one","other"])(M:Ms K mg base aL aN aF aV aP aB aM aO aq)(bI:Cal P w K mg base "taken" 1 ["by","number"] dM)(cQ:Cal P w K mg base "trimmed" 1 ["numbers"] (uV K)):Cal P w K mg base "times" 2 ["by","one","other"] Di:=by
 refine F.cal oV (fun vs H Q E h=>?_) (fun f cdv A outer s H vs Q E hr h=>?_)
 ·obtain⟨b,a,c,p,r,rfl,_⟩:=h;rfl
 ·obtain⟨b,a,c,p,r,rfl,hb,hA,hC,zA,zC,bA,bC,q⟩:=h;refine⟨_,(ao (aQ (i:=3) oV.nd rfl (Or.inl rfl) (aR v_mul (cN (cX aA ak)) (aR (gO K) (aU (jy K) rfl B.b_len boot_len (aW (pv 1) ak)) (aU (jy K) rfl B.b_len boot_len (aW (pv 2) ak)))))
   (ao (j4 PassesOwn.never rfl (cg rfl B.b_range (aK (aU (jy K) rfl B.b_len boot_len (aW (pv 1) ak)) ak)) (bG (i:=4) oV.nd rfl (Or.inl rfl))
   (aJ (j4 PassesOwn.never rfl (cg rfl B.b_range (aK (aU (jy K) rfl B.b_len boot_len (aW (pv 2) ak)) ak)) (bG (i:=5) oV.nd rfl (Or.inl rfl))
   (aJ (oF (aC bI hr rfl (aW (pv 0) (mR (aR (gO K) (bF (xix K) (pv 3) (aR (gO K) (pv 4) (pv 5)) (fun _ _=>rfl)) (aR v_mul (bF (xix K) (pv 1) (pv 4) (fun _ _=>rfl)) (bF (xix K) (pv 2) (pv 5) (fun _ _=>rfl)))) ak))) (vd (pv 3) (aR (gO K) (pv 4) (pv 5)) set_list))))))
   (aJ (bw (aC cQ hr rfl (aW (pv 3) ak)))))),?_⟩
  have lP:(p.map V.int).length=p.length:=List.length_map _;have lR:(r.map V.int).length=r.length:=List.length_map _;refine⟨(by show 1<=sizeLine;decide),fun l0 h0=>?_⟩;have g0:=Same.new h0 (.lst [.int 0]);refine⟨_,rfl,.ref a,p.length,rfl,.inr ⟨_,SqT.of (g0 _ _ hA),lP.symm⟩,_,rfl,.ref c,r.length,rfl,.inr ⟨_,SqT.of (g0 _ _ hC),lR.symm⟩,?_⟩;have en:((p.length:Int)+(r.length:Int)).toNat=p.length+r.length:=by omega
  refine⟨_,au,(by omega:-(2^63)<=(p.length:Int)+(r.length:Int)),(by omega:(p.length:Int)+(r.length:Int)<2^63),?_,fun l hl=>?_⟩
  ·rw[en];show 1*(p.length+r.length)<=sizeLine;rw[Nat.one_mul];exact Nat.le_of_lt (bQ (by omega))
  have g1:=g0.trans (Same.new hl (.lst (List.replicate ((p.length:Int)+(r.length:Int)).toNat [V.int 0]).flatten));have hl0:H l=none:=g0.free hl;refine⟨_,rfl,.ref a,p.length,rfl,.inr ⟨_,SqT.of (g1 _ _ hA),lP.symm⟩,?_⟩;refine⟨(p.length:Int),rfl,(by omega:-(2^62)<=(p.length:Int)),(by omega:(p.length:Int)<2^62),?_⟩;refine eX (lo:=0) (n:=(p.length:Int).toNat) (fun i σ' H'=>∃o4 o5 L,σ'=[some (.int b),some (.ref a),some (.ref c),some (.ref l),o4,o5]/\Same H H'/\H' l=some (.lst (L.map V.int))/\L.length=p.length+r.length/\∀k,Pm.co L k=Rm.tk b (Pm.W (Pm.co p) (Pm.co r) i 0 k))
   ⟨_,_,Pm.ofF (p.length+r.length) (fun _=>0),rfl,g1,(by rw[au,en,gJ]),Pm.aZ _ _,fun k=>by rw[Pm.bZ,Pm.JH,Pm.tk0];split<;>rfl⟩ ?_ ?_
  ·rintro i σ' H' hi ⟨o4,o5,L,rfl,g,hL,zL,hW⟩;have hi':i<p.length:=by omega
   refine⟨_,rfl,.ref c,r.length,rfl,.inr ⟨_,SqT.of (g _ _ hC),lR.symm⟩,?_⟩;refine⟨(r.length:Int),rfl,(by omega:-(2^62)<=(r.length:Int)),(by omega:(r.length:Int)<2^62),?_⟩;refine eX (lo:=0) (n:=(r.length:Int).toNat) (fun k σ' H'=>∃o5 L,σ'=[some (.int b),some (.ref a),some (.ref c),some (.ref l),some (.int (0+(i:Int))),o5]/\Same H H'/\H' l=some (.lst (L.map V.int))/\L.length=p.length+r.length/\∀j,Pm.co L j=Rm.tk b (Pm.W (Pm.co p) (Pm.co r) i k j))
    ⟨_,L,rfl,g,hL,zL,hW⟩ ?_ ?_
   ·rintro k σ' H2 hk ⟨o5,L,rfl,g,hL,zL,hW⟩;have hk':k<r.length:=by omega
    have lL:(L.map V.int).length=L.length:=List.length_map _;have e1:(0+(i:Int)+(0+(k:Int))).toNat=i+k:=by omega
    have e2:(0+(i:Int)).toNat=i:=by omega
    have e3:(0+(k:Int)).toNat=k:=by omega
    refine⟨_,rfl,_,rfl,_,rfl,_,rfl,_,_,.inl (SqL.of hL),bH (ns:=L) (by omega:(0:Int)<=0+(i:Int)+(0+(k:Int))) (by omega),?_⟩;refine⟨_,rfl,_,rfl,_,_,.inr (SqT.of (g _ _ hA)),bH (ns:=p) (by omega:(0:Int)<=0+(i:Int)) (by omega),?_⟩;refine⟨_,rfl,_,rfl,_,_,.inr (SqT.of (g _ _ hC)),bH (ns:=r) (by omega:(0:Int)<=0+(k:Int)) (by omega),?_⟩;refine⟨oU (Rm.Bd.getD bA _) (Rm.Bd.getD bC _) (by decide),?_⟩;refine⟨b,_,rfl,hb,?_⟩;refine⟨_,rfl,_,rfl,_,rfl,l,_,_,i+k,rfl,rfl,hL,vO (by omega) (by rw[lL];omega),?_⟩;refine⟨_,L.set (i+k) _,rfl,g.upd hl0 _,(by rw[au,iD]),(by rw[List.length_set];exact zL),fun j=>?_⟩;rw[Pm.oG _ _ _ _ (by omega),Pm.MH,e1,e2,e3];by_cases ej:j=i+k
    ·have hw:=hW j;rw[if_pos ej,if_pos ej];rw[ej]at hw⊢;rw[<-Rm.cj b (Pm.W (Pm.co p) (Pm.co r) i k (i+k)),<-hw];rfl
    ·rw[if_neg ej,if_neg ej,Int.add_zero];exact hW j
   ·rintro σ' H2 ⟨o5,L,rfl,g,hL,zL,hW⟩;refine⟨_,_,L,rfl,g,hL,zL,fun k=>?_⟩;rw[hW k,Int.toNat_natCast,Pm.V4 fun k hk=>Pm.bN hk]
  ·rintro σ' H' ⟨o4,o5,L,rfl,g,hL,zL,hW⟩;refine⟨_,rfl,l,L,rfl,SqL.of hL,fun t H2 g2 ht=>q t H2 (g.trans g2) ?_⟩;have e:Pm.trim L=Pm.mul b p r:=by
    refine Pm.mj fun k=>?_;rw[hW k,Int.toNat_natCast,Pm.Je fun k hk=>Pm.bN hk,Pm.bZ];split
    ·rfl
    ·rw[<-Pm.kY,Pm.mul,Pm.iy,Pm.bZ,if_neg (by assumption)]
   rw[<-e];exact ht
theorem Aw(B:Bt mg)(F:Fn K mg "divided" qd ["by","one","other"])(M:Ms K mg base aL aN aF aV aP aB aM aO aq)(bI:Cal P w K mg base "taken" 1 ["by","number"] dM)(cQ:Cal P w K mg base "trimmed" 1 ["numbers"] (uV K)):Cal P w K mg base "divided" 2 ["by","one","other"] kj:=by
 refine F.cal fM (fun vs H Q E h=>?_) (fun f cdv A outer s H vs Q E hr h=>?_)
 ·obtain⟨b,a,c,P,M,rfl,_⟩:=h;rfl
 ·obtain⟨b,a,c,P,M,rfl,hb,hb1,hA,hC,zA,zC,hM,nP,bA,bC,q⟩:=h;refine⟨_,(ao (aQ (i:=3) fM.nd rfl (Or.inl rfl) (aR cA (aU (jy K) rfl B.b_len boot_len (aW (pv 2) ak)) aA))
   (ao (aQ (i:=4) fM.nd rfl (Or.inl rfl) (aR v_mul (cN (cX aA ak)) (aU (D9 rfl) rfl B.b_max boot_max (cX aA (mR (aR cA (aU (jy K) rfl B.b_len boot_len (aW (pv 1) ak)) (pv 3)) ak)))))
   (ao (aQ (i:=5) fM.nd rfl (Or.inl rfl) (bJ (xlist K) rfl B.b_list boot_list (aW (pv 1) ak)))
   (ao (j4 PassesOwn.never rfl (Bc rfl B.b_range (mR (aR cA (aU (jy K) rfl B.b_len boot_len (aW (pv 4) ak)) aA) (MR (CF vp aA) (MR (CF vp aA) ak)))) (bG (i:=6) fM.nd rfl (Or.inl rfl))
   (ao (aQ (i:=7) fM.nd rfl (Or.inl rfl) (bF (xix K) (pv 5) (aR (gO K) (pv 6) (pv 3)) (fun _ _=>rfl)))
   (ao (oF (pv 7) (vd (pv 4) (pv 6) set_list))
   (aJ (j4 PassesOwn.never rfl (cg rfl B.b_range (aK (aU (jy K) rfl B.b_len boot_len (aW (pv 2) ak)) ak)) (bG (i:=8) fM.nd rfl (Or.inl rfl))
   (aJ (oF (aC bI hr rfl (aW (pv 0) (mR (aR cA (bF (xix K) (pv 5) (aR (gO K) (pv 6) (pv 8)) (fun _ _=>rfl)) (aR v_mul (pv 7) (bF (xix K) (pv 2) (pv 8) (fun _ _=>rfl)))) ak))) (vd (pv 5) (aR (gO K) (pv 6) (pv 8)) set_list))))))))
   (aJ (bw (dU (aK (aC cQ hr rfl (aW (pv 4) ak)) (aK (aC cQ hr rfl (aW (pv 5) ak)) ak))))))))),?_⟩
  have lP:(P.map V.int).length=P.length:=List.length_map _;have lM:(M.map V.int).length=M.length:=List.length_map _;have hMp:=hM.pos;refine⟨_,rfl,.ref c,M.length,rfl,.inr ⟨_,SqT.of hC,lM.symm⟩,_,_,rfl,rfl,?_⟩;refine⟨(by show 1<=sizeLine;decide),fun l0 h0=>?_⟩;have g0:=Same.new h0 (.lst [.int 0]);refine⟨_,rfl,.ref a,P.length,rfl,.inr ⟨_,SqT.of (g0 _ _ hA),lP.symm⟩,_,rfl,_,_,rfl,rfl,_,_,rfl,?_⟩;have en:(if(P.length:Int)-((M.length:Int)-1)>0 then(P.length:Int)-((M.length:Int)-1)else 0).toNat=P.length-(M.length-1):=(max_zero P.length M.length).resolve_right (by omega);refine⟨_,au,?_,?_,?_,fun lo hlo=>?_⟩
  ·split<;>omega
  ·split<;>omega
  ·rw[en];show 1*(P.length-(M.length-1))<=sizeLine;rw[Nat.one_mul];exact Nat.le_of_lt (bQ (by omega))
  rw[en,gJ];have hlo0:H lo=none:=g0.free hlo;have g1:=g0.trans (Same.new hlo (.lst ((Pm.ofF (P.length-(M.length-1)) fun _=>0).map V.int)));have hO0:(upd (upd H l0 (.lst [.int 0])) lo (.lst ((Pm.ofF (P.length-(M.length-1)) fun _=>0).map V.int))) lo=some (.lst ((Pm.ofF (P.length-(M.length-1)) fun _=>0).map V.int)):=au;generalize upd (upd H l0 (.lst [.int 0])) lo (.lst ((Pm.ofF (P.length-(M.length-1)) fun _=>0).map V.int))=H1 at g1 hO0;refine⟨_,rfl,a,_,rfl,.inr (SqT.of (g1 _ _ hA)),fun ll hll=>?_⟩;have hll0:H ll=none:=g1.free hll;have hne:lo≠ll:=dN hO0 hll;have gll:=Same.new hll (.lst (P.map V.int));have g2:=g1.trans gll;have hO2:=gll _ _ hO0;have hL2:(upd H1 ll (.lst (P.map V.int))) ll=some (.lst (P.map V.int)):=au;generalize upd H1 ll (.lst (P.map V.int))=H2 at gll g2 hO2 hL2;generalize hn:P.length-(M.length-1)=n at hO2;refine⟨_,rfl,.ref lo,n,rfl,.inl ⟨_,SqL.of hO2,by rw[List.length_map,Pm.aZ]⟩,_,_,rfl,rfl,_,rfl,_,rfl,(n:Int)-1,-1,rfl,⟨by omega,by omega,by omega,by omega⟩,?_⟩;refine FY (lo:=(n:Int)-1) (n:=((n:Int)-1-(-1)).toNat) (fun i σ' H'=>∃o6 o7 o8 O L,σ'=[some (.int b),some (.ref a),some (.ref c),some (.int ((M.length:Int)-1)),some (.ref lo),some (.ref ll),o6,o7,o8]/\Same H H'/\H' lo=some (.lst (List.map V.int O))/\H' ll=some (.lst (List.map V.int L))/\Pm.Bw b P M (n-i) O L/\(∀k,Rm.Bd (300000+i*124001) (Pm.co O k))/\∀k,Rm.Bd (300000+i*124001) (Pm.co L k))
   ⟨_,_,_,_,P,rfl,g2,hO2,hL2,(by rw[Nat.sub_zero,<-hn];exact Pm.Bw.start nP),fun k=>by rw[Pm.bZ];split<;>exact Rm.Bd.zero _,fun k=>(Pm.jV bA k).mono (by omega)⟩ ?_ ?_
  ·rintro i σ' H' hi ⟨o6,o7,o8,O,L,rfl,g,hO,hL,I,bO,bL⟩;have hi':i<n:=by omega
   have hs:n-i=n-(i+1)+1:=by omega
   rw[hs]at I;generalize es:n-(i+1)=s at I;have esI:(n:Int)-1-(i:Int)=(s:Int):=by omega
   rw[esI];have hlL:=I.ll;have hlO:=I.ol;have lO:(O.map V.int).length=O.length:=List.length_map _;have e1:((s:Int)+((M.length:Int)-1)).toNat=s+(M.length-1):=by omega
   refine⟨_,rfl,_,rfl,_,rfl,_,_,.inl (SqL.of hL),bH (ns:=L) (by omega:(0:Int)<=(s:Int)+((M.length:Int)-1)) (by omega),?_⟩;rw[e1];have hF:Rm.Bd (300000+i*124001) (L.getD (s+(M.length-1)) 0):=bL _;have eF:L.getD (s+(M.length-1)) 0=Pm.co L (s+(M.length-1)):=rfl;rw[eF]at hF⊢;generalize hf:Pm.co L (s+(M.length-1))=f at hF;refine⟨_,rfl,_,rfl,_,rfl,lo,_,_,s,rfl,rfl,hO,vO rfl (by rw[lO];omega),?_⟩;have hO3:(upd H' lo (.lst ((O.map V.int).set s (.int f)))) lo=some (.lst ((O.set s f).map V.int)):=by rw[au,iD]
   have hL3:(upd H' lo (.lst ((O.map V.int).set s (.int f)))) ll=some (.lst (L.map V.int)):=by rw[bD hne.symm];exact hL
   have g3:=g.upd hlo0 (.lst ((O.map V.int).set s (.int f)));generalize upd H' lo (.lst ((O.map V.int).set s (.int f)))=H3 at hO3 hL3 g3;refine⟨_,rfl,.ref c,M.length,rfl,.inr ⟨_,SqT.of (g3 _ _ hC),lM.symm⟩,?_⟩;refine⟨(M.length:Int),rfl,(by omega:-(2^62)<=(M.length:Int)),(by omega:(M.length:Int)<2^62),?_⟩;refine eX (lo:=0) (n:=(M.length:Int).toNat) (fun t σ' H'=>∃o8 L',σ'=[some (.int b),some (.ref a),some (.ref c),some (.int ((M.length:Int)-1)),some (.ref lo),some (.ref ll),some (.int (s:Int)),some (.int f),o8]/\Same H H'/\H' lo=some (.lst ((O.set s f).map V.int))/\H' ll=some (.lst (List.map V.int L'))/\L'.length=L.length/\∀k,Pm.co L' k=Pm.lf b f s t L M k)
    ⟨_,L,rfl,g3,hO3,hL3,rfl,fun k=>(Pm.Hy ..).symm⟩ ?_ ?_
   ·rintro t σ' H4 ht ⟨o8,L',rfl,g4,hO4,hL4,zL',eL'⟩;have ht':t<M.length:=by omega
    have lL':(L'.map V.int).length=L'.length:=List.length_map _;have e2:((s:Int)+(0+(t:Int))).toNat=s+t:=by omega
    have e3:(0+(t:Int)).toNat=t:=by omega
    refine⟨_,rfl,_,rfl,_,rfl,_,rfl,_,_,.inl (SqL.of hL4),bH (ns:=L') (by omega:(0:Int)<=(s:Int)+(0+(t:Int))) (by omega),?_⟩;refine⟨_,rfl,_,rfl,_,rfl,_,_,.inr (SqT.of (g4 _ _ hC)),bH (ns:=M) (by omega:(0:Int)<=0+(t:Int)) (by omega),?_⟩;refine⟨oU hF (Rm.Bd.getD bC _) (by have:i*124001<=40*124001:=Nat.mul_le_mul_right _ (by omega);omega),_,_,rfl,rfl,?_⟩;refine⟨b,_,rfl,hb,?_⟩;refine⟨_,rfl,_,rfl,_,rfl,ll,_,_,s+t,rfl,rfl,hL4,vO (by omega) (by rw[lL'];omega),?_⟩;refine⟨_,L'.set (s+t) _,rfl,g4.upd hll0 _,(by rw[bD hne];exact hO4),(by rw[au,iD]),(by rw[List.length_set];exact zL'),fun k=>?_⟩;rw[Pm.oG _ _ _ _ (by omega),Pm.Jw,e2,e3,<-eL' k];by_cases ek:k=s+t
    ·rw[if_pos ek,if_pos ek,ek];rfl
    ·rw[if_neg ek,if_neg ek]
   ·rintro σ' H4 ⟨o8,L',rfl,g4,hO4,hL4,zL',eL'⟩;rw[Int.toNat_natCast]at eL';refine⟨_,_,_,O.set s f,L',rfl,g4,hO4,hL4,?_,fun k=>?_,fun k=>?_⟩
    ·rw[<-hf];rw[<-hf]at eL';exact I.step hM (by omega) zL' eL'
    ·rw[Pm.oG _ _ _ _ (by omega)];split
     ·exact hF.mono (by omega)
     ·exact(bO k).mono (by omega)
    ·rw[eL' k];exact(Pm.Kl hb hb1 (by omega) hF bL bC k).mono (by omega)
  ·rintro σ' H' ⟨o6,o7,o8,O,L,rfl,g,hO,hL,I,bO,bL⟩;have e9:((n:Int)-1-(-1)).toNat=n:=by omega
   rw[e9]at I bO bL;rw[Nat.sub_self]at I;refine⟨_,rfl,lo,O,rfl,SqL.of hO,fun t1 H3 g3 h3=>?_⟩;refine⟨_,rfl,ll,L,rfl,SqL.of (g3 _ _ hL),fun t2 H4 g4 h4=>?_⟩;refine⟨(by show 2<=sizeLine;decide),fun t ht=>?_⟩;have gt:=Same.new ht (.tup [.ref t1,.ref t2]);have hz:300000+n*124001<=5300000:=by have:n*124001<=40*124001:=Nat.mul_le_mul_right _ (by omega);omega
   refine q t t1 t2 (Pm.trim O) (Pm.trim L) _ (g.trans (g3.trans (g4.trans gt))) au (gt _ _ (g4 _ _ h3)) (gt _ _ h4) (I.stop hM) (fun z hz'=>(Cz bO z hz').mono hz) (fun z hz'=>(Cz bL z hz').mono hz) ?_;have:=Pm.eE O;have:=I.ol;omega
theorem Fq(B:Bt mg)(F:Fn K mg "monic" wV ["prime","poly"])(M:Ms K mg base aL aN aF aV aP aB aM aO aq)(rN:Cal P w K mg base "over" 3 ["by","one","other"] wG):Cal P w K mg base "monic" 4 ["prime","poly"] zj:=by
 refine F.cal yJ (fun vs H Q E h=>?_) (fun f cdv A outer s H vs Q E hr h=>?_)
 ·obtain⟨P,a,p,rfl,_⟩:=h;rfl
 ·obtain⟨P',a,p,rfl,hP,hPb,hA,zA,pP,q⟩:=h;refine⟨_,(ao (iU (bW (xeq K hr) (aU (jy K) rfl B.b_len boot_len (aW (pv 1) ak)) aA (bY _))
   (aJ (bw (dU ak)))
   cR)
   (ao (aQ (i:=2) yJ.nd rfl (Or.inr rfl) (bF (xix K) (pv 1) (aR cA (aU (jy K) rfl B.b_len boot_len (aW (pv 1) ak)) aA) (fun _ _=>rfl)))
   (aJ (bw (bJ (ig K) rfl B.b_tuple boot_tuple (aK (d9 (sc:=Bm) (N:=["number","last","prime"]) (ix:=[none,some 2,some 0]) (dB (by kernel_rfl) (by kernel_rfl) (by kernel_rfl) (by kernel_rfl) (by kernel_rfl) (by kernel_rfl) (by kernel_rfl) (by kernel_rfl)) rfl (Ie K (pv 1)) (fun cl C s₀ H₀ ex=>⟨(bG (i:=0) (show(["number","last","prime"]:List Str).Nodup by decide +kernel) rfl (Or.inl rfl)),dz,(aC rN hr rfl (aW (pv 2) (aW (pv 0) (aW (pv 1) ak))))⟩)) ak)))))),?_⟩
  have hr2:2<=P'/\P'<2097152:=⟨hP.1,hPb⟩;have lP:(p.map V.int).length=p.length:=List.length_map _;refine⟨_,rfl,.ref a,p.length,rfl,.inr ⟨_,SqT.of hA,lP.symm⟩,_,rfl,?_⟩;refine lX (fun c=>?_) (fun c=>?_)
  ·have c':(p.length:Int)=0:=dec_true c;have e:p=[]:=List.eq_nil_of_length_eq_zero (by omega);subst e;exact⟨Nat.zero_le _,fun t ht=>q t [] _ (Same.new ht _) au (Pm.sS.nil _)⟩
  ·have c':¬(p.length:Int)=0:=dec_false c;have hn:p≠[]:=fun e=>c' (by rw[e];rfl);have hpos:0<p.length:=by omega
   have e1:((p.length:Int)-1).toNat=p.length-1:=by omega
   refine⟨_,rfl,_,rfl,.ref a,p.length,rfl,.inr ⟨_,SqT.of hA,lP.symm⟩,_,_,rfl,rfl,_,_,.inr (SqT.of hA),bH (ns:=p) (by omega:(0:Int)<=(p.length:Int)-1) (by omega),?_⟩;rw[e1];have l0:=Pm.qN hn pP.tr;have l1:=pP.co (p.length-1);rw[Rm.fB (by omega)]at l1;have r0:0<=Pm.co p (p.length-1):=by rw[<-l1];exact Int.emod_nonneg _ (by omega)
   have r1:Pm.co p (p.length-1)<(P':Int):=by rw[<-l1];exact Int.emod_lt_of_pos _ (by omega)
   refine⟨_,rfl,a,rfl,.inr ⟨⟨_,SqT.of hA⟩,uF hA (by omega) rfl (fun x=>x*(Pm.co p (p.length-1))^(P'-2)%(P':Int)) ?_ ?_⟩⟩
   ·intro H2 x g2 hx k hk;exact⟨_,rfl,_,rfl,_,rfl,P',x,_,rfl,hP,hPb,by show 0<Pm.co p (p.length-1);omega,r1,hk⟩
   ·intro D hD;refine⟨D,_,rfl,.inl ⟨SqL.of au,fun t ht=>?_⟩⟩;exact q t (Pm.gh P' p) _ ((Same.new hD _).trans (Same.new ht _)) au (Pm.BL hP pP hn)
theorem yg(B:Bt mg)(F:Fn K mg "greatest" oE ["by","one","other"])(M:Ms K mg base aL aN aF aV aP aB aM aO aq)(qK:Cal P w K mg base "monic" 4 ["prime","poly"] zj)(eZ:Cal P w K mg base "divided" 2 ["by","one","other"] kj):Cal P w K mg base "greatest" 5 ["by","one","other"] lH:=by
 refine F.cal fO (fun vs H Q E h=>?_) (fun f cdv A outer s H vs Q E hr h=>?_)
 ·obtain⟨P,a,c,p,r,rfl,_⟩:=h;rfl
 ·obtain⟨P',a,c,p,r,rfl,hP,hPb,hA,hC,zA,zC,pP,pR,hne,q⟩:=h;refine⟨_,(ao (aQ (i:=3) fO.nd rfl (Or.inl rfl) (aC qK hr rfl (aW (pv 0) (aW (pv 1) ak))))
   (ao (aQ (i:=4) fO.nd rfl (Or.inl rfl) (aC qK hr rfl (aW (pv 0) (aW (pv 2) ak))))
   (ao (iM PassesOwn.never (bW qD (aU (jy K) rfl B.b_len boot_len (aW (pv 4) ak)) aA (bY _))
   (ao (aQ (i:=5) fO.nd rfl (Or.inl rfl) (bF (xix K) (aC eZ hr rfl (aW (pv 0) (aW (pv 3) (aW (pv 4) ak)))) aA (fun _ _=>rfl)))
   (ao (aQ (i:=3) fO.nd rfl (Or.inl rfl) (pv 4))
   (aJ (aQ (i:=4) fO.nd rfl (Or.inl rfl) (aC qK hr rfl (aW (pv 0) (aW (pv 5) ak))))))))
   (aJ (bw (pv 3)))))),?_⟩
  have hr2:2<=P'/\P'<2097152:=⟨hP.1,hPb⟩;refine⟨_,rfl,_,rfl,P',a,p,rfl,hP,hPb,hA,by omega,pP,fun tg g0 H1 g1 hG mG=>?_⟩;refine⟨_,rfl,_,rfl,P',c,r,rfl,hP,hPb,g1 _ _ hC,by omega,pR,fun ts s0 H2 g2 hS' mS=>?_⟩;have lg0:=mG.len;have ls0:=mS.len;refine⟨fun m σ' H'=>∃(o5:Option V) (tg ts:Addr) (g s:List Int),m=s.length/\σ'=[some (.int P'),some (.ref a),some (.ref c),some (.ref tg),some (.ref ts),o5]/\Same H H'/\H' tg=some (.tup (g.map V.int))/\H' ts=some (.tup (s.map V.int))/\Pm.FN P' p r g s/\g.length<=max p.length r.length/\s.length<=max p.length r.length,
   ⟨_,_,tg,ts,g0,s0,rfl,rfl,g1.trans g2,g2 _ _ hG,hS',Pm.FN.start mG mS hne,by omega,by omega⟩,?_⟩
  rintro m σ' H' ⟨o5,tg,ts,gg,ss,rfl,rfl,g,hG,hS',I,zg,zs⟩;have lS:(ss.map V.int).length=ss.length:=List.length_map _;refine⟨_,rfl,.ref ts,ss.length,rfl,.inr ⟨_,SqT.of hS',lS.symm⟩,_,_,rfl,rfl,_,rfl,?_⟩;refine lX (fun cc=>?_) (fun cc=>?_)
  ·have hs:ss≠[]:=fun e=>by have:=dec_true cc;rw[e]at this;simp at this
   have hMs:=I.sm_ hs;refine⟨_,fun _ _ z=>z,?_⟩;refine⟨_,rfl,_,rfl,_,rfl,P',tg,ts,gg,ss,rfl,by omega,by omega,hG,hS',by omega,by omega,hMs,I.gy.co,(fun x hx=>(Iw hr2.1 hr2.2 I.gy x hx).mono (by decide)),Iw hr2.1 hr2.2 I.sy,fun t x y o l H3 g3 hT hX hY D _ _ _=>?_⟩;refine⟨_,_,.inr (SqT.of hT),rfl,?_⟩;refine⟨_,rfl,?_⟩;have hsh:=D.short;refine⟨_,rfl,_,rfl,P',y,l,rfl,hP,hPb,hY,by omega,D.ry,fun tm m H4 g4 hM mM=>?_⟩;have lm:=mM.len;exact⟨m.length,by omega,_,ts,tm,ss,m,rfl,rfl,g.trans (g3.trans g4),(g3.trans g4) _ _ hS',hM,I.step hs D mM,zs,by omega⟩
  ·have hs:ss=[]:=List.eq_nil_of_length_eq_zero (by have:=dec_false cc;omega);refine⟨_,rfl,?_⟩;exact q tg gg H' g hG (I.stop hs) zg
theorem AK(B:Bt mg)(F:Fn K mg "nearest" pL ["modulus","number"])(M:Ms K mg base aL aN aF aV aP aB aM aO aq):Cal P w K mg base "nearest" 1 ["modulus","number"] qT:=by
 refine F.cal rR (fun vs H Q E h=>?_) (fun f cdv A outer s H vs Q E hr h=>?_)
 ·obtain⟨M,x,rfl,_⟩:=h;rfl
 ·obtain⟨M,x,rfl,hM,q⟩:=h;refine⟨_,(ao (aQ (i:=2) rR.nd rfl (Or.inl rfl) (aR dW (pv 1) (pv 0)))
   (aJ (bw (sI (bW qD (aR v_mul aA (pv 2)) (pv 0) (bY _)) (aR cA (pv 2) (pv 0)) (pv 2))))),?_⟩
  refine⟨_,rfl,_,rfl,_,_,rfl,rfl,hM,?_⟩;refine⟨_,rfl,mulL (by decide) (by decide),_,rfl,_,_,rfl,rfl,_,rfl,?_⟩;refine lX (fun c=>?_) (fun c=>?_)
  ·have c':2*(x%M)>M:=dec_true c;refine⟨_,rfl,_,rfl,_,_,rfl,rfl,?_⟩;have e:Pm.nr M x=x%M-M:=if_pos c';rw[e]at q;exact q
  ·have c':¬2*(x%M)>M:=dec_false c;refine⟨_,rfl,?_⟩;have e:Pm.nr M x=x%M:=if_neg c';rw[e]at q;exact q
theorem Dq(B:Bt mg)(F:Fn K mg "joined" tu ["modulus","number","prime","rest"])(M:Ms K mg base aL aN aF aV aP aB aM aO aq)(rN:Cal P w K mg base "over" 3 ["by","one","other"] wG)(bI:Cal P w K mg base "taken" 1 ["by","number"] dM)(jr:Cal P w K mg base "nearest" 1 ["modulus","number"] qT):Cal P w K mg base "joined" 4 ["modulus","number","prime","rest"] yN:=by
 refine F.cal uY (fun vs H Q E h=>?_) (fun f cdv A outer s H vs Q E hr h=>?_)
 ·obtain⟨M,t,p,s,rfl,_⟩:=h;rfl
 ·obtain⟨M,t,p,s',rfl,hp,hpb,hM,hpM,q⟩:=h;refine⟨_,(ao (aQ (i:=4) uY.nd rfl (Or.inl rfl) (aC rN hr rfl (aW (pv 2) (aK (aC bI hr rfl (aW (pv 2) (mR (aR cA (pv 3) (pv 1)) ak))) (aK (aC bI hr rfl (aW (pv 2) (aW (pv 0) ak))) ak)))))
   (aJ (bw (aC jr hr rfl (mR (aR v_mul (pv 0) (pv 2)) (mR (aR (gO K) (pv 1) (aR v_mul (pv 0) (pv 4))) ak)))))),?_⟩
  have h2:=hp.1;have hp0:(p:Int)≠0:=by omega
  have r0:=Int.emod_nonneg M hp0;have r1:=Int.emod_lt_of_pos M (show(0:Int)<p by omega);have rn:M%(p:Int)≠0:=fun z=>hpM (Int.dvd_of_emod_eq_zero z);have et:Rm.tk (p:Int) M=M%(p:Int):=Rm.fB hp0 M;refine⟨_,rfl,_,rfl,_,rfl,_,rfl,_,_,rfl,rfl,p,_,rfl,by omega,?_⟩;refine⟨_,rfl,_,rfl,p,M,rfl,by omega,?_⟩;refine⟨p,_,_,rfl,hp,hpb,by rw[et];omega,by rw[et];exact r1,?_⟩;have hw:=Pm.Es (M:=M) (t:=t) (s:=s') hp;refine⟨_,rfl,_,rfl,mulR (by omega) (by omega),?_⟩;refine⟨_,rfl,_,rfl,_,rfl,mulR (by show -(2^64)<Pm.jw M t p s';omega) (by show Pm.jw M t p s'<2^64;omega),?_⟩;exact⟨_,_,rfl,Int.mul_pos hM (by omega),q⟩
theorem uo(B:Bt mg)(F:Fn K mg "taken_poly" j8 ["prime","poly"])(M:Ms K mg base aL aN aF aV aP aB aM aO aq)(cQ:Cal P w K mg base "trimmed" 1 ["numbers"] (uV K))(bI:Cal P w K mg base "taken" 1 ["by","number"] dM):Cal P w K mg base "taken_poly" 2 ["prime","poly"] pO:=by
 refine F.cal sV (fun vs H Q E h=>?_) (fun f cdv A outer s H vs Q E hr h=>?_)
 ·obtain⟨p,a,P,rfl,_⟩:=h;rfl
 ·obtain⟨p,a,P',rfl,hp,hA,zA,q⟩:=h;refine⟨_,(aJ (bw (aC cQ hr rfl (aK (d9 (sc:=qY) (N:=["number","prime"]) (ix:=[none,some 0]) (dB (by kernel_rfl) (by kernel_rfl) (by kernel_rfl) (by kernel_rfl) (by kernel_rfl) (by kernel_rfl) (by kernel_rfl) (by kernel_rfl)) rfl (Ie K (pv 1)) (fun cl C s₀ H₀ ex=>⟨(bG (i:=0) (show(["number","prime"]:List Str).Nodup by decide +kernel) rfl (Or.inl rfl)),dz,(aC bI hr rfl (aW (pv 1) (aW (pv 0) ak)))⟩)) ak)))),?_⟩;refine⟨_,rfl,a,rfl,.inr ⟨⟨_,SqT.of hA⟩,uF hA (by omega) rfl (fun x=>Rm.tk p x) ?_ ?_⟩⟩
  ·intro H2 x g2 hx k hk;exact⟨_,rfl,_,rfl,p,x,rfl,by omega,hk⟩
  ·intro D hD;refine⟨D,_,rfl,SqL.of au,fun t1 H3 g3 h3=>?_⟩;exact q t1 H3 ((Same.new hD _).trans g3) h3
theorem Ai(B:Bt mg)(F:Fn K mg "divides" qb ["monic_one","poly"])(M:Ms K mg base aL aN aF aV aP aB aM aO aq)(eZ:Cal P w K mg base "divided" 2 ["by","one","other"] kj):Cal P w K mg base "divides" 3 ["monic_one","poly"] vH:=by
 refine F.cal Ah (fun vs H Q E h=>?_) (fun f cdv A outer s H vs Q E hr h=>?_)
 ·obtain⟨m,a,M,P,rfl,_⟩:=h;rfl
 ·obtain⟨m,a,M,P',rfl,hMm,hA,zM,zP,hM,bM,bP,q⟩:=h;refine⟨_,(aJ (bw (jf (xeq K hr) (bF (xix K) (aC eZ hr rfl (cX aA (aW (pv 1) (aW (pv 0) ak)))) aA (fun _ _=>rfl)) (dU ak) (bY _)))),?_⟩;refine⟨_,rfl,_,rfl,0,a,m,P',M,rfl,by decide,by decide,hA,hMm,zP,zM,hM,fun k=>Rm.bK _,bP,bM,fun t x y o l H3 g3 hT hX hY D _ _ _=>?_⟩;refine⟨_,_,.inr (SqT.of hT),rfl,?_⟩;refine⟨Nat.zero_le _,fun t0 ht0=>?_⟩;have g4:=Same.new ht0 (.tup []);refine YV (ns:=l) (ms:=[]) (SqT.of (g4 _ _ hY)) (SqT.of au) ?_;exact q _ _ (g3.trans g4) (by show decide (l=[])=true↔_;rw[decide_eq_true_iff];exact D.dv hM)
theorem oA(B:Bt mg)(F:Fn K mg "whole_greatest" gw ["one","other"])(M:Ms K mg base aL aN aF aV aP aB aM aO aq)(mz:Cal P w K mg base "divides" 3 ["monic_one","poly"] vH)(jJ:Cal P w K mg base "prime_above" 2 ["number"] DX)(gZ:Cal P w K mg base "greatest" 5 ["by","one","other"] lH)(iJ:Cal P w K mg base "taken_poly" 2 ["prime","poly"] pO)(jr:Cal P w K mg base "nearest" 1 ["modulus","number"] qT)(uG:Cal P w K mg base "joined" 4 ["modulus","number","prime","rest"] yN):Cal P w K mg base "whole_greatest" 6 ["one","other"] Yb:=by
 refine F.cal bf (fun vs H Q E h=>?_) (fun f cdv A outer s H vs Q E hr h=>?_)
 ·obtain⟨a,c,P,t,g,N,U,V',rfl,_⟩:=h;rfl
 ·obtain⟨a,c,P',t,g,N,U,V',rfl,hA,hC,zP,zt,hP,bP,bt,G,hV,hU,hUV,q⟩:=h;refine⟨_,(ao (aQ (i:=2) bf.nd rfl (Or.inl rfl) (pv 0))
   (ao (aQ (i:=3) bf.nd rfl (Or.inr rfl) aA)
   (ao (aQ (i:=4) bf.nd rfl (Or.inr rfl) (zf rfl B.g_BELOW_THE_PRIMES))
   (ao (aQ (i:=5) bf.nd rfl (Or.inl rfl) vV)
   (ao (iM PassesOwn.never (PW.pt (IV (uL (rW (pv 5))) (IV (uL (rW (aC mz hr rfl (aW (pv 2) (aW (pv 0) ak))))) (Gz (uL (rW (aC mz hr rfl (aW (pv 2) (aW (pv 1) ak)))))))))
   (ao (aQ (i:=4) bf.nd rfl (Or.inr rfl) (aC jJ hr rfl (aW (pv 4) ak)))
   (ao (aQ (i:=6) bf.nd rfl (Or.inr rfl) (aC gZ hr rfl (aW (pv 4) (aK (aC iJ hr rfl (aW (pv 4) (aW (pv 0) ak))) (aK (aC iJ hr rfl (aW (pv 4) (aW (pv 1) ak))) ak)))))
   (aJ (iU (bW zQ (aU (jy K) rfl B.b_len boot_len (aW (pv 6) ak)) (aU (jy K) rfl B.b_len boot_len (aW (pv 2) ak)) (bY _))
   (ao (aQ (i:=2) bf.nd rfl (Or.inl rfl) (bJ (ig K) rfl B.b_tuple boot_tuple (aK (d9 (sc:=mq) (N:=["rest","prime"]) (ix:=[none,some 4]) (dB (by kernel_rfl) (by kernel_rfl) (by kernel_rfl) (by kernel_rfl) (by kernel_rfl) (by kernel_rfl) (by kernel_rfl) (by kernel_rfl)) rfl (Ie K (pv 6)) (fun cl C s₀ H₀ ex=>⟨(bG (i:=0) (show(["rest","prime"]:List Str).Nodup by decide +kernel) rfl (Or.inl rfl)),dz,(aC jr hr rfl (aW (pv 1) (aW (pv 0) ak)))⟩)) ak)))
   (ao (aQ (i:=3) bf.nd rfl (Or.inr rfl) (pv 4))
   (aJ (aQ (i:=5) bf.nd rfl (Or.inl rfl) vV))))
   (aJ (yU (iU (bW (xeq K hr) (aU (jy K) rfl B.b_len boot_len (aW (pv 6) ak)) (aU (jy K) rfl B.b_len boot_len (aW (pv 2) ak)) (bY _))
   (ao (aQ (i:=7) bf.nd rfl (Or.inr rfl) (pv 2))
   (ao (aQ (i:=2) bf.nd rfl (Or.inl rfl) (bJ (ig K) rfl B.b_tuple boot_tuple (aK (d9 (sc:=mW) (N:=["k","before","modulus","prime","seen"]) (ix:=[none,some 7,some 3,some 4,some 6]) (dB (by kernel_rfl) (by kernel_rfl) (by kernel_rfl) (by kernel_rfl) (by kernel_rfl) (by kernel_rfl) (by kernel_rfl) (by kernel_rfl)) rfl (cg rfl B.b_range (aK (aU (jy K) rfl B.b_len boot_len (aW (pv 6) ak)) ak)) (fun cl C s₀ H₀ ex=>⟨(bG (i:=0) (show(["k","before","modulus","prime","seen"]:List Str).Nodup by decide +kernel) rfl (Or.inl rfl)),dz,(aC uG hr rfl (aW (pv 2) (aK (bF (xix K) (pv 1) (pv 0) (fun _ _=>rfl)) (aW (pv 3) (aK (bF (xix K) (pv 4) (pv 0) (fun _ _=>rfl)) ak)))))⟩)) ak)))
   (ao (aQ (i:=3) bf.nd rfl (Or.inr rfl) (aR v_mul (pv 3) (pv 4)))
   (aJ (aQ (i:=5) bf.nd rfl (Or.inl rfl) (jf (xeq K hr) (pv 2) (pv 7) (bY _)))))))
   cR))))))))
   (aJ (bw (pv 2)))))))),?_⟩
  have hgP:g.length<=P'.length:=G.one.len rfl G.mon hP;refine⟨_,rfl,?_⟩;refine⟨Mi H a c P' g N,⟨_,_,_,a,P',1,1000000,true,0,0,rfl,rfl,Same.refl _,hA,Pm.WgI.start hP hgP _,Om.many,by omega,by omega⟩,?_⟩;rintro m σ' H' ⟨o6,o7,tt,told,M,prime,ripe,bad,good,rfl,rfl,gg,hT,I,hmany,hbig,h900⟩;have bT:=Uk I bP h900;have zT:=I.le;refine⟨_,rfl,ripe,rfl,?_⟩;refine lX (fun cr=>?b1) (fun cr=>?n1)
  case' b1=>
   have hne:¬(ripe=true/\told=g):=fun z=>by rw[z.1]at cr;exact absurd cr (by decide)
   have gx:=gg;have hTx:=hT;generalize H'=Hx at gx hTx⊢
  case' n1=>
   refine⟨_,rfl,_,rfl,tt,a,told,P',rfl,hT,gg _ _ hA,by omega,zP,I.mon,bT,(fun x hx=>(bP x hx).mono (by decide)),fun b1 H1 g1 e1=>?_⟩;refine⟨b1,rfl,?_⟩;refine lX (fun c1=>?b2) (fun c1=>?n2)
  case' b2=>
   have hne:¬(ripe=true/\told=g):=fun z=>by
    have:b1=true:=e1.mpr (by rw[z.2];exact G.one);rw[this]at c1;exact absurd c1 (by decide)
   have gx:=gg.trans g1;have hTx:=g1 _ _ hT;generalize H1=Hx at gx hTx⊢
  case' n2=>
   refine⟨_,rfl,_,rfl,tt,c,told,t,rfl,g1 _ _ hT,(gg.trans g1) _ _ hC,by omega,zt,I.mon,bT,bt,fun b2 H2 g2 e2=>?_⟩;refine⟨b2,rfl,?_⟩;refine lX (fun c2=>?b3) (fun c2=>?n3)
  case n3=>
   have hb1:b1=true:=by cases b1<;>first|rfl|exact absurd rfl c1
   have hb2:b2=true:=by cases b2<;>first|rfl|exact absurd rfl c2
   have e:=G.told I.mon (e1.mp hb1) (e2.mp hb2) I.ge;subst e;refine⟨_,rfl,?_⟩;exact q tt H2 (gg.trans (g1.trans g2)) ((g1.trans g2) _ _ hT)
  case' b3=>
   have hne:¬(ripe=true/\told=g):=fun z=>by
    have:b2=true:=e2.mpr (by rw[z.2];exact G.two);rw[this]at c2;exact absurd c2 (by decide)
   have gx:=gg.trans (g1.trans g2);have hTx:=(g1.trans g2) _ _ hT;generalize H2=Hx at gx hTx⊢
  all_goals
   have hfew:=I.few G.ne hV hU hne;obtain⟨k,hk'⟩:∃k,6000-(bad+good)=k+1:=⟨6000-(bad+good)-1,by omega⟩;rw[hk']at hmany;obtain⟨q0,hq0,hlt0,hq0b,hnext⟩:=hmany.next;refine⟨_,fun _ _ z=>z,?_⟩;refine⟨_,rfl,prime,q0,rfl,hq0,hlt0,by omega,fun p hp hlt hle=>?_⟩;have hN:=hnext p hle;refine⟨_,rfl,_,rfl,_,rfl,p,a,P',rfl,by omega,gx _ _ hA,by omega,fun t1 H3 g3 h3=>?_⟩;refine⟨_,rfl,_,rfl,p,c,t,rfl,by omega,(gx.trans g3) _ _ hC,by omega,fun t2 H4 g4 h4=>?_⟩;have l1:=Cu p P';have l2:=Cu p t;refine⟨p,t1,t2,_,_,rfl,hp,by omega,g4 _ _ h3,h4,by omega,by omega,Hq p P',Hq p t,fun _=>KJ hp hP,fun ts s' H5 g5 hS hG hsl=>?_⟩;have sn:=G.seen hp (Dn p P') (Dn p t) hG;have lS:(s'.map V.int).length=s'.length:=List.length_map _;have lT:(told.map V.int).length=told.length:=List.length_map _;have gy:=gx.trans (g3.trans (g4.trans g5));have hTy:=(g3.trans (g4.trans g5)) _ _ hTx;refine⟨_,rfl,.ref ts,s'.length,rfl,.inr ⟨_,SqT.of hS,lS.symm⟩,_,rfl,.ref tt,told.length,rfl,.inr ⟨_,SqT.of hTy,lT.symm⟩,_,_,rfl,rfl,_,rfl,?_⟩;refine lX (fun d1=>?_) (fun d1=>?_)
   ·have d1':(s'.length:Int)<told.length:=dec_true d1;refine⟨_,rfl,ts,rfl,.inr ⟨⟨_,SqT.of hS⟩,uF hS (by omega) rfl (fun x=>Pm.nr p x) ?_ ?_⟩⟩
    ·intro H6 x g6 hx kk hk;exact⟨_,rfl,_,rfl,p,x,rfl,by omega,hk⟩
    ·intro D hD;refine⟨D,_,rfl,.inl ⟨SqL.of au,fun tn ht=>?_⟩⟩;obtain⟨bad',good',hbg,I'⟩:=I.anew hp hlt (by omega) (by omega) sn (by omega);refine⟨_,rfl,?_⟩;exact⟨6000-(bad'+good'),by omega,_,_,tn,s'.map (Pm.nr p),p,p,true,bad',good',rfl,rfl,gy.trans ((Same.new hD _).trans (Same.new ht _)),au,I',(by rw[hbg,show 6000-(bad+good+1)=k by omega];exact hN),by omega,by omega⟩
   ·have d1':¬(s'.length:Int)<told.length:=dec_false d1;refine Ii.by (fun σ' H2=>∃m',m'<6000-(bad+good)/\Mi H a c P' g N m' σ' H2) (fun N0 hN0=>?_) (fun σ' H2 z=>z);refine⟨_,rfl,.ref ts,s'.length,rfl,.inr ⟨_,SqT.of hS,lS.symm⟩,_,rfl,.ref tt,told.length,rfl,.inr ⟨_,SqT.of hTy,lT.symm⟩,_,rfl,?_⟩;refine lX (fun d2=>?_) (fun d2=>?_)
    ·have d2':(s'.length:Int)=told.length:=dec_true d2;have hl:s'.length=told.length:=by omega
     have hpM:¬(p:Int)∣M:=fun z=>by have:=I.div p hp z;omega
     refine⟨_,rfl,?_⟩;refine⟨_,rfl,.ref ts,s'.length,rfl,.inr ⟨_,SqT.of hS,lS.symm⟩,?_⟩;refine⟨(s'.length:Int),rfl,(by omega:-(2^62)<=(s'.length:Int)),(by omega:(s'.length:Int)<2^62),?_⟩;rw[Int.toNat_natCast];refine oY (n:=s'.length) (by omega) rfl (fun k=>Pm.jn M (told.getD k 0) p (s'.getD k 0)) ?_ ?_
     ·intro H6 k6 g6 hk6 kk hk;have e1:(0+(k6:Int)).toNat=k6:=by omega
      refine⟨_,rfl,_,rfl,_,rfl,_,_,.inr (SqT.of (g6 _ _ hTy)),bH (ns:=told) (by omega:(0:Int)<=0+(k6:Int)) (by omega),?_⟩;refine⟨_,rfl,_,rfl,_,rfl,_,_,.inr (SqT.of (g6 _ _ hS)),bH (ns:=s') (by omega:(0:Int)<=0+(k6:Int)) (by omega),?_⟩;rw[e1];exact⟨M,_,p,_,rfl,hp,by omega,I.pos,hpM,hk⟩
     ·intro D hD;refine⟨D,_,rfl,.inl ⟨SqL.of au,fun tn ht=>?_⟩⟩;have gn:=(Same.new hD (.lst ((Pm.ofF s'.length fun k=>Pm.jn M (told.getD k 0) p (s'.getD k 0)).map V.int))).trans (Same.new ht (.tup ((Pm.ofF s'.length fun k=>Pm.jn M (told.getD k 0) p (s'.getD k 0)).map V.int)));refine⟨_,rfl,_,rfl,mulR (by omega) (by omega),?_⟩;refine⟨_,rfl,_,rfl,?_⟩;refine YV (ns:=Pm.ofF s'.length fun k=>Pm.jn M (told.getD k 0) p (s'.getD k 0)) (ms:=told) (SqT.of au) (SqT.of (gn _ _ hTy)) ?_;obtain⟨bad',good',hbg,I'⟩:=I.join (told':=Pm.ofF s'.length fun k=>Pm.jn M (told.getD k 0) p (s'.getD k 0)) (ripe':=decide ((Pm.ofF s'.length fun k=>Pm.jn M (told.getD k 0) p (s'.getD k 0))=told)) hp hlt (by omega) (by omega) sn hl (by rw[Pm.aZ];exact hl) (fun k6 hk6=>⟨Pm.jw M (told.getD k6 0) p (s'.getD k6 0),Pm.Uq hp hpM,by rw[Pm.bZ,if_pos (by omega)];rfl⟩) (decide_eq_true_iff);exact hN0 _ _ ⟨6000-(bad'+good'),by omega,_,_,tn,_,M*p,p,_,bad',good',rfl,rfl,gy.trans gn,au,I',(by rw[hbg,show 6000-(bad+good+1)=k by omega];exact hN),by omega,by omega⟩
    ·have d2':¬(s'.length:Int)=told.length:=dec_false d2;have I':=I.stay hp hlt (by omega) sn (by omega);exact hN0 _ _ ⟨6000-(bad+1+good),by omega,_,_,tt,told,M,p,ripe,bad+1,good,rfl,rfl,gy,hTy,I',(by rw[show 6000-(bad+1+good)=k by omega];exact hN),by omega,by omega⟩
theorem Ac(B:Bt mg)(F:Fn K mg "of_rule" qC ["by","rule"])(M:Ms K mg base aL aN aF aV aP aB aM aO aq)(bI:Cal P w K mg base "taken" 1 ["by","number"] dM):Cal P w K mg base "of_rule" 2 ["by","rule"] sH:=by
 refine F.cal ou (fun vs H Q E h=>?_) (fun f cdv A outer s H vs Q E hr h=>?_)
 ·obtain⟨b,a,c,rfl,_⟩:=h;rfl
 ·obtain⟨b,a,c,rfl,hb,hA,zA,q⟩:=h;refine⟨_,(ao (aQ (i:=2) ou.nd rfl (Or.inr rfl) (aU (jy K) rfl B.b_len boot_len (aW (pv 1) ak)))
   (ao (wW (i:=3) (hN:=ou.nd) (hi':=rfl) (hx:=(Or.inl rfl)) (sc:=xW) (N:=["k","by","length","rule"]) (ix:=[none,some 0,some 2,some 1]) (dB (by kernel_rfl) (by kernel_rfl) (by kernel_rfl) (by kernel_rfl) (by kernel_rfl) (by kernel_rfl) (by kernel_rfl) (by kernel_rfl)) rfl (cg rfl B.b_range (aW (pv 2) ak)) (fun cl C s₀ H₀ ex=>⟨(bG (i:=0) (show(["k","by","length","rule"]:List Str).Nodup by decide +kernel) rfl (Or.inl rfl)),dz,(aC bI hr rfl (aW (pv 1) (mR (aR cA aA (bF (xix K) (pv 3) (aR cA (aR cA (pv 2) aA) (pv 0)) (fun _ _=>rfl))) ak)))⟩))
   (aJ (bw (bJ (ig K) rfl B.b_tuple boot_tuple (mR (aR (gO K) (pv 3) (cN (cX aA ak))) ak)))))),?_⟩
  have lC:(c.map V.int).length=c.length:=List.length_map _;refine⟨_,rfl,.ref a,c.length,rfl,.inr ⟨_,SqT.of hA,lC.symm⟩,?_⟩;refine⟨_,rfl,(c.length:Int),rfl,(by omega:-(2^62)<=(c.length:Int)),(by omega:(c.length:Int)<2^62),?_⟩;rw[Int.toNat_natCast];refine oY (n:=c.length) (by omega) rfl (fun k=>Rm.tk b (0-Pm.co c (c.length-1-k))) ?_ ?_
  ·intro H2 k g2 hk kk hkk;have e1:((c.length:Int)-1-(0+(k:Int))).toNat=c.length-1-k:=by omega
   refine⟨_,rfl,_,rfl,_,rfl,_,_,rfl,rfl,_,rfl,_,_,rfl,rfl,_,_,.inr (SqT.of (g2 _ _ hA)),bH (ns:=c) (by omega:(0:Int)<=(c.length:Int)-1-(0+(k:Int))) (by omega),_,_,rfl,rfl,?_⟩;refine⟨b,_,rfl,hb,?_⟩;rw[e1];exact hkk
  ·intro D hD;have g1:=Same.new hD (.lst ((Pm.ofF c.length fun k=>Rm.tk b (0-Pm.co c (c.length-1-k))).map V.int));refine⟨_,rfl,(by show 1<=sizeLine;decide),fun l2 hl2=>?_⟩;have g2:=Same.new hl2 (.lst [.int 1]);refine .inl ⟨_,_,g2 _ _ au,au,?_,fun l3 hl3=>?_⟩
   ·rw[List.length_map,Pm.aZ];exact Nat.le_of_lt (bQ (by show _+1<=1000;omega))
   refine⟨l3,_,rfl,.inl ⟨SqL.of au,fun t ht=>?_⟩⟩;refine q t _ (g1.trans (g2.trans ((Same.new hl3 _).trans (Same.new ht _)))) ?_;rw[au,Pm.aX,tH]
theorem zO(B:Bt mg)(F:Fn K mg "rule_of" pI ["by","poly"])(M:Ms K mg base aL aN aF aV aP aB aM aO aq)(bI:Cal P w K mg base "taken" 1 ["by","number"] dM):Cal P w K mg base "rule_of" 2 ["by","poly"] tD:=by
 refine F.cal rZ (fun vs H Q E h=>?_) (fun f cdv A outer s H vs Q E hr h=>?_)
 ·obtain⟨b,a,p,rfl,_⟩:=h;rfl
 ·obtain⟨b,a,p,rfl,hb,hA,z0,zA,q⟩:=h;refine⟨_,(ao (aQ (i:=2) rZ.nd rfl (Or.inr rfl) (aR cA (aU (jy K) rfl B.b_len boot_len (aW (pv 1) ak)) aA))
   (aJ (bw (bJ (ig K) rfl B.b_tuple boot_tuple (aK (d9 (sc:=v8) (N:=["k","by","length","poly"]) (ix:=[none,some 0,some 2,some 1]) (dB (by kernel_rfl) (by kernel_rfl) (by kernel_rfl) (by kernel_rfl) (by kernel_rfl) (by kernel_rfl) (by kernel_rfl) (by kernel_rfl)) rfl (cg rfl B.b_range (aW (pv 2) ak)) (fun cl C s₀ H₀ ex=>⟨(bG (i:=0) (show(["k","by","length","poly"]:List Str).Nodup by decide +kernel) rfl (Or.inl rfl)),dz,(aC bI hr rfl (aW (pv 1) (mR (aR cA aA (bF (xix K) (pv 3) (aR cA (aR cA (pv 2) aA) (pv 0)) (fun _ _=>rfl))) ak)))⟩)) ak))))),?_⟩
  have lC:(p.map V.int).length=p.length:=List.length_map _;refine⟨_,rfl,.ref a,p.length,rfl,.inr ⟨_,SqT.of hA,lC.symm⟩,_,_,rfl,rfl,?_⟩;refine⟨_,rfl,(p.length:Int)-1,rfl,(by omega:-(2^62)<=(p.length:Int)-1),(by omega:(p.length:Int)-1<2^62),?_⟩;rw[show((p.length:Int)-1).toNat=p.length-1 by omega];refine oY (n:=p.length-1) (by omega) rfl (fun k=>Rm.tk b (0-Pm.co p (p.length-1-1-k))) ?_ ?_
  ·intro H2 k g2 hk kk hkk;have e1:((p.length:Int)-1-1-(0+(k:Int))).toNat=p.length-1-1-k:=by omega
   refine⟨_,rfl,_,rfl,_,rfl,_,_,rfl,rfl,_,rfl,_,_,rfl,rfl,_,_,.inr (SqT.of (g2 _ _ hA)),bH (ns:=p) (by omega:(0:Int)<=(p.length:Int)-1-1-(0+(k:Int))) (by omega),_,_,rfl,rfl,?_⟩;refine⟨b,_,rfl,hb,?_⟩;rw[e1];exact hkk
  ·intro D hD;refine⟨D,_,rfl,.inl ⟨SqL.of au,fun t ht=>?_⟩⟩;exact q t _ ((Same.new hD _).trans (Same.new ht _)) au
theorem Cj(B:Bt mg)(F:Fn K mg "top_of" tY ["row","poly"])(M:Ms K mg base aL aN aF aV aP aB aM aO aq)(bI:Cal P w K mg base "taken" 1 ["by","number"] dM)(cQ:Cal P w K mg base "trimmed" 1 ["numbers"] (uV K)):Cal P w K mg base "top_of" 2 ["row","poly"] LQ:=by
 refine F.cal jm (fun vs H Q E h=>?_) (fun f cdv A outer s H vs Q E hr h=>?_)
 ·obtain⟨v,r,a,rfl,_⟩:=h;rfl
 ·obtain⟨v,r,a,rfl,⟨a0,p,p2,rfl,hA,hR,hS⟩,ok,hP,q⟩:=h;refine⟨_,(ao (aQ (i:=2) jm.nd rfl (Or.inl rfl) (bF (xix K) (pv 0) aA (fun _ _=>rfl)))
   (ao (aQ (i:=3) jm.nd rfl (Or.inr rfl) (bF (xix K) (pv 0) aA (fun _ _=>rfl)))
   (ao (aQ (i:=4) jm.nd rfl (Or.inl rfl) (cN ak))
   (ao (j4 PassesOwn.never rfl (cg rfl B.b_range (aK (aU (jy K) rfl B.b_len boot_len (aW (pv 3) ak)) ak)) (bG (i:=5) jm.nd rfl (Or.inr rfl))
   (ao (wW (i:=6) (hN:=jm.nd) (hi':=rfl) (hx:=(Or.inl rfl)) (sc:=zY) (N:=["j","k","poly","starts"]) (ix:=[none,some 5,some 1,some 3]) (dB (by kernel_rfl) (by kernel_rfl) (by kernel_rfl) (by kernel_rfl) (by kernel_rfl) (by kernel_rfl) (by kernel_rfl) (by kernel_rfl)) rfl (qL rfl B.b_range (mR (aR (gO K) (pv 5) aA) (aK (aU (jy K) rfl B.b_len boot_len (aW (pv 1) ak)) ak))) (fun cl C s₀ H₀ ex=>⟨(bG (i:=0) (show(["j","k","poly","starts"]:List Str).Nodup by decide +kernel) rfl (Or.inl rfl)),dz,(aR v_mul (bF (xix K) (pv 2) (pv 0) (fun _ _=>rfl)) (bF (xix K) (pv 3) (aR cA (aR cA (pv 0) aA) (pv 1)) (fun _ _=>rfl)))⟩))
   (aJ (iB (jX K (pv 4) (aC bI hr rfl (aW (pv 2) (aK (aU (M4 K rfl) rfl B.b_sum boot_sum (aW (pv 6) ak)) ak))))))))
   (aJ (bw (aC cQ hr rfl (aW (pv 4) ak)))))))),?_⟩
  have hl:=ok.len;have hs:=ok.short;have lS:(r.starts.map V.int).length=r.starts.length:=List.length_map _;have lP:((Pm.aX r.b r.rule).map V.int).length=r.rule.length+1:=by rw[List.length_map,Pm.bU]
  refine⟨_,rfl,_,_,.inr (SqT.of hA),rfl,?_⟩;refine⟨_,rfl,_,_,.inr (SqT.of hA),rfl,?_⟩;refine⟨Nat.zero_le _,fun l0 h0=>?_⟩;have g0:=Same.new h0 (.lst []);refine⟨_,rfl,.ref p2,r.starts.length,rfl,.inr ⟨_,SqT.of (g0 _ _ hS),lS.symm⟩,?_⟩;refine⟨(r.starts.length:Int),rfl,(by omega:-(2^62)<=(r.starts.length:Int)),(by omega:(r.starts.length:Int)<2^62),?_⟩;refine eX (lo:=0) (n:=(r.starts.length:Int).toNat) (fun i σ' H'=>∃o5 o6,σ'=[some (.ref a0),some (.ref a),some (.int r.b),some (.ref p2),some (.ref l0),o5,o6]/\Same H H'/\H' l0=some (.lst ((Pm.ofF i fun k=>Rm.tk r.b (Pm.tp (Pm.aX r.b r.rule) r.at k)).map V.int)))
   ⟨_,_,rfl,g0,au⟩ ?_ ?_
  ·rintro i σ' H' hi ⟨o5,o6,rfl,g,hL⟩;have hi':i<r.starts.length:=by omega
   refine⟨_,rfl,_,rfl,.ref a,r.rule.length+1,rfl,.inr ⟨_,SqT.of (g _ _ hP),lP.symm⟩,?_⟩;refine⟨_,_,rfl,⟨by omega,by omega,by omega,by omega⟩,?_⟩;rw[show(((r.rule.length+1:Nat):Int)-(0+(i:Int)+1)).toNat=r.rule.length-i by omega];refine Dt (lo:=0+(i:Int)+1) (n:=r.rule.length-i) (by omega) rfl (fun k=>Pm.co (Pm.aX r.b r.rule) (i+1+k)*r.at k) ?_ ?_
   ·intro H2 k g2 hk kk hkk;have e1:(0+(i:Int)+1+(k:Int)).toNat=i+1+k:=by omega
    have e2:(0+(i:Int)+1+(k:Int)-1-(0+(i:Int))).toNat=k:=by omega
    have lq:(Pm.aX r.b r.rule).length=r.rule.length+1:=Pm.bU ..;refine⟨_,rfl,_,rfl,_,_,.inr (SqT.of (g2 _ _ (g _ _ hP))),bH (ns:=Pm.aX r.b r.rule) (by omega:(0:Int)<=0+(i:Int)+1+(k:Int)) (by omega),?_⟩;refine⟨_,rfl,_,rfl,_,_,rfl,rfl,_,rfl,_,_,rfl,rfl,_,_,.inr (SqT.of (g2 _ _ (g _ _ hS))),bH (ns:=r.starts) (by omega:(0:Int)<=0+(i:Int)+1+(k:Int)-1-(0+(i:Int))) (by omega),?_⟩;refine⟨oU (Rm.Bd.getD ok.pC _) (Rm.Bd.getD ok.startsBd _) (by decide),?_⟩;rw[e1,e2];have e3:r.at k=r.starts.getD k 0:=Rm.rz (by omega);rw[e3]at hkk;exact hkk
   ·intro D hD;have g3:=Same.new hD (.lst ((Pm.ofF (r.rule.length-i) fun k=>Pm.co (Pm.aX r.b r.rule) (i+1+k)*r.at k).map V.int));have hL3:=g3 _ _ hL;have lL:((Pm.ofF i fun k=>Rm.tk r.b (Pm.tp (Pm.aX r.b r.rule) r.at k)).map V.int).length=i:=by rw[List.length_map,Pm.aZ]
    refine⟨_,rfl,.inl ⟨rfl,_,SqL.of hL3⟩,_,rfl,_,rfl,D,_,rfl,SqL.of au,r.b,_,rfl,ok.by0,?_⟩;refine⟨l0,_,_,rfl,rfl,hL3,?_,?_⟩
    ·rw[lL];exact bQ (by omega)
    ·refine⟨_,_,rfl,(g.trans g3).upd h0 _,?_⟩;rw[au,Pm.zu,tH];have e4:Pm.tp (Pm.aX r.b r.rule) r.at i=(Pm.ofF (r.rule.length-i) fun k=>Pm.co (Pm.aX r.b r.rule) (i+1+k)*r.at k).sum:=by
      unfold Pm.tp;rw[Pm.ofF,Pm.ud,Pm.bU,Nat.add_sub_cancel]
     rw[e4]
  ·rintro σ' H' ⟨o5,o6,rfl,g,hL⟩;refine⟨_,rfl,l0,_,rfl,SqL.of hL,fun t1 H3 g3 h3=>?_⟩;refine q t1 H3 (g.trans g3) ?_;rw[h3,BR,hl,Int.toNat_natCast]
theorem nH(B:Bt mg)(F:Fn K mg "shared_divisor" gF ["by","one","other"])(M:Ms K mg base aL aN aF aV aP aB aM aO aq)(gj:Cal P w K mg base "whole_greatest" 6 ["one","other"] Yb)(gZ:Cal P w K mg base "greatest" 5 ["by","one","other"] lH):Cal P w K mg base "shared_divisor" 7 ["by","one","other"] yx:=by
 refine F.cal n8 (fun vs H Q E h=>?_) (fun f cdv A outer s H vs Q E hr h=>?_)
 ·obtain⟨b,a,c,P,t,rfl,_⟩:=h;rfl
 ·obtain⟨b,a,c,P',t,rfl,hA,hC,zP,zt,hP,bP,bt,h⟩:=h;refine⟨_,(aJ (bw (sI (bW (xeq K hr) (pv 0) aA (bY _)) (aC gj hr rfl (aW (pv 1) (aW (pv 2) ak))) (aC gZ hr rfl (aW (pv 0) (aW (pv 1) (aW (pv 2) ak))))))),?_⟩;refine⟨_,rfl,_,rfl,?_⟩;refine lX (fun c0=>?_) (fun c0=>?_)
  ·have c0':b=0:=dec_true c0;rcases h with⟨_,g,N,U,V',G,hV,hU,hUV,q⟩|⟨p,rfl,hp,_⟩
   ·exact⟨_,rfl,_,rfl,a,c,P',t,g,N,U,V',rfl,hA,hC,zP,zt,hP,bP,bt,G,hV,hU,hUV,q⟩
   ·have:=hp.1;omega
  ·have c0':¬b=0:=dec_false c0;rcases h with⟨z,_⟩|⟨p,rfl,hp,hpb,yP,yt,q⟩
   ·exact absurd z c0'
   ·exact⟨_,rfl,_,rfl,_,rfl,p,a,c,P',t,rfl,hp,hpb,hA,hC,zP,zt,yP,yt,fun _ z=>by have:=hP.pos;rw[z]at this;exact absurd this (by decide),q⟩
theorem xu(B:Bt mg)(F:Fn K mg "least_of" nU ["row"])(M:Ms K mg base aL aN aF aV aP aB aM aO aq)(iC:Cal P w K mg base "of_rule" 2 ["by","rule"] sH)(uD:Cal P w K mg base "top_of" 2 ["row","poly"] LQ)(eZ:Cal P w K mg base "divided" 2 ["by","one","other"] kj)(gq:Cal P w K mg base "shared_divisor" 7 ["by","one","other"] yx):Cal P w K mg base "least_of" 8 ["row"] Dz:=by
 refine F.cal jK (fun vs H Q E h=>?_) (fun f cdv A outer s H vs Q E hr h=>?_)
 ·obtain⟨v,r,rfl,_⟩:=h;rfl
 ·obtain⟨v,r,rfl,⟨a0,p,p2,rfl,hA,hR,hS⟩,ok,hB,hT,q⟩:=h;refine⟨_,(ao (aQ (i:=1) jK.nd rfl (Or.inl rfl) (bF (xix K) (pv 0) aA (fun _ _=>rfl)))
   (ao (aQ (i:=2) jK.nd rfl (Or.inl rfl) (aC iC hr rfl (aW (pv 1) (aK (bF (xix K) (pv 0) aA (fun _ _=>rfl)) ak))))
   (ao (aQ (i:=3) jK.nd rfl (Or.inl rfl) (aC uD hr rfl (aW (pv 0) (aW (pv 2) ak))))
   (aJ (bw (bF (xix K) (aC eZ hr rfl (aW (pv 1) (aW (pv 2) (aK (aC gq hr rfl (aW (pv 1) (aW (pv 2) (aW (pv 3) ak)))) ak)))) aA (fun _ _=>rfl))))))),?_⟩
  have hs:=ok.short;have hb1:=ok.by1;have hm:=Pm.gQ r.b r.rule;have lq:(Pm.aX r.b r.rule).length=r.rule.length+1:=Pm.bU ..;refine⟨_,rfl,_,_,.inr (SqT.of hA),rfl,?_⟩;refine⟨_,rfl,_,rfl,_,_,.inr (SqT.of hA),rfl,r.b,p,r.rule,rfl,ok.by0,hR,by omega,fun tP H1 g1 hP=>?_⟩;refine⟨_,rfl,_,rfl,.ref a0,r,tP,rfl,⟨a0,p,p2,rfl,g1 _ _ hA,g1 _ _ hR,g1 _ _ hS⟩,ok,hP,fun tT H2 g2 hTp=>?_⟩;have hP2:=g2 _ _ hP;have lt:=FQ r;refine⟨_,rfl,_,rfl,_,rfl,_,rfl,_,rfl,r.b,tP,tT,Pm.aX r.b r.rule,BR r,rfl,hP2,hTp,by omega,by omega,hm,(fun x hx=>(ok.pC x hx).mono (by decide)),Jl ok,?_⟩;have nP:=qF r.b r.rule hB.one;by_cases h0:r.b=0
  ·obtain⟨d,ua,u,hu10,hur,hQ0,hua,hsz⟩:=hT h0;have hK:=ok.kp;rw[h0]at hK;rw[h0]at hm lq;obtain⟨g,L,N,hL,hLy,hKL,hall,hlen,hE,G,hV,hU⟩:=Pm.IK hm hK hQ0 hua (u:=u) (e:=5) (U:=u+400) (fun k=>by have:=Pm.vM ok.by0 ok.by1 hu10 hur;rw[h0]at this;exact Pm.jV this k) (by rw[lq];omega) (by rw[lq];omega);have eT:Pm.co (BR r)=Pm.tp (Pm.aX 0 r.rule) r.at:=funext fun k=>by rw[xZ,h0,Rm.bK]
   refine .inl ⟨h0,g,N,_,_,by rw[h0,eT];exact G,hV,hU,by omega,fun tg H3 g3 hg=>?_⟩;have hgl:g.length<=r.rule.length+1:=by have:=hL.pos;omega
   have bg:∀x∈g,Rm.Bd 124000 x:=fun x hx=>by
    obtain⟨k,hk,e⟩:=List.mem_iff_getElem.mp hx;have:=hU k;rw[Pm.m7 hk,e]at this;exact this.mono (by omega)
   refine⟨r.b,tP,tg,Pm.aX r.b r.rule,g,rfl,ok.by0,by omega,g3 _ _ hP2,hg,by rw[h0];omega,by omega,G.mon,nP,(fun x hx=>(ok.pC x hx).mono (by decide)),bg,fun t x y o l H4 g4 ht hx hy D _ _ _=>?_⟩;refine⟨_,_,.inr (SqT.of ht),rfl,?_⟩;have D':Pm.Div r.b (Pm.aX r.b r.rule) g L []:=⟨by rw[h0];exact hLy,Pm.Py.nil _,G.mon.pos,fun k=>by rw[Pm.dR,Int.add_zero,h0,hE k]⟩;obtain⟨eo,_⟩:=D.uniq G.mon D';subst eo;exact q x o H4 (g1.trans (g2.trans (g3.trans g4))) hx ⟨hL,fun k=>by rw[h0];exact Rm.bK _,by rw[h0];exact hKL,by rw[h0];exact hall⟩ (by have:=G.mon.pos;omega)
  ·obtain⟨P0,hP0,hb⟩:=hB.resolve_left h0;have hp:=zZ hP0;have hr:=eV P0 hP0;have yP:Pm.Py (P0:Int) (Pm.aX r.b r.rule):=by rw[<-hb];exact GR hm nP
   have yt:Pm.Py (P0:Int) (BR r):=by rw[<-hb];exact Pm.Py.ofF ..
   refine .inr ⟨P0,hb,hp,by omega,yP,yt,fun tg g H3 g3 hg hG hgl=>?_⟩;have bg:∀x∈g,Rm.Bd 124000 x:=Iw hr.1 (by omega) hG.py;refine⟨r.b,tP,tg,Pm.aX r.b r.rule,g,rfl,ok.by0,by omega,g3 _ _ hP2,hg,by omega,by omega,hG.mon,nP,(fun x hx=>(ok.pC x hx).mono (by decide)),bg,fun t x y o l H4 g4 ht hx hy D _ _ _=>?_⟩;refine⟨_,_,.inr (SqT.of ht),rfl,?_⟩;rw[hb]at D;rw[<-hb]at D;obtain⟨hl1,hl2⟩:=Eu hp ok hb hG (by rw[hb]at D ⊢;exact D);exact q x o H4 (g1.trans (g2.trans (g3.trans g4))) hx hl1 hl2
theorem wY(B:Bt mg)(F:Fn K mg "shortest" nF ["row"])(M:Ms K mg base aL aN aF aV aP aB aM aO aq)(nO:Cal P w K mg base "least_of" 8 ["row"] Dz)(jt:Cal P w K mg base "rule_of" 2 ["by","poly"] tD):Cal P w K mg base "shortest" 9 ["row"] tZ:=by
 refine F.cal lQ (fun vs H Q E h=>?_) (fun f cdv A outer s H vs Q E hr h=>?_)
 ·obtain⟨v,r,rfl,_⟩:=h;rfl
 ·obtain⟨v,r,rfl,⟨a0,p,p2,rfl,hA,hR,hS⟩,ok,hB,hT,q⟩:=h;refine⟨_,(ao (aQ (i:=1) lQ.nd rfl (Or.inl rfl) (aC nO hr rfl (aW (pv 0) ak)))
   (ao (aQ (i:=2) lQ.nd rfl (Or.inl rfl) (aC jt hr rfl (aK (bF (xix K) (pv 0) aA (fun _ _=>rfl)) (aW (pv 1) ak))))
   (aJ (bw (dU (aK (bF (xix K) (pv 0) aA (fun _ _=>rfl)) (aW (pv 2) (aK (bJ (ig K) rfl B.b_tuple boot_tuple (aK (oW (xsl K) (bF (xix K) (pv 0) aA (fun _ _=>rfl)) uc (tW (aU (jy K) rfl B.b_len boot_len (aW (pv 2) ak)))) ak)) ak)))))))),?_⟩
  have hs:=ok.short;have hl:=ok.len;have lS:(r.starts.map V.int).length=r.starts.length:=List.length_map _;refine⟨_,rfl,.ref a0,r,rfl,⟨a0,p,p2,rfl,hA,hR,hS⟩,ok,hB,hT,fun tL L H1 g1 hL lst ll=>?_⟩;have hLp:=lst.mon.pos;refine⟨_,rfl,_,_,.inr (SqT.of (g1 _ _ hA)),rfl,_,rfl,r.b,tL,L,rfl,ok.by0,hL,hLp,by omega,fun tR H2 g2 hR2=>?_⟩;have lR:((Pm.cG r.b L).map V.int).length=L.length-1:=by rw[List.length_map,Pm.dj]
  have hA2:=(g1.trans g2) _ _ hA;have hS2:=(g1.trans g2) _ _ hS;refine⟨_,rfl,_,_,.inr (SqT.of hA2),rfl,_,rfl,_,rfl,_,_,.inr (SqT.of hA2),rfl,?_⟩;refine⟨_,rfl,.ref tR,L.length-1,rfl,.inr ⟨_,SqT.of hR2,lR.symm⟩,?_⟩;refine⟨_,rfl,?_⟩;by_cases hw:r.starts.length<=L.length-1
  ·refine .inr (.inr ⟨_,SqT.of hS2,?_,?_⟩)
   ·rw[HT.jM,HT.gM,lS];omega
   ·refine⟨p2,_,rfl,.inr ⟨SqT.of hS2,?_⟩⟩;refine⟨(by show 3<=sizeLine;decide),fun t ht=>?_⟩;have g3:=Same.new ht (.tup [.int r.b,.ref tR,.ref p2]);refine q (.ref t) L _ (g1.trans (g2.trans g3)) ⟨t,tR,p2,rfl,au,g3 _ _ hR2,?_⟩ lst ll;show _=some (HO.tup ((r.starts.take (L.length-1)).map V.int));rw[List.take_of_length_le hw];exact g3 _ _ hS2
  ·refine .inr (.inl ⟨_,SqT.of hS2,?_,fun p3 hp3=>?_⟩)
   ·rw[HT.jM,HT.gM,lS];omega
   ·refine⟨p3,_,rfl,.inr ⟨SqT.of au,?_⟩⟩;have g3:=Same.new hp3 (.tup (vU (r.starts.map V.int) none (some ((L.length-1:Nat):Int))));refine⟨(by show 3<=sizeLine;decide),fun t ht=>?_⟩;have g4:=Same.new ht (.tup [.int r.b,.ref tR,.ref p3]);refine q (.ref t) L _ (g1.trans (g2.trans (g3.trans g4))) ⟨t,tR,p3,rfl,au,(g3.trans g4) _ _ hR2,?_⟩ lst ll;show _=some (HO.tup ((r.starts.take (L.length-1)).map V.int));rw[List.map_take,<-Cy];exact g4 _ _ au
theorem wH(B:Bt mg)(F:Fn K mg "_law_cell_at" nD ["_law_script","_law_k"])(M:Ms K mg base aL aN aF aV aP aB aM aO aq):Cal P w K mg base "_law_cell_at" 1 ["_law_script","_law_k"] (wN K):=by
 refine F.cal wu (fun vs H Q E h=>?_) (fun f cdv A outer s H vs Q E hr h=>?_)
 ·obtain⟨a,ns,k,rfl,_⟩:=h;rfl
 ·obtain⟨a,ns,k,rfl,hS,h0,h1,hB,q⟩:=h;refine⟨_,(ao (iU (bW zQ (pv 1) (aU (jy K) rfl B.b_len boot_len (aW (pv 0) ak)) (bY _))
   (aJ (bw (bF (xix K) (pv 0) (pv 1) (fun _ _=>rfl))))
   cR)
   (aJ (bw (aR v_mul (aR (gO K) (aR v_mul (pv 1) aA) aA) (aR (gO K) (pv 1) aA))))),?_⟩
  have hl:(ns.map V.int).length=ns.length:=List.length_map _;refine⟨_,rfl,_,rfl,.ref a,ns.length,rfl,.inl ⟨_,hS,hl.symm⟩,_,_,rfl,rfl,_,rfl,?_⟩;refine lX (fun c=>?_) (fun c=>?_)
  ·have c':k<(ns.length:Int):=dec_true c;refine⟨_,rfl,_,rfl,ns.map V.int,.int (ns.getD k.toNat 0),.inl hS,bH h0 c',q _ ?_⟩;exact intBits_le_iff.mp (hB _ (Pm.za (by omega)))
  ·refine⟨_,rfl,mulR (by decide) (by decide),_,rfl,mulR (by show -(2^64)<k+31;omega) (by show k+31<2^64;omega),q _ ?_⟩;refine(Rm.Bd.mul (m:=40) (n:=40) (Rm.Bd.of (by omega) (by omega)) (Rm.Bd.of (by omega) (by omega))).mono (by decide)
theorem Jf(B:Bt mg)(F:Fn K mg "_law_mix" BF ["_law_cell","_law_k"])(M:Ms K mg base aL aN aF aV aP aB aM aO aq):Cal P w K mg base "_law_mix" 1 ["_law_cell","_law_k"] yH:=by
 refine F.cal w6 (fun vs H Q E h=>?_) (fun f cdv A outer s H vs Q E hr h=>?_)
 ·obtain⟨c,k,rfl,_⟩:=h;rfl
 ·obtain⟨c,k,rfl,h0,h1,q⟩:=h;refine⟨_,(ao (aQ (i:=2) w6.nd rfl (Or.inl rfl) (aR dW (aR (gO K) (aR v_mul (aR (gO K) (aR dW (pv 0) aA) aA) (aR (gO K) (aR (gO K) aA (aR v_mul aA (pv 1))) (aR v_mul (aR v_mul aA (pv 1)) (pv 1)))) (pv 1)) aA))
   (ao (aQ (i:=2) w6.nd rfl (Or.inl rfl) (aR dW (aR v_mul (pv 2) (pv 2)) aA))
   (aJ (bw (aR pZ (aR dW (aR v_mul (pv 2) (aR (gO K) (aR (gO K) (pv 2) (pv 1)) aA)) aA) aA))))),?_⟩
  have b1:0<=c%2147483629:=dF _ (by decide);have b2:c%2147483629<2147483629:=dD _ (by decide);refine⟨_,rfl,_,_,rfl,rfl,(by decide:(0:Int)<2147483629),?_⟩;refine⟨_,rfl,mulL (by decide) (by decide),_,rfl,mulL (by decide) (by decide),_,rfl,mulR (by omega) (by omega),?_⟩;refine⟨mulL (by show -(2^64)<c%2147483629+1;omega) (by show c%2147483629+1<2^64;omega),_,rfl,_,_,rfl,rfl,(by decide:(0:Int)<2147483647),?_⟩;dsimp only;have m0:=dF ((c%2147483629+1)*(48271+69621*k+2*k*k)+k) (show(0:Int)<2147483647 by decide);have m1:=dD ((c%2147483629+1)*(48271+69621*k+2*k*k)+k) (show(0:Int)<2147483647 by decide);generalize hy:((c%2147483629+1)*(48271+69621*k+2*k*k)+k)%2147483647=y at m0 m1;refine⟨_,rfl,_,rfl,mulL (by omega) (by omega),_,_,rfl,rfl,(by decide:(0:Int)<2147483629),?_⟩;dsimp only;have n0:=dF (y*y) (show(0:Int)<2147483629 by decide);have n1:=dD (y*y) (show(0:Int)<2147483629 by decide);generalize hz:y*y%2147483629=z at n0 n1;refine⟨_,rfl,_,rfl,_,rfl,mulL (by omega) (by omega),_,_,rfl,rfl,(by decide:(0:Int)<2147483587),_,_,rfl,rfl,⟨by decide,by decide⟩,?_⟩;have l0:=dF (z*(z+k+1)) (show(0:Int)<2147483587 by decide);have l1:=dD (z*(z+k+1)) (show(0:Int)<2147483587 by decide);generalize hw:z*(z+k+1)%2147483587=w at l0 l1;exact q _ (by omega) ⟨by omega,by unfold Xk Nq Px;rw[hy,hz,hw]⟩
theorem CJ(B:Bt mg)(F:Fn K mg "_law_taken" uf ["_law_by","_law_number"])(M:Ms K mg base aL aN aF aV aP aB aM aO aq):Cal P w K mg base "_law_taken" 1 ["_law_by","_law_number"] dM:=by
 refine F.cal Bj (fun vs H Q E h=>?_) (fun f cdv A outer s H vs Q E hr h=>?_)
 ·obtain⟨b,n,rfl,_⟩:=h;rfl
 ·obtain⟨b,n,rfl,h0,q⟩:=h;refine⟨_,(ao (iU (bW (xeq K hr) (pv 0) aA (bY _))
   (aJ (bw (pv 1)))
   cR)
   (aJ (bw (aR dW (pv 1) (pv 0))))),?_⟩
  refine⟨_,rfl,_,rfl,?_⟩;refine lX (fun c=>?_) (fun c=>?_)
  ·refine⟨_,rfl,?_⟩;have c':b=0:=dec_true c;have e:Rm.tk b n=n:=by rw[c',Rm.bK]
   rw[e]at q;exact q
  ·have c':¬b=0:=dec_false c;refine⟨_,rfl,_,rfl,_,_,rfl,rfl,(by omega:(0:Int)<b),?_⟩;rw[Rm.fB c']at q;exact q
theorem rm(B:Bt mg)(F:Fn K mg "_law_one_number" jG ["_law_by","_law_cell","_law_k"])(M:Ms K mg base aL aN aF aV aP aB aM aO aq)(fu:Cal P w K mg base "_law_mix" 1 ["_law_cell","_law_k"] yH)(dZ:Cal P w K mg base "_law_taken" 1 ["_law_by","_law_number"] dM):Cal P w K mg base "_law_one_number" 2 ["_law_by","_law_cell","_law_k"] DL:=by
 refine F.cal iT (fun vs H Q E h=>?_) (fun f cdv A outer s H vs Q E hr h=>?_)
 ·obtain⟨b,c,k,rfl,_⟩:=h;rfl
 ·obtain⟨b,c,k,rfl,hb,hc,h0,h1,q⟩:=h;refine⟨_,(ao (aQ (i:=3) iT.nd rfl (Or.inl rfl) (aR cA (aR (gO K) (aR dW (aR v_mul (aR (gO K) (pv 1) aA) (aR Bx (aR (gO K) (pv 2) aA) aA)) (aR cA (aR v_mul aA (aR Bx aA aA)) aA)) aA) (aR Bx aA aA)))
   (ao (aQ (i:=4) iT.nd rfl (Or.inl rfl) (bF (xix K) (cN (cX aA (cX aA (MR (CF vp aA) (cX aA (cX aA (MR (CF vp aA) (cX aA (cX aA (cX aA (cX aA ak))))))))))) (aR dW (aC fu hr rfl (aW (pv 1) (mR (aR (gO K) aA (pv 2)) ak))) aA) (fun _ _=>rfl)))
   (aJ (bw (aC dZ hr rfl (aW (pv 0) (aK (bF (xix K) (cN (aW (pv 4) (aW (pv 3) ak))) (bJ ji rfl B.b_int boot_int (aK (SD (jf qD (pv 0) aA (bY _)) (GV (KN (jf qD (pv 2) aA (bY _)) (GV (jf (xeq K hr) (aR dW (aC fu hr rfl (aW (pv 1) (mR (aR (gO K) aA (pv 2)) ak))) aA) aA (bY _)))))) ak)) (fun _ _=>rfl)) ak))))))),?_⟩
  have hp7:Rm.Bd (6*7+1) ((k+3)^7):=Gn (Rm.Bd.of (by omega) (by omega)) 7;refine⟨_,rfl,_,rfl,_,_,rfl,rfl,⟨by decide,by decide,by show(k+3).natAbs<2^64;omega⟩,oU (m:=1048577) (n:=43) (Rm.Bd.add hc ((Rm.Bd.of (n:=1) (by decide) (by decide)).mono (by decide))) hp7 (by decide),?_⟩;refine⟨_,_,rfl,rfl,⟨by decide,by decide,by decide⟩,mulL (by decide) (by decide),_,_,rfl,rfl,_,_,rfl,rfl,(by decide:(0:Int)<2*10^(9:Int).toNat-1),?_⟩;refine⟨_,_,rfl,rfl,⟨by decide,by decide,by decide⟩,_,_,rfl,rfl,?_⟩;dsimp only;have f0:=dF ((c+1)*(k+3)^(7:Int).toNat) (show(0:Int)<2*10^(9:Int).toNat-1 by decide);have f1:=dD ((c+1)*(k+3)^(7:Int).toNat) (show(0:Int)<2*10^(9:Int).toNat-1 by decide);have ef:(2*10^(9:Int).toNat-1:Int)=1999999999:=by decide
  have eg:(10^(9:Int).toNat:Int)=1000000000:=by decide
  generalize hfar:(c+1)*(k+3)^(7:Int).toNat%(2*10^(9:Int).toNat-1)+1-10^(9:Int).toNat=far;have bfar:Rm.Bd 31 far:=by
   rw[ef]at f0 f1 hfar;rw[eg]at hfar;generalize (c+1)*(k+3)^(7:Int).toNat%1999999999=w at f0 f1 hfar;exact Rm.Bd.of (by omega) (by omega)
  clear f0 f1 hfar;refine⟨_,rfl,_,rfl,(by show 10<=sizeLine;decide),fun p hp=>?_⟩;refine⟨_,rfl,_,rfl,c,20+k,rfl,by omega,by omega,fun x x0 x1=>?_⟩;have e0:=dF x (show(0:Int)<10 by decide);have e1:=dD x (show(0:Int)<10 by decide);refine⟨_,_,rfl,rfl,(by decide:(0:Int)<10),_,_,.inl (SqL.of au),bH (ns:=yW) e0 e1,?_⟩;have bs:=Dl (x%10).toNat (by omega);generalize yW.getD (x%10).toNat 0=sm at bs;have bsm:Rm.Bd 3 sm:=Rm.Bd.of (by omega) (by omega);have g1:=Same.new hp (.lst ([.int 0,.int 1,.int (-1),.int 2,.int 1,.int (-2),.int 3,.int 0,.int 1,.int 5]));generalize upd H p (.lst ([.int 0,.int 1,.int (-1),.int 2,.int 1,.int (-2),.int 3,.int 0,.int 1,.int 5]))=H1 at g1;refine⟨_,rfl,_,rfl,_,rfl,(by show 2<=sizeLine;decide),fun p2 hp2=>?_⟩;have g2:=Same.new hp2 (.lst [.int sm,.int far]);have g12:=g1.trans g2;have hL:(upd H1 p2 (.lst [.int sm,.int far])) p2=some (.lst ([sm,far].map V.int)):=au;generalize upd H1 p2 (.lst [.int sm,.int far])=H2 at g2 g12 hL;have fin:∀t:Bool,(t=true->b≠0∨15<=k)->∃v,atI ([sm,far].map V.int) (if t=true then 1 else 0)=some (.int v)/\Q (.int (Rm.tk b v)) H2:=fun t ht=>by
   cases t
   ·exact⟨_,bH (ns:=[sm,far]) (by decide) (by show(0:Int)<2;decide),q _ _ g12 (jo hb.lo _) (kZ hb (by decide) (bsm.mono (by decide))) fun _=>⟨kZ hb (by decide) (bsm.mono (by decide)),fun z=>by rw[z,Rm.bK];exact bsm⟩⟩
   ·refine⟨_,bH (ns:=[sm,far]) (by decide) (by show(1:Int)<2;decide),q _ _ g12 (jo hb.lo _) (kZ hb (by decide) bfar) fun h15=>?_⟩;rcases ht rfl with z|z
    ·exact⟨uQ hb (by decide) z (jo hb.lo _),fun y=>absurd y z⟩
    ·omega
  have fT:∀h,∃v,atI ([sm,far].map V.int) 1=some (.int v)/\Q (.int (Rm.tk b v)) H2:=fun h=>fin true fun _=>h;refine⟨_,rfl,_,_,rfl,rfl,_,rfl,?_⟩;refine lX (fun cb=> .inr ⟨_,rfl,?_⟩) (fun _=>?_)
  ·have hb7:b≠0∨15<=k:= .inl (by have:=dec_true cb;omega);exact⟨_,_,.inl (SqL.of hL),(fT hb7).choose_spec.1,b,_,rfl,hb.lo,(fT hb7).choose_spec.2⟩
  refine⟨_,rfl,_,_,rfl,rfl,_,rfl,?_⟩;refine lX (fun ck=>?_) (fun _=> .inr ⟨_,rfl,_,_,.inl (SqL.of hL),(fin false (fun z=>nomatch z)).choose_spec.1,b,_,rfl,hb.lo,(fin false (fun z=>nomatch z)).choose_spec.2⟩);have hk15:b≠0∨15<=k:= .inr (by have:=dec_true ck;omega);refine⟨_,rfl,_,rfl,c,50+k,rfl,by omega,by omega,fun x2 _ _=>?_⟩;refine⟨_,_,rfl,rfl,(by decide:(0:Int)<7),?_⟩;exact .inr ⟨_,rfl,_,_,.inl (SqL.of hL),(fin _ fun _=>hk15).choose_spec.1,b,_,rfl,hb.lo,(fin _ fun _=>hk15).choose_spec.2⟩
theorem Aa(B:Bt mg)(F:Fn K mg "_law_places" qH ["_law_row","_law_count"])(M:Ms K mg base aL aN aF aV aP aB aM aO aq)(dZ:Cal P w K mg base "_law_taken" 1 ["_law_by","_law_number"] dM):Cal P w K mg base "_law_places" 2 ["_law_row","_law_count"] uU:=by
 refine F.cal gU (fun vs H Q E h=>?_) (fun f cdv A outer s H vs Q E hr h=>?_)
 ·obtain⟨v,r,c,rfl,_⟩:=h;rfl
 ·obtain⟨v,r,c,rfl,⟨a,p,p2,rfl,hA,hR,hS⟩,ok,hc0,hc1,q⟩:=h;refine⟨_,(ao (oF (pv 0) (Ej K (n:=3) rfl (fV (bG (i:=2) gU.nd rfl (Or.inl rfl)) (fV (bG (i:=3) gU.nd rfl (Or.inr rfl)) (fV (bG (i:=4) gU.nd rfl (Or.inl rfl)) sX)))))
   (ao (aQ (i:=5) gU.nd rfl (Or.inr rfl) (Ce (bJ (xlist K) rfl B.b_list boot_list (aK (oW (xsl K) (pv 4) uc (tW (pv 1))) ak))))
   (ao (iM PassesOwn.never (bW zQ (aU (jy K) rfl B.b_len boot_len (aW (pv 5) ak)) (pv 1) (bY _))
   (ao (aQ (i:=6) gU.nd rfl (Or.inl rfl) (aU (M4 K rfl) rfl B.b_sum boot_sum (aK (d9 (sc:=v7) (N:=["_law_k","_law_found","_law_rule"]) (ix:=[none,some 5,some 3]) (dB (by kernel_rfl) (by kernel_rfl) (by kernel_rfl) (by kernel_rfl) (by kernel_rfl) (by kernel_rfl) (by kernel_rfl) (by kernel_rfl)) rfl (cg rfl B.b_range (aK (aU (jy K) rfl B.b_len boot_len (aW (pv 3) ak)) ak)) (fun cl C s₀ H₀ ex=>⟨(bG (i:=0) (show(["_law_k","_law_found","_law_rule"]:List Str).Nodup by decide +kernel) rfl (Or.inl rfl)),dz,(aR v_mul (bF (xix K) (pv 2) (pv 0) (fun _ _=>rfl)) (bF (xix K) (pv 1) (aR cA (CF vp aA) (pv 0)) (fun _ _=>rfl)))⟩)) ak)))
   (aJ (iB (jX K (pv 5) (aC dZ hr rfl (aW (pv 2) (aW (pv 6) ak))))))))
   (aJ (bw (pv 5)))))),?_⟩
  have hl:=ok.len;have hl2:=ok.short;have lS:(r.starts.map V.int).length=r.starts.length:=List.length_map _;have lR:(r.rule.map V.int).length=r.rule.length:=List.length_map _;refine⟨_,rfl,a,_,rfl,SqT.of hA,rfl,_,_,rfl,_,_,rfl,_,_,rfl,rfl,?_⟩;have hcut:vU (r.starts.map V.int) none (some c)=(r.row (min c.toNat r.starts.length)).map V.int:=by
   have e:r.row (min c.toNat r.starts.length)=r.starts.take (min c.toNat r.starts.length):=Rm.jl (Nat.min_le_right _ _);rw[e];have e2:c=((c.toNat:Nat):Int):=by omega
   unfold vU;rw[e2,HT.jM,HT.gM,List.drop_zero,Nat.sub_zero,lS,List.map_take,Int.toNat_natCast]
  refine Bar.by (fun v H1=>∃l,v = .ref l/\Same H H1/\H l=none/\H1 l=some (.lst ((r.row (min c.toNat r.starts.length)).map V.int))) (fun kk hkk=>?_) ?_
  ·refine⟨_,rfl,_,rfl,_,rfl,?_⟩;by_cases hw:r.starts.length<=c.toNat
   ·refine .inr (.inr ⟨_,SqT.of hS,?_,?_⟩)
    ·have e2:c=((c.toNat:Nat):Int):=by omega
     rw[e2,HT.jM,HT.gM,lS];omega
    ·refine⟨p2,_,rfl,.inr (SqT.of hS),fun l hl1=>hkk _ _ ⟨l,rfl,Same.new hl1 _,hl1,?_⟩⟩;rw[au,Nat.min_eq_right hw];have e:r.row r.starts.length=r.starts:=(Rm.jl (Nat.le_refl _)).trans (List.take_length ..);rw[e]
   ·refine .inr (.inl ⟨_,SqT.of hS,?_,fun p3 hp3=>?_⟩)
    ·have e2:c=((c.toNat:Nat):Int):=by omega
     rw[e2,HT.jM,HT.gM,lS];omega
    ·refine⟨p3,_,rfl,.inr (SqT.of au),fun l hl1=>?_⟩;have g3:=Same.new hp3 (.tup (vU (r.starts.map V.int) none (some c)));refine hkk _ _ ⟨l,rfl,g3.trans (Same.new hl1 _),g3.free hl1,?_⟩;rw[au,hcut]
  rintro v H1 ⟨l,rfl,g1,hl1,hr1⟩;refine⟨fun m σ' H'=>∃(n:Nat) (o6:Option V),m=c.toNat-n/\min c.toNat r.starts.length<=n/\n<=c.toNat/\σ'=[some (.ref a),some (.int c),some (.int r.b),some (.ref p),some (.ref p2),some (.ref l),o6]/\Same H H'/\H' l=some (.lst ((r.row n).map V.int)),
   ⟨_,min c.toNat r.starts.length,_,rfl,Nat.le_refl _,Nat.min_le_left _ _,rfl,g1,hr1⟩,?_⟩
  rintro m σ' H' ⟨n,o6,rfl,h1,h2,rfl,g,hL⟩;have lL:((r.row n).map V.int).length=n:=by rw[List.length_map,Rw.eG]
  have lN:(r.row n).length=n:=Rw.eG ..;refine⟨_,rfl,.ref l,n,rfl,.inl ⟨_,SqL.of hL,lL.symm⟩,_,rfl,_,_,rfl,rfl,_,rfl,?_⟩;refine lX (fun cc=>?_) (fun cc=>?_)
  ·have hn:n<c.toNat:=by have:=dec_true cc;omega
   refine⟨_,fun _ _ z=>z,?_⟩;refine⟨_,rfl,.ref p,r.rule.length,rfl,.inr ⟨_,SqT.of (g _ _ hR),lR.symm⟩,?_⟩;refine⟨(r.rule.length:Int),rfl,(by omega:-(2^62)<=(r.rule.length:Int)),(by omega:(r.rule.length:Int)<2^62),?_⟩;rw[Int.toNat_natCast];refine oY (n:=r.rule.length) (by omega) rfl (fun k=>r.rule.getD k 0*(r.row n).getD (n-1-k) 0) ?_ ?_
   ·intro H2 k g2 hk kk hkk;refine⟨_,rfl,_,rfl,_,_,.inr (SqT.of (g2 _ _ (g _ _ hR))),bH (ns:=r.rule) (by omega:(0:Int)<=0+(k:Int)) (by omega),?_⟩;refine⟨_,rfl,_,rfl,_,rfl,_,_,rfl,rfl,_,_,.inl (SqL.of (g2 _ _ hL)),EW (ns:=r.row n) (n-1-k) (by omega) (by rw[lN];omega),?_⟩;refine⟨oU (Rm.Bd.getD ok.ruleBd _) (Rm.Bd.getD (ok.Fz n (by omega)) _) (by decide),?_⟩;rw[show(0+(k:Int)).toNat=k by omega];exact hkk
   ·intro D hD;have gD:=Same.new hD (.lst ((Pm.ofF r.rule.length fun k=>r.rule.getD k 0*(r.row n).getD (n-1-k) 0).map V.int));refine⟨D,_,rfl,SqL.of au,?_⟩;have es:(Pm.ofF r.rule.length fun k=>r.rule.getD k 0*(r.row n).getD (n-1-k) 0).sum=Rm.S r.rule (fun i=>(r.row n).getD i 0) n r.rule.length:=LX r.rule (fun i=>(r.row n).getD i 0) n r.rule.length;rw[es];have hL3:=gD _ _ hL;generalize upd H' D (.lst ((Pm.ofF r.rule.length fun k=>r.rule.getD k 0*(r.row n).getD (n-1-k) 0).map V.int))=H3 at gD hL3;refine⟨_,rfl,.inl ⟨rfl,_,SqL.of hL3⟩,_,rfl,_,rfl,r.b,_,rfl,ok.by0,?_⟩;refine⟨l,_,_,rfl,rfl,hL3,?_,?_⟩
    ·rw[lL];exact bQ (by omega)
    ·refine⟨c.toNat-(n+1),by omega,n+1,_,rfl,by omega,by omega,rfl,(g.trans gD).upd hl1 _,?_⟩;rw[au];have e:r.row (n+1)=r.row n++[Rm.tk r.b (Rm.S r.rule (fun i=>(r.row n).getD i 0) n r.rule.length)]:=by
      show _++[if n<r.starts.length then r.starts.getD n 0 else _]=_;rw[if_neg (by omega)];rfl
     rw[e,List.map_append];rfl
  ·have hn:n=c.toNat:=by have:=dec_false cc;omega
   subst hn;exact⟨_,rfl,q l H' g hl1 hL⟩
theorem qm(B:Bt mg)(F:Fn K mg "_law_made_longer" iZ ["_law_row","_law_number"])(M:Ms K mg base aL aN aF aV aP aB aM aO aq)(pG:Cal P w K mg base "_law_places" 2 ["_law_row","_law_count"] uU)(dZ:Cal P w K mg base "_law_taken" 1 ["_law_by","_law_number"] dM):Cal P w K mg base "_law_made_longer" 3 ["_law_row","_law_number"] yL:=by
 refine F.cal cH (fun vs H Q E h=>?_) (fun f cdv A outer s H vs Q E hr h=>?_)
 ·obtain⟨b,m,r0,s,v,r,n,rfl,_⟩:=h;rfl
 ·obtain⟨b,m,r0,s',v,r,n,rfl,hRI,hb,h0,ok,hs,hsh,hn,q⟩:=h;refine⟨_,(ao (oF (pv 0) (Ej K (n:=3) rfl (fV (bG (i:=2) cH.nd rfl (Or.inr rfl)) (fV (bG (i:=3) cH.nd rfl (Or.inl rfl)) (fV (bG (i:=4) cH.nd rfl (Or.inl rfl)) sX)))))
   (ao (aQ (i:=5) cH.nd rfl (Or.inl rfl) (aC pG hr rfl (aW (pv 0) (mR (aR (gO K) (aU (jy K) rfl B.b_len boot_len (aW (pv 3) ak)) aA) ak))))
   (ao (aQ (i:=6) cH.nd rfl (Or.inl rfl) (aR (gO K) (cN (aW (pv 1) ak)) (aR v_mul (cN (cX aA ak)) (aU (jy K) rfl B.b_len boot_len (aW (pv 3) ak)))))
   (ao (j4 PassesOwn.never rfl (cg rfl B.b_range (aK (aU (jy K) rfl B.b_len boot_len (aW (pv 3) ak)) ak)) (bG (i:=7) cH.nd rfl (Or.inl rfl))
   (ao (oF (aR (gO K) (bF (xix K) (pv 6) (pv 7) (fun _ _=>rfl)) (bF (xix K) (pv 3) (pv 7) (fun _ _=>rfl))) (vd (pv 6) (pv 7) set_list))
   (aJ (oF (aR cA (bF (xix K) (pv 6) (aR (gO K) (pv 7) aA) (fun _ _=>rfl)) (aR v_mul (pv 1) (bF (xix K) (pv 3) (pv 7) (fun _ _=>rfl)))) (vd (pv 6) (aR (gO K) (pv 7) aA) set_list)))))
   (aJ (bw (dU (aW (pv 2) (aK (bJ (ig K) rfl B.b_tuple boot_tuple (aK (d9 (sc:=oN) (N:=["_law_one","_law_by"]) (ix:=[none,some 2]) (dB (by kernel_rfl) (by kernel_rfl) (by kernel_rfl) (by kernel_rfl) (by kernel_rfl) (by kernel_rfl) (by kernel_rfl) (by kernel_rfl)) rfl (Ie K (pv 6)) (fun cl C s₀ H₀ ex=>⟨(bG (i:=0) (show(["_law_one","_law_by"]:List Str).Nodup by decide +kernel) rfl (Or.inl rfl)),dz,(aC dZ hr rfl (aW (pv 1) (aW (pv 0) ak)))⟩)) ak)) (aK (bJ (ig K) rfl B.b_tuple boot_tuple (aW (pv 5) ak)) ak)))))))))),?_⟩
  obtain⟨a,p,p2,rfl,hA,hR,hS⟩:=id hRI;have hO:=ok.ok hb h0 (by omega);have eb:=ok.by_;have lR:(r.rule.map V.int).length=r.rule.length:=List.length_map _;refine⟨_,rfl,a,_,rfl,SqT.of hA,rfl,_,_,rfl,_,_,rfl,_,_,rfl,rfl,?_⟩;refine⟨_,rfl,_,rfl,.ref p,r.rule.length,rfl,.inr ⟨_,SqT.of hR,lR.symm⟩,.ref a,r,(r.rule.length:Int)+1,rfl,hRI,hO.w (by omega),by omega,by omega,fun l1 H1 g1 hl1 h1=>?_⟩;rw[show((r.rule.length:Int)+1).toNat=r.rule.length+1 by omega]at h1;refine⟨_,rfl,(by show 1<=sizeLine;decide),fun l2 hl2=>?_⟩;have g2:=Same.new hl2 (.lst [.int n]);refine⟨(by show 1<=sizeLine;decide),fun l3 hl3=>?_⟩;have g3:=Same.new hl3 (.lst [.int 0]);have h2:(upd (upd H1 l2 (.lst [.int n])) l3 (.lst [.int 0])) l2=some (.lst [.int n]):=g3 _ _ au;have h3:(upd (upd H1 l2 (.lst [.int n])) l3 (.lst [.int 0])) l3=some (.lst [.int 0]):=au;have g13:=g2.trans g3;generalize upd (upd H1 l2 (.lst [.int n])) l3 (.lst [.int 0])=H3 at g13 h2 h3;refine⟨_,rfl,.ref p,r.rule.length,rfl,.inr ⟨_,SqT.of (g13 _ _ (g1 _ _ hR)),lR.symm⟩,?_⟩;refine⟨_,h3,by omega,by omega,?_,fun l4 hl4=>?_⟩
  ·show 1*(r.rule.length:Int).toNat<=sizeLine;rw[Nat.one_mul];exact Nat.le_of_lt (bQ (by omega))
  rw[show(r.rule.length:Int).toNat=r.rule.length from Int.toNat_natCast _,gJ];have g4:=Same.new hl4 (.lst ((Pm.ofF r.rule.length fun _=>0).map V.int));have h2':=g4 _ _ h2;have h4:(upd H3 l4 (.lst ((Pm.ofF r.rule.length fun _=>0).map V.int))) l4=some (.lst ((Pm.ofF r.rule.length fun _=>0).map V.int)):=au;have g14:=g13.trans g4;generalize upd H3 l4 (.lst ((Pm.ofF r.rule.length fun _=>0).map V.int))=H4 at g4 g14 h2' h4;refine .inl ⟨_,_,h2',h4,?_,fun l5 hl5=>?_⟩
  ·rw[List.length_map,Pm.aZ];exact Nat.le_of_lt (bQ (by show 1+_<=1000;omega))
  have g5:=Same.new hl5 (.lst ([.int n]++(Pm.ofF r.rule.length fun _=>0).map V.int));have e5:([.int n]++(Pm.ofF r.rule.length fun _=>0).map V.int:List V)=(dG n r.rule 0).map V.int:=by rw[zJ,List.map_append];rfl
  have h5:(upd H4 l5 (.lst ([.int n]++(Pm.ofF r.rule.length fun _=>0).map V.int))) l5=some (.lst ((dG n r.rule 0).map V.int)):=by rw[au,e5]
  have g15:=g1.trans (g14.trans g5);have f5:H l5=none:=(g1.trans g14).free hl5;have f51:H1 l5=none:=g14.free hl5;have g15':=g14.trans g5;generalize upd H4 l5 (.lst ([.int n]++(Pm.ofF r.rule.length fun _=>0).map V.int))=H5 at g5 h5 g15 g15';refine⟨_,rfl,.ref p,r.rule.length,rfl,.inr ⟨_,SqT.of (g15 _ _ hR),lR.symm⟩,?_⟩;refine⟨(r.rule.length:Int),rfl,(by omega:-(2^62)<=(r.rule.length:Int)),(by omega:(r.rule.length:Int)<2^62),?_⟩;refine eX (lo:=0) (n:=(r.rule.length:Int).toNat) (fun i σ' H'=>∃o7,σ'=[some (.ref a),some (.int n),some (.int r.b),some (.ref p),some (.ref p2),some (.ref l1),some (.ref l5),o7]/\Same H H'/\Same H1 H'/\H' l5=some (.lst ((dG n r.rule i).map V.int))) ⟨_,rfl,g15,g15',h5⟩ ?_ ?_
  ·rintro i σ' H' hi ⟨o7,rfl,g,gg,hL⟩;have hi':i<r.rule.length:=by omega
   have e1:(0+(i:Int)).toNat=i:=by omega
   have e2:(0+(i:Int)+1).toNat=i+1:=by omega
   have lL:(dG n r.rule i).length=r.rule.length+1:=cF ..;refine⟨_,rfl,_,rfl,_,_,.inl (SqL.of hL),bH (ns:=dG n r.rule i) (by omega:(0:Int)<=0+(i:Int)) (by omega),?_⟩;refine⟨_,rfl,_,rfl,_,_,.inr (SqT.of (g _ _ hR)),bH (ns:=r.rule) (by omega:(0:Int)<=0+(i:Int)) (by omega),?_⟩;refine⟨_,rfl,_,rfl,l5,_,_,i,rfl,rfl,hL,vO (by omega) (by rw[List.length_map];omega),?_⟩;rw[iD,e1];have gu:=g.upd f5 (.lst (((dG n r.rule i).set i ((dG n r.rule i).getD i 0+r.rule.getD i 0)).map V.int));have ggu:=gg.upd f51 (.lst (((dG n r.rule i).set i ((dG n r.rule i).getD i 0+r.rule.getD i 0)).map V.int));have hL2:(upd H' l5 (.lst (((dG n r.rule i).set i ((dG n r.rule i).getD i 0+r.rule.getD i 0)).map V.int))) l5=some (.lst (((dG n r.rule i).set i ((dG n r.rule i).getD i 0+r.rule.getD i 0)).map V.int)):=au;generalize upd H' l5 (.lst (((dG n r.rule i).set i ((dG n r.rule i).getD i 0+r.rule.getD i 0)).map V.int))=H6 at gu ggu hL2;refine⟨_,rfl,_,rfl,_,_,.inl (SqL.of hL2),bH (ns:=(dG n r.rule i).set i ((dG n r.rule i).getD i 0+r.rule.getD i 0)) (by omega:(0:Int)<=0+(i:Int)+1) (by rw[List.length_set];omega),?_⟩;refine⟨_,rfl,_,rfl,_,rfl,_,_,.inr (SqT.of (gu _ _ hR)),bH (ns:=r.rule) (by omega:(0:Int)<=0+(i:Int)) (by omega),?_⟩;refine⟨oU hn (Rm.Bd.getD hO.ruleBd _) (by decide),_,_,rfl,rfl,?_⟩;refine⟨_,rfl,_,rfl,l5,_,_,i+1,rfl,rfl,hL2,vO (by omega) (by rw[List.length_map,List.length_set];omega),?_⟩;rw[iD,e1,e2];refine⟨_,rfl,gu.upd f5 _,ggu.upd f51 _,?_⟩;rw[au,<-Aq hi'];rfl
  ·rintro σ' H' ⟨o7,rfl,g,gg,hL⟩;rw[Int.toNat_natCast]at hL;have lL:(dG n r.rule r.rule.length).length=r.rule.length+1:=cF ..;refine⟨_,rfl,_,rfl,l5,rfl,.inl ⟨⟨_,SqL.of hL⟩,?_⟩⟩;refine Fb hL (by omega) rfl (fun x=>Rm.tk r.b x) ?_ ?_
   ·intro H2 x g2 hx k hk;exact⟨_,rfl,_,rfl,r.b,x,rfl,hO.by0,hk⟩
   ·intro D hD;have gD:=Same.new hD (.lst (((dG n r.rule r.rule.length).map fun x=>Rm.tk r.b x).map V.int));refine⟨D,_,rfl,.inl ⟨SqL.of au,fun t1 ht1=>?_⟩⟩;have gt1:=Same.new ht1 (.tup (((dG n r.rule r.rule.length).map fun x=>Rm.tk r.b x).map V.int));refine⟨_,rfl,l1,_,rfl,.inl ⟨SqL.of (gt1 _ _ (gD _ _ (gg _ _ h1))),fun t2 ht2=>?_⟩⟩;have gt2:=Same.new ht2 (.tup ((r.row (r.rule.length+1)).map V.int));refine⟨(by show 3<=sizeLine;decide),fun t3 ht3=>?_⟩;have gt3:=Same.new ht3 (.tup [.int r.b,.ref t1,.ref t2]);have fin:=ok.longer hb h0 (by omega) hsh hn;rw[<-eb]at fin;refine q _ ⟨r.b,(dG n r.rule r.rule.length).map (Rm.tk r.b),r.row (r.rule.length+1)⟩ _ (g.trans (gD.trans (gt1.trans (gt2.trans gt3)))) ⟨t3,t1,t2,rfl,au,gt3 _ _ (gt2 _ _ au),gt3 _ _ au⟩ (by rw[<-eb];exact fin) (by show((dG n r.rule r.rule.length).map (Rm.tk r.b)).length=_;rw[List.length_map,cF])
theorem sJ(B:Bt mg)(F:Fn K mg "_law_drawn_row" jY ["_law_script","_law_start","_law_by","_law_most"])(M:Ms K mg base aL aN aF aV aP aB aM aO aq)(eN:Cal P w K mg base "_law_cell_at" 1 ["_law_script","_law_k"] (wN K))(fu:Cal P w K mg base "_law_mix" 1 ["_law_cell","_law_k"] yH)(cW:Cal P w K mg base "_law_one_number" 2 ["_law_by","_law_cell","_law_k"] DL)(je:Cal P w K mg base "_law_made_longer" 3 ["_law_row","_law_number"] yL)(dZ:Cal P w K mg base "_law_taken" 1 ["_law_by","_law_number"] dM):Cal P w K mg base "_law_drawn_row" 4 ["_law_script","_law_start","_law_by","_law_most"] (B4 K):=by
 refine F.cal cL (fun vs H Q E h=>?_) (fun f cdv A outer s H vs Q E hr h=>?_)
 ·obtain⟨a,ns,st,b,m,rfl,_⟩:=h;rfl
 ·obtain⟨a,ns,st,b,m,rfl,hS,s0,s1,hB,hb,m0,m1,q⟩:=h;refine⟨_,(ao (aQ (i:=4) cL.nd rfl (Or.inl rfl) (aC eN hr rfl (aW (pv 0) (aW (pv 1) ak))))
   (ao (aQ (i:=5) cL.nd rfl (Or.inl rfl) (aR dW (aC fu hr rfl (aW (pv 4) (cX aA ak))) (aR (gO K) (pv 3) aA)))
   (ao (aQ (i:=6) cL.nd rfl (Or.inr rfl) (aC eN hr rfl (aW (pv 0) (mR (aR (gO K) (pv 1) aA) ak))))
   (ao (aQ (i:=7) cL.nd rfl (Or.inl rfl) (bJ (ig K) rfl B.b_tuple boot_tuple (aK (d9 (sc:=rC) (N:=["_law_k","_law_by","_law_mine"]) (ix:=[none,some 2,some 6]) (dB (by kernel_rfl) (by kernel_rfl) (by kernel_rfl) (by kernel_rfl) (by kernel_rfl) (by kernel_rfl) (by kernel_rfl) (by kernel_rfl)) rfl (cg rfl B.b_range (aW (pv 5) ak)) (fun cl C s₀ H₀ ex=>⟨(bG (i:=0) (show(["_law_k","_law_by","_law_mine"]:List Str).Nodup by decide +kernel) rfl (Or.inl rfl)),dz,(aC cW hr rfl (aW (pv 1) (aW (pv 2) (aW (pv 0) ak))))⟩)) ak)))
   (ao (aQ (i:=9) cL.nd rfl (Or.inl rfl) (dU (aW (pv 2) (aW (pv 7) (aK (bJ (ig K) rfl B.b_tuple boot_tuple (aK (d9 (sc:=rA) (N:=["_law_k","_law_by","_law_mine"]) (ix:=[none,some 2,some 6]) (dB (by kernel_rfl) (by kernel_rfl) (by kernel_rfl) (by kernel_rfl) (by kernel_rfl) (by kernel_rfl) (by kernel_rfl) (by kernel_rfl)) rfl (cg rfl B.b_range (aW (pv 5) ak)) (fun cl C s₀ H₀ ex=>⟨(bG (i:=0) (show(["_law_k","_law_by","_law_mine"]:List Str).Nodup by decide +kernel) rfl (Or.inl rfl)),dz,(aC cW hr rfl (aW (pv 1) (aW (pv 2) (mR (aR (gO K) aA (pv 0)) ak))))⟩)) ak)) ak)))))
   (ao (j4 PassesOwn.never rfl (cg rfl B.b_range (aK (bF (xix K) (cN (cX aA (cX aA (cX aA (cX aA (cX aA (cX aA (cX aA (cX aA ak))))))))) (aR dW (aC fu hr rfl (aW (pv 4) (cX aA ak))) aA) (fun _ _=>rfl)) ak)) (bG (i:=8) cL.nd rfl (Or.inl rfl))
   (aJ (yU (iU (bW zQ (aU (jy K) rfl B.b_len boot_len (aK (bF (xix K) (pv 9) aA (fun _ _=>rfl)) ak)) aA (bY _))
   (aJ (aQ (i:=9) cL.nd rfl (Or.inl rfl) (aC je hr rfl (aW (pv 9) (aK (aC dZ hr rfl (aW (pv 2) (mR (aR cA (aR dW (aC fu hr rfl (aW (pv 4) (mR (aR (gO K) aA (pv 8)) ak))) aA) aA) ak))) ak)))))
   cR))))
   (aJ (bw (pv 9))))))))),?_⟩
  refine⟨_,rfl,_,rfl,a,ns,st,rfl,hS,s0,by omega,hB,fun c hc=>?_⟩;refine⟨_,rfl,c,2,rfl,by decide,by decide,fun x x0 x1=>?_⟩;refine⟨_,rfl,_,_,rfl,rfl,(by show 0<m+1;omega),?_⟩;have k0:=dF x (show 0<m+1 by omega);have k1:=dD x (show 0<m+1 by omega);dsimp only;generalize x%(m+1)=sz at k0 k1;refine⟨_,rfl,_,rfl,a,ns,st+1,rfl,hS,by omega,by omega,hB,fun c2 hc2=>?_⟩;obtain⟨N,rfl⟩:∃N:Nat,sz=(N:Int):=⟨sz.toNat,by omega⟩;refine⟨_,rfl,N,rfl,(by omega:-(2^62)<=(N:Int)),(by omega:(N:Int)<2^62),?_⟩;rw[Int.toNat_natCast];refine ql (n:=N) (by omega) rfl (fun x=>jh b x/\Rm.Bd 13 x) ?_ ?_
  ·intro H2 k g2 hk kk hkk;exact⟨_,rfl,_,rfl,_,rfl,b,c2,0+(k:Int),rfl,hb,hc2,by omega,by omega,fun x H3 g3 h1 _ h2=>hkk x H3 g3 ⟨h1,(h2 (by omega)).1⟩⟩
  intro D H1 rule hD g1 hD1 lr hr;refine⟨D,_,rfl,.inl ⟨SqL.of hD1,fun t1 ht1=>?_⟩⟩;have gt1:=Same.new ht1 (.tup (rule.map V.int));have h1:(upd H1 t1 (.tup (rule.map V.int))) t1=some (.tup (rule.map V.int)):=au;have g2:=g1.trans gt1;generalize upd H1 t1 (.tup (rule.map V.int))=H2 at gt1 h1 g2;refine⟨_,rfl,_,rfl,_,rfl,N,rfl,(by omega:-(2^62)<=(N:Int)),(by omega:(N:Int)<2^62),?_⟩;rw[Int.toNat_natCast];refine ql (n:=N) (by omega) rfl (fun x=>jh b x/\Rm.Bd 31 x) ?_ ?_
  ·intro H3 k g3 hk kk hkk;exact⟨_,rfl,_,rfl,_,rfl,b,c2,15+(0+(k:Int)),rfl,hb,hc2,by omega,by omega,fun x H3 g3 h1 h2 _=>hkk x H3 g3 ⟨h1,h2⟩⟩
  intro D2 H3 starts hD2 g3 hD3 ls hs;refine⟨D2,_,rfl,.inl ⟨SqL.of hD3,fun t2 ht2=>?_⟩⟩;have gt2:=Same.new ht2 (.tup (starts.map V.int));refine⟨(by show 3<=sizeLine;decide),fun t3 ht3=>?_⟩;have gt3:=Same.new ht3 (.tup [.int b,.ref t1,.ref t2]);have gA:=g2.trans (g3.trans (gt2.trans gt3));have R0:cU (upd (upd H3 t2 (.tup (starts.map V.int))) t3 (.tup [.int b,.ref t1,.ref t2])) (.ref t3) ⟨b,rule,starts⟩:=⟨t3,t1,t2,rfl,au,gt3 _ _ (gt2 _ _ (g3 _ _ h1)),gt3 _ _ au⟩;generalize upd (upd H3 t2 (.tup (starts.map V.int))) t3 (.tup [.int b,.ref t1,.ref t2])=H4 at gA R0;have B0:Bs b m.toNat ⟨b,rule,starts⟩:=⟨rfl,lr.trans ls.symm,(by show rule.length<=m.toNat;omega),by omega,fun x hx=>(hr x hx).1,fun x hx=>(hs x hx).1,fun x hx=>(hr x hx).2,fun x hx=>(hs x hx).2⟩;have S0:RwS b ⟨b,rule,starts⟩ 0 ⟨b,rule,starts⟩:=⟨rfl,lr.trans ls.symm,(by show rule.length<=12;omega),fun x hx=>(hr x hx).1,fun x hx=>(hr x hx).2,fun _=>rfl⟩;have lr0:rule.length<=m.toNat:=by omega
  refine⟨(by show 8<=sizeLine;decide),fun p8 hp8=>?_⟩;have g8:=Same.new hp8 (.lst (pN.map V.int));refine⟨_,rfl,c,3,rfl,by decide,by decide,fun y y0 y1=>?_⟩;have e0:=dF y (show(0:Int)<8 by decide);have e1:=dD y (show(0:Int)<8 by decide);refine⟨_,_,rfl,rfl,(by decide:(0:Int)<8),_,_,.inl (SqL.of au),bH (ns:=pN) e0 e1,?_⟩;have ty:=BH (y%8).toNat (by omega);generalize pN.getD (y%8).toNat 0=T at ty;have g9:=gA.trans g8;have R1:=R0.same g8;have eH:(upd H4 p8 (.lst [.int 0,.int 0,.int 1,.int 0,.int 2,.int 0,.int 0,.int 3]))=upd H4 p8 (.lst (pN.map V.int)):=rfl;rw[eH];generalize upd H4 p8 (.lst (pN.map V.int))=H5 at g9 R1;refine⟨T,rfl,(by omega:-(2^62)<=T),(by omega:T<2^62),?_⟩;refine eX (lo:=0) (n:=T.toNat) (fun i σ' H'=>∃(v:V) (r:Rw) (o8:Option V),σ'=[some (.ref a),some (.int st),some (.int b),some (.int m),some (.int c),some (.int N),some (.int c2),some (.ref t1),o8,some v]/\Same H H'/\cU H' v r/\RwS b ⟨b,rule,starts⟩ i r/\r.rule.length<=m.toNat+i) ⟨.ref t3,_,_,rfl,g9,R1,S0,lr0⟩ ?_ ?_
  ·rintro i σ' H' hi ⟨v,r,o8,rfl,g,hR,ok,lm⟩;obtain⟨ra,rp,rq,rfl,hA,hP,hQ2⟩:=id hR;refine Ii.by (fun σ' H'=>∃(v:V) (r:Rw) (o8:Option V),σ'=[some (.ref a),some (.int st),some (.int b),some (.int m),some (.int c),some (.int N),some (.int c2),some (.ref t1),o8,some v]/\Same H H'/\cU H' v r/\RwS b ⟨b,rule,starts⟩ (i+1) r/\r.rule.length<=m.toNat+(i+1)) (fun NN hNN=>?_) (fun σ' H' z=>z);refine⟨_,rfl,_,_,.inr (SqT.of hA),rfl,.ref rp,r.rule.length,rfl,.inr ⟨_,SqT.of hP,(List.length_map _).symm⟩,_,_,rfl,rfl,_,rfl,?_⟩;refine lX (fun cc=>?_) (fun cc=>hNN _ _ ⟨_,r,_,rfl,g,hR,ok.up,by omega⟩);have hsh:r.rule.length<12:=by have:=dec_true cc;omega
   refine⟨_,rfl,_,rfl,_,rfl,_,rfl,c,4+(0+(i:Int)),rfl,by omega,by omega,fun y2 _ _=>?_⟩;have z0:=dF y2 (show(0:Int)<5 by decide);have z1:=dD y2 (show(0:Int)<5 by decide);refine⟨_,_,rfl,rfl,(by decide:(0:Int)<5),_,_,rfl,rfl,b,_,rfl,hb.lo,?_⟩;refine⟨b,m.toNat,_,i,_,r,_,rfl,hR,hb,B0,ok,by omega,hsh,kZ hb (by decide) (Rm.Bd.of (by show -(2^10)<y2%5-2;omega) (by show y2%5-2<2^10;omega)),fun v' r' H2 g2 R2 ok2 l2=>?_⟩;exact hNN _ _ ⟨v',r',_,rfl,g.trans g2,R2,ok2,by omega⟩
  ·rintro σ' H' ⟨v,r,o8,rfl,g,hR,ok,lm⟩;exact⟨_,rfl,q v _ _ r H' g hR B0 ok (by omega) lm⟩
theorem rD(B:Bt mg)(F:Fn K mg "refuse_long" jA ["length"])(M:Ms K mg base aL aN aF aV aP aB aM aO aq):Cal P w K mg base "refuse_long" 1 ["length"] (CG aq):=by
 refine F.Jz rE (fun vs H Q E h=>?_) (fun f cdv A outer s H vs Q E hr h=>?_)
 ·obtain⟨n,rfl,_⟩:=h;rfl
 ·obtain⟨n,rfl,q1,q2⟩:=h;refine⟨_,(aJ (iU (bW qD (pv 0) (zf rfl B.g_LONGEST) (bY _))
   (aJ (yX M.x_TooLong rfl (cX gb ak)))
   cR)),?_⟩
  refine⟨_,rfl,_,_,rfl,rfl,_,rfl,?_⟩;exact lX (fun c=>⟨(by show 1<=sizeLine;decide),q2 (dec_true c)⟩) (fun c=>q1 (by have:=dec_false c;omega))
theorem wX(B:Bt mg)(F:Fn K mg "told_row" nq ["by","rule","starts"])(M:Ms K mg base aL aN aF aV aP aB aM aO aq)(bI:Cal P w K mg base "taken" 1 ["by","number"] dM)(cT:Cal P w K mg base "shortest" 9 ["row"] tZ):Cal P w K mg base "told_row" 10 ["by","rule","starts"] Gj:=by
 refine F.cal lE (fun vs H Q E h=>?_) (fun f cdv A outer s H vs Q E hr h=>?_)
 ·obtain⟨b,a,c,ns,ms,ua,u,rfl,_⟩:=h;rfl
 ·obtain⟨b,a,c,ns,ms,ua,u,rfl,hA,hC,zn,zm,hM,hs,q⟩:=h;refine⟨_,(ao (aQ (i:=3) lE.nd rfl (Or.inl rfl) (bJ (ig K) rfl B.b_tuple boot_tuple (aK (d9 (sc:=vq) (N:=["number","by"]) (ix:=[none,some 0]) (dB (by kernel_rfl) (by kernel_rfl) (by kernel_rfl) (by kernel_rfl) (by kernel_rfl) (by kernel_rfl) (by kernel_rfl) (by kernel_rfl)) rfl (Ie K (pv 1)) (fun cl C s₀ H₀ ex=>⟨(bG (i:=0) (show(["number","by"]:List Str).Nodup by decide +kernel) rfl (Or.inl rfl)),dz,(aC bI hr rfl (aW (pv 1) (aW (pv 0) ak)))⟩)) ak)))
   (ao (aQ (i:=4) lE.nd rfl (Or.inl rfl) (bJ (ig K) rfl B.b_tuple boot_tuple (aK (d9 (sc:=uN) (N:=["number","by"]) (ix:=[none,some 0]) (dB (by kernel_rfl) (by kernel_rfl) (by kernel_rfl) (by kernel_rfl) (by kernel_rfl) (by kernel_rfl) (by kernel_rfl) (by kernel_rfl)) rfl (Ie K (pv 2)) (fun cl C s₀ H₀ ex=>⟨(bG (i:=0) (show(["number","by"]:List Str).Nodup by decide +kernel) rfl (Or.inl rfl)),dz,(aC bI hr rfl (aW (pv 1) (aW (pv 0) ak)))⟩)) ak)))
   (aJ (bw (aC cT hr rfl (xq (dU (aW (pv 0) (aW (pv 3) (aW (pv 4) ak)))) ak)))))),?_⟩
  have hb0:=hM.hB.lo;refine⟨_,rfl,uT hA zn rfl (Rm.tk b) ?_ ?_⟩
  ·intro H2 x g2 hx kk hkk;exact⟨_,rfl,_,rfl,b,x,rfl,hb0,hkk⟩
  intro D hD;have gD:=Same.new hD (.lst ((ns.map (Rm.tk b)).map V.int));refine⟨D,_,rfl,.inl ⟨SqL.of au,fun t1 ht1=>?_⟩⟩;have g1:=Same.new ht1 (.tup ((ns.map (Rm.tk b)).map V.int));have h1:(upd (upd H D (.lst ((ns.map (Rm.tk b)).map V.int))) t1 (.tup ((ns.map (Rm.tk b)).map V.int))) t1=some (.tup ((ns.map (Rm.tk b)).map V.int)):=au;have gD1:=gD.trans g1;generalize upd (upd H D (.lst ((ns.map (Rm.tk b)).map V.int))) t1 (.tup ((ns.map (Rm.tk b)).map V.int))=H1 at gD1 h1;refine⟨_,rfl,uT (hC.same gD1) zm rfl (Rm.tk b) ?_ ?_⟩
  ·intro H2 x g2 hx kk hkk;exact⟨_,rfl,_,rfl,b,x,rfl,hb0,hkk⟩
  intro D2 hD2;have gD2:=Same.new hD2 (.lst ((ms.map (Rm.tk b)).map V.int));refine⟨D2,_,rfl,.inl ⟨SqL.of au,fun t2 ht2=>?_⟩⟩;have g2:=Same.new ht2 (.tup ((ms.map (Rm.tk b)).map V.int));have h2:(upd (upd H1 D2 (.lst ((ms.map (Rm.tk b)).map V.int))) t2 (.tup ((ms.map (Rm.tk b)).map V.int))) t2=some (.tup ((ms.map (Rm.tk b)).map V.int)):=au;have gD12:=gD2.trans g2;have h12:=gD12 _ _ h1;generalize upd (upd H1 D2 (.lst ((ms.map (Rm.tk b)).map V.int))) t2 (.tup ((ms.map (Rm.tk b)).map V.int))=H2 at gD12 h2 h12;refine⟨_,rfl,_,rfl,_,rfl,(by show 3<=sizeLine;decide),fun t3 ht3=>?_⟩;have g3:=Same.new ht3 (.tup [.int b,.ref t1,.ref t2]);refine⟨.ref t3,⟨b,ns.map (Rm.tk b),ms.map (Rm.tk b)⟩,rfl,⟨t3,t1,t2,rfl,au,g3 _ _ h12,g3 _ _ h2⟩,hM.ok,hM.byp,hM.tame,fun v' L H4 g4 hR lst ll=>?_⟩;exact q v' _ L H4 (gD1.trans (gD12.trans (g3.trans g4))) hR (hM.told lst ll hs) (by have:(ns.map (Rm.tk b)).length=ns.length:=List.length_map _;rw[<-this];exact ll)
theorem vg(B:Bt mg)(F:Fn K mg "sum_place" lA ["ours","theirs","n"])(M:Ms K mg base aL aN aF aV aP aB aM aO aq):Cal P w K mg base "sum_place" 1 ["ours","theirs","n"] (Eo Eb):=by
 refine F.cal vP (fun vs H Q E h=>?_) (fun f cdv A outer s H vs Q E hr h=>?_)
 ·obtain⟨l1,l2,m,a,c,n,rfl,_⟩:=h;rfl
 ·obtain⟨l1,l2,m,a,c,n,rfl,h1,h2,hn,hm,b1,b2,q⟩:=h;refine⟨_,(aJ (bw (aR (gO K) (bF (xix K) (pv 0) (pv 2) (fun _ _=>rfl)) (bF (xix K) (pv 1) (pv 2) (fun _ _=>rfl))))),?_⟩;exact⟨_,rfl,_,rfl,_,_,.inl (SqL.of h1),rO hn,_,rfl,_,rfl,_,_,.inl (SqL.of h2),rO hn,q _ (Same.refl _)⟩
theorem oM(B:Bt mg)(F:Fn K mg "product_place" iz ["ours","theirs","n"])(M:Ms K mg base aL aN aF aV aP aB aM aO aq):Cal P w K mg base "product_place" 1 ["ours","theirs","n"] (Eo Mp):=by
 refine F.cal oH (fun vs H Q E h=>?_) (fun f cdv A outer s H vs Q E hr h=>?_)
 ·obtain⟨l1,l2,m,a,c,n,rfl,_⟩:=h;rfl
 ·obtain⟨l1,l2,m,a,c,n,rfl,h1,h2,hn,hm,b1,b2,q⟩:=h;refine⟨_,(aJ (bw (aR v_mul (bF (xix K) (pv 0) (pv 2) (fun _ _=>rfl)) (bF (xix K) (pv 1) (pv 2) (fun _ _=>rfl))))),?_⟩;exact⟨_,rfl,_,rfl,_,V.int (a n),.inl (SqL.of h1),rO hn,_,rfl,_,rfl,_,V.int (c n),.inl (SqL.of h2),rO hn,oU (b1 n (by omega)) (b2 n (by omega)) (by decide),q _ (Same.refl _)⟩
theorem qu(B:Bt mg)(F:Fn K mg "rolled_place" jg ["ours","theirs","n"])(M:Ms K mg base aL aN aF aV aP aB aM aO aq):Cal P w K mg base "rolled_place" 1 ["ours","theirs","n"] (Eo mJ):=by
 refine F.cal qJ (fun vs H Q E h=>?_) (fun f cdv A outer s H vs Q E hr h=>?_)
 ·obtain⟨l1,l2,m,a,c,n,rfl,_⟩:=h;rfl
 ·obtain⟨l1,l2,m,a,c,n,rfl,h1,h2,hn,hm,b1,b2,q⟩:=h;refine⟨_,(aJ (bw (aU (M4 K rfl) rfl B.b_sum boot_sum (aK (d9 (sc:=oJ) (N:=["i","n","ours","theirs"]) (ix:=[none,some 2,some 0,some 1]) (dB (by kernel_rfl) (by kernel_rfl) (by kernel_rfl) (by kernel_rfl) (by kernel_rfl) (by kernel_rfl) (by kernel_rfl) (by kernel_rfl)) rfl (cg rfl B.b_range (mR (aR (gO K) (pv 2) aA) ak)) (fun cl C s₀ H₀ ex=>⟨(bG (i:=0) (show(["i","n","ours","theirs"]:List Str).Nodup by decide +kernel) rfl (Or.inl rfl)),dz,(aR v_mul (bF (xix K) (pv 2) (pv 0) (fun _ _=>rfl)) (bF (xix K) (pv 3) (aR cA (pv 1) (pv 0)) (fun _ _=>rfl)))⟩)) ak)))),?_⟩;refine⟨_,rfl,(n:Int)+1,rfl,(by omega:-(2^62)<=(n:Int)+1),(by omega:(n:Int)+1<2^62),?_⟩;rw[show((n:Int)+1).toNat=n+1 by omega];refine mK (n:=n+1) (by omega) rfl (fun i=>a i*c (n-i)) ?_ ?_
  ·intro H8 k g8 hk kk hkk;refine⟨_,rfl,_,rfl,_,V.int (a k),.inl (SqL.of (g8 _ _ h1)),(by rw[Int.zero_add];exact rO (by omega)),_,rfl,_,rfl,_,rfl,_,_,rfl,rfl,_,V.int (c (n-k)),.inl (SqL.of (g8 _ _ h2)),(by rw[Int.zero_add,show(n:Int)-(k:Int)=((n-k:Nat):Int)by omega];exact rO (by omega)),oU (b1 k (by omega)) (b2 (n-k) (by omega)) (by decide),hkk _ (Same.refl _)⟩
  ·intro D H8 hD g8 h8;refine⟨D,Pm.ofF (n+1) fun i=>a i*c (n-i),rfl,SqL.of h8,?_⟩;rw[Bv];exact q _ g8
theorem pY(B:Bt mg)(F:Fn K mg "behind_first" iW ["rule","sums","k"])(M:Ms K mg base aL aN aF aV aP aB aM aO aq):Cal P w K mg base "behind_first" 1 ["rule","sums","k"] Ji:=by
 refine F.cal j9 (fun vs H Q E h=>?_) (fun f cdv A outer s H vs Q E hr h=>?_)
 ·obtain⟨a,c,rule,sums,k,rfl,_⟩:=h;rfl
 ·obtain⟨a,c,rule,sums,k,rfl,hA,hC,k1,k24,hl,b1,b2,q⟩:=h;refine⟨_,(ao (aQ (i:=3) j9.nd rfl (Or.inl rfl) (aU (B7 rfl) rfl B.b_min boot_min (mR (aR cA (pv 2) aA) (aK (aU (jy K) rfl B.b_len boot_len (aW (pv 0) ak)) ak))))
   (aJ (bw (aU (M4 K rfl) rfl B.b_sum boot_sum (aK (d9 (sc:=oO) (N:=["i","k","rule","sums"]) (ix:=[none,some 2,some 0,some 1]) (dB (by kernel_rfl) (by kernel_rfl) (by kernel_rfl) (by kernel_rfl) (by kernel_rfl) (by kernel_rfl) (by kernel_rfl) (by kernel_rfl)) rfl (cg rfl B.b_range (aW (pv 3) ak)) (fun cl C s₀ H₀ ex=>⟨(bG (i:=0) (show(["i","k","rule","sums"]:List Str).Nodup by decide +kernel) rfl (Or.inl rfl)),dz,(aR v_mul (bF (xix K) (pv 2) (pv 0) (fun _ _=>rfl)) (bF (xix K) (pv 3) (aR cA (aR cA (pv 1) aA) (pv 0)) (fun _ _=>rfl)))⟩)) ak))))),?_⟩
  have lR:(rule.map V.int).length=rule.length:=List.length_map _;refine⟨_,rfl,_,_,rfl,rfl,_,rfl,.ref a,rule.length,rfl,hA.elim (fun h=> .inl ⟨_,SqL.of h,lR.symm⟩) (fun h=> .inr ⟨_,SqT.of h,lR.symm⟩),(k:Int)-1,(rule.length:Int),rfl,?_⟩;have em:(if(rule.length:Int)<(k:Int)-1 then(rule.length:Int)else(k:Int)-1)=((min (k-1) rule.length:Nat):Int):=by split<;>omega
  rw[em];refine⟨_,rfl,((min (k-1) rule.length:Nat):Int),rfl,(by omega:-(2^62)<=((min (k-1) rule.length:Nat):Int)),(by omega:((min (k-1) rule.length:Nat):Int)<2^62),?_⟩;rw[Int.toNat_natCast];refine mK (n:=min (k-1) rule.length) (by omega) rfl (fun i=>Pm.co rule i*Pm.co sums (k-2-i)) ?_ ?_
  ·intro H2 i g2 hi kk hkk;exact⟨_,rfl,_,rfl,_,V.int (Pm.co rule i),(hA.same g2).imp SqL.of SqT.of,(by rw[Int.zero_add];exact Ar (by omega)),_,rfl,_,rfl,_,_,rfl,rfl,_,rfl,_,_,rfl,rfl,_,V.int (Pm.co sums (k-2-i)),(hC.same g2).imp SqL.of SqT.of,(by rw[Int.zero_add,show(k:Int)-2-(i:Int)=((k-2-i:Nat):Int)by omega];exact Ar (by omega)),oU (Pm.jV b1 i) (Pm.jV b2 (k-2-i)) (by decide),hkk _ (Same.refl _)⟩
  ·intro D H8 hD g8 h8;refine⟨D,Pm.ofF (min (k-1) rule.length) fun i=>Pm.co rule i*Pm.co sums (k-2-i),rfl,SqL.of h8,?_⟩;rw[Bv];exact q _ g8
theorem sG(B:Bt mg)(F:Fn K mg "power_sums" j5 ["rule","count"])(M:Ms K mg base aL aN aF aV aP aB aM aO aq)(dh:Cal P w K mg base "behind_first" 1 ["rule","sums","k"] Ji):Cal P w K mg base "power_sums" 2 ["rule","count"] MD:=by
 refine F.cal gH (fun vs H Q E h=>?_) (fun f cdv A outer s H vs Q E hr h=>?_)
 ·obtain⟨a,rule,n,w,rfl,_⟩:=h;rfl
 ·obtain⟨a,rule,n,w,rfl,hA,n12,hw,br,q⟩:=h;refine⟨_,(ao (aQ (i:=2) gH.nd rfl (Or.inl rfl) (cN ak))
   (ao (j4 PassesOwn.never rfl (qL rfl B.b_range (cX aA (mR (aR (gO K) (pv 1) aA) ak))) (bG (i:=3) gH.nd rfl (Or.inl rfl))
   (ao (aQ (i:=4) gH.nd rfl (Or.inl rfl) (Ce (sI (bW KD (pv 3) (aU (jy K) rfl B.b_len boot_len (aW (pv 0) ak)) (bY _)) (aR v_mul (pv 3) (bF (xix K) (pv 0) (aR cA (pv 3) aA) (fun _ _=>rfl))) aA)))
   (aJ (iB (jX K (pv 2) (aR (gO K) (pv 4) (aC dh hr rfl (aW (pv 0) (aW (pv 2) (aW (pv 3) ak))))))))))
   (aJ (bw (pv 2))))),?_⟩
  have lR:(rule.map V.int).length=rule.length:=List.length_map _;have b1:∀x∈rule,Rm.Bd 2000 x:=fun x hx=>by
   obtain⟨k,hk,e⟩:=List.mem_iff_getElem.mp hx;have:=br k;rw[Pm.m7 hk,e]at this;exact this.bd.mono (by omega)
  refine⟨(by show 0<=sizeLine;decide),fun l hl=>?_⟩;refine⟨_,rfl,1,(n:Int)+1,rfl,⟨by omega,by omega,by omega,by omega⟩,?_⟩;rw[show((n:Int)+1-1).toNat=n by omega];refine eX (lo:=1) (n:=n) (fun i σ' H'=>∃(o3 o4:Option V) (sums:List Int),σ'=[some (.ref a),some (.int (n:Int)),some (.ref l),o3,o4]/\Same H H'/\H' l=some (.lst (sums.map V.int))/\sums.length=i/\∀j,j<i->Le (Pm.co sums j) ((2^(w+3))^(j+1))) ⟨none,none,[],rfl,Same.new hl _,au,rfl,fun j hj=>absurd hj (by omega)⟩ ?_ ?_
  ·rintro i σ' H' hi ⟨o3,o4,sums,rfl,g,hL,ls,bd⟩;rw[show(1:Int)+(i:Int)=((i+1:Nat):Int)by omega];have hA':=g _ _ hA;refine Bar.by (fun v H1=>v = .int (if i+1<=rule.length then((i+1:Nat):Int)*Pm.co rule i else 0)/\H1=H') (fun kk hkk=>?_) ?_
   ·refine⟨_,rfl,_,rfl,.ref a,rule.length,rfl,.inr ⟨_,SqT.of hA',lR.symm⟩,_,_,rfl,rfl,_,rfl,?_⟩;refine lX (fun c=>?_) (fun c=>?_)
    ·have c':i+1<=rule.length:=by have:=dec_true c;omega
     have hk:=hkk (.int (if i+1<=rule.length then((i+1:Nat):Int)*Pm.co rule i else 0)) H' ⟨rfl,rfl⟩;rw[if_pos c']at hk;exact⟨_,rfl,_,rfl,_,rfl,_,_,rfl,rfl,_,V.int (Pm.co rule i),.inr (SqT.of hA'),(by rw[show((i+1:Nat):Int)-1=(i:Int)by omega];exact Ar (by omega)),oU (m:=10) (Rm.Bd.of (by omega) (by omega)) (Pm.jV b1 i) (by decide),hk⟩
    ·have c':¬i+1<=rule.length:=by have:=dec_false c;omega
     have hk:=hkk (.int (if i+1<=rule.length then((i+1:Nat):Int)*Pm.co rule i else 0)) H' ⟨rfl,rfl⟩;rw[if_neg c']at hk;exact hk
   rintro _ _ ⟨rfl,rfl⟩;have st:=HN (w:=w) (rule:=rule) (sums:=sums) (k:=i+1) (by omega) (by omega) br (fun j hj=>bd j (by omega));rw[Nat.add_sub_cancel]at st;have hw12:sums.length*(w+3)<=12*23:=Nat.mul_le_mul (by omega) (by omega);refine⟨_,rfl,.inl ⟨rfl,_,SqL.of hL⟩,_,rfl,_,rfl,_,rfl,_,rfl,a,l,rule,sums,i+1,rfl,.inr hA',.inl hL,by omega,by omega,by omega,b1,Le.list (w:=w+3) (by omega) (fun j hj=>bd j (by omega)),fun H2 g2=>?_⟩;have hL2:=g2 _ _ hL;refine⟨l,_,_,rfl,rfl,hL2,?_,?_⟩
   ·rw[List.length_map,ls];exact bQ (by omega)
   ·refine⟨_,_,sums++[(if i+1<=rule.length then((i+1:Nat):Int)*Pm.co rule i else 0)+bhd rule sums (i+1)],rfl,(g.trans g2).upd hl _,by rw[au,List.map_append];rfl,by rw[List.length_append,ls];rfl,Le.grow ls bd st⟩
  ·rintro σ' H' ⟨o3,o4,sums,rfl,g,hL,ls,bd⟩;exact⟨_,rfl,q l sums H' g hL ls bd⟩
theorem qg(B:Bt mg)(F:Fn K mg "rule_of_sums" iV ["sums"])(M:Ms K mg base aL aN aF aV aP aB aM aO aq)(dh:Cal P w K mg base "behind_first" 1 ["rule","sums","k"] Ji):Cal P w K mg base "rule_of_sums" 2 ["sums"] JL:=by
 refine F.cal iw (fun vs H Q E h=>?_) (fun f cdv A outer s H vs Q E hr h=>?_)
 ·obtain⟨c,sums,n,z,rfl,_⟩:=h;rfl
 ·obtain⟨c,sums,n,z,rfl,hC,hn,n12,hz,bs,q⟩:=h;refine⟨_,(ao (aQ (i:=1) iw.nd rfl (Or.inl rfl) (cN ak))
   (ao (j4 PassesOwn.never rfl (qL rfl B.b_range (cX aA (mR (aR (gO K) (aU (jy K) rfl B.b_len boot_len (aW (pv 0) ak)) aA) ak))) (bG (i:=2) iw.nd rfl (Or.inl rfl))
   (aJ (iB (jX K (pv 1) (aR pZ (aR cA (bF (xix K) (pv 0) (aR cA (pv 2) aA) (fun _ _=>rfl)) (aC dh hr rfl (aW (pv 1) (aW (pv 0) (aW (pv 2) ak))))) (pv 2))))))
   (aJ (bw (pv 1))))),?_⟩
  have lS:(sums.map V.int).length=n:=by rw[List.length_map,hn]
  have hz12:sums.length*z<=12*60:=Nat.mul_le_mul (by omega) (by omega);have b2:∀x∈sums,Rm.Bd 2000 x:=Le.list (w:=z) (by omega) (fun j hj=>bs j (by omega));refine⟨(by show 0<=sizeLine;decide),fun l hl=>?_⟩;have gl:=Same.new hl (.lst []);refine⟨_,rfl,.ref c,n,rfl,.inl ⟨_,SqL.of (gl _ _ hC),lS.symm⟩,1,(n:Int)+1,rfl,⟨by omega,by omega,by omega,by omega⟩,?_⟩;rw[show((n:Int)+1-1).toNat=n by omega];refine eX (lo:=1) (n:=n) (fun i σ' H'=>∃(o2:Option V) (rule:List Int),σ'=[some (.ref c),some (.ref l),o2]/\Same H H'/\H' l=some (.lst (rule.map V.int))/\rule.length=i/\∀j,j<i->Le (Pm.co rule j) ((2^z)^(j+1))) ⟨none,[],rfl,gl,au,rfl,fun j hj=>absurd hj (by omega)⟩ ?_ ?_
  ·rintro i σ' H' hi ⟨o2,rule,rfl,g,hL,lr,bd⟩;rw[show(1:Int)+(i:Int)=((i+1:Nat):Int)by omega];have hC':=g _ _ hC;have st:=Ew (Z:=2^z) (rule:=rule) (sums:=sums) (k:=i+1) (by omega) (by omega) (fun j hj=>bd j (by omega)) (fun j hj=>bs j (by omega));rw[Nat.add_sub_cancel]at st;have hr12:rule.length*z<=12*60:=Nat.mul_le_mul (by omega) (by omega);refine⟨_,rfl,.inl ⟨rfl,_,SqL.of hL⟩,_,rfl,_,rfl,_,_,rfl,rfl,_,V.int (Pm.co sums i),.inl (SqL.of hC'),(by rw[show((i+1:Nat):Int)-1=(i:Int)by omega];exact Ar (by omega)),_,rfl,_,rfl,_,rfl,l,c,rule,sums,i+1,rfl,.inl hL,.inl hC',by omega,by omega,by omega,Le.list (w:=z) (by omega) (fun j hj=>bd j (by omega)),b2,fun H2 g2=>?_⟩;have hL2:=g2 _ _ hL;refine⟨_,_,rfl,rfl,_,rfl,_,_,rfl,rfl,⟨by omega,by show((i+1:Nat):Int)<1073741824;omega⟩,l,_,_,rfl,rfl,hL2,?_,?_⟩
   ·rw[List.length_map,lr];exact bQ (by omega)
   ·refine⟨_,rule++[(Pm.co sums i-bhd rule sums (i+1))/((i+1:Nat):Int)],rfl,(g.trans g2).upd hl _,by rw[au,List.map_append];rfl,by rw[List.length_append,lr];rfl,Le.grow lr bd st⟩
  ·rintro σ' H' ⟨o2,rule,rfl,g,hL,lr,bd⟩;exact⟨_,rfl,q l rule H' g hL lr bd⟩
theorem wA(B:Bt mg)(F:Fn K mg "pair_row" nZ ["one","other","rule","pair_place"])(M:Ms K mg base aL aN aF aV aP aB aM aO aq)(fW:Cal P w K mg base "first_places" 3 ["row","count"] (AZ K))(nQ:Cal P w K mg base "told_row" 10 ["by","rule","starts"] Gj)(fK:Cal P w K mg base "sum_place" 1 ["ours","theirs","n"] (Eo Eb))(dw:Cal P w K mg base "rolled_place" 1 ["ours","theirs","n"] (Eo mJ))(cP:Cal P w K mg base "product_place" 1 ["ours","theirs","n"] (Eo Mp)):Cal P w K mg base "pair_row" 11 ["one","other","rule","pair_place"] (wZ mg):=by
 refine F.cal jE (fun vs H Q E h=>?_) (fun f cdv A outer s H vs Q E hr h=>?_)
 ·obtain⟨f0,v1,v2,t,g,b,r1,r2,ns,ua,u,w1,w2,w3,w4,rfl,_⟩:=h;rfl
 ·obtain⟨f0,v1,v2,t,g,b,r1,r2,ns,ua,u,w1,w2,w3,w4,rfl,hg,hR1,hR2,M1,M2,hT,n12,hw1,hw3,hM,hs,q⟩:=h;refine⟨_,(ao (aQ (i:=4) jE.nd rfl (Or.inl rfl) (aU (jy K) rfl B.b_len boot_len (aW (pv 2) ak)))
   (ao (aQ (i:=5) jE.nd rfl (Or.inr rfl) (aC fW hr rfl (aW (pv 0) (aW (pv 4) ak))))
   (ao (aQ (i:=6) jE.nd rfl (Or.inr rfl) (aC fW hr rfl (aW (pv 1) (aW (pv 4) ak))))
   (aJ (bw (aC nQ hr rfl (aK (bF (xix K) (pv 0) aA (fun _ _=>rfl)) (aW (pv 2) (aK (d9 (sc:=vN) (N:=["n","ours","pair_place","theirs"]) (ix:=[none,some 5,some 3,some 6]) (dB (by kernel_rfl) (by kernel_rfl) (by kernel_rfl) (by kernel_rfl) (by kernel_rfl) (by kernel_rfl) (by kernel_rfl) (by kernel_rfl)) rfl (cg rfl B.b_range (aW (pv 4) ak)) (fun cl C s₀ H₀ ex=>⟨(bG (i:=0) (show(["n","ours","pair_place","theirs"]:List Str).Nodup by decide +kernel) rfl (Or.inl rfl)),dz,(CY fK dw cP hr (pv 2) (aW (pv 1) (aW (pv 3) (aW (pv 0) ak))))⟩)) ak))))))))),?_⟩
  have lT:(ns.map V.int).length=ns.length:=List.length_map _;refine⟨_,rfl,.ref t,ns.length,rfl,hT.elim (fun h=> .inl ⟨_,SqL.of h,lT.symm⟩) (fun h=> .inr ⟨_,SqT.of h,lT.symm⟩),?_⟩;refine⟨_,rfl,_,rfl,v1,r1,(ns.length:Int),rfl,hR1,M1.ok,by omega,by omega,fun l1 H1 g1 f1 h1=>?_⟩;rw[Int.toNat_natCast,D7]at h1;refine⟨_,rfl,_,rfl,v2,r2,(ns.length:Int),rfl,hR2.same g1,M2.ok,by omega,by omega,fun l2 H2 g2 f2 h2=>?_⟩;rw[Int.toNat_natCast,D7]at h2;have g12:=g1.trans g2;obtain⟨a1,p1,q1,rfl,hA1,hP1,hS1⟩:=id (hR1.same g12);have h12:=g2 _ _ h1;have eb:=M1.by_;refine⟨_,rfl,_,_,.inr (SqT.of hA1),rfl,_,rfl,_,rfl,(ns.length:Int),rfl,(by omega:-(2^62)<=(ns.length:Int)),(by omega:(ns.length:Int)<2^62),?_⟩;rw[Int.toNat_natCast];refine mK (n:=ns.length) (by omega) rfl (f0 r1.at r2.at) ?_ ?_
  ·intro H8 k g8 hk kk hkk;have w1':∀i,i<=24->Rm.Bd 1000 (r1.at i):=fun i hi=>(M1.at_ i hi).mono hw1;have w3':∀i,i<=24->Rm.Bd 1000 (r2.at i):=fun i hi=>(M2.at_ i hi).mono hw3;rcases hg with⟨hm,ef⟩|⟨hm,ef⟩|⟨hm,ef⟩
   ·subst ef;exact⟨_,rfl,.inl ⟨⟨g,hm,rfl⟩,_,rfl,_,rfl,_,rfl,l1,l2,ns.length,r1.at,r2.at,k,by rw[Int.zero_add],g8 _ _ h12,g8 _ _ h2,hk,n12,w1',w3',hkk⟩⟩
   ·subst ef;exact⟨_,rfl,.inr (.inl ⟨⟨g,hm,rfl⟩,_,rfl,_,rfl,_,rfl,l1,l2,ns.length,r1.at,r2.at,k,by rw[Int.zero_add],g8 _ _ h12,g8 _ _ h2,hk,n12,w1',w3',hkk⟩)⟩
   ·subst ef;exact⟨_,rfl,.inr (.inr ⟨⟨g,hm,rfl⟩,_,rfl,_,rfl,_,rfl,l1,l2,ns.length,r1.at,r2.at,k,by rw[Int.zero_add],g8 _ _ h12,g8 _ _ h2,hk,n12,w1',w3',hkk⟩)⟩
  ·intro D H8 hD g8 h8;have e2:(Pm.ofF ns.length (f0 r1.at r2.at)).map (Rm.tk b)=Pm.ofF ns.length fun n=>Rm.tk b (f0 r1.at r2.at n):=by
    rw[Pm.ofF,Pm.ofF,List.map_map];rfl
   rw[eb];refine⟨b,t,D,ns,Pm.ofF ns.length (f0 r1.at r2.at),ua,u,rfl,(hT.same g12).same g8,.inl h8,by omega,by rw[Pm.aZ];omega,by rw[e2];exact hM,hs,fun v' r' L' H' g' hR' hT' hl'=>?_⟩;rw[e2]at hT';exact q v' r' L' H' (g12.trans (g8.trans g')) hR' hT' hl'
theorem uX(B:Bt mg)(F:Fn K mg "shared_by" lu ["one","other"])(M:Ms K mg base aL aN aF aV aP aB aM aO aq):Cal P w K mg base "shared_by" 1 ["one","other"] (wj aL):=by
 refine F.Jz uM (fun vs H Q E h=>?_) (fun f cdv A outer s H vs Q E hr h=>?_)
 ·obtain⟨v1,v2,r1,r2,rfl,_⟩:=h;rfl
 ·obtain⟨v1,v2,r1,r2,rfl,⟨a1,p1,q1,rfl,hA1,_,_⟩,⟨a2,p2,q2,rfl,hA2,_,_⟩,qe,qn⟩:=h;refine⟨_,(ao (iU (bW (xne K hr) (bF (xix K) (pv 0) aA (fun _ _=>rfl)) (bF (xix K) (pv 1) aA (fun _ _=>rfl)) (bY _))
   (aJ (yX M.x_NoBy rfl (cX gb ak)))
   cR)
   (aJ (bw (bF (xix K) (pv 0) aA (fun _ _=>rfl))))),?_⟩
  refine⟨_,rfl,_,_,.inr (SqT.of hA1),rfl,_,rfl,_,_,.inr (SqT.of hA2),rfl,_,rfl,?_⟩;by_cases e:r1.b=r2.b
  ·rw[decide_eq_true e];refine zy ?_;exact⟨_,rfl,_,_,.inr (SqT.of hA1),rfl,qe e⟩
  ·rw[decide_eq_false e];exact YJ ⟨(by show 1<=sizeLine;decide),qn e⟩
theorem uZ(B:Bt mg)(F:Fn K mg "joint_row" lK ["one","other","pair_place"])(M:Ms K mg base aL aN aF aV aP aB aM aO aq)(fP:Cal P w K mg base "shared_by" 1 ["one","other"] (wj aL))(cT:Cal P w K mg base "shortest" 9 ["row"] tZ)(dO:Cal P w K mg base "refuse_long" 1 ["length"] (CG aq))(xK:Cal P w K mg base "times" 2 ["by","one","other"] Di)(iC:Cal P w K mg base "of_rule" 2 ["by","rule"] sH)(gY:Cal P w K mg base "pair_row" 11 ["one","other","rule","pair_place"] (wZ mg))(jt:Cal P w K mg base "rule_of" 2 ["by","poly"] tD):Cal P w K mg base "joint_row" 12 ["one","other","pair_place"] (wF aL aq mg):=by
 refine F.Jz fX (fun vs H Q E h=>?_) (fun f cdv A outer s H vs Q E hr h=>?_)
 ·obtain⟨f0,v1,v2,g,rfl,_⟩:=h;rfl
 ·obtain⟨f0,v1,v2,g,rfl,hg,hU⟩:=h;refine⟨_,(ao (aQ (i:=3) fX.nd rfl (Or.inl rfl) (jj fP hr rfl (aW (pv 0) (aW (pv 1) ak))))
   (ao (aQ (i:=4) fX.nd rfl (Or.inl rfl) (aC cT hr rfl (aW (pv 0) ak)))
   (ao (aQ (i:=5) fX.nd rfl (Or.inl rfl) (aC cT hr rfl (aW (pv 1) ak)))
   (ao (iB (jj dO hr rfl (mR (aR (gO K) (aU (jy K) rfl B.b_len boot_len (aK (bF (xix K) (pv 4) aA (fun _ _=>rfl)) ak)) (aU (jy K) rfl B.b_len boot_len (aK (bF (xix K) (pv 5) aA (fun _ _=>rfl)) ak))) ak)))
   (ao (aQ (i:=6) fX.nd rfl (Or.inl rfl) (aC xK hr rfl (aW (pv 3) (aK (aC iC hr rfl (aW (pv 3) (aK (bF (xix K) (pv 4) aA (fun _ _=>rfl)) ak))) (aK (aC iC hr rfl (aW (pv 3) (aK (bF (xix K) (pv 5) aA (fun _ _=>rfl)) ak))) ak)))))
   (aJ (bw (aC gY hr rfl (aW (pv 4) (aW (pv 5) (aK (aC jt hr rfl (aW (pv 3) (aW (pv 6) ak))) (aW (pv 2) ak)))))))))))),?_⟩
  rcases hU with⟨r1,r2,hR1,hR2,ne,qn⟩|hU
  ·exact⟨_,rfl,_,rfl,v1,v2,r1,r2,rfl,hR1,hR2,fun e=>absurd e ne,fun _=>qn⟩
  obtain⟨b,r1,r2,w1,w2,w3,w4,L1,L2,hR1,hR2,M1,M2,hw1,hw3,lst1,ll1,lst2,ll2,q1,q2⟩:=hU;have e1:=M1.by_;have e2:=M2.by_;have hb:=M1.hB;have hb0:=hb.lo;have s1:=M1.len12;have s2:=M2.len12;have k1:=lst1.mon.pos;have k2:=lst2.mon.pos;refine⟨_,rfl,_,rfl,v1,v2,r1,r2,rfl,hR1,hR2,fun _=>?_,fun ne=>absurd (by rw[e1,e2]) ne⟩;rw[e1];refine⟨_,rfl,v1,r1,rfl,hR1,M1.ok,M1.byp,M1.tame,fun x1 L1' H1 g1 hS1 lst1' ll1'=>?_⟩;have eL1:L1'=L1:=by
   rw[e1]at lst1';exact lst1'.uniq hb.one lst1
  subst eL1;refine⟨_,rfl,v2,r2,rfl,hR2.same g1,M2.ok,M2.byp,M2.tame,fun x2 L2' H2 g2 hS2 lst2' ll2'=>?_⟩;have eL2:L2'=L2:=by
   rw[e2]at lst2';exact lst2'.uniq hb.one lst2
  subst eL2;have N1:=M1.short lst1 ll1 (by omega);have N2:=M2.short lst2 ll2 (by omega);obtain⟨l1,_⟩:=gR ll1 M1.ok;obtain⟨l2,_⟩:=gR ll2 M2.ok;have hS1':=hS1.same g2;obtain⟨c1,p1,t1,rfl,hC1,hP1,hT1⟩:=id hS1';obtain⟨c2,p2,t2,rfl,hC2,hP2,hT2⟩:=id hS2;have lS1:((cO r1 L1').rule.map V.int).length=L1'.length-1:=by rw[List.length_map,l1]
  have lS2:((cO r2 L2').rule.map V.int).length=L2'.length-1:=by rw[List.length_map,l2]
  refine⟨_,rfl,_,_,.inr (SqT.of hC1),rfl,.ref p1,L1'.length-1,rfl,.inr ⟨_,SqT.of hP1,lS1.symm⟩,_,rfl,_,_,.inr (SqT.of hC2),rfl,.ref p2,L2'.length-1,rfl,.inr ⟨_,SqT.of hP2,lS2.symm⟩,?_⟩;refine⟨((L1'.length-1:Nat):Int)+((L2'.length-1:Nat):Int),rfl,fun hle=>?_,fun hlt=>q2 (by omega) _ (g1.trans g2)⟩;have hle':L1'.length-1+(L2'.length-1)<=12:=by omega
  obtain⟨ua,hua,ua10,hK,bd,q⟩:=q1 hle';have eP1:Pm.aX b (cO r1 L1').rule=L1':=by
   show Pm.aX b (Pm.cG r1.b L1')=L1';rw[e1];exact Pm.gP lst1.nu lst1.mon
  have eP2:Pm.aX b (cO r2 L2').rule=L2':=by
   show Pm.aX b (Pm.cG r2.b L2')=L2';rw[e2];exact Pm.gP lst2.nu lst2.mon
  have bc1:∀k,Rm.Bd 12155 (Pm.co L1' k):=fun k=>(M1.mX lst1 (by omega) k).mono (by omega);have bc2:∀k,Rm.Bd 12155 (Pm.co L2' k):=fun k=>(M2.mX lst2 (by omega) k).mono (by omega);have bL:∀{L:List Int},(∀k,Rm.Bd 12155 (Pm.co L k))->∀x∈L,Rm.Bd 100000 x:=fun {L} h x hx=>by
   obtain⟨k,hk,e⟩:=List.mem_iff_getElem.mp hx;have:=h k;rw[Pm.m7 hk,e]at this;exact this.mono (by omega)
  refine⟨_,rfl,_,rfl,_,rfl,_,_,.inr (SqT.of hC1),rfl,b,p1,(cO r1 L1').rule,rfl,hb0,hP1,by omega,fun t3 H3 g3 h3=>?_⟩;refine⟨_,rfl,_,rfl,_,_,.inr (SqT.of (g3 _ _ hC2)),rfl,b,p2,(cO r2 L2').rule,rfl,hb0,g3 _ _ hP2,by omega,fun t4 H4 g4 h4=>?_⟩;rw[eP1]at h3;rw[eP2]at h4;refine⟨b,t3,t4,L1',L2',rfl,hb0,g4 _ _ h3,h4,by omega,by omega,fun x hx=>(bL bc1 x hx).mono (by decide),fun x hx=>(bL bc2 x hx).mono (by decide),fun t5 H5 g5 h5=>?_⟩;have g35:=g3.trans (g4.trans g5);obtain⟨hm,hl2⟩:=vY hb lst1.mon lst2.mon;refine⟨_,rfl,_,rfl,_,rfl,_,rfl,b,t5,Pm.mul b L1' L2',rfl,hb0,h5,by omega,by omega,fun t6 H6 g6 h6=>?_⟩;have g36:=g35.trans g6;have hlr:=M1.ok.len;have hlr2:=M2.ok.len;have ea1:(cO r1 L1').at=r1.at:=funext fun n=>jx M1.ok.zR (by rw[e1];exact lst1) (by omega) n;have ea2:(cO r2 L2').at=r2.at:=funext fun n=>jx M2.ok.zR (by rw[e2];exact lst2) (by omega) n;have eR:(Pm.cG b (Pm.mul b L1' L2')).map (Rm.tk b)=Pm.cG b (Pm.mul b L1' L2'):=DM fun y hy=>by
   obtain⟨k,_,rfl⟩:=Pm.dH (show y∈Pm.ofF _ _ from hy);exact jo hb0 _
  have lR:(Pm.cG b (Pm.mul b L1' L2')).length=L1'.length-1+(L2'.length-1):=by rw[Pm.dj,hl2];rfl
  refine⟨_,rfl,f0,.ref c1,.ref c2,t6,g,b,cO r1 L1',cO r2 L2',Pm.cG b (Pm.mul b L1' L2'),ua,12155+12155+13,w1,12*(w1+12)+11,w3,12*(w3+12)+11,rfl,hg,hS1'.same g36,hS2.same g36,N1,N2,.inr h6,by omega,hw1,hw3,?_,by omega,fun v' r' L' H' g' hR' hT' hl'=>?_⟩
  ·rw[eR,lR,ea1,ea2];exact La hb (by decide) (by decide) (by decide) lst1.mon lst2.mon bc1 bc2 hle' hK hua ua10 bd
  ·rw[eR,lR,ea1,ea2]at hT';have hln:=hT'.len;rw[lR]at hl';exact q v' r' L' H' (g1.trans (g2.trans (g36.trans g'))) hR' (hT'.congr (GB hb lst1.mon lst2.mon hK)) (by omega)
theorem Fe(B:Bt mg)(F:Fn K mg "added" xM ["one","other"])(M:Ms K mg base aL aN aF aV aP aB aM aO aq)(fD:Cal P w K mg base "joint_row" 12 ["one","other","pair_place"] (wF aL aq mg))(fK:Cal P w K mg base "sum_place" 1 ["ours","theirs","n"] (Eo Eb)):Cal P w K mg base "added" 13 ["one","other"] (ug aL aq Eb):=by
 refine F.Jz Fx (fun vs H Q E h=>?_) (fun f cdv A outer s H vs Q E hr h=>?_)
 ·obtain⟨v1,v2,rfl,_⟩:=h;rfl
 ·obtain⟨v1,v2,rfl,q⟩:=h;refine⟨_,(aJ (bw (jj fD hr rfl (aW (pv 0) (aW (pv 1) (aW (tE fK rfl) ak)))))),?_⟩;exact⟨_,rfl,_,rfl,fun g hg=>⟨Eb,v1,v2,g,rfl,.inl ⟨hg,rfl⟩,q⟩⟩
theorem A8(B:Bt mg)(F:Fn K mg "rolled" sU ["one","other"])(M:Ms K mg base aL aN aF aV aP aB aM aO aq)(fD:Cal P w K mg base "joint_row" 12 ["one","other","pair_place"] (wF aL aq mg))(dw:Cal P w K mg base "rolled_place" 1 ["ours","theirs","n"] (Eo mJ)):Cal P w K mg base "rolled" 13 ["one","other"] (ug aL aq mJ):=by
 refine F.Jz Dd (fun vs H Q E h=>?_) (fun f cdv A outer s H vs Q E hr h=>?_)
 ·obtain⟨v1,v2,rfl,_⟩:=h;rfl
 ·obtain⟨v1,v2,rfl,q⟩:=h;refine⟨_,(aJ (bw (jj fD hr rfl (aW (pv 0) (aW (pv 1) (aW (tE dw rfl) ak)))))),?_⟩;exact⟨_,rfl,_,rfl,fun g hg=>⟨mJ,v1,v2,g,rfl,.inr (.inl ⟨hg,rfl⟩),q⟩⟩
theorem uq(B:Bt mg)(F:Fn K mg "multiplied" jR ["one","other"])(M:Ms K mg base aL aN aF aV aP aB aM aO aq)(fP:Cal P w K mg base "shared_by" 1 ["one","other"] (wj aL))(cT:Cal P w K mg base "shortest" 9 ["row"] tZ)(dO:Cal P w K mg base "refuse_long" 1 ["length"] (CG aq))(iQ:Cal P w K mg base "power_sums" 2 ["rule","count"] MD)(iY:Cal P w K mg base "rule_of_sums" 2 ["sums"] JL)(gY:Cal P w K mg base "pair_row" 11 ["one","other","rule","pair_place"] (wZ mg))(cP:Cal P w K mg base "product_place" 1 ["ours","theirs","n"] (Eo Mp)):Cal P w K mg base "multiplied" 13 ["one","other"] (KL aL aq):=by
 refine F.Jz cV (fun vs H Q E h=>?_) (fun f cdv A outer s H vs Q E hr h=>?_)
 ·obtain⟨v1,v2,rfl,_⟩:=h;rfl
 ·obtain⟨v1,v2,rfl,hU⟩:=h;refine⟨_,(ao (iB (jj fP hr rfl (aW (pv 0) (aW (pv 1) ak))))
   (ao (aQ (i:=2) cV.nd rfl (Or.inl rfl) (aC cT hr rfl (aW (pv 0) ak)))
   (ao (aQ (i:=3) cV.nd rfl (Or.inl rfl) (aC cT hr rfl (aW (pv 1) ak)))
   (ao (aQ (i:=4) cV.nd rfl (Or.inl rfl) (aR v_mul (aU (jy K) rfl B.b_len boot_len (aK (bF (xix K) (pv 2) aA (fun _ _=>rfl)) ak)) (aU (jy K) rfl B.b_len boot_len (aK (bF (xix K) (pv 3) aA (fun _ _=>rfl)) ak))))
   (ao (iB (jj dO hr rfl (aW (pv 4) ak)))
   (ao (aQ (i:=5) cV.nd rfl (Or.inr rfl) (aC iQ hr rfl (aK (bF (xix K) (pv 2) aA (fun _ _=>rfl)) (aW (pv 4) ak))))
   (ao (aQ (i:=6) cV.nd rfl (Or.inr rfl) (aC iQ hr rfl (aK (bF (xix K) (pv 3) aA (fun _ _=>rfl)) (aW (pv 4) ak))))
   (ao (aQ (i:=7) cV.nd rfl (Or.inl rfl) (aC iY hr rfl (aK (d9 (sc:=qX) (N:=["k","our_sums","their_sums"]) (ix:=[none,some 5,some 6]) (dB (by kernel_rfl) (by kernel_rfl) (by kernel_rfl) (by kernel_rfl) (by kernel_rfl) (by kernel_rfl) (by kernel_rfl) (by kernel_rfl)) rfl (cg rfl B.b_range (aW (pv 4) ak)) (fun cl C s₀ H₀ ex=>⟨(bG (i:=0) (show(["k","our_sums","their_sums"]:List Str).Nodup by decide +kernel) rfl (Or.inl rfl)),dz,(aR v_mul (bF (xix K) (pv 1) (pv 0) (fun _ _=>rfl)) (bF (xix K) (pv 2) (pv 0) (fun _ _=>rfl)))⟩)) ak)))
   (aJ (bw (aC gY hr rfl (aW (pv 2) (aW (pv 3) (aW (pv 7) (aW (tE cP rfl) ak))))))))))))))),?_⟩
  rcases hU with⟨r1,r2,hR1,hR2,ne,qn⟩|hU
  ·exact⟨_,rfl,_,rfl,v1,v2,r1,r2,rfl,hR1,hR2,fun e=>absurd e ne,fun _=>qn⟩
  obtain⟨b,r1,r2,w1,w2,w3,w4,L1,L2,w,hR1,hR2,M1,M2,hw1,hw3,lst1,ll1,lst2,ll2,br1,br2,hw,hw0,bp1,bp2,q1,q2⟩:=hU;have e1:=M1.by_;have e2:=M2.by_;have hb:=M1.hB;have s1:=M1.len12;have s2:=M2.len12;refine⟨_,rfl,_,rfl,v1,v2,r1,r2,rfl,hR1,hR2,fun _=>?_,fun ne=>absurd (by rw[e1,e2]) ne⟩;refine⟨_,rfl,v1,r1,rfl,hR1,M1.ok,M1.byp,M1.tame,fun x1 L1' H1 g1 hS1 lst1' ll1'=>?_⟩;have eL1:L1'=L1:=by
   rw[e1]at lst1';exact lst1'.uniq hb.one lst1
  subst eL1;refine⟨_,rfl,v2,r2,rfl,hR2.same g1,M2.ok,M2.byp,M2.tame,fun x2 L2' H2 g2 hS2 lst2' ll2'=>?_⟩;have eL2:L2'=L2:=by
   rw[e2]at lst2';exact lst2'.uniq hb.one lst2
  subst eL2;have N1:=M1.short lst1 ll1 (by omega);have N2:=M2.short lst2 ll2 (by omega);obtain⟨l1,_⟩:=gR ll1 M1.ok;obtain⟨l2,_⟩:=gR ll2 M2.ok;have hS1':=hS1.same g2;obtain⟨c1,p1,t1,rfl,hC1,hP1,hT1⟩:=id hS1';obtain⟨c2,p2,t2,rfl,hC2,hP2,hT2⟩:=id hS2;have lS1:((cO r1 L1').rule.map V.int).length=L1'.length-1:=by rw[List.length_map,l1]
  have lS2:((cO r2 L2').rule.map V.int).length=L2'.length-1:=by rw[List.length_map,l2]
  refine⟨_,rfl,_,_,.inr (SqT.of hC1),rfl,.ref p1,L1'.length-1,rfl,.inr ⟨_,SqT.of hP1,lS1.symm⟩,_,rfl,_,_,.inr (SqT.of hC2),rfl,.ref p2,L2'.length-1,rfl,.inr ⟨_,SqT.of hP2,lS2.symm⟩,mulL (by omega) (by omega),?_⟩;rw[<-Int.natCast_mul];generalize hn:(L1'.length-1)*(L2'.length-1)=n at q1 q2;refine⟨_,rfl,(n:Int),rfl,fun hle=>?_,fun hlt=>q2 (by omega) _ (g1.trans g2)⟩;have n12:n<=12:=by omega
  refine⟨_,rfl,_,_,.inr (SqT.of hC1),rfl,_,rfl,p1,(cO r1 L1').rule,n,w,rfl,hP1,n12,hw,br1,fun l5 u1 H5 g5 h5 ls1 bs1=>?_⟩;refine⟨_,rfl,_,_,.inr (SqT.of (g5 _ _ hC2)),rfl,_,rfl,p2,(cO r2 L2').rule,n,w,rfl,g5 _ _ hP2,n12,hw,br2,fun l6 u2 H6 g6 h6 ls2 bs2=>?_⟩;have h56:=g6 _ _ h5;have k1:u1.length*(w+3)<=12*23:=Nat.mul_le_mul (by omega) (by omega);have k2:u2.length*(w+3)<=12*23:=Nat.mul_le_mul (by omega) (by omega);have bu1:∀x∈u1,Rm.Bd 300 x:=Le.list (w:=w+3) (by omega) (fun j hj=>bs1 j (by omega));have bu2:∀x∈u2,Rm.Bd 300 x:=Le.list (w:=w+3) (by omega) (fun j hj=>bs2 j (by omega));refine⟨_,rfl,(n:Int),rfl,(by omega:-(2^62)<=(n:Int)),(by omega:(n:Int)<2^62),?_⟩;rw[Int.toNat_natCast];refine mK (n:=n) (by omega) rfl (fun k=>Pm.co u1 k*Pm.co u2 k) ?_ ?_
  ·intro H7 k g7 hk kk hkk;exact⟨_,rfl,_,rfl,_,V.int (Pm.co u1 k),.inl (SqL.of (g7 _ _ h56)),(by rw[Int.zero_add];exact Ar (by omega)),_,rfl,_,rfl,_,V.int (Pm.co u2 k),.inl (SqL.of (g7 _ _ h6)),(by rw[Int.zero_add];exact Ar (by omega)),oU (Pm.jV bu1 k) (Pm.jV bu2 k) (by decide),hkk _ (Same.refl _)⟩
  ·intro D H7 hD g7 h7;refine⟨D,Pm.ofF n fun k=>Pm.co u1 k*Pm.co u2 k,n,2*(w+3),rfl,h7,Pm.aZ ..,n12,by omega,fun i hi=>?_,fun l8 rule H8 g8 h8 lr br=>?_⟩
   ·rw[Pm.bZ,if_pos hi,Nat.two_mul,show(2:Nat)^(w+3+(w+3))=2^(w+3)*2^(w+3)from Nat.pow_add ..,Nat.mul_pow];exact(bs1 i hi).mul (bs2 i hi)
   ·have g38:=g5.trans (g6.trans (g7.trans g8));have hlr:=M1.ok.len;have hlr2:=M2.ok.len;have ea1:(cO r1 L1').at=r1.at:=funext fun n=>jx M1.ok.zR (by rw[e1];exact lst1) (by omega) n;have ea2:(cO r2 L2').at=r2.at:=funext fun n=>jx M2.ok.zR (by rw[e2];exact lst2) (by omega) n;refine⟨_,rfl,_,rfl,_,rfl,fun g hg=>⟨Mp,.ref c1,.ref c2,l8,g,b,cO r1 L1',cO r2 L2',rule,3800,145,w1,12*(w1+12)+11,w3,12*(w3+12)+11,rfl,.inr (.inr ⟨hg,rfl⟩),hS1'.same g38,hS2.same g38,N1,N2,.inl h8,by omega,hw1,hw3,?_,by decide,fun v' r' L' H' g' _ _ _=>q1 n12 v' H' (g1.trans (g2.trans (g38.trans g')))⟩⟩;rw[ea1,ea2,lr];exact Jd hb lr n12 (fun z i hi=>by have:=br i hi;rw[hw0 z]at this;exact this) (fun k hk=>((bp1 k hk).mul (bp2 k hk)).mono (by decide))
theorem CN(B:Bt mg)(F:Fn K mg "_law_heard" tG ["_law_told"])(M:Ms K mg base aL aN aF aV aP aB aM aO aq):MX P w K mg base "_law_heard" 15 ["_law_told"] (yV P w K mg base 14 (yE aL aq)):=by
 refine F.Zx mV (fun s vs H Q E h=>?_) (fun f cdv A outer s H vs Q E hr h=>?_)
 ·obtain⟨f,sp0,rfl,_⟩:=h;rfl
 ·obtain⟨f,sp0,rfl,hL,kd,h3,h0,q⟩:=h;refine⟨_,(ao (aQ (i:=1) mV.nd rfl (Or.inl rfl) Kw)
   (ao (zX (i:=0) (j:=2) hL hr rfl rfl rfl rfl (Or.inl rfl) mV.nd rfl rfl rfl M.m_RuleError (fun a=>(aJ (aQ (i:=1) mV.nd rfl (Or.inl rfl) (pv 2)))))
   (ao (iU (JG (J8 (pv 1)))
   (aJ (bw gb))
   cR)
   (ao (iU (PW.pt (IV (rW (aU (DR K) rfl B.b_isinstance boot_isinstance (aW (pv 1) (xq (dU (aW (mO rfl M.m_NoName) (aW (mO rfl M.m_NoNumber) (aW (mO rfl M.m_NoRow) (aW (mO rfl M.m_NoText) (aW (mO rfl M.m_TooBig) (aW (mO rfl M.m_TooFar) ak))))))) ak)))) (Gz (uL (rW (aU (DR K) rfl B.b_isinstance boot_isinstance (aW (pv 1) (aW (MJ rfl B.b_ValueError qw) ak))))))))
   (aJ (bw gb))
   cR)
   (ao (iU (bW (xeq K hr) (aU (DR K) rfl B.b_isinstance boot_isinstance (aW (pv 1) (aW (mO rfl M.m_NoBy) ak))) (aU (DR K) rfl B.b_isinstance boot_isinstance (aW (pv 1) (aW (mO rfl M.m_TooLong) ak))) (bY _))
   (aJ (bw gb))
   cR)
   (aJ (bw (bF (xix K) (cN (cX gb (cX gb ak))) (bJ ji rfl B.b_int boot_int (aK (aU (DR K) rfl B.b_isinstance boot_isinstance (aW (pv 1) (aW (mO rfl M.m_NoBy) ak))) ak)) (fun _ _=>rfl))))))))),?_⟩
  refine⟨rfl,h0 _ _ ?_⟩;obtain rfl|rfl|rfl:kd=0∨kd=1∨kd=2:=by omega
  ·refine .inl ⟨rfl,fun v H2 g2=>?_⟩;refine⟨_,rfl,_,rfl,?_⟩;rw[decide_eq_true rfl];exact YJ (q H2 g2)
  ·refine .inr (.inl ⟨rfl,fun H2 g2=>⟨_,rfl,M.s_TooLong_RuleError,fun a ha=>?_⟩⟩);have g0:=g2.trans (Same.new ha (AX a aq));have hA:(upd H2 a (AX a aq)) a=some (AX a aq):=au;generalize upd H2 a (AX a aq)=H3 at g0 hA;refine⟨_,rfl,_,rfl,_,rfl,?_⟩;rw[decide_eq_false (by intro z;cases z)];refine zy ?_;refine⟨_,rfl,(by show 6<=sizeLine;decide),fun p hp=>?_⟩;have g1:=Same.new hp (.tup [.ref aN,.ref aF,.ref aV,.ref aP,.ref aM,.ref aO]);replace hA:=g1 _ _ hA;refine⟨a,aq,.ref p,false,rfl,hA,M.i_TooLong,.inr (.inr ⟨p,[aN,aF,aV,aP,aM,aO],rfl,au,?_⟩),?_⟩
   ·simp only[List.map,PySem.W.kitAny,M.k_TooLong_NoName,M.k_TooLong_NoNumber,M.k_TooLong_NoRow,M.k_TooLong_NoText,M.k_TooLong_TooBig,M.k_TooLong_TooFar]
   ·generalize upd H3 p (.tup [.ref aN,.ref aF,.ref aV,.ref aP,.ref aM,.ref aO])=H4 at g1 hA;refine⟨_,rfl,zy ?_⟩;refine⟨_,rfl,a,aq,_,true,rfl,hA,M.i_TooLong,.inr (.inl ⟨_,rfl,M.k_TooLong_ValueError⟩),_,rfl,zy ?_⟩;refine⟨_,rfl,a,aq,_,false,rfl,hA,M.i_TooLong,.inl ⟨_,rfl,M.k_TooLong_NoBy⟩,_,rfl,a,aq,_,true,rfl,hA,M.i_TooLong,.inl ⟨_,rfl,M.k_TooLong_TooLong⟩,_,rfl,zy ?_⟩;refine⟨(by show 2<=sizeLine;decide),fun ls hls=>?_⟩;have g2':=Same.new hls (.lst [.str "long",.str "by"]);refine⟨_,rfl,a,aq,_,false,rfl,g2' _ _ hA,M.i_TooLong,.inl ⟨_,rfl,M.k_TooLong_NoBy⟩,.inr ⟨_,rfl,_,_,.inl (SqL.of au),rfl,q _ (g0.trans (g1.trans g2'))⟩⟩
  ·refine .inr (.inr ⟨rfl,fun H2 g2=>⟨_,rfl,M.s_NoBy_RuleError,fun a ha=>?_⟩⟩);have g0:=g2.trans (Same.new ha (AX a aL));have hA:(upd H2 a (AX a aL)) a=some (AX a aL):=au;generalize upd H2 a (AX a aL)=H3 at g0 hA;refine⟨_,rfl,_,rfl,_,rfl,?_⟩;rw[decide_eq_false (by intro z;cases z)];refine zy ?_;refine⟨_,rfl,(by show 6<=sizeLine;decide),fun p hp=>?_⟩;have g1:=Same.new hp (.tup [.ref aN,.ref aF,.ref aV,.ref aP,.ref aM,.ref aO]);replace hA:=g1 _ _ hA;refine⟨a,aL,.ref p,false,rfl,hA,M.i_NoBy,.inr (.inr ⟨p,[aN,aF,aV,aP,aM,aO],rfl,au,?_⟩),?_⟩
   ·simp only[List.map,PySem.W.kitAny,M.k_NoBy_NoName,M.k_NoBy_NoNumber,M.k_NoBy_NoRow,M.k_NoBy_NoText,M.k_NoBy_TooBig,M.k_NoBy_TooFar]
   ·generalize upd H3 p (.tup [.ref aN,.ref aF,.ref aV,.ref aP,.ref aM,.ref aO])=H4 at g1 hA;refine⟨_,rfl,zy ?_⟩;refine⟨_,rfl,a,aL,_,true,rfl,hA,M.i_NoBy,.inr (.inl ⟨_,rfl,M.k_NoBy_ValueError⟩),_,rfl,zy ?_⟩;refine⟨_,rfl,a,aL,_,true,rfl,hA,M.i_NoBy,.inl ⟨_,rfl,M.k_NoBy_NoBy⟩,_,rfl,a,aL,_,false,rfl,hA,M.i_NoBy,.inl ⟨_,rfl,M.k_NoBy_TooLong⟩,_,rfl,zy ?_⟩;refine⟨(by show 2<=sizeLine;decide),fun ls hls=>?_⟩;have g2':=Same.new hls (.lst [.str "long",.str "by"]);refine⟨_,rfl,a,aL,_,true,rfl,g2' _ _ hA,M.i_NoBy,.inl ⟨_,rfl,M.k_NoBy_NoBy⟩,.inr ⟨_,rfl,_,_,.inl (SqL.of au),rfl,q _ (g0.trans (g1.trans g2'))⟩⟩
theorem HM{T:Addr}(MK:MkD mg base "_law_all" T)(KB:K.In base)(B:Bt mg)(F:Fn K mg "_law_all" CD ["_law_one","_law_other"])(M:Ms K mg base aL aN aF aV aP aB aM aO aq)(mL:MX P w K mg base "_law_heard" 15 ["_law_told"] (yV P w K mg base 14 (yE aL aq)))(xP:Cal P w K mg base "added" 13 ["one","other"] (ug aL aq Eb))(j7:Cal P w K mg base "multiplied" 13 ["one","other"] (KL aL aq))(tX:Cal P w K mg base "rolled" 13 ["one","other"] (ug aL aq mJ)):Cal P w K mg base "_law_all" 16 ["_law_one","_law_other"] (K6 aL aq T):=by
 refine F.ZR MK KB tV (fun vs H Q E h=>?_) (fun f cdv A outer s H vs Q E hM hr h=>?_)
 ·obtain⟨v1,v2,ka,km,rfl,_⟩:=h;rfl
 ·obtain⟨v1,v2,ka,km,rfl,ha3,hm3,P1,P2,hT,q⟩:=h;refine⟨_,(ao (aQ (i:=2) tV.nd rfl (Or.inl rfl) (cN ak))
   (ao (j4 PassesOwn.never rfl (Ie K (cN (xq (dU (aW (pv 0) (aW (pv 1) ak))) (xq (dU (aW (pv 1) (aW (pv 0) ak))) ak)))) (Ej K (n:=2) rfl (fV (bG (i:=3) tV.nd rfl (Or.inr rfl)) (fV (bG (i:=4) tV.nd rfl (Or.inr rfl)) sX)))
   (ao (iB (jX K (pv 2) (wz (N:=["_law_first","_law_second"]) (ix:=[some 3,some 4]) mL hr rfl hM (Cg (by kernel_rfl) (by kernel_rfl) (by kernel_rfl) (by kernel_rfl) (by kernel_rfl) (by kernel_rfl) (by kernel_rfl) (by kernel_rfl)) (fun f cd cl A outer s₀ H₀ E hr=>(pK xP hr rfl (aW (pv 0) (aW (pv 1) ak)))) rfl)))
   (ao (iB (jX K (pv 2) (wz (N:=["_law_first","_law_second"]) (ix:=[some 3,some 4]) mL hr rfl hM (Cg (by kernel_rfl) (by kernel_rfl) (by kernel_rfl) (by kernel_rfl) (by kernel_rfl) (by kernel_rfl) (by kernel_rfl) (by kernel_rfl)) (fun f cd cl A outer s₀ H₀ E hr=>(pK j7 hr rfl (aW (pv 0) (aW (pv 1) ak)))) rfl)))
   (aJ (iB (jX K (pv 2) (wz (N:=["_law_first","_law_second"]) (ix:=[some 3,some 4]) mL hr rfl hM (Cg (by kernel_rfl) (by kernel_rfl) (by kernel_rfl) (by kernel_rfl) (by kernel_rfl) (by kernel_rfl) (by kernel_rfl) (by kernel_rfl)) (fun f cd cl A outer s₀ H₀ E hr=>(pK tX hr rfl (aW (pv 0) (aW (pv 1) ak)))) rfl)))))))
   (aJ (bw (pv 2))))),?_⟩
  refine⟨(by show 0<=sizeLine;decide),fun l hl=>?_⟩;have gl:=Same.new hl (.lst []);have hL0:(upd H l (.lst [])) l=some (.lst []):=au;have hT0:=hT.same gl;generalize upd H l (.lst [])=H0 at gl hL0 hT0;refine⟨_,rfl,_,rfl,(by show 2<=sizeLine;decide),fun t1 ht1=>?_⟩;have g1:=Same.new ht1 (.tup [v1,v2]);have h1:(upd H0 t1 (.tup [v1,v2])) t1=some (.tup [v1,v2]):=au;generalize upd H0 t1 (.tup [v1,v2])=H1 at g1 h1;refine⟨_,rfl,_,rfl,(by show 2<=sizeLine;decide),fun t2 ht2=>?_⟩;have g2:=Same.new ht2 (.tup [v2,v1]);have h2:(upd H1 t2 (.tup [v2,v1])) t2=some (.tup [v2,v1]):=au;generalize upd H1 t2 (.tup [v2,v1])=H2 at g2 h2;refine⟨(by show 2<=sizeLine;decide),fun lp hlp=>?_⟩;have g3:=Same.new hlp (.lst [.ref t1,.ref t2]);have h3:(upd H2 lp (.lst [.ref t1,.ref t2])) lp=some (.lst [.ref t1,.ref t2]):=au;generalize upd H2 lp (.lst [.ref t1,.ref t2])=H3 at g3 h3;have h13:=g3 _ _ (g2 _ _ h1);have h23:=g3 _ _ h2;have hL3:=g3 _ _ (g2 _ _ (g1 _ _ hL0));have g03:=gl.trans (g1.trans (g2.trans g3));have hT3:=hT0.same (g1.trans (g2.trans g3));have np:lp≠l:=fun z=>by rw[z]at hlp;rw[g2 _ _ (g1 _ _ hL0)]at hlp;cases hlp
  have n1:t1≠l:=fun z=>by rw[z,hL0]at ht1;cases ht1
  have n2:t2≠l:=fun z=>by rw[z,g1 _ _ hL0]at ht2;cases ht2
  clear gl hL0 hT0 g1 h1 g2 h2 g3;refine⟨lp,rfl,.inl ⟨⟨_,SqL.of h3⟩,?_⟩⟩;refine EA (xs:=[.ref t1,.ref t2]) (fun i σ' H'=>∃(o3 o4:Option V),σ'=[some v1,some v2,some (.ref l),o3,o4]/\fJ H H'/\kO H' T (Km "_law_all")/\H' l=some (.lst (kdL (([ka,km,ka,ka,km,ka]:List Nat).take (3*i))))/\H' lp=some (.lst [.ref t1,.ref t2])/\H' t1=some (.tup [v1,v2])/\H' t2=some (.tup [v2,v1])) ⟨none,none,rfl,g03.t,hT3,hL3,h3,h13,h23⟩ (fun i σ' H' _ ⟨_,_,_,_,_,_,z,_⟩=>SqL.of z) ?_ ?_
  ·rintro i x σ' H' hx ⟨o3,o4,rfl,g,hT',hL,hp,hx1,hx2⟩;obtain⟨t,x1,x2,rfl,ht,PP,hcat,hlen⟩:∃t x1 x2,x = .ref t/\H' t=some (.tup [x1,x2])/\AllP aL aq H x1 x2 ka km/\(([ka,km,ka,ka,km,ka]:List Nat).take (3*(i+1))=([ka,km,ka,ka,km,ka]:List Nat).take (3*i)++[ka]++[km]++[ka])/\(([ka,km,ka,ka,km,ka]:List Nat).take (3*i)).length<=3:=by
    match i,hx with
    |0,hx=>cases hx;exact⟨t1,v1,v2,rfl,hx1,P1,rfl,by simp⟩
    |1,hx=>cases hx;exact⟨t2,v2,v1,rfl,hx2,P2,rfl,by simp⟩
    |n+2,hx=>simp at hx
   generalize ([ka,km,ka,ka,km,ka]:List Nat).take (3*i)=ks at hL hcat hlen;refine⟨t,_,rfl,SqT.of ht,rfl,_,_,rfl,_,_,rfl,rfl,?_⟩;refine⟨_,rfl,.inl ⟨rfl,_,SqL.of hL⟩,hT',fun A1 ga1 hTa1=>?_⟩;refine⟨ka,ha3,fun Q' E' hk=>⟨_,rfl,_,rfl,x1,x2,rfl,PP.add A1 (g.trans ga1) Q' E' hk⟩,fun B1 gb1=>?_⟩;have hLb1:=gb1 _ _ (ga1.lst hL);refine⟨l,_,_,rfl,rfl,hLb1,by rw[List.length_map];exact bQ (by first|omega|(simp;omega)),?_⟩
   have gn1:=pW ((g.trans ga1).trans gb1.t) hl (.lst (kdL (ks)++[.str (kdS ka)]));have hTn1:=wR (hTa1.same gb1) (ys:=kdL (ks)++[.str (kdS ka)]) hLb1;have hLn1:(upd B1 l (.lst (kdL (ks)++[.str (kdS ka)]))) l=some (.lst (kdL (ks++[ka]))):=by rw[au,xO (ks) ka]
   have hpn1:(upd B1 l (.lst (kdL (ks)++[.str (kdS ka)]))) lp=some (.lst [.ref t1,.ref t2]):=by rw[bD np];exact gb1 _ _ (ga1.lst hp)
   have hxn1:(upd B1 l (.lst (kdL (ks)++[.str (kdS ka)]))) t1=some (.tup [v1,v2]):=by rw[bD n1];exact gb1 _ _ (ga1.tup hx1)
   have hyn1:(upd B1 l (.lst (kdL (ks)++[.str (kdS ka)]))) t2=some (.tup [v2,v1]):=by rw[bD n2];exact gb1 _ _ (ga1.tup hx2)
   generalize upd B1 l (.lst (kdL (ks)++[.str (kdS ka)]))=D1 at gn1 hTn1 hLn1 hpn1 hxn1 hyn1;refine⟨_,rfl,.inl ⟨rfl,_,SqL.of hLn1⟩,hTn1,fun A2 ga2 hTa2=>?_⟩;refine⟨km,hm3,fun Q' E' hk=>⟨_,rfl,_,rfl,x1,x2,rfl,PP.mul A2 (gn1.trans ga2) Q' E' hk⟩,fun B2 gb2=>?_⟩;have hLb2:=gb2 _ _ (ga2.lst hLn1);refine⟨l,_,_,rfl,rfl,hLb2,by rw[List.length_map];exact bQ (by first|omega|(simp;omega)),?_⟩
   have gn2:=pW ((gn1.trans ga2).trans gb2.t) hl (.lst (kdL (ks++[ka])++[.str (kdS km)]));have hTn2:=wR (hTa2.same gb2) (ys:=kdL (ks++[ka])++[.str (kdS km)]) hLb2;have hLn2:(upd B2 l (.lst (kdL (ks++[ka])++[.str (kdS km)]))) l=some (.lst (kdL (ks++[ka]++[km]))):=by rw[au,xO (ks++[ka]) km]
   have hpn2:(upd B2 l (.lst (kdL (ks++[ka])++[.str (kdS km)]))) lp=some (.lst [.ref t1,.ref t2]):=by rw[bD np];exact gb2 _ _ (ga2.lst hpn1)
   have hxn2:(upd B2 l (.lst (kdL (ks++[ka])++[.str (kdS km)]))) t1=some (.tup [v1,v2]):=by rw[bD n1];exact gb2 _ _ (ga2.tup hxn1)
   have hyn2:(upd B2 l (.lst (kdL (ks++[ka])++[.str (kdS km)]))) t2=some (.tup [v2,v1]):=by rw[bD n2];exact gb2 _ _ (ga2.tup hyn1)
   generalize upd B2 l (.lst (kdL (ks++[ka])++[.str (kdS km)]))=D2 at gn2 hTn2 hLn2 hpn2 hxn2 hyn2;refine⟨_,rfl,.inl ⟨rfl,_,SqL.of hLn2⟩,hTn2,fun A3 ga3 hTa3=>?_⟩;refine⟨ka,ha3,fun Q' E' hk=>⟨_,rfl,_,rfl,x1,x2,rfl,PP.rol A3 (gn2.trans ga3) Q' E' hk⟩,fun B3 gb3=>?_⟩;have hLb3:=gb3 _ _ (ga3.lst hLn2);refine⟨l,_,_,rfl,rfl,hLb3,by rw[List.length_map];exact bQ (by first|omega|(simp;omega)),?_⟩
   have gn3:=pW ((gn2.trans ga3).trans gb3.t) hl (.lst (kdL (ks++[ka]++[km])++[.str (kdS ka)]));have hTn3:=wR (hTa3.same gb3) (ys:=kdL (ks++[ka]++[km])++[.str (kdS ka)]) hLb3;have hLn3:(upd B3 l (.lst (kdL (ks++[ka]++[km])++[.str (kdS ka)]))) l=some (.lst (kdL (ks++[ka]++[km]++[ka]))):=by rw[au,xO (ks++[ka]++[km]) ka]
   have hpn3:(upd B3 l (.lst (kdL (ks++[ka]++[km])++[.str (kdS ka)]))) lp=some (.lst [.ref t1,.ref t2]):=by rw[bD np];exact gb3 _ _ (ga3.lst hpn2)
   have hxn3:(upd B3 l (.lst (kdL (ks++[ka]++[km])++[.str (kdS ka)]))) t1=some (.tup [v1,v2]):=by rw[bD n1];exact gb3 _ _ (ga3.tup hxn2)
   have hyn3:(upd B3 l (.lst (kdL (ks++[ka]++[km])++[.str (kdS ka)]))) t2=some (.tup [v2,v1]):=by rw[bD n2];exact gb3 _ _ (ga3.tup hyn2)
   generalize upd B3 l (.lst (kdL (ks++[ka]++[km])++[.str (kdS ka)]))=D3 at gn3 hTn3 hLn3 hpn3 hxn3 hyn3;exact⟨_,_,rfl,gn3,hTn3,by rw[hcat];exact hLn3,hpn3,hxn3,hyn3⟩
  ·rintro σ' H' ⟨o3,o4,rfl,g,hT',hL,hp,hx1,hx2⟩;exact⟨_,rfl,q l H' g hT' hL⟩
theorem tM(B:Bt mg)(F:Fn K mg "_law_of_length" jT ["_law_by","_law_size","_law_cell"])(M:Ms K mg base aL aN aF aV aP aB aM aO aq)(cW:Cal P w K mg base "_law_one_number" 2 ["_law_by","_law_cell","_law_k"] DL):Cal P w K mg base "_law_of_length" 3 ["_law_by","_law_size","_law_cell"] ML:=by
 refine F.cal m5 (fun vs H Q E h=>?_) (fun f cdv A outer s H vs Q E hr h=>?_)
 ·obtain⟨b,c,m,rfl,_⟩:=h;rfl
 ·obtain⟨b,c,m,rfl,hb,hc,m1,m12,q⟩:=h;refine⟨_,(ao (wW (i:=3) (hN:=m5.nd) (hi':=rfl) (hx:=(Or.inl rfl)) (sc:=rB) (N:=["_law_k","_law_by","_law_cell"]) (ix:=[none,some 0,some 2]) (dB (by kernel_rfl) (by kernel_rfl) (by kernel_rfl) (by kernel_rfl) (by kernel_rfl) (by kernel_rfl) (by kernel_rfl) (by kernel_rfl)) rfl (cg rfl B.b_range (aW (pv 1) ak)) (fun cl C s₀ H₀ ex=>⟨(bG (i:=0) (show(["_law_k","_law_by","_law_cell"]:List Str).Nodup by decide +kernel) rfl (Or.inl rfl)),dz,(aC cW hr rfl (aW (pv 1) (aW (pv 2) (aW (pv 0) ak))))⟩))
   (aJ (bw (dU (aW (pv 0) (aK (bJ (ig K) rfl B.b_tuple boot_tuple (aW (pv 3) ak)) (aK (bJ (ig K) rfl B.b_tuple boot_tuple (mR (aR (gO K) (aR v_mul (cN (cX aA ak)) (aR cA (pv 1) aA)) (cN (cX aA ak))) ak)) ak))))))),?_⟩
  refine⟨_,rfl,(m:Int),rfl,(by omega:-(2^62)<=(m:Int)),(by omega:(m:Int)<2^62),?_⟩;rw[Int.toNat_natCast];refine ql (n:=m) (by omega) rfl (fun x=>jh b x/\Rm.Bd 13 x/\(b=0->Rm.Bd 3 x)) ?_ ?_
  ·intro H2 k g2 hk kk hkk;exact⟨_,rfl,_,rfl,_,rfl,b,c,0+(k:Int),rfl,hb,hc,by omega,by omega,fun x H3 g3 h1 _ h2=>hkk x H3 g3 ⟨h1,h2 (by omega)⟩⟩
  intro D H1 rule hD g1 hD1 lr hr;refine⟨_,rfl,_,rfl,D,_,rfl,.inl ⟨SqL.of hD1,fun t1 ht1=>?_⟩⟩;have gt1:=Same.new ht1 (.tup (rule.map V.int));have h1:(upd H1 t1 (.tup (rule.map V.int))) t1=some (.tup (rule.map V.int)):=au;have g2:=g1.trans gt1;generalize upd H1 t1 (.tup (rule.map V.int))=H2 at h1 g2;refine⟨(by show 1<=sizeLine;decide),fun l3 hl3=>?_⟩;have g3:=Same.new hl3 (.lst [.int 0]);refine⟨_,rfl,_,_,rfl,rfl,_,au,by omega,by omega,?_,fun l4 hl4=>?_⟩
  ·show 1*((m:Int)-1).toNat<=sizeLine;rw[Nat.one_mul];exact Nat.le_of_lt (bQ (by omega))
  rw[show((m:Int)-1).toNat=m-1 by omega,gJ];have g4:=Same.new hl4 (.lst ((Pm.ofF (m-1) fun _=>0).map V.int));have h4:(upd (upd H2 l3 (.lst [.int 0])) l4 (.lst ((Pm.ofF (m-1) fun _=>0).map V.int))) l4=some (.lst ((Pm.ofF (m-1) fun _=>0).map V.int)):=au;have g34:=g3.trans g4;generalize upd (upd H2 l3 (.lst [.int 0])) l4 (.lst ((Pm.ofF (m-1) fun _=>0).map V.int))=H4 at g34 h4;refine⟨(by show 1<=sizeLine;decide),fun l5 hl5=>?_⟩;have g5:=Same.new hl5 (.lst [.int 1]);refine .inl ⟨_,_,g5 _ _ h4,au,?_,fun l6 hl6=>?_⟩
  ·rw[List.length_map,Pm.aZ];exact Nat.le_of_lt (bQ (by simp;omega))
  have eS:(Pm.ofF (m-1) fun _=>0).map V.int++[.int 1]=(Pm.ofF m fun k=>if k+1=m then 1 else 0).map V.int:=by
   have:(Pm.ofF (m-1) fun _=>(0:Int))++[1]=Pm.ofF m fun k=>if k+1=m then 1 else 0:=by
    refine Pm.jN (by rw[List.length_append,Pm.aZ,Pm.aZ];simp;omega) fun k=>?_;rw[Pm.dg,Pm.aZ,Pm.bZ,Pm.bZ];by_cases a1:k<m-1
    ·rw[if_pos a1,if_pos a1,if_pos (by omega),if_neg (by omega)]
    ·rw[if_neg a1];by_cases a2:k<m
     ·rw[if_pos a2,if_pos (by omega),show k-(m-1)=0 by omega];rfl
     ·rw[if_neg a2,Pm.bN (by simp;omega)]
   rw[<-this,List.map_append];rfl
  rw[eS];have g6:=Same.new hl6 (.lst ((Pm.ofF m fun k=>if k+1=m then 1 else 0).map V.int));refine⟨l6,_,rfl,.inl ⟨SqL.of au,fun t7 ht7=>⟨(by show 3<=sizeLine;decide),fun t8 ht8=>?_⟩⟩⟩;have g7:=Same.new ht7 (.tup ((Pm.ofF m fun k=>if k+1=m then 1 else 0).map V.int));have g8:=Same.new ht8 (.tup [.int b,.ref t1,.ref t7]);have gg:=g34.trans (g5.trans (g6.trans (g7.trans g8)));exact q (.ref t8) ⟨b,rule,Pm.ofF m fun k=>if k+1=m then 1 else 0⟩ _ (g2.trans gg) ⟨t8,t1,t7,rfl,au,gg _ _ h1,g8 _ _ au⟩ ⟨rfl,lr,rfl,fun x hx=>(hr x hx).1,fun x hx=>(hr x hx).2.1,fun z x hx=>(hr x hx).2.2 z,m1,m12⟩
theorem Lj{T:Addr}(B:Bt mg){f:Addr}{fd:FuncData}(F:Fun K "law" "law" xY f fd)(M:Ms K mg base aL aN aF aV aP aB aM aO aq)(eN:Cal P w K mg base "_law_cell_at" 1 ["_law_script","_law_k"] (wN K))(fu:Cal P w K mg base "_law_mix" 1 ["_law_cell","_law_k"] yH)(iK:Cal P w K mg base "_law_drawn_row" 4 ["_law_script","_law_start","_law_by","_law_most"] (B4 K))(rP:Cal P w K mg base "_law_all" 16 ["_law_one","_law_other"] (K6 aL aq T))(eO:Cal P w K mg base "_law_of_length" 3 ["_law_by","_law_size","_law_cell"] ML):CP P w K mg base (jC P w) Vn f fd ["_law_script"] (C6 K T):=by
 refine F.okN (k:=17) f9 (fun vs H Q E h=>?_) (fun cdv A outer s H vs Q E hr h=>?_)
 ·obtain⟨a,ns,rfl,_⟩:=h;rfl
 ·obtain⟨a,ns,rfl,hS,hlen,hBt,hT,q⟩:=h;refine⟨_,(ao (aQ (i:=1) f9.nd rfl (Or.inl rfl) (cN (cX aA (cX aA (cX aA (cX aA (cX aA (cX aA (cX aA (cX aA ak))))))))))
   (ao (aQ (i:=2) f9.nd rfl (Or.inl rfl) (aC eN hr rfl (aW (pv 0) (cX aA ak))))
   (ao (aQ (i:=3) f9.nd rfl (Or.inl rfl) (bF (xix K) (pv 1) (aR dW (aC fu hr rfl (aW (pv 2) (cX aA ak))) aA) (fun _ _=>rfl)))
   (ao (aQ (i:=4) f9.nd rfl (Or.inl rfl) (bF (xix K) (pv 1) (aR dW (aR (gO K) (aR (gO K) (aC fu hr rfl (aW (pv 2) (cX aA ak))) aA) (aR dW (aC fu hr rfl (aW (pv 2) (cX aA ak))) aA)) aA) (fun _ _=>rfl)))
   (ao (aQ (i:=5) f9.nd rfl (Or.inl rfl) (aC iK hr rfl (aW (pv 0) (cX aA (aW (pv 3) (cX aA ak))))))
   (ao (iU (bW (xne K hr) (aC rP hr rfl (aW (pv 5) (aK (aC iK hr rfl (aW (pv 0) (cX aA (aW (pv 4) (cX aA ak))))) ak))) (aR v_mul (cN (cX gb ak)) aA) (bY _))
   (aJ (bw vV))
   cR)
   (ao (iU (bW (xne K hr) (aC rP hr rfl (aW (pv 5) (xq (dU (aW (pv 4) (xq (dU ak) (xq (dU ak) ak)))) ak))) (aR v_mul (cN (cX gb ak)) aA) (bY _))
   (aJ (bw vV))
   cR)
   (ao (aQ (i:=6) f9.nd rfl (Or.inl rfl) (aR (gO K) aA (aR dW (aC fu hr rfl (aW (pv 2) (cX aA ak))) aA)))
   (ao (aQ (i:=7) f9.nd rfl (Or.inl rfl) (aR (gO K) (aR cA aA (pv 6)) (aR dW (aC fu hr rfl (aW (pv 2) (cX aA ak))) aA)))
   (ao (aQ (i:=8) f9.nd rfl (Or.inl rfl) (aC eO hr rfl (aW (pv 3) (aW (pv 6) (aW (pv 2) ak)))))
   (ao (aQ (i:=9) f9.nd rfl (Or.inl rfl) (aC eO hr rfl (aW (pv 3) (aW (pv 7) (aK (aC eN hr rfl (aW (pv 0) (cX aA ak))) ak)))))
   (ao (yU (iU (PW.pt (GY (bW (xeq K hr) (aR dW (aC fu hr rfl (aW (pv 2) (cX aA ak))) aA) aA (bY _)) (Dg (bW (xeq K hr) (pv 6) (pv 7) (bY _)))))
   (aJ (aQ (i:=9) f9.nd rfl (Or.inl rfl) (pv 8)))
   cR))
   (ao (aQ (i:=10) f9.nd rfl (Or.inl rfl) (cN (aK (bF (xix K) (cN (cX gb (cX gb ak))) (bJ ji rfl B.b_int boot_int (aK (jf qD (aR (gO K) (pv 6) (pv 7)) aA (bY _)) ak)) (fun _ _=>rfl)) (aK (bF (xix K) (cN (cX gb (cX gb ak))) (bJ ji rfl B.b_int boot_int (aK (jf qD (aR v_mul (pv 6) (pv 7)) aA (bY _)) ak)) (fun _ _=>rfl)) ak))))
   (ao (iU (bW (xne K hr) (aC rP hr rfl (aW (pv 8) (aW (pv 9) ak))) (aR v_mul (cN (aK (bF (xix K) (pv 10) aA (fun _ _=>rfl)) (aK (bF (xix K) (pv 10) aA (fun _ _=>rfl)) (aK (bF (xix K) (pv 10) aA (fun _ _=>rfl)) ak)))) aA) (bY _))
   (aJ (bw vV))
   cR)
   (ao (oF (bF (xix K) (cN (xq (dU (cX aA (cX aA ak))) (xq (dU (cX aA (cX aA ak))) (xq (dU (cX aA (cX aA ak))) (xq (dU (cX aA (cX aA ak))) (xq (dU (cX aA (cX aA ak))) (xq (dU (cX aA (cX aA ak))) (xq (dU (cX aA (cX aA ak))) (xq (dU (cX aA (cX aA ak))) ak))))))))) (aR dW (aC fu hr rfl (aW (pv 2) (cX aA ak))) aA) (fun _ _=>rfl)) (Ej K (n:=2) rfl (fV (bG (i:=11) f9.nd rfl (Or.inl rfl)) (fV (bG (i:=12) f9.nd rfl (Or.inl rfl)) sX))))
   (ao (aQ (i:=13) f9.nd rfl (Or.inl rfl) (aC eO hr rfl (aW (pv 3) (aW (pv 11) (mR (aR pZ (pv 2) aA) ak)))))
   (ao (aQ (i:=14) f9.nd rfl (Or.inl rfl) (aC eO hr rfl (aW (pv 3) (aW (pv 12) (mR (aR pZ (pv 2) aA) ak)))))
   (ao (aQ (i:=10) f9.nd rfl (Or.inl rfl) (cN (aK (bF (xix K) (cN (cX gb (cX gb ak))) (bJ ji rfl B.b_int boot_int (aK (jf qD (aR (gO K) (pv 11) (pv 12)) aA (bY _)) ak)) (fun _ _=>rfl)) (aK (bF (xix K) (cN (cX gb (cX gb ak))) (bJ ji rfl B.b_int boot_int (aK (jf qD (aR v_mul (pv 11) (pv 12)) aA (bY _)) ak)) (fun _ _=>rfl)) ak))))
   (aJ (bw (jf (xeq K hr) (aC rP hr rfl (aW (pv 13) (aW (pv 14) ak))) (aR v_mul (cN (aK (bF (xix K) (pv 10) aA (fun _ _=>rfl)) (aK (bF (xix K) (pv 10) aA (fun _ _=>rfl)) (aK (bF (xix K) (pv 10) aA (fun _ _=>rfl)) ak)))) aA) (bY _)))))))))))))))))))))),?_⟩
  refine⟨(by show 8<=sizeLine;decide),fun lb hlb=>?_⟩;have g0:=Same.new hlb (.lst (byT.map V.int));have hB:(upd H lb (.lst (byT.map V.int))) lb=some (.lst (byT.map V.int)):=au;have eH:(upd H lb (.lst [.int 0,.int 2,.int 3,.int 5,.int 7,.int 11,.int 101,.int 997]))=upd H lb (.lst (byT.map V.int)):=rfl;rw[eH];have hT0:=(hT (Km "_law_all")).same g0;have hS0:=g0.seq hS;generalize upd H lb (.lst (byT.map V.int))=H0 at hB hT0 hS0;clear hT hS g0 eH;refine⟨_,rfl,a,ns,0,rfl,hS0,by decide,by decide,hBt,fun c hc=>?_⟩;refine⟨_,rfl,_,rfl,c,1,rfl,by decide,by decide,fun x x0 x1=>?_⟩;have e0:=dF x (show(0:Int)<8 by decide);have e1:=dD x (show(0:Int)<8 by decide);refine⟨_,_,rfl,rfl,(by decide:(0:Int)<8),_,_,.inl (SqL.of hB),bH (ns:=byT) e0 e1,?_⟩;refine⟨_,rfl,_,rfl,c,1,rfl,by decide,by decide,fun y y0 y1=>?_⟩;have exy:y=x:=by rw[x1.2,y1.2]
  subst exy;refine⟨_,rfl,c,2,rfl,by decide,by decide,fun z z0 z1=>?_⟩;have k0:=dF z (show(0:Int)<7 by decide);have k1:=dD z (show(0:Int)<7 by decide);have f0:=dF (y+1+z%7) (show(0:Int)<8 by decide);have f1:=dD (y+1+z%7) (show(0:Int)<8 by decide);refine⟨_,_,rfl,rfl,(by decide:(0:Int)<7),_,_,rfl,rfl,(by decide:(0:Int)<8),_,_,.inl (SqL.of hB),bH (ns:=byT) f0 f1,?_⟩;have hb:=Gk (k:=(y%8).toNat) (by omega);have hb2:=Gk (k:=((y+1+z%7)%8).toNat) (by omega);have ne:=Ku (y%8).toNat (by omega) ((y+1+z%7)%8).toNat (by omega) (by omega);generalize byT.getD (y%8).toNat 0=b at hb ne;generalize byT.getD ((y+1+z%7)%8).toNat 0=b2 at hb2 ne;refine⟨_,rfl,_,rfl,a,ns,1,b,12,rfl,hS0,by decide,by decide,hBt,hb,by decide,by decide,fun v1 r01 s1 r1 H1 g1 hR1 h01 hRs1 hs1 _=>?_⟩;refine⟨_,rfl,_,rfl,_,rfl,a,ns,3,b2,12,rfl,g1.seq hS0,by decide,by decide,hBt,hb2,by decide,by decide,fun v2 r02 s2 r2 H2 g2 hR2 h02 hRs2 hs2 _=>?_⟩;have hR12:=hR1.same g2;have n12:r1.b≠r2.b:=by rw[hRs1.by_,hRs2.by_];exact ne
  refine⟨v1,v2,2,2,rfl,by decide,by decide,sW hR12 hR2 n12,sW hR2 hR12 (Ne.symm n12),(hT0.same g1).same g2,fun l3 H3 g3 hT3 hL3=>?_⟩;have hR13:=hR12.uh g3;have hS3:=g3.seq (g2.seq (g1.seq hS0));refine⟨(by show 1<=sizeLine;decide),fun l4 hl4=>?_⟩;have g4:=Same.new hl4 (.lst [.str "by"]);refine⟨_,au,by decide,by decide,(by show 1*6<=sizeLine;decide),fun l5 hl5=>?_⟩;have g5:=Same.new hl5 (.lst (kdL [2,2,2,2,2,2]));refine MS (ks:=[2,2,2,2,2,2]) (g5 _ _ (g4 _ _ hL3)) au ⟨_,rfl,zy ?_⟩;have g45:=g4.trans g5;have hR15:=hR13.same g45;have hT5:=hT3.same g45;have hS5:=g45.seq hS3;have eH5:(upd (upd H3 l4 (.lst [.str "by"])) l5 (.lst (List.replicate (6:Int).toNat [V.str "by"]).flatten))=upd (upd H3 l4 (.lst [.str "by"])) l5 (.lst (kdL [2,2,2,2,2,2])):=rfl;rw[eH5];generalize upd (upd H3 l4 (.lst [.str "by"])) l5 (.lst (kdL [2,2,2,2,2,2]))=H5 at hR15 hT5 hS5;clear hL3 g45 g5 g4 hR13 hT3 hS3 eH5;refine⟨_,rfl,_,rfl,(by show 0<=sizeLine;decide),fun p1 hp1=>⟨(by show 0<=sizeLine;decide),fun p2 hp2=>⟨(by show 3<=sizeLine;decide),fun p3 hp3=>?_⟩⟩⟩;have g6:=Same.new hp1 (.tup []);have g7:=Same.new hp2 (.tup []);have g8:=Same.new hp3 (.tup [.int b2,.ref p1,.ref p2]);have hR3:cU (upd (upd (upd H5 p1 (.tup [])) p2 (.tup [])) p3 (.tup [.int b2,.ref p1,.ref p2])) (.ref p3) ⟨b2,[],[]⟩:=⟨p3,p1,p2,rfl,au,g8 _ _ (g7 _ _ au),g8 _ _ au⟩;have g68:=g6.trans (g7.trans g8);have hR18:=hR15.same g68;have hT8:=hT5.same g68;have hS8:=g68.seq hS5;generalize upd (upd (upd H5 p1 (.tup [])) p2 (.tup [])) p3 (.tup [.int b2,.ref p1,.ref p2])=H8 at hR3 hR18 hT8 hS8;have n13:r1.b≠b2:=by rw[hRs1.by_];exact ne
  refine⟨v1,.ref p3,2,2,rfl,by decide,by decide,sW hR18 hR3 n13,sW hR3 hR18 (Ne.symm n13),hT8,fun l9 H9 g9 hT9 hL9=>?_⟩;have hS9:=g9.seq hS8;refine⟨(by show 1<=sizeLine;decide),fun l10 hl10=>?_⟩;have g10:=Same.new hl10 (.lst [.str "by"]);refine⟨_,au,by decide,by decide,(by show 1*6<=sizeLine;decide),fun l11 hl11=>?_⟩;have g11:=Same.new hl11 (.lst (kdL [2,2,2,2,2,2]));refine MS (ks:=[2,2,2,2,2,2]) (g11 _ _ (g10 _ _ hL9)) au ⟨_,rfl,zy ?_⟩;have g1011:=g10.trans g11;have hT11:=hT9.same g1011;have hS11:=g1011.seq hS9;have eH11:(upd (upd H9 l10 (.lst [.str "by"])) l11 (.lst (List.replicate (6:Int).toNat [V.str "by"]).flatten))=upd (upd H9 l10 (.lst [.str "by"])) l11 (.lst (kdL [2,2,2,2,2,2])):=rfl;rw[eH11];generalize upd (upd H9 l10 (.lst [.str "by"])) l11 (.lst (kdL [2,2,2,2,2,2]))=H11 at hT11 hS11;clear hR18 hR3 hT8 hS8 hT9 hS9 hL9 g9 g10 g11 g1011 eH11 hR15 hT5 hS5 g6 g7 g8 g68 hR1 hR12 hR2 hT0 hS0 g3;refine⟨_,rfl,c,3,rfl,by decide,by decide,fun x3 _ _=>⟨_,_,rfl,rfl,(by decide:(0:Int)<11),?_⟩⟩;have a0:=dF x3 (show(0:Int)<11 by decide);have a1:=dD x3 (show(0:Int)<11 by decide);obtain⟨m,hm⟩:∃m:Nat,1+x3%11=(m:Int):=⟨(1+x3%11).toNat,by omega⟩;dsimp only[DY];rw[hm];refine⟨_,rfl,_,_,rfl,rfl,_,rfl,c,4,rfl,by decide,by decide,fun x4 _ _=>⟨_,_,rfl,rfl,(by decide:(0:Int)<2),?_⟩⟩;have c0:=dF x4 (show(0:Int)<2 by decide);have c1:=dD x4 (show(0:Int)<2 by decide);obtain⟨m2,hm2⟩:∃m2:Nat,12-(m:Int)+x4%2=(m2:Int):=⟨(12-(m:Int)+x4%2).toNat,by omega⟩;dsimp only[DY];rw[hm2];have hma:1<=m/\m<=12:=by omega
  have hmb:1<=m2/\m2<=12:=by omega
  clear hm hm2 a0 a1 c0 c1;refine⟨_,rfl,_,rfl,_,rfl,b,c,m,rfl,hb,hc,hma.1,hma.2,fun w1 q1 H12 g12 hQ1 O1=>?_⟩;refine⟨_,rfl,_,rfl,_,rfl,a,ns,5,rfl,g12.seq hS11,by decide,by decide,hBt,fun c5 hc5=>⟨b,c5,m2,rfl,hb,hc5,hmb.1,hmb.2,fun w2 q2 H13 g13 hQ2 O2=>?_⟩⟩;have hT13:=(hT11.same g12).same g13;have hS13:=g13.seq (g12.seq hS11);have hQ13:=hQ1.same g13;clear hT11 hS11 hQ1;refine Ii.by (fun σ' H'=>∃(w3:V) (q3:Rw),σ'=[some (.ref a),some (.ref lb),some (.int c),some (.int b),some (.int b2),some v1,some (.int (m:Int)),some (.int (m2:Int)),some w1,some w3,none,none,none,none,none]/\H13=H'/\cU H13 w3 q3/\OfL b m2 q3) (fun NN hNN=>?_) ?_
  ·have same:=hNN _ _ ⟨w2,q2,rfl,rfl,hQ2,O2⟩;refine⟨_,rfl,c,5,rfl,by decide,by decide,fun x5 _ _=>⟨_,_,rfl,rfl,(by decide:(0:Int)<3),_,rfl,?_⟩⟩;refine lX (fun _=>?_) (fun _=>zy same);refine⟨_,rfl,_,rfl,_,rfl,?_⟩;refine lX (fun e=>?_) (fun _=>same);have e':m=m2:=by have:=dec_true e;omega
   exact⟨_,rfl,hNN _ _ ⟨w1,q1,rfl,rfl,hQ13,by rw[<-e'];exact O1⟩⟩
  rintro _ _ ⟨w3,q3,rfl,rfl,hQ3,O3⟩;clear hQ2 O2;have hT13:=hT13;refine⟨(by show 2<=sizeLine;decide),fun d1 hd1=>?_⟩;have gd1:=Same.new hd1 (.lst [.str "told",.str "long"]);refine⟨_,rfl,_,rfl,_,_,rfl,rfl,.inr ⟨_,rfl,_,V.str (kdS (kP (m+m2<=12))),.inl (SqL.of au),yj (decide_eq_decide.mpr (by omega)),?_⟩⟩;refine⟨(by show 2<=sizeLine;decide),fun d2 hd2=>?_⟩;have gd2:=Same.new hd2 (.lst [.str "told",.str "long"]);refine⟨_,rfl,_,rfl,mulL (by omega) (by omega),_,_,rfl,rfl,.inr ⟨_,rfl,_,V.str (kdS (kP (m*m2<=12))),.inl (SqL.of au),yj (decide_eq_decide.mpr (by rw[<-Int.natCast_mul];omega)),?_⟩⟩;refine⟨(by show 2<=sizeLine;decide),fun d3 hd3=>?_⟩;have gd3:=Same.new hd3 (.lst [.str (kdS (kP (m+m2<=12))),.str (kdS (kP (m*m2<=12)))]);have gd:=gd1.trans (gd2.trans gd3);have hd:(upd (upd (upd H13 d1 (.lst [.str "told",.str "long"])) d2 (.lst [.str "told",.str "long"])) d3 (.lst [.str (kdS (kP (m+m2<=12))),.str (kdS (kP (m*m2<=12)))])) d3=some (.lst [.str (kdS (kP (m+m2<=12))),.str (kdS (kP (m*m2<=12)))]):=au;have hQ14:=hQ13.same gd;have hQ34:=hQ3.same gd;have hT14:=hT13.same gd;have hS14:=gd.seq hS13;generalize upd (upd (upd H13 d1 (.lst [.str "told",.str "long"])) d2 (.lst [.str "told",.str "long"])) d3 (.lst [.str (kdS (kP (m+m2<=12))),.str (kdS (kP (m*m2<=12)))])=H14 at hd hQ14 hQ34 hT14 hS14;clear gd gd1 gd2 gd3 hQ13 hQ3 hT13 hS13;refine⟨_,rfl,_,rfl,w1,w3,kP (m+m2<=12),kP (m*m2<=12),rfl,ED _,ED _,OfL.all hb O1 O3 hQ14 hQ34,OfL.Xi hb O1 O3 hQ14 hQ34,hT14,fun l15 H15 g15 hT15 hL15=>?_⟩;have hd15:=g15.lst hd;have hS15:=g15.seq hS14;refine⟨_,rfl,_,_,.inl (SqL.of hd15),rfl,_,rfl,_,_,.inl (SqL.of hd15),rfl,_,rfl,_,_,.inl (SqL.of hd15),rfl,(by show 3<=sizeLine;decide),fun l16 hl16=>?_⟩;have g16:=Same.new hl16 (.lst (kdL [kP (m+m2<=12),kP (m*m2<=12),kP (m+m2<=12)]));refine⟨_,au,by decide,by decide,(by show 3*2<=sizeLine;decide),fun l17 hl17=>?_⟩;have g17:=Same.new hl17 (.lst (kdL [kP (m+m2<=12),kP (m*m2<=12),kP (m+m2<=12),kP (m+m2<=12),kP (m*m2<=12),kP (m+m2<=12)]));refine MS (ks:=[kP (m+m2<=12),kP (m*m2<=12),kP (m+m2<=12),kP (m+m2<=12),kP (m*m2<=12),kP (m+m2<=12)]) (g17 _ _ (g16 _ _ hL15)) au ⟨_,rfl,zy ?_⟩;have hT17:=(hT15.same g16).same g17;have hS17:=g17.seq (g16.seq hS15);replace hT17:kO (upd (upd H15 l16 (.lst [.str (kdS (kP (m+m2<=12))),.str (kdS (kP (m*m2<=12))),.str (kdS (kP (m+m2<=12)))])) l17 (.lst (List.replicate (2:Int).toNat [V.str (kdS (kP (m+m2<=12))),V.str (kdS (kP (m*m2<=12))),V.str (kdS (kP (m+m2<=12)))]).flatten)) T (Km "_law_all"):=hT17;replace hS17:SqL K (upd (upd H15 l16 (.lst [.str (kdS (kP (m+m2<=12))),.str (kdS (kP (m*m2<=12))),.str (kdS (kP (m+m2<=12)))])) l17 (.lst (List.replicate (2:Int).toNat [V.str (kdS (kP (m+m2<=12))),V.str (kdS (kP (m*m2<=12))),V.str (kdS (kP (m+m2<=12)))]).flatten)) a (ns.map V.int):=hS17;generalize upd (upd H15 l16 (.lst [.str (kdS (kP (m+m2<=12))),.str (kdS (kP (m*m2<=12))),.str (kdS (kP (m+m2<=12)))])) l17 (.lst (List.replicate (2:Int).toNat [V.str (kdS (kP (m+m2<=12))),V.str (kdS (kP (m*m2<=12))),V.str (kdS (kP (m+m2<=12)))]).flatten)=H17 at hT17 hS17;clear g16 g17 hL15 hT15 hS15 hd15 g15 hd hQ14 hQ34 hT14 hS14;refine⟨(by show 2<=sizeLine;decide),fun p1 hp1=>⟨(by show 2<=sizeLine;decide),fun p2 hp2=>⟨(by show 2<=sizeLine;decide),fun p3 hp3=>⟨(by show 2<=sizeLine;decide),fun p4 hp4=>⟨(by show 2<=sizeLine;decide),fun p5 hp5=>⟨(by show 2<=sizeLine;decide),fun p6 hp6=>⟨(by show 2<=sizeLine;decide),fun p7 hp7=>⟨(by show 2<=sizeLine;decide),fun p8 hp8=>⟨(by show 8<=sizeLine;decide),fun lw hlw=>?_⟩⟩⟩⟩⟩⟩⟩⟩⟩;have u1:=Same.new hp1 (.tup [.int 3,.int 4]);have u2:=Same.new hp2 (.tup [.int 2,.int 7]);have u3:=Same.new hp3 (.tup [.int 1,.int 12]);have u4:=Same.new hp4 (.tup [.int 2,.int 6]);have u5:=Same.new hp5 (.tup [.int 4,.int 4]);have u6:=Same.new hp6 (.tup [.int 1,.int 11]);have u7:=Same.new hp7 (.tup [.int 5,.int 2]);have u8:=Same.new hp8 (.tup [.int 6,.int 3]);have u9:=Same.new hlw (.lst [.ref p1,.ref p2,.ref p3,.ref p4,.ref p5,.ref p6,.ref p7,.ref p8]);have t1:(upd (upd (upd (upd (upd (upd (upd (upd (upd H17 p1 (.tup [.int 3,.int 4])) p2 (.tup [.int 2,.int 7])) p3 (.tup [.int 1,.int 12])) p4 (.tup [.int 2,.int 6])) p5 (.tup [.int 4,.int 4])) p6 (.tup [.int 1,.int 11])) p7 (.tup [.int 5,.int 2])) p8 (.tup [.int 6,.int 3])) lw (.lst [.ref p1,.ref p2,.ref p3,.ref p4,.ref p5,.ref p6,.ref p7,.ref p8])) p1=some (.tup [.int 3,.int 4]):=u9 _ _ (u8 _ _ (u7 _ _ (u6 _ _ (u5 _ _ (u4 _ _ (u3 _ _ (u2 _ _ au)))))));have t2:(upd (upd (upd (upd (upd (upd (upd (upd (upd H17 p1 (.tup [.int 3,.int 4])) p2 (.tup [.int 2,.int 7])) p3 (.tup [.int 1,.int 12])) p4 (.tup [.int 2,.int 6])) p5 (.tup [.int 4,.int 4])) p6 (.tup [.int 1,.int 11])) p7 (.tup [.int 5,.int 2])) p8 (.tup [.int 6,.int 3])) lw (.lst [.ref p1,.ref p2,.ref p3,.ref p4,.ref p5,.ref p6,.ref p7,.ref p8])) p2=some (.tup [.int 2,.int 7]):=u9 _ _ (u8 _ _ (u7 _ _ (u6 _ _ (u5 _ _ (u4 _ _ (u3 _ _ au))))));have t3:(upd (upd (upd (upd (upd (upd (upd (upd (upd H17 p1 (.tup [.int 3,.int 4])) p2 (.tup [.int 2,.int 7])) p3 (.tup [.int 1,.int 12])) p4 (.tup [.int 2,.int 6])) p5 (.tup [.int 4,.int 4])) p6 (.tup [.int 1,.int 11])) p7 (.tup [.int 5,.int 2])) p8 (.tup [.int 6,.int 3])) lw (.lst [.ref p1,.ref p2,.ref p3,.ref p4,.ref p5,.ref p6,.ref p7,.ref p8])) p3=some (.tup [.int 1,.int 12]):=u9 _ _ (u8 _ _ (u7 _ _ (u6 _ _ (u5 _ _ (u4 _ _ au)))))
  have t4:(upd (upd (upd (upd (upd (upd (upd (upd (upd H17 p1 (.tup [.int 3,.int 4])) p2 (.tup [.int 2,.int 7])) p3 (.tup [.int 1,.int 12])) p4 (.tup [.int 2,.int 6])) p5 (.tup [.int 4,.int 4])) p6 (.tup [.int 1,.int 11])) p7 (.tup [.int 5,.int 2])) p8 (.tup [.int 6,.int 3])) lw (.lst [.ref p1,.ref p2,.ref p3,.ref p4,.ref p5,.ref p6,.ref p7,.ref p8])) p4=some (.tup [.int 2,.int 6]):=u9 _ _ (u8 _ _ (u7 _ _ (u6 _ _ (u5 _ _ au))));have t5:(upd (upd (upd (upd (upd (upd (upd (upd (upd H17 p1 (.tup [.int 3,.int 4])) p2 (.tup [.int 2,.int 7])) p3 (.tup [.int 1,.int 12])) p4 (.tup [.int 2,.int 6])) p5 (.tup [.int 4,.int 4])) p6 (.tup [.int 1,.int 11])) p7 (.tup [.int 5,.int 2])) p8 (.tup [.int 6,.int 3])) lw (.lst [.ref p1,.ref p2,.ref p3,.ref p4,.ref p5,.ref p6,.ref p7,.ref p8])) p5=some (.tup [.int 4,.int 4]):=u9 _ _ (u8 _ _ (u7 _ _ (u6 _ _ au)));have t6:(upd (upd (upd (upd (upd (upd (upd (upd (upd H17 p1 (.tup [.int 3,.int 4])) p2 (.tup [.int 2,.int 7])) p3 (.tup [.int 1,.int 12])) p4 (.tup [.int 2,.int 6])) p5 (.tup [.int 4,.int 4])) p6 (.tup [.int 1,.int 11])) p7 (.tup [.int 5,.int 2])) p8 (.tup [.int 6,.int 3])) lw (.lst [.ref p1,.ref p2,.ref p3,.ref p4,.ref p5,.ref p6,.ref p7,.ref p8])) p6=some (.tup [.int 1,.int 11]):=u9 _ _ (u8 _ _ (u7 _ _ au));have t7:(upd (upd (upd (upd (upd (upd (upd (upd (upd H17 p1 (.tup [.int 3,.int 4])) p2 (.tup [.int 2,.int 7])) p3 (.tup [.int 1,.int 12])) p4 (.tup [.int 2,.int 6])) p5 (.tup [.int 4,.int 4])) p6 (.tup [.int 1,.int 11])) p7 (.tup [.int 5,.int 2])) p8 (.tup [.int 6,.int 3])) lw (.lst [.ref p1,.ref p2,.ref p3,.ref p4,.ref p5,.ref p6,.ref p7,.ref p8])) p7=some (.tup [.int 5,.int 2]):=u9 _ _ (u8 _ _ au);have t8:(upd (upd (upd (upd (upd (upd (upd (upd (upd H17 p1 (.tup [.int 3,.int 4])) p2 (.tup [.int 2,.int 7])) p3 (.tup [.int 1,.int 12])) p4 (.tup [.int 2,.int 6])) p5 (.tup [.int 4,.int 4])) p6 (.tup [.int 1,.int 11])) p7 (.tup [.int 5,.int 2])) p8 (.tup [.int 6,.int 3])) lw (.lst [.ref p1,.ref p2,.ref p3,.ref p4,.ref p5,.ref p6,.ref p7,.ref p8])) p8=some (.tup [.int 6,.int 3]):=u9 _ _ au;have hlw9:(upd (upd (upd (upd (upd (upd (upd (upd (upd H17 p1 (.tup [.int 3,.int 4])) p2 (.tup [.int 2,.int 7])) p3 (.tup [.int 1,.int 12])) p4 (.tup [.int 2,.int 6])) p5 (.tup [.int 4,.int 4])) p6 (.tup [.int 1,.int 11])) p7 (.tup [.int 5,.int 2])) p8 (.tup [.int 6,.int 3])) lw (.lst [.ref p1,.ref p2,.ref p3,.ref p4,.ref p5,.ref p6,.ref p7,.ref p8])) lw=some (.lst [.ref p1,.ref p2,.ref p3,.ref p4,.ref p5,.ref p6,.ref p7,.ref p8]):=au;have u19:=u1.trans (u2.trans (u3.trans (u4.trans (u5.trans (u6.trans (u7.trans (u8.trans u9)))))));have hT18:=hT17.same u19;have hS18:=u19.seq hS17;generalize (upd (upd (upd (upd (upd (upd (upd (upd (upd H17 p1 (.tup [.int 3,.int 4])) p2 (.tup [.int 2,.int 7])) p3 (.tup [.int 1,.int 12])) p4 (.tup [.int 2,.int 6])) p5 (.tup [.int 4,.int 4])) p6 (.tup [.int 1,.int 11])) p7 (.tup [.int 5,.int 2])) p8 (.tup [.int 6,.int 3])) lw (.lst [.ref p1,.ref p2,.ref p3,.ref p4,.ref p5,.ref p6,.ref p7,.ref p8]))=H18 at t1 t2 t3 t4 t5 t6 t7 t8 hlw9 hT18 hS18;clear u1 u2 u3 u4 u5 u6 u7 u8 u9 u19 hp1 hp2 hp3 hp4 hp5 hp6 hp7 hp8 hlw hT17 hS17;refine⟨_,rfl,c,6,rfl,by decide,by decide,fun x6 _ _=>?_⟩;have j0:=dF x6 (show(0:Int)<8 by decide);have j1:=dD x6 (show(0:Int)<8 by decide);obtain⟨pp,wd,hh,eat,htp,hwd,hhh⟩:∃(pp:Addr) (wd hh:Nat),atI [V.ref p1,.ref p2,.ref p3,.ref p4,.ref p5,.ref p6,.ref p7,.ref p8] (x6%8)=some (.ref pp)/\H18 pp=some (.tup [.int (wd:Int),.int (hh:Int)])/\(1<=wd/\wd<=12)/\(1<=hh/\hh<=12):=by
   rcases(by omega:x6%8=0∨x6%8=1∨x6%8=2∨x6%8=3∨x6%8=4∨x6%8=5∨x6%8=6∨x6%8=7)with e|e|e|e|e|e|e|e<;>rw[e]
   ·exact⟨p1,3,4,rfl,t1,by decide,by decide⟩
   ·exact⟨p2,2,7,rfl,t2,by decide,by decide⟩
   ·exact⟨p3,1,12,rfl,t3,by decide,by decide⟩
   ·exact⟨p4,2,6,rfl,t4,by decide,by decide⟩
   ·exact⟨p5,4,4,rfl,t5,by decide,by decide⟩
   ·exact⟨p6,1,11,rfl,t6,by decide,by decide⟩
   ·exact⟨p7,5,2,rfl,t7,by decide,by decide⟩
   ·exact⟨p8,6,3,rfl,t8,by decide,by decide⟩
  refine⟨_,_,rfl,rfl,(by decide:(0:Int)<8),_,_,.inl (SqL.of hlw9),eat,?_⟩;clear t1 t2 t3 t4 t5 t6 t7 t8 hlw9 eat;refine⟨pp,_,rfl,SqT.of htp,rfl,_,_,rfl,_,_,rfl,rfl,?_⟩;refine⟨_,rfl,_,rfl,_,rfl,_,_,rfl,rfl,⟨by decide,by decide⟩,b,c/3,wd,rfl,hb,CQ hc (by decide),hwd.1,hwd.2,fun w4 q4 H19 g19 hQ4 O4=>?_⟩;refine⟨_,rfl,_,rfl,_,rfl,_,_,rfl,rfl,⟨by decide,by decide⟩,b,c/5,hh,rfl,hb,CQ hc (by decide),hhh.1,hhh.2,fun w5 q5 H20 g20 hQ5 O5=>?_⟩;have hT20:=(hT18.same g19).same g20;have hQ4':=hQ4.same g20;refine⟨(by show 2<=sizeLine;decide),fun d1 hd1=>?_⟩;have gd1:=Same.new hd1 (.lst [.str "told",.str "long"]);refine⟨_,rfl,_,rfl,_,_,rfl,rfl,.inr ⟨_,rfl,_,V.str (kdS (kP (wd+hh<=12))),.inl (SqL.of au),yj (decide_eq_decide.mpr (by omega)),?_⟩⟩;refine⟨(by show 2<=sizeLine;decide),fun d2 hd2=>?_⟩;have gd2:=Same.new hd2 (.lst [.str "told",.str "long"]);refine⟨_,rfl,_,rfl,mulL (by omega) (by omega),_,_,rfl,rfl,.inr ⟨_,rfl,_,V.str (kdS (kP (wd*hh<=12))),.inl (SqL.of au),yj (decide_eq_decide.mpr (by rw[<-Int.natCast_mul];omega)),?_⟩⟩;refine⟨(by show 2<=sizeLine;decide),fun d3 hd3=>?_⟩;have gd3:=Same.new hd3 (.lst [.str (kdS (kP (wd+hh<=12))),.str (kdS (kP (wd*hh<=12)))]);have gd:=gd1.trans (gd2.trans gd3);have hd:(upd (upd (upd H20 d1 (.lst [.str "told",.str "long"])) d2 (.lst [.str "told",.str "long"])) d3 (.lst [.str (kdS (kP (wd+hh<=12))),.str (kdS (kP (wd*hh<=12)))])) d3=some (.lst [.str (kdS (kP (wd+hh<=12))),.str (kdS (kP (wd*hh<=12)))]):=au;have hQ24:=hQ4'.same gd;have hQ25:=hQ5.same gd;have hT24:=hT20.same gd;generalize upd (upd (upd H20 d1 (.lst [.str "told",.str "long"])) d2 (.lst [.str "told",.str "long"])) d3 (.lst [.str (kdS (kP (wd+hh<=12))),.str (kdS (kP (wd*hh<=12)))])=H24 at hd hQ24 hQ25 hT24;refine⟨_,rfl,_,rfl,w4,w5,kP (wd+hh<=12),kP (wd*hh<=12),rfl,ED _,ED _,OfL.all hb O4 O5 hQ24 hQ25,OfL.Xi hb O4 O5 hQ24 hQ25,hT24,fun l25 H25 g25 hT25 hL25=>?_⟩;have hd25:=g25.lst hd;refine⟨_,rfl,_,_,.inl (SqL.of hd25),rfl,_,rfl,_,_,.inl (SqL.of hd25),rfl,_,rfl,_,_,.inl (SqL.of hd25),rfl,(by show 3<=sizeLine;decide),fun l26 hl26=>?_⟩;have g26:=Same.new hl26 (.lst (kdL [kP (wd+hh<=12),kP (wd*hh<=12),kP (wd+hh<=12)]));refine⟨_,au,by decide,by decide,(by show 3*2<=sizeLine;decide),fun l27 hl27=>?_⟩;have g27:=Same.new hl27 (.lst (kdL [kP (wd+hh<=12),kP (wd*hh<=12),kP (wd+hh<=12),kP (wd+hh<=12),kP (wd*hh<=12),kP (wd+hh<=12)]));exact MS (ks:=[kP (wd+hh<=12),kP (wd*hh<=12),kP (wd+hh<=12),kP (wd+hh<=12),kP (wd*hh<=12),kP (wd+hh<=12)]) (g27 _ _ (g26 _ _ hL25)) au (q _)
end
theorem all_mk{l:PySem.W.OpenLaw}{w:World}{K:PySem.W.Frag}{h:Heap}{mg:Str->Option Value}{fa:Addr}(X:K.In h)(G:h.Ns mainGlobals mg)(hfa:mg "law" = some (.ref fa))
  (F0:gk K "is_prime" nM) (F1:gk K "taken" xU) (F2:gk K "inverse" qj) (F3:gk K "over" Ca) (F4:gk K "shared_by" lu) (F5:gk K "next_place" jZ) (F6:gk K "first_places" iR) (F7:gk K "trimmed" qQ) (F8:gk K "times" wJ) (F9:gk K "divided" qd) (F10:gk K "monic" wV) (F11:gk K "greatest" oE) (F12:gk K "of_rule" qC) (F13:gk K "rule_of" pI) (F14:gk K "behind_first" iW) (F15:gk K "power_sums" j5) (F16:gk K "rule_of_sums" iV) (F17:gk K "prime_above" jL) (F18:gk K "divides" qb) (F19:gk K "taken_poly" j8) (F20:gk K "nearest" pL) (F21:gk K "joined" tu) (F22:gk K "whole_greatest" gw) (F23:gk K "shared_divisor" gF) (F24:gk K "top_of" tY) (F25:gk K "least_of" nU) (F26:gk K "shortest" nF) (F27:gk K "refuse_long" jA) (F28:gk K "told_row" nq) (F29:gk K "sum_place" lA) (F30:gk K "product_place" iz) (F31:gk K "rolled_place" jg) (F32:gk K "pair_row" nZ) (F33:gk K "joint_row" lK) (F34:gk K "added" xM) (F35:gk K "rolled" sU) (F36:gk K "multiplied" jR) (F37:gk K "_law_cell_at" nD) (F38:gk K "_law_mix" BF) (F39:gk K "_law_taken" uf) (F40:gk K "_law_one_number" jG) (F41:gk K "_law_places" qH) (F42:gk K "_law_made_longer" iZ) (F43:gk K "_law_drawn_row" jY) (F44:gk K "_law_heard" tG) (F45:gk K "_law_all" CD) (F46:gk K "_law_of_length" jT) (FL:gk K "law" xY) (z_ValueError:PySem.W.nsIn K mainGlobals "ValueError" = some none) (z_int:PySem.W.nsIn K mainGlobals "int" = some none) (z_isinstance:PySem.W.nsIn K mainGlobals "isinstance" = some none) (z_len:PySem.W.nsIn K mainGlobals "len" = some none) (z_list:PySem.W.nsIn K mainGlobals "list" = some none) (z_max:PySem.W.nsIn K mainGlobals "max" = some none) (z_min:PySem.W.nsIn K mainGlobals "min" = some none) (z_range:PySem.W.nsIn K mainGlobals "range" = some none) (z_sum:PySem.W.nsIn K mainGlobals "sum" = some none) (z_tuple:PySem.W.nsIn K mainGlobals "tuple" = some none) (g_BELOW_THE_PRIMES:∃t,PySem.W.nsIn K mainGlobals "BELOW_THE_PRIMES" = some (some (.int 1000000 t))) (g_LONGEST:∃t,PySem.W.nsIn K mainGlobals "LONGEST" = some (some (.int 12 t))) {aL:Addr} (n_NoBy:PySem.W.nsIn K mainGlobals "NoBy" = some (some (.ref aL))) {aN:Addr} (n_NoName:PySem.W.nsIn K mainGlobals "NoName" = some (some (.ref aN))) {aF:Addr} (n_NoNumber:PySem.W.nsIn K mainGlobals "NoNumber" = some (some (.ref aF))) {aV:Addr} (n_NoRow:PySem.W.nsIn K mainGlobals "NoRow" = some (some (.ref aV))) {aP:Addr} (n_NoText:PySem.W.nsIn K mainGlobals "NoText" = some (some (.ref aP))) {aB:Addr} (n_RuleError:PySem.W.nsIn K mainGlobals "RuleError" = some (some (.ref aB))) {aM:Addr} (n_TooBig:PySem.W.nsIn K mainGlobals "TooBig" = some (some (.ref aM))) {aO:Addr} (n_TooFar:PySem.W.nsIn K mainGlobals "TooFar" = some (some (.ref aO))) {aq:Addr} (n_TooLong:PySem.W.nsIn K mainGlobals "TooLong" = some (some (.ref aq))) (q_NoBy:PySem.W.excIn K aL [.type "ValueError",.type "Exception",.type "BaseException",.type "object"] "ValueError.__new__" = true) (u_NoBy_RuleError:yM K aL aB=true) (v_NoBy_RuleError:PySem.W.ktsIn K aB "BaseException" = true) (w1_NoBy:PySem.W.findIn K (.ref aL) "__getattribute__" = some (some (.builtin "BaseException.__getattribute__"))) (w2_NoBy:PySem.W.findIn K (.ref aL) "__getattr__" = some none) (w3_NoBy:PySem.W.findIn K (.ref aL) "__class__" = some (some (.builtin "object.__class__"))) (w4_NoBy:PySem.W.mroIn K aL (.type "BaseException")=some true) (w5_NoBy:PySem.W.mroIn K aL (.type "object")=some true) (w6_NoBy:(PySem.W.clsIn K aL).isSome=true) (k_NoBy_NoBy:PySem.W.kitOne K (.ref aL) (.ref aL)=some true) (k_NoBy_NoName:PySem.W.kitOne K (.ref aL) (.ref aN)=some false) (k_NoBy_NoNumber:PySem.W.kitOne K (.ref aL) (.ref aF)=some false) (k_NoBy_NoRow:PySem.W.kitOne K (.ref aL) (.ref aV)=some false) (k_NoBy_NoText:PySem.W.kitOne K (.ref aL) (.ref aP)=some false) (k_NoBy_RuleError:PySem.W.kitOne K (.ref aL) (.ref aB)=some true) (k_NoBy_TooBig:PySem.W.kitOne K (.ref aL) (.ref aM)=some false) (k_NoBy_TooFar:PySem.W.kitOne K (.ref aL) (.ref aO)=some false) (k_NoBy_TooLong:PySem.W.kitOne K (.ref aL) (.ref aq)=some false) (k_NoBy_ValueError:PySem.W.kitOne K (.ref aL) (.type "ValueError")=some true) (q_TooLong:PySem.W.excIn K aq [.type "ValueError",.type "Exception",.type "BaseException",.type "object"] "ValueError.__new__" = true) (u_TooLong_RuleError:yM K aq aB=true) (v_TooLong_RuleError:PySem.W.ktsIn K aB "BaseException" = true) (w1_TooLong:PySem.W.findIn K (.ref aq) "__getattribute__" = some (some (.builtin "BaseException.__getattribute__"))) (w2_TooLong:PySem.W.findIn K (.ref aq) "__getattr__" = some none) (w3_TooLong:PySem.W.findIn K (.ref aq) "__class__" = some (some (.builtin "object.__class__"))) (w4_TooLong:PySem.W.mroIn K aq (.type "BaseException")=some true) (w5_TooLong:PySem.W.mroIn K aq (.type "object")=some true) (w6_TooLong:(PySem.W.clsIn K aq).isSome=true) (k_TooLong_NoBy:PySem.W.kitOne K (.ref aq) (.ref aL)=some false) (k_TooLong_NoName:PySem.W.kitOne K (.ref aq) (.ref aN)=some false) (k_TooLong_NoNumber:PySem.W.kitOne K (.ref aq) (.ref aF)=some false) (k_TooLong_NoRow:PySem.W.kitOne K (.ref aq) (.ref aV)=some false) (k_TooLong_NoText:PySem.W.kitOne K (.ref aq) (.ref aP)=some false) (k_TooLong_RuleError:PySem.W.kitOne K (.ref aq) (.ref aB)=some true) (k_TooLong_TooBig:PySem.W.kitOne K (.ref aq) (.ref aM)=some false) (k_TooLong_TooFar:PySem.W.kitOne K (.ref aq) (.ref aO)=some false) (k_TooLong_TooLong:PySem.W.kitOne K (.ref aq) (.ref aq)=some true) (k_TooLong_ValueError:PySem.W.kitOne K (.ref aq) (.type "ValueError")=some true):
  ∃fd:FuncData,(∀(s:Shared) (v:Value),BindsTo s fd ⟨[v],[]⟩ [("_law_script",v)])/\∀(T:Addr) (base:Heap),K.In base->base.Ns mainGlobals mg->MkD mg base "_law_all" T->CP l.prog w K mg base (jC l.prog w) Vn fa fd ["_law_script"] (C6 K T):=by
 obtain⟨f,oc,od,kV,doc,pm,an,cdv,ct,sl,e1,e2,e3,e4⟩:=FL.ex;have e:=hfa.symm.trans (PySem.W.mg_of X G e1);cases e;have FF:=Gw (st:=xY) e2 e3 e4;have B:Bt mg:=⟨PySem.W.mg_none_of X G z_ValueError,PySem.W.mg_none_of X G z_int,PySem.W.mg_none_of X G z_isinstance,PySem.W.mg_none_of X G z_len,PySem.W.mg_none_of X G z_list,PySem.W.mg_none_of X G z_max,PySem.W.mg_none_of X G z_min,PySem.W.mg_none_of X G z_range,PySem.W.mg_none_of X G z_sum,PySem.W.mg_none_of X G z_tuple,(let⟨t,q⟩:=g_BELOW_THE_PRIMES;⟨t,PySem.W.mg_of X G q⟩),(let⟨t,q⟩:=g_LONGEST;⟨t,PySem.W.mg_of X G q⟩)⟩;have G0:=F0.fn X G (ps:=["number"]) fun _ _ _ _ _ _ us hl=>by obtain⟨_,rfl⟩:=L2.us1 hl;rfl
 have G1:=F1.fn X G (ps:=["by","number"]) fun _ _ _ _ _ _ us hl=>by obtain⟨_,_,rfl⟩:=L2.us2 hl;rfl
 have G2:=F2.fn X G (ps:=["prime","number"]) fun _ _ _ _ _ _ us hl=>by obtain⟨_,_,rfl⟩:=L2.us2 hl;rfl
 have G3:=F3.fn X G (ps:=["by","one","other"]) fun _ _ _ _ _ _ us hl=>by obtain⟨_,_,_,rfl⟩:=L2.us3 hl;rfl
 have G4:=F4.fn X G (ps:=["one","other"]) fun _ _ _ _ _ _ us hl=>by obtain⟨_,_,rfl⟩:=L2.us2 hl;rfl
 have G5:=F5.fn X G (ps:=["by","rule","before"]) fun _ _ _ _ _ _ us hl=>by obtain⟨_,_,_,rfl⟩:=L2.us3 hl;rfl
 have G6:=F6.fn X G (ps:=["row","count"]) fun _ _ _ _ _ _ us hl=>by obtain⟨_,_,rfl⟩:=L2.us2 hl;rfl
 have G7:=F7.fn X G (ps:=["numbers"]) fun _ _ _ _ _ _ us hl=>by obtain⟨_,rfl⟩:=L2.us1 hl;rfl
 have G8:=F8.fn X G (ps:=["by","one","other"]) fun _ _ _ _ _ _ us hl=>by obtain⟨_,_,_,rfl⟩:=L2.us3 hl;rfl
 have G9:=F9.fn X G (ps:=["by","one","other"]) fun _ _ _ _ _ _ us hl=>by obtain⟨_,_,_,rfl⟩:=L2.us3 hl;rfl
 have G10:=F10.fn X G (ps:=["prime","poly"]) fun _ _ _ _ _ _ us hl=>by obtain⟨_,_,rfl⟩:=L2.us2 hl;rfl
 have G11:=F11.fn X G (ps:=["by","one","other"]) fun _ _ _ _ _ _ us hl=>by obtain⟨_,_,_,rfl⟩:=L2.us3 hl;rfl
 have G12:=F12.fn X G (ps:=["by","rule"]) fun _ _ _ _ _ _ us hl=>by obtain⟨_,_,rfl⟩:=L2.us2 hl;rfl
 have G13:=F13.fn X G (ps:=["by","poly"]) fun _ _ _ _ _ _ us hl=>by obtain⟨_,_,rfl⟩:=L2.us2 hl;rfl
 have G14:=F14.fn X G (ps:=["rule","sums","k"]) fun _ _ _ _ _ _ us hl=>by obtain⟨_,_,_,rfl⟩:=L2.us3 hl;rfl
 have G15:=F15.fn X G (ps:=["rule","count"]) fun _ _ _ _ _ _ us hl=>by obtain⟨_,_,rfl⟩:=L2.us2 hl;rfl
 have G16:=F16.fn X G (ps:=["sums"]) fun _ _ _ _ _ _ us hl=>by obtain⟨_,rfl⟩:=L2.us1 hl;rfl
 have G17:=F17.fn X G (ps:=["number"]) fun _ _ _ _ _ _ us hl=>by obtain⟨_,rfl⟩:=L2.us1 hl;rfl
 have G18:=F18.fn X G (ps:=["monic_one","poly"]) fun _ _ _ _ _ _ us hl=>by obtain⟨_,_,rfl⟩:=L2.us2 hl;rfl
 have G19:=F19.fn X G (ps:=["prime","poly"]) fun _ _ _ _ _ _ us hl=>by obtain⟨_,_,rfl⟩:=L2.us2 hl;rfl
 have G20:=F20.fn X G (ps:=["modulus","number"]) fun _ _ _ _ _ _ us hl=>by obtain⟨_,_,rfl⟩:=L2.us2 hl;rfl
 have G21:=F21.fn X G (ps:=["modulus","number","prime","rest"]) fun _ _ _ _ _ _ us hl=>by obtain⟨_,_,_,_,rfl⟩:=L2.us4 hl;rfl
 have G22:=F22.fn X G (ps:=["one","other"]) fun _ _ _ _ _ _ us hl=>by obtain⟨_,_,rfl⟩:=L2.us2 hl;rfl
 have G23:=F23.fn X G (ps:=["by","one","other"]) fun _ _ _ _ _ _ us hl=>by obtain⟨_,_,_,rfl⟩:=L2.us3 hl;rfl
 have G24:=F24.fn X G (ps:=["row","poly"]) fun _ _ _ _ _ _ us hl=>by obtain⟨_,_,rfl⟩:=L2.us2 hl;rfl
 have G25:=F25.fn X G (ps:=["row"]) fun _ _ _ _ _ _ us hl=>by obtain⟨_,rfl⟩:=L2.us1 hl;rfl
 have G26:=F26.fn X G (ps:=["row"]) fun _ _ _ _ _ _ us hl=>by obtain⟨_,rfl⟩:=L2.us1 hl;rfl
 have G27:=F27.fn X G (ps:=["length"]) fun _ _ _ _ _ _ us hl=>by obtain⟨_,rfl⟩:=L2.us1 hl;rfl
 have G28:=F28.fn X G (ps:=["by","rule","starts"]) fun _ _ _ _ _ _ us hl=>by obtain⟨_,_,_,rfl⟩:=L2.us3 hl;rfl
 have G29:=F29.fn X G (ps:=["ours","theirs","n"]) fun _ _ _ _ _ _ us hl=>by obtain⟨_,_,_,rfl⟩:=L2.us3 hl;rfl
 have G30:=F30.fn X G (ps:=["ours","theirs","n"]) fun _ _ _ _ _ _ us hl=>by obtain⟨_,_,_,rfl⟩:=L2.us3 hl;rfl
 have G31:=F31.fn X G (ps:=["ours","theirs","n"]) fun _ _ _ _ _ _ us hl=>by obtain⟨_,_,_,rfl⟩:=L2.us3 hl;rfl
 have G32:=F32.fn X G (ps:=["one","other","rule","pair_place"]) fun _ _ _ _ _ _ us hl=>by obtain⟨_,_,_,_,rfl⟩:=L2.us4 hl;rfl
 have G33:=F33.fn X G (ps:=["one","other","pair_place"]) fun _ _ _ _ _ _ us hl=>by obtain⟨_,_,_,rfl⟩:=L2.us3 hl;rfl
 have G34:=F34.fn X G (ps:=["one","other"]) fun _ _ _ _ _ _ us hl=>by obtain⟨_,_,rfl⟩:=L2.us2 hl;rfl
 have G35:=F35.fn X G (ps:=["one","other"]) fun _ _ _ _ _ _ us hl=>by obtain⟨_,_,rfl⟩:=L2.us2 hl;rfl
 have G36:=F36.fn X G (ps:=["one","other"]) fun _ _ _ _ _ _ us hl=>by obtain⟨_,_,rfl⟩:=L2.us2 hl;rfl
 have G37:=F37.fn X G (ps:=["_law_script","_law_k"]) fun _ _ _ _ _ _ us hl=>by obtain⟨_,_,rfl⟩:=L2.us2 hl;rfl
 have G38:=F38.fn X G (ps:=["_law_cell","_law_k"]) fun _ _ _ _ _ _ us hl=>by obtain⟨_,_,rfl⟩:=L2.us2 hl;rfl
 have G39:=F39.fn X G (ps:=["_law_by","_law_number"]) fun _ _ _ _ _ _ us hl=>by obtain⟨_,_,rfl⟩:=L2.us2 hl;rfl
 have G40:=F40.fn X G (ps:=["_law_by","_law_cell","_law_k"]) fun _ _ _ _ _ _ us hl=>by obtain⟨_,_,_,rfl⟩:=L2.us3 hl;rfl
 have G41:=F41.fn X G (ps:=["_law_row","_law_count"]) fun _ _ _ _ _ _ us hl=>by obtain⟨_,_,rfl⟩:=L2.us2 hl;rfl
 have G42:=F42.fn X G (ps:=["_law_row","_law_number"]) fun _ _ _ _ _ _ us hl=>by obtain⟨_,_,rfl⟩:=L2.us2 hl;rfl
 have G43:=F43.fn X G (ps:=["_law_script","_law_start","_law_by","_law_most"]) fun _ _ _ _ _ _ us hl=>by obtain⟨_,_,_,_,rfl⟩:=L2.us4 hl;rfl
 have G44:=F44.fn X G (ps:=["_law_told"]) fun _ _ _ _ _ _ us hl=>by obtain⟨_,rfl⟩:=L2.us1 hl;rfl
 have G45:=F45.fn X G (ps:=["_law_one","_law_other"]) fun _ _ _ _ _ _ us hl=>by obtain⟨_,_,rfl⟩:=L2.us2 hl;rfl
 have G46:=F46.fn X G (ps:=["_law_by","_law_size","_law_cell"]) fun _ _ _ _ _ _ us hl=>by obtain⟨_,_,_,rfl⟩:=L2.us3 hl;rfl
 refine⟨PySem.W.fnOf "law" "law" (aG xY) (aD xY) (aj xY) .none kV doc pm an cdv ct,fun s v=> .of_eq rfl,fun T base kB gB MK=>?_⟩;have M:Ms K mg base aL aN aF aV aP aB aM aO aq:=⟨PySem.W.mg_of X G n_NoBy,PySem.W.mg_of X G n_NoName,PySem.W.mg_of X G n_NoNumber,PySem.W.mg_of X G n_NoRow,PySem.W.mg_of X G n_NoText,PySem.W.mg_of X G n_RuleError,PySem.W.mg_of X G n_TooBig,PySem.W.mg_of X G n_TooFar,PySem.W.mg_of X G n_TooLong,GP kB gB n_NoBy q_NoBy F.excBase_ValueError (by decide),Hi kB u_NoBy_RuleError v_NoBy_RuleError,⟨w1_NoBy,w2_NoBy,w3_NoBy,w4_NoBy,w5_NoBy,w6_NoBy⟩,k_NoBy_NoBy,k_NoBy_NoName,k_NoBy_NoNumber,k_NoBy_NoRow,k_NoBy_NoText,k_NoBy_RuleError,k_NoBy_TooBig,k_NoBy_TooFar,k_NoBy_TooLong,k_NoBy_ValueError,GP kB gB n_TooLong q_TooLong F.excBase_ValueError (by decide),Hi kB u_TooLong_RuleError v_TooLong_RuleError,⟨w1_TooLong,w2_TooLong,w3_TooLong,w4_TooLong,w5_TooLong,w6_TooLong⟩,k_TooLong_NoBy,k_TooLong_NoName,k_TooLong_NoNumber,k_TooLong_NoRow,k_TooLong_NoText,k_TooLong_RuleError,k_TooLong_TooBig,k_TooLong_TooFar,k_TooLong_TooLong,k_TooLong_ValueError⟩;have oB:=wK (P:=l.prog) (w:=w) (base:=base) B G0 M;have bI:=Er (P:=l.prog) (w:=w) (base:=base) B G1 M;have qR:=AJ (P:=l.prog) (w:=w) (base:=base) B G2 M bI;have rN:=Ih (P:=l.prog) (w:=w) (base:=base) B G3 M bI qR;have fP:=uX (P:=l.prog) (w:=w) (base:=base) B G4 M;have j6:=um (P:=l.prog) (w:=w) (base:=base) B G5 M bI;have fW:=pq (P:=l.prog) (w:=w) (base:=base) B G6 M j6;have cQ:=zH (P:=l.prog) (w:=w) (base:=base) B G7 M;have xK:=EY (P:=l.prog) (w:=w) (base:=base) B G8 M bI cQ;have eZ:=Aw (P:=l.prog) (w:=w) (base:=base) B G9 M bI cQ;have qK:=Fq (P:=l.prog) (w:=w) (base:=base) B G10 M rN;have gZ:=yg (P:=l.prog) (w:=w) (base:=base) B G11 M qK eZ;have iC:=Ac (P:=l.prog) (w:=w) (base:=base) B G12 M bI;have jt:=zO (P:=l.prog) (w:=w) (base:=base) B G13 M bI;have dh:=pY (P:=l.prog) (w:=w) (base:=base) B G14 M;have iQ:=sG (P:=l.prog) (w:=w) (base:=base) B G15 M dh;have iY:=qg (P:=l.prog) (w:=w) (base:=base) B G16 M dh;have jJ:=qU (P:=l.prog) (w:=w) (base:=base) B G17 M oB;have mz:=Ai (P:=l.prog) (w:=w) (base:=base) B G18 M eZ;have iJ:=uo (P:=l.prog) (w:=w) (base:=base) B G19 M cQ bI;have jr:=AK (P:=l.prog) (w:=w) (base:=base) B G20 M;have uG:=Dq (P:=l.prog) (w:=w) (base:=base) B G21 M rN bI jr;have gj:=oA (P:=l.prog) (w:=w) (base:=base) B G22 M mz jJ gZ iJ jr uG;have gq:=nH (P:=l.prog) (w:=w) (base:=base) B G23 M gj gZ;have uD:=Cj (P:=l.prog) (w:=w) (base:=base) B G24 M bI cQ;have nO:=xu (P:=l.prog) (w:=w) (base:=base) B G25 M iC uD eZ gq;have cT:=wY (P:=l.prog) (w:=w) (base:=base) B G26 M nO jt;have dO:=rD (P:=l.prog) (w:=w) (base:=base) B G27 M;have nQ:=wX (P:=l.prog) (w:=w) (base:=base) B G28 M bI cT;have fK:=vg (P:=l.prog) (w:=w) (base:=base) B G29 M;have cP:=oM (P:=l.prog) (w:=w) (base:=base) B G30 M;have dw:=qu (P:=l.prog) (w:=w) (base:=base) B G31 M;have gY:=wA (P:=l.prog) (w:=w) (base:=base) B G32 M fW nQ fK dw cP;have fD:=uZ (P:=l.prog) (w:=w) (base:=base) B G33 M fP cT dO xK iC gY jt;have xP:=Fe (P:=l.prog) (w:=w) (base:=base) B G34 M fD fK;have tX:=A8 (P:=l.prog) (w:=w) (base:=base) B G35 M fD dw;have j7:=uq (P:=l.prog) (w:=w) (base:=base) B G36 M fP cT dO iQ iY gY cP;have eN:=wH (P:=l.prog) (w:=w) (base:=base) B G37 M;have fu:=Jf (P:=l.prog) (w:=w) (base:=base) B G38 M;have dZ:=CJ (P:=l.prog) (w:=w) (base:=base) B G39 M;have cW:=rm (P:=l.prog) (w:=w) (base:=base) B G40 M fu dZ;have pG:=Aa (P:=l.prog) (w:=w) (base:=base) B G41 M dZ;have je:=qm (P:=l.prog) (w:=w) (base:=base) B G42 M pG dZ;have iK:=sJ (P:=l.prog) (w:=w) (base:=base) B G43 M eN fu cW je dZ
 have mL:=CN (P:=l.prog) (w:=w) (base:=base) B G44 M;have rP:=HM (P:=l.prog) (w:=w) (base:=base) MK kB B G45 M mL xP j7 tX;have eO:=tM (P:=l.prog) (w:=w) (base:=base) B G46 M cW;exact Lj B FF M eN fu iK rP eO
end K35
namespace L2
open PySem PySem.W PySem.W.X
theorem E8{q:Program}{loose:List Str}{XP:(Str->Option Value)->Heap->Prop}{K:Params->Frag}{as:List Addr}{n t:Nat}{r:RowW}{d:DefRec}{kwd:List (Str×PySem.Expr)}{run:Value->List Value->Sem Value}(keys:∀P,as=(K P).map (·.1))
  (W:WalkO q loose XP (fun w h=>(K w.params).In h) r d kwd run):WalkX q loose XP (obsZ as) (valZ K n t) r d kwd run:=
 fun w s0 s1 mg mb G y a o pm cd doc dV kV h1 h2 h3 h4 h5 h6 args vals as' L p1 p2 p3 p4 p5=>W w s0 s1 mg mb G (InK.keeps w _ _ (z_facts keys y).2.1 L.keeps) a o pm cd doc dV kV h1 h2 h3 h4 h5 h6 args vals as' p1 p2 p3 p4 p5
end L2
namespace K35
def topF(i:Nat):PySem.Stmt:=PySem.Challenge.pw_nextbyrule_k35_mixes_refused.main.body.getD i (.Pass ⟨0,0,0,0⟩)
def pwL:PySem.Program:={ PySem.Challenge.pw_nextbyrule_k35_mixes_refused with main:={ PySem.Challenge.pw_nextbyrule_k35_mixes_refused.main with body:=[topF 0,topF 1,topF 2,topF 3,topF 4,topF 5,topF 6,topF 7,topF 8,topF 9,topF 10,topF 11,topF 12,topF 13,topF 14,topF 15,topF 16,topF 17,topF 18,topF 19,topF 20,topF 21,topF 22,topF 23,topF 24,topF 25,topF 26,topF 27,topF 28,topF 29,topF 30,topF 31,topF 32,topF 33,topF 34,topF 35,topF 36,topF 37,topF 38,topF 39,topF 40,topF 41,topF 42,topF 43,topF 44,topF 45,topF 46,topF 47,topF 48,topF 49,topF 50,topF 51,topF 52,topF 53,topF 54,topF 55,topF 56,topF 57,topF 58,topF 59,topF 60,topF 61,topF 62,topF 63,topF 64,topF 65,topF 66,topF 67,topF 68] } }
def rwL:PySem.W.OpenLaw:={ PySem.Challenge.rw_nextbyrule_k35_mixes_refused with prog:=pwL }
end K35
namespace K35
namespace H
noncomputable section
open PySem PySem.W PySem.Calls PyProof.Rows
theorem warm:(K35.pwL.main.body.isEmpty||true)=true:=by k_qdec
abbrev nd(v:Obj)(l r:BT):BT:= .node v l r
abbrev e:BT:= .nil
abbrev kh:=PyData.keyHash
abbrev tt(i:Nat):Stmt:=PySem.W.Fast.tw15049585217503352139 i
def z0:Str:=⟨⟨[95,95,110,97,109,101,95,95]⟩⟩
def z1:Str:=⟨⟨[108,97,119,95,110,101,120,116,98,121,114,117,108,101,95,107,51,53,95,109,105,120,101,115,95,114,101,102,117,115,101,100]⟩⟩
def z2:Str:=⟨⟨[95,95,100,111,99,95,95]⟩⟩
def z3:Str:=⟨⟨[95,95,112,97,99,107,97,103,101,95,95]⟩⟩
def z4:Str:=⟨⟨[95,95,108,111,97,100,101,114,95,95]⟩⟩
def z5:Str:=⟨⟨[95,95,115,112,101,99,95,95]⟩⟩
def z6:Str:=⟨⟨[95,95,97,110,110,111,116,97,116,105,111,110,115,95,95]⟩⟩
def z7:Str:=⟨⟨[95,95,98,117,105,108,116,105,110,115,95,95]⟩⟩
def z8:Str:=⟨⟨[95,95,102,105,108,101,95,95]⟩⟩
def z9:Str:=⟨⟨[47,99,108,97,105,109,47,99,117,116,46,112,121]⟩⟩
def z10:Str:=⟨⟨[95,95,99,97,99,104,101,100,95,95]⟩⟩
def z11:Str:=⟨⟨[82,117,108,101,69,114,114,111,114]⟩⟩
def z12:Str:=⟨⟨[78,111,78,117,109,98,101,114]⟩⟩
def z13:Str:=⟨⟨[78,111,66,121]⟩⟩
def z14:Str:=⟨⟨[78,111,84,101,120,116]⟩⟩
def z15:Str:=⟨⟨[84,111,111,70,97,114]⟩⟩
def z16:Str:=⟨⟨[84,111,111,76,111,110,103]⟩⟩
def z17:Str:=⟨⟨[84,111,111,66,105,103]⟩⟩
def z18:Str:=⟨⟨[78,111,82,111,119]⟩⟩
def z19:Str:=⟨⟨[78,111,78,97,109,101]⟩⟩
def z20:Str:=⟨⟨[105,115,95,112,114,105,109,101]⟩⟩
def z21:Str:=⟨⟨[116,97,107,101,110]⟩⟩
def z22:Str:=⟨⟨[105,110,118,101,114,115,101]⟩⟩
def z23:Str:=⟨⟨[111,118,101,114]⟩⟩
def z24:Str:=⟨⟨[76,79,78,71,69,83,84]⟩⟩
def z25:Str:=⟨⟨[115,104,97,114,101,100,95,98,121]⟩⟩
def z26:Str:=⟨⟨[110,101,120,116,95,112,108,97,99,101]⟩⟩
def z27:Str:=⟨⟨[102,105,114,115,116,95,112,108,97,99,101,115]⟩⟩
def z28:Str:=⟨⟨[116,114,105,109,109,101,100]⟩⟩
def z29:Str:=⟨⟨[116,105,109,101,115]⟩⟩
def z30:Str:=⟨⟨[100,105,118,105,100,101,100]⟩⟩
def z31:Str:=⟨⟨[109,111,110,105,99]⟩⟩
def z32:Str:=⟨⟨[103,114,101,97,116,101,115,116]⟩⟩
def z33:Str:=⟨⟨[111,102,95,114,117,108,101]⟩⟩
def z34:Str:=⟨⟨[114,117,108,101,95,111,102]⟩⟩
def z35:Str:=⟨⟨[98,101,104,105,110,100,95,102,105,114,115,116]⟩⟩
def z36:Str:=⟨⟨[112,111,119,101,114,95,115,117,109,115]⟩⟩
def z37:Str:=⟨⟨[114,117,108,101,95,111,102,95,115,117,109,115]⟩⟩
def z38:Str:=⟨⟨[66,69,76,79,87,95,84,72,69,95,80,82,73,77,69,83]⟩⟩
def z39:Str:=⟨⟨[112,114,105,109,101,95,97,98,111,118,101]⟩⟩
def z40:Str:=⟨⟨[100,105,118,105,100,101,115]⟩⟩
def z41:Str:=⟨⟨[116,97,107,101,110,95,112,111,108,121]⟩⟩
def z42:Str:=⟨⟨[110,101,97,114,101,115,116]⟩⟩
def z43:Str:=⟨⟨[106,111,105,110,101,100]⟩⟩
def z44:Str:=⟨⟨[119,104,111,108,101,95,103,114,101,97,116,101,115,116]⟩⟩
def z45:Str:=⟨⟨[115,104,97,114,101,100,95,100,105,118,105,115,111,114]⟩⟩
def z46:Str:=⟨⟨[116,111,112,95,111,102]⟩⟩
def z47:Str:=⟨⟨[108,101,97,115,116,95,111,102]⟩⟩
def z48:Str:=⟨⟨[115,104,111,114,116,101,115,116]⟩⟩
def z49:Str:=⟨⟨[114,101,102,117,115,101,95,108,111,110,103]⟩⟩
def z50:Str:=⟨⟨[116,111,108,100,95,114,111,119]⟩⟩
def z51:Str:=⟨⟨[115,117,109,95,112,108,97,99,101]⟩⟩
def z52:Str:=⟨⟨[112,114,111,100,117,99,116,95,112,108,97,99,101]⟩⟩
def z53:Str:=⟨⟨[114,111,108,108,101,100,95,112,108,97,99,101]⟩⟩
def z54:Str:=⟨⟨[112,97,105,114,95,114,111,119]⟩⟩
def z55:Str:=⟨⟨[106,111,105,110,116,95,114,111,119]⟩⟩
def z56:Str:=⟨⟨[97,100,100,101,100]⟩⟩
def z57:Str:=⟨⟨[114,111,108,108,101,100]⟩⟩
def z58:Str:=⟨⟨[109,117,108,116,105,112,108,105,101,100]⟩⟩
def z59:Str:=⟨⟨[95,108,97,119,95,99,101,108,108,95,97,116]⟩⟩
def z60:Str:=⟨⟨[95,108,97,119,95,109,105,120]⟩⟩
def z61:Str:=⟨⟨[95,108,97,119,95,100,114,97,119,110,95,98,121]⟩⟩
def z62:Str:=⟨⟨[95,108,97,119,95,116,97,107,101,110]⟩⟩
def z63:Str:=⟨⟨[95,108,97,119,95,111,110,101,95,110,117,109,98,101,114]⟩⟩
def z64:Str:=⟨⟨[95,108,97,119,95,109,97,100,101,95,108,111,110,103,101,114]⟩⟩
def z65:Str:=⟨⟨[95,108,97,119,95,100,114,97,119,110,95,114,111,119]⟩⟩
def z66:Str:=⟨⟨[95,108,97,119,95,112,108,97,99,101,115]⟩⟩
def z67:Str:=⟨⟨[95,108,97,119,95,104,101,97,114,100]⟩⟩
def z68:Str:=⟨⟨[95,108,97,119,95,97,108,108]⟩⟩
def z69:Str:=⟨⟨[95,108,97,119,95,111,102,95,108,101,110,103,116,104]⟩⟩
def z70:Str:=⟨⟨[108,97,119]⟩⟩
def z71:Str:=⟨⟨[60,109,111,100,117,108,101,62]⟩⟩
def z72:Str:=⟨⟨[95,95,109,97,105,110,95,95]⟩⟩
def z73:Str:=⟨⟨[95,95,109,111,100,117,108,101,95,95]⟩⟩
def z74:Str:=⟨⟨[110,101,120,116,98,121,114,117,108,101,46,101,114,114,111,114,115]⟩⟩
def z75:Str:=⟨⟨[95,95,113,117,97,108,110,97,109,101,95,95]⟩⟩
def z76:Str:=⟨⟨[95,95,102,105,114,115,116,108,105,110,101,110,111,95,95]⟩⟩
def z77:Str:=⟨⟨[95,95,115,116,97,116,105,99,95,97,116,116,114,105,98,117,116,101,115,95,95]⟩⟩
def z78:Str:=⟨⟨[95,95,119,101,97,107,114,101,102,95,95]⟩⟩
def z79:Str:=⟨⟨[110,117,109,98,101,114]⟩⟩
def z80:Str:=⟨⟨[100,105,118,105,115,111,114]⟩⟩
def z81:Str:=⟨⟨[110,101,120,116,98,121,114,117,108,101,46,110,117,109,98,101,114,115]⟩⟩
def z82:Str:=⟨⟨[98,121]⟩⟩
def z83:Str:=⟨⟨[112,114,105,109,101]⟩⟩
def z84:Str:=⟨⟨[112,111,119,101,114]⟩⟩
def z85:Str:=⟨⟨[115,113,117,97,114,101]⟩⟩
def z86:Str:=⟨⟨[108,101,102,116]⟩⟩
def z87:Str:=⟨⟨[111,110,101]⟩⟩
def z88:Str:=⟨⟨[111,116,104,101,114]⟩⟩
def z89:Str:=⟨⟨[110,101,120,116,98,121,114,117,108,101,46,114,111,119,115]⟩⟩
def z90:Str:=⟨⟨[114,117,108,101]⟩⟩
def z91:Str:=⟨⟨[98,101,102,111,114,101]⟩⟩
def z92:Str:=⟨⟨[116,111,116,97,108]⟩⟩
def z93:Str:=⟨⟨[107]⟩⟩
def z94:Str:=⟨⟨[114,111,119]⟩⟩
def z95:Str:=⟨⟨[99,111,117,110,116]⟩⟩
def z96:Str:=⟨⟨[115,116,97,114,116,115]⟩⟩
def z97:Str:=⟨⟨[102,111,117,110,100]⟩⟩
def z98:Str:=⟨⟨[110,117,109,98,101,114,115]⟩⟩
def z99:Str:=⟨⟨[101,110,100]⟩⟩
def Jm:Str:=⟨⟨[110,101,120,116,98,121,114,117,108,101,46,112,111,108,121,115]⟩⟩
def Z5:Str:=⟨⟨[105]⟩⟩
def Xv:Str:=⟨⟨[116,111,112]⟩⟩
def Zc:Str:=⟨⟨[111,102,116,101,110]⟩⟩
def ZK:Str:=⟨⟨[115,104,105,102,116]⟩⟩
def Zw:Str:=⟨⟨[102,97,99,116,111,114]⟩⟩
def Zn:Str:=⟨⟨[103,114,101,97,116]⟩⟩
def Y9:Str:=⟨⟨[115,109,97,108,108]⟩⟩
def Nf:Str:=⟨⟨[110,101,120,116,98,121,114,117,108,101,46,112,111,119,101,114,115]⟩⟩
def X3:Str:=⟨⟨[115,117,109,115]⟩⟩
def Z1:Str:=⟨⟨[111,119,110]⟩⟩
def GD:Str:=⟨⟨[110,101,120,116,98,121,114,117,108,101,46,119,104,111,108,101,115]⟩⟩
def Zv:Str:=⟨⟨[109,111,110,105,99,95,111,110,101]⟩⟩
def VR:Str:=⟨⟨[112,111,108,121]⟩⟩
def XG:Str:=⟨⟨[109,111,100,117,108,117,115]⟩⟩
def WX:Str:=⟨⟨[114,101,115,116]⟩⟩
def Zg:Str:=⟨⟨[109,111,114,101]⟩⟩
def NQ:Str:=⟨⟨[110,101,120,116,98,121,114,117,108,101,46,115,104,111,114,116,101,115,116]⟩⟩
def Zt:Str:=⟨⟨[108,101,97,115,116]⟩⟩
def Zm:Str:=⟨⟨[108,101,110,103,116,104]⟩⟩
def Bb:Str:=⟨⟨[110,101,120,116,98,121,114,117,108,101,46,109,105,120,101,115]⟩⟩
def Rg:Str:=⟨⟨[111,117,114,115]⟩⟩
def Wl:Str:=⟨⟨[116,104,101,105,114,115]⟩⟩
def W5:Str:=⟨⟨[110]⟩⟩
def aah:Str:=⟨⟨[112,97,105,114,95,112,108,97,99,101]⟩⟩
def YX:Str:=⟨⟨[95,108,97,119,95,115,99,114,105,112,116]⟩⟩
def Wr:Str:=⟨⟨[95,108,97,119,95,107]⟩⟩
def MQ:Str:=⟨⟨[95,108,97,119,95,99,101,108,108]⟩⟩
def YM:Str:=⟨⟨[95,108,97,119,95,110,117,109,98,101,114]⟩⟩
def Tg:Str:=⟨⟨[95,108,97,119,95,98,121]⟩⟩
def aai:Str:=⟨⟨[95,108,97,119,95,102,97,114]⟩⟩
def ZV:Str:=⟨⟨[95,108,97,119,95,115,109,97,108,108]⟩⟩
def Z0:Str:=⟨⟨[95,108,97,119,95,116,111,108,100]⟩⟩
def Zu:Str:=⟨⟨[95,108,97,119,95,107,101,112,116]⟩⟩
def Zz:Str:=⟨⟨[101]⟩⟩
def Xe:Str:=⟨⟨[95,108,97,119,95,111,110,101]⟩⟩
def ZC:Str:=⟨⟨[95,108,97,119,95,111,116,104,101,114]⟩⟩
def Zk:Str:=⟨⟨[95,108,97,119,95,102,111,117,110,100]⟩⟩
def Xm:Str:=⟨⟨[95,108,97,119,95,102,105,114,115,116]⟩⟩
def Yh:Str:=⟨⟨[95,108,97,119,95,115,101,99,111,110,100]⟩⟩
def ZJ:Str:=⟨⟨[95,108,97,119,95,98,121,115]⟩⟩
def Zd:Str:=⟨⟨[95,108,97,119,95,111,116,104,101,114,95,98,121]⟩⟩
def Y8:Str:=⟨⟨[95,108,97,119,95,115,105,122,101]⟩⟩
def Zh:Str:=⟨⟨[95,108,97,119,95,109,111,114,101]⟩⟩
def Ze:Str:=⟨⟨[95,108,97,119,95,100,117,101]⟩⟩
def Zo:Str:=⟨⟨[95,108,97,119,95,119,105,100,101]⟩⟩
def Y5:Str:=⟨⟨[95,108,97,119,95,104,105,103,104]⟩⟩
def ZM:Str:=⟨⟨[95,108,97,119,95,116,104,105,114,100]⟩⟩
def Z4:Str:=⟨⟨[95,108,97,119,95,102,111,117,114,116,104]⟩⟩
noncomputable abbrev t0:String:=PySem.W.SL.s14018661285674007319x4
noncomputable abbrev t1:String:=PySem.W.SL.s7097527257260152453x26
noncomputable abbrev t2:String:=PySem.W.SL.s2766695959194262286x5
noncomputable abbrev t3:String:=PySem.W.SL.s5856160107412720595x4
noncomputable abbrev t4:String:=PySem.W.SL.s658472552662922059x5
noncomputable abbrev t5:String:=PySem.W.SL.s6070975301684473832x10
noncomputable abbrev t6:String:=PySem.W.SL.s11030030927630378310x26
noncomputable abbrev t7:String:=PySem.W.SL.s10062305145149207511x16
noncomputable abbrev t8:String:=PySem.W.SL.s17162191345867700912x4
noncomputable abbrev t9:String:=PySem.W.SL.s4209523147560561109x18
noncomputable abbrev t10:String:=PySem.W.SL.s5946037652744460706x9
noncomputable abbrev t11:String:=PySem.W.SL.s4278001404047624695x13
noncomputable abbrev t12:String:=PySem.W.SL.s2742458400755230247x6
noncomputable abbrev t13:String:=PySem.W.SL.s14755015743595814543x17
noncomputable abbrev t14:String:=PySem.W.SL.s10220274742760427390x26
noncomputable abbrev t15:String:=PySem.W.SL.s4290257624100764138x5
noncomputable abbrev t16:String:=PySem.W.SL.s4860613602091757760x24
noncomputable abbrev t17:String:=PySem.W.SL.s7174869446012820540x8
def l3(P:Params):List DictEntry:=[⟨kh P z0,.str z0 165,.str z1 671⟩,⟨kh P z2,.str z2 166,.none⟩,⟨kh P z3,.str z3 167,.none⟩,⟨kh P z4,.str z4 168,.builtin t1⟩,⟨kh P z5,.str z5 169,.none⟩,⟨kh P z6,.str z6 170,.ref 6⟩,⟨kh P z7,.str z7 171,.ref 4⟩,⟨kh P z8,.str z8 173,.str z9 172⟩,⟨kh P z10,.str z10 174,.none⟩,⟨kh P z11,.str z11 206,.ref 24⟩,⟨kh P z12,.str z12 222,.ref 37⟩,⟨kh P z13,.str z13 238,.ref 49⟩,⟨kh P z14,.str z14 254,.ref 61⟩,⟨kh P z15,.str z15 270,.ref 73⟩,⟨kh P z16,.str z16 286,.ref 85⟩,⟨kh P z17,.str z17 302,.ref 97⟩,⟨kh P z18,.str z18 318,.ref 109⟩,⟨kh P z19,.str z19 334,.ref 121⟩,⟨kh P z20,.str z20 344,.ref 130⟩,⟨kh P z21,.str z21 352,.ref 137⟩,⟨kh P z22,.str z22 363,.ref 144⟩,⟨kh P z23,.str z23 372,.ref 151⟩,⟨kh P z24,.str z24 376,.int 12 375⟩,⟨kh P z25,.str z25 384,.ref 158⟩,⟨kh P z26,.str z26 395,.ref 165⟩,⟨kh P z27,.str z27 407,.ref 172⟩,⟨kh P z28,.str z28 417,.ref 179⟩,⟨kh P z29,.str z29 429,.ref 186⟩,⟨kh P z30,.str z30 444,.ref 193⟩,⟨kh P z31,.str z31 450,.ref 198⟩,⟨kh P z32,.str z32 462,.ref 205⟩,⟨kh P z33,.str z33 468,.ref 210⟩,⟨kh P z34,.str z34 474,.ref 215⟩,⟨kh P z35,.str z35 482,.ref 220⟩,⟨kh P z36,.str z36 493,.ref 227⟩,⟨kh P z37,.str z37 502,.ref 234⟩,⟨kh P z38,.str z38 506,.int 1000000 505⟩,⟨kh P z39,.str z39 514,.ref 241⟩,⟨kh P z40,.str z40 522,.ref 248⟩,⟨kh P z41,.str z41 528,.ref 253⟩,⟨kh P z42,.str z42 537,.ref 260⟩,⟨kh P z43,.str z43 548,.ref 267⟩,⟨kh P z44,.str z44 554,.ref 272⟩,⟨kh P z45,.str z45 563,.ref 279⟩,⟨kh P z46,.str z46 571,.ref 284⟩,⟨kh P z47,.str z47 581,.ref 291⟩,⟨kh P z48,.str z48 590,.ref 298⟩,⟨kh P z49,.str z49 599,.ref 305⟩,⟨kh P z50,.str z50 605,.ref 310⟩,⟨kh P z51,.str z51 614,.ref 317⟩,⟨kh P z52,.str z52 623,.ref 324⟩,⟨kh P z53,.str z53 629,.ref 329⟩,⟨kh P z54,.str z54 635,.ref 334⟩,⟨kh P z55,.str z55 648,.ref 341⟩,⟨kh P z56,.str z56 656,.ref 348⟩,⟨kh P z57,.str z57 664,.ref 355⟩,⟨kh P z58,.str z58 670,.ref 360⟩,⟨kh P z59,.str z59 680,.ref 367⟩,⟨kh P z60,.str z60 689,.ref 374⟩,⟨kh P z61,.str z61 696,.ref 381⟩,⟨kh P z62,.str z62 704,.ref 388⟩,⟨kh P z63,.str z63 715,.ref 395⟩,⟨kh P z64,.str z64 721,.ref 400⟩,⟨kh P z65,.str z65 727,.ref 405⟩,⟨kh P z66,.str z66 733,.ref 410⟩,⟨kh P z67,.str z67 742,.ref 417⟩,⟨kh P z68,.str z68 753,.ref 424⟩,⟨kh P z69,.str z69 759,.ref 429⟩,⟨kh P z70,.str z70 780,.ref 436⟩]
def o3(P:Params):Obj:=⟨.type t0,.none,.dict ⟨l3 P⟩ 69,⟨[]⟩⟩
def Y0(P:Params):Obj:=⟨.type t0,.none,.dict ⟨[⟨kh P z0,.str z0 165,.str z74 187⟩,⟨kh P z2,.str z2 166,.none⟩,⟨kh P z3,.str z3 167,.none⟩,⟨kh P z4,.str z4 168,.builtin t1⟩,⟨kh P z5,.str z5 169,.none⟩,⟨kh P z6,.str z6 170,.ref 6⟩,⟨kh P z7,.str z7 171,.ref 4⟩,⟨kh P z8,.str z8 173,.str z9 172⟩,⟨kh P z10,.str z10 174,.none⟩,⟨kh P z11,.str z11 206,.ref 24⟩]⟩ 10,⟨[]⟩⟩
def Zy(P:Params):Obj:=⟨.type t0,.none,.dict ⟨[⟨kh P z0,.str z0 165,.str z74 187⟩,⟨kh P z2,.str z2 166,.none⟩,⟨kh P z3,.str z3 167,.none⟩,⟨kh P z4,.str z4 168,.builtin t1⟩,⟨kh P z5,.str z5 169,.none⟩,⟨kh P z6,.str z6 170,.ref 6⟩,⟨kh P z7,.str z7 171,.ref 4⟩,⟨kh P z8,.str z8 173,.str z9 172⟩,⟨kh P z10,.str z10 174,.none⟩,⟨kh P z11,.str z11 206,.ref 24⟩,⟨kh P z12,.str z12 222,.ref 37⟩]⟩ 11,⟨[]⟩⟩
def ZD(P:Params):Obj:=⟨.type t0,.none,.dict ⟨[⟨kh P z0,.str z0 165,.str z74 187⟩,⟨kh P z2,.str z2 166,.none⟩,⟨kh P z3,.str z3 167,.none⟩,⟨kh P z4,.str z4 168,.builtin t1⟩,⟨kh P z5,.str z5 169,.none⟩,⟨kh P z6,.str z6 170,.ref 6⟩,⟨kh P z7,.str z7 171,.ref 4⟩,⟨kh P z8,.str z8 173,.str z9 172⟩,⟨kh P z10,.str z10 174,.none⟩,⟨kh P z11,.str z11 206,.ref 24⟩,⟨kh P z12,.str z12 222,.ref 37⟩,⟨kh P z13,.str z13 238,.ref 49⟩]⟩ 12,⟨[]⟩⟩
def Qi(P:Params):Obj:=⟨.type t0,.none,.dict ⟨[⟨kh P z0,.str z0 165,.str z74 187⟩,⟨kh P z2,.str z2 166,.none⟩,⟨kh P z3,.str z3 167,.none⟩,⟨kh P z4,.str z4 168,.builtin t1⟩,⟨kh P z5,.str z5 169,.none⟩,⟨kh P z6,.str z6 170,.ref 6⟩,⟨kh P z7,.str z7 171,.ref 4⟩,⟨kh P z8,.str z8 173,.str z9 172⟩,⟨kh P z10,.str z10 174,.none⟩,⟨kh P z11,.str z11 206,.ref 24⟩,⟨kh P z12,.str z12 222,.ref 37⟩,⟨kh P z13,.str z13 238,.ref 49⟩,⟨kh P z14,.str z14 254,.ref 61⟩]⟩ 13,⟨[]⟩⟩
def Uu(P:Params):Obj:=⟨.type t0,.none,.dict ⟨[⟨kh P z0,.str z0 165,.str z74 187⟩,⟨kh P z2,.str z2 166,.none⟩,⟨kh P z3,.str z3 167,.none⟩,⟨kh P z4,.str z4 168,.builtin t1⟩,⟨kh P z5,.str z5 169,.none⟩,⟨kh P z6,.str z6 170,.ref 6⟩,⟨kh P z7,.str z7 171,.ref 4⟩,⟨kh P z8,.str z8 173,.str z9 172⟩,⟨kh P z10,.str z10 174,.none⟩,⟨kh P z11,.str z11 206,.ref 24⟩,⟨kh P z12,.str z12 222,.ref 37⟩,⟨kh P z13,.str z13 238,.ref 49⟩,⟨kh P z14,.str z14 254,.ref 61⟩,⟨kh P z15,.str z15 270,.ref 73⟩]⟩ 14,⟨[]⟩⟩
def UW(P:Params):Obj:=⟨.type t0,.none,.dict ⟨[⟨kh P z0,.str z0 165,.str z74 187⟩,⟨kh P z2,.str z2 166,.none⟩,⟨kh P z3,.str z3 167,.none⟩,⟨kh P z4,.str z4 168,.builtin t1⟩,⟨kh P z5,.str z5 169,.none⟩,⟨kh P z6,.str z6 170,.ref 6⟩,⟨kh P z7,.str z7 171,.ref 4⟩,⟨kh P z8,.str z8 173,.str z9 172⟩,⟨kh P z10,.str z10 174,.none⟩,⟨kh P z11,.str z11 206,.ref 24⟩,⟨kh P z12,.str z12 222,.ref 37⟩,⟨kh P z13,.str z13 238,.ref 49⟩,⟨kh P z14,.str z14 254,.ref 61⟩,⟨kh P z15,.str z15 270,.ref 73⟩,⟨kh P z16,.str z16 286,.ref 85⟩]⟩ 15,⟨[]⟩⟩
def WR(P:Params):Obj:=⟨.type t0,.none,.dict ⟨[⟨kh P z0,.str z0 165,.str z74 187⟩,⟨kh P z2,.str z2 166,.none⟩,⟨kh P z3,.str z3 167,.none⟩,⟨kh P z4,.str z4 168,.builtin t1⟩,⟨kh P z5,.str z5 169,.none⟩,⟨kh P z6,.str z6 170,.ref 6⟩,⟨kh P z7,.str z7 171,.ref 4⟩,⟨kh P z8,.str z8 173,.str z9 172⟩,⟨kh P z10,.str z10 174,.none⟩,⟨kh P z11,.str z11 206,.ref 24⟩,⟨kh P z12,.str z12 222,.ref 37⟩,⟨kh P z13,.str z13 238,.ref 49⟩,⟨kh P z14,.str z14 254,.ref 61⟩,⟨kh P z15,.str z15 270,.ref 73⟩,⟨kh P z16,.str z16 286,.ref 85⟩,⟨kh P z17,.str z17 302,.ref 97⟩]⟩ 16,⟨[]⟩⟩
def Ra(P:Params):Obj:=⟨.type t0,.none,.dict ⟨[⟨kh P z0,.str z0 165,.str z74 187⟩,⟨kh P z2,.str z2 166,.none⟩,⟨kh P z3,.str z3 167,.none⟩,⟨kh P z4,.str z4 168,.builtin t1⟩,⟨kh P z5,.str z5 169,.none⟩,⟨kh P z6,.str z6 170,.ref 6⟩,⟨kh P z7,.str z7 171,.ref 4⟩,⟨kh P z8,.str z8 173,.str z9 172⟩,⟨kh P z10,.str z10 174,.none⟩,⟨kh P z11,.str z11 206,.ref 24⟩,⟨kh P z12,.str z12 222,.ref 37⟩,⟨kh P z13,.str z13 238,.ref 49⟩,⟨kh P z14,.str z14 254,.ref 61⟩,⟨kh P z15,.str z15 270,.ref 73⟩,⟨kh P z16,.str z16 286,.ref 85⟩,⟨kh P z17,.str z17 302,.ref 97⟩,⟨kh P z18,.str z18 318,.ref 109⟩]⟩ 17,⟨[]⟩⟩
def QG(P:Params):Obj:=⟨.type t0,.none,.dict ⟨[⟨kh P z0,.str z0 165,.str z89 373⟩,⟨kh P z2,.str z2 166,.none⟩,⟨kh P z3,.str z3 167,.none⟩,⟨kh P z4,.str z4 168,.builtin t1⟩,⟨kh P z5,.str z5 169,.none⟩,⟨kh P z6,.str z6 170,.ref 6⟩,⟨kh P z7,.str z7 171,.ref 4⟩,⟨kh P z8,.str z8 173,.str z9 172⟩,⟨kh P z10,.str z10 174,.none⟩,⟨kh P z11,.str z11 206,.ref 24⟩,⟨kh P z12,.str z12 222,.ref 37⟩,⟨kh P z13,.str z13 238,.ref 49⟩,⟨kh P z14,.str z14 254,.ref 61⟩,⟨kh P z15,.str z15 270,.ref 73⟩,⟨kh P z16,.str z16 286,.ref 85⟩,⟨kh P z17,.str z17 302,.ref 97⟩,⟨kh P z18,.str z18 318,.ref 109⟩,⟨kh P z19,.str z19 334,.ref 121⟩,⟨kh P z20,.str z20 344,.ref 130⟩,⟨kh P z21,.str z21 352,.ref 137⟩,⟨kh P z22,.str z22 363,.ref 144⟩,⟨kh P z23,.str z23 372,.ref 151⟩,⟨kh P z24,.str z24 376,.int 12 375⟩,⟨kh P z25,.str z25 384,.ref 158⟩]⟩ 24,⟨[]⟩⟩
def Qf(P:Params):Obj:=⟨.type t0,.none,.dict ⟨[⟨kh P z0,.str z0 165,.str GD 503⟩,⟨kh P z2,.str z2 166,.none⟩,⟨kh P z3,.str z3 167,.none⟩,⟨kh P z4,.str z4 168,.builtin t1⟩,⟨kh P z5,.str z5 169,.none⟩,⟨kh P z6,.str z6 170,.ref 6⟩,⟨kh P z7,.str z7 171,.ref 4⟩,⟨kh P z8,.str z8 173,.str z9 172⟩,⟨kh P z10,.str z10 174,.none⟩,⟨kh P z11,.str z11 206,.ref 24⟩,⟨kh P z12,.str z12 222,.ref 37⟩,⟨kh P z13,.str z13 238,.ref 49⟩,⟨kh P z14,.str z14 254,.ref 61⟩,⟨kh P z15,.str z15 270,.ref 73⟩,⟨kh P z16,.str z16 286,.ref 85⟩,⟨kh P z17,.str z17 302,.ref 97⟩,⟨kh P z18,.str z18 318,.ref 109⟩,⟨kh P z19,.str z19 334,.ref 121⟩,⟨kh P z20,.str z20 344,.ref 130⟩,⟨kh P z21,.str z21 352,.ref 137⟩,⟨kh P z22,.str z22 363,.ref 144⟩,⟨kh P z23,.str z23 372,.ref 151⟩,⟨kh P z24,.str z24 376,.int 12 375⟩,⟨kh P z25,.str z25 384,.ref 158⟩,⟨kh P z26,.str z26 395,.ref 165⟩,⟨kh P z27,.str z27 407,.ref 172⟩,⟨kh P z28,.str z28 417,.ref 179⟩,⟨kh P z29,.str z29 429,.ref 186⟩,⟨kh P z30,.str z30 444,.ref 193⟩,⟨kh P z31,.str z31 450,.ref 198⟩,⟨kh P z32,.str z32 462,.ref 205⟩,⟨kh P z33,.str z33 468,.ref 210⟩,⟨kh P z34,.str z34 474,.ref 215⟩,⟨kh P z35,.str z35 482,.ref 220⟩,⟨kh P z36,.str z36 493,.ref 227⟩,⟨kh P z37,.str z37 502,.ref 234⟩]⟩ 36,⟨[]⟩⟩
def Ob(P:Params):Obj:=⟨.type t0,.none,.dict ⟨[⟨kh P z0,.str z0 165,.str Bb 591⟩,⟨kh P z2,.str z2 166,.none⟩,⟨kh P z3,.str z3 167,.none⟩,⟨kh P z4,.str z4 168,.builtin t1⟩,⟨kh P z5,.str z5 169,.none⟩,⟨kh P z6,.str z6 170,.ref 6⟩,⟨kh P z7,.str z7 171,.ref 4⟩,⟨kh P z8,.str z8 173,.str z9 172⟩,⟨kh P z10,.str z10 174,.none⟩,⟨kh P z11,.str z11 206,.ref 24⟩,⟨kh P z12,.str z12 222,.ref 37⟩,⟨kh P z13,.str z13 238,.ref 49⟩,⟨kh P z14,.str z14 254,.ref 61⟩,⟨kh P z15,.str z15 270,.ref 73⟩,⟨kh P z16,.str z16 286,.ref 85⟩,⟨kh P z17,.str z17 302,.ref 97⟩,⟨kh P z18,.str z18 318,.ref 109⟩,⟨kh P z19,.str z19 334,.ref 121⟩,⟨kh P z20,.str z20 344,.ref 130⟩,⟨kh P z21,.str z21 352,.ref 137⟩,⟨kh P z22,.str z22 363,.ref 144⟩,⟨kh P z23,.str z23 372,.ref 151⟩,⟨kh P z24,.str z24 376,.int 12 375⟩,⟨kh P z25,.str z25 384,.ref 158⟩,⟨kh P z26,.str z26 395,.ref 165⟩,⟨kh P z27,.str z27 407,.ref 172⟩,⟨kh P z28,.str z28 417,.ref 179⟩,⟨kh P z29,.str z29 429,.ref 186⟩,⟨kh P z30,.str z30 444,.ref 193⟩,⟨kh P z31,.str z31 450,.ref 198⟩,⟨kh P z32,.str z32 462,.ref 205⟩,⟨kh P z33,.str z33 468,.ref 210⟩,⟨kh P z34,.str z34 474,.ref 215⟩,⟨kh P z35,.str z35 482,.ref 220⟩,⟨kh P z36,.str z36 493,.ref 227⟩,⟨kh P z37,.str z37 502,.ref 234⟩,⟨kh P z38,.str z38 506,.int 1000000 505⟩,⟨kh P z39,.str z39 514,.ref 241⟩,⟨kh P z40,.str z40 522,.ref 248⟩,⟨kh P z41,.str z41 528,.ref 253⟩,⟨kh P z42,.str z42 537,.ref 260⟩,⟨kh P z43,.str z43 548,.ref 267⟩,⟨kh P z44,.str z44 554,.ref 272⟩,⟨kh P z45,.str z45 563,.ref 279⟩,⟨kh P z46,.str z46 571,.ref 284⟩,⟨kh P z47,.str z47 581,.ref 291⟩,⟨kh P z48,.str z48 590,.ref 298⟩,⟨kh P z49,.str z49 599,.ref 305⟩,⟨kh P z50,.str z50 605,.ref 310⟩]⟩ 49,⟨[]⟩⟩
def Uz(P:Params):Obj:=⟨.type t0,.none,.dict ⟨(l3 P).take 62⟩ 62,⟨[]⟩⟩
def o11(P:Params):Obj:=⟨.type t2,.none,.seq ⟨[]⟩ 0,⟨[]⟩⟩
def l12(P:Params):List Value:=[.int 2 0,.int 0 0,.ref 20,.int 4 0,.int 0 0,.ref 33,.int 6 0,.int 0 0,.ref 45,.int 8 0,.int 0 0,.ref 57,.int 10 0,.int 0 0,.ref 69,.int 12 0,.int 0 0,.ref 81,.int 14 0,.int 0 0,.ref 93,.int 16 0,.int 0 0,.ref 105,.int 18 0,.int 0 0,.ref 117,.int 21 0,.int 0 0,.ref 129,.int 30 0,.int 0 0,.ref 136,.int 34 0,.int 0 0,.ref 143,.int 44 0,.int 0 0,.ref 150,.int 52 0,.int 0 0,.ref 157,.int 56 0,.int 0 0,.ref 164,.int 61 0,.int 0 0,.ref 171,.int 70 0,.int 0 0,.ref 178,.int 75 0,.int 0 0,.ref 185,.int 81 0,.int 0 0,.ref 192,.int 91 0,.int 0 0,.ref 197,.int 96 0,.int 0 0,.ref 204,.int 104 0,.int 0 0,.ref 209,.int 108 0,.int 0 0,.ref 214,.int 112 0,.int 0 0,.ref 219,.int 115 0,.int 0 0,.ref 226,.int 121 0,.int 0 0,.ref 233,.int 128 0,.int 0 0,.ref 240,.int 133 0,.int 0 0,.ref 247,.int 135 0,.int 0 0,.ref 252,.int 137 0,.int 0 0,.ref 259,.int 140 0,.int 0 0,.ref 266,.int 143 0,.int 0 0,.ref 271,.int 161 0,.int 0 0,.ref 278,.int 164 0,.int 0 0,.ref 283,.int 172 0,.int 0 0,.ref 290,.int 177 0,.int 0 0,.ref 297,.int 182 0,.int 0 0,.ref 304,.int 185 0,.int 0 0,.ref 309,.int 189 0,.int 0 0,.ref 316,.int 191 0,.int 0 0,.ref 323,.int 193 0,.int 0 0,.ref 328,.int 195 0,.int 0 0,.ref 333,.int 200 0,.int 0 0,.ref 340,.int 207 0,.int 0 0,.ref 347,.int 209 0,.int 0 0,.ref 354,.int 211 0,.int 0 0,.ref 359,.int 222 0,.int 0 0,.ref 366,.int 226 0,.int 0 0,.ref 373,.int 230 0,.int 0 0,.ref 380,.int 232 0,.int 0 0,.ref 387,.int 236 0,.int 0 0,.ref 394,.int 240 0,.int 0 0,.ref 399,.int 248 0,.int 0 0,.ref 404,.int 258 0,.int 0 0,.ref 409,.int 265 0,.int 0 0,.ref 416,.int 278 0,.int 0 0,.ref 423,.int 285 0,.int 0 0,.ref 428,.int 288 0,.int 0 0,.ref 435]
def o12(P:Params):Obj:=⟨.none,.none,.fields ⟨l12 P⟩,⟨[]⟩⟩
def Mg(P:Params):Obj:=⟨.none,.none,.fields ⟨(l12 P).take 0⟩,⟨[]⟩⟩
def Ri(P:Params):Obj:=⟨.none,.none,.fields ⟨(l12 P).take 3⟩,⟨[]⟩⟩
def QW(P:Params):Obj:=⟨.none,.none,.fields ⟨(l12 P).take 6⟩,⟨[]⟩⟩
def WM(P:Params):Obj:=⟨.none,.none,.fields ⟨(l12 P).take 9⟩,⟨[]⟩⟩
def KQ(P:Params):Obj:=⟨.none,.none,.fields ⟨(l12 P).take 12⟩,⟨[]⟩⟩
def MG(P:Params):Obj:=⟨.none,.none,.fields ⟨(l12 P).take 15⟩,⟨[]⟩⟩
def KH(P:Params):Obj:=⟨.none,.none,.fields ⟨(l12 P).take 18⟩,⟨[]⟩⟩
def Lg(P:Params):Obj:=⟨.none,.none,.fields ⟨(l12 P).take 21⟩,⟨[]⟩⟩
def Mu(P:Params):Obj:=⟨.none,.none,.fields ⟨(l12 P).take 24⟩,⟨[]⟩⟩
def KC(P:Params):Obj:=⟨.none,.none,.fields ⟨(l12 P).take 42⟩,⟨[]⟩⟩
def MP(P:Params):Obj:=⟨.none,.none,.fields ⟨(l12 P).take 78⟩,⟨[]⟩⟩
def JZ(P:Params):Obj:=⟨.none,.none,.fields ⟨(l12 P).take 114⟩,⟨[]⟩⟩
def Kz(P:Params):Obj:=⟨.none,.none,.fields ⟨(l12 P).take 153⟩,⟨[]⟩⟩
def o13(P:Params):Obj:=⟨.type t3,.none,.fields ⟨[.str z71 182,.str z71 183,.str z9 184,.int 1 0,.int 0 0,.int 0 0,.int 0 0,.int 0 0,.ref 11,.bool false,.int 181 0,.ref 12,.none,.none,.none,.none,.int 185 0,.int 1 0,.str z9 186]⟩,⟨[]⟩⟩
def o14(P:Params):Obj:=⟨.type t4,.none,.plain,⟨[.some (.ref 13),.some (.ref 3),.some (.ref 3),.none,.some (.str z72 164),.none,.some (.ref 0)]⟩⟩
def o15(P:Params):Obj:=⟨.type t2,.none,.seq ⟨[.type t5]⟩ 0,⟨[]⟩⟩
def o16(P:Params):Obj:=⟨.type t6,.none,.fields ⟨[.builtin t7,.type t8]⟩,⟨[]⟩⟩
def o17(P:Params):Obj:=⟨.type t0,.none,.dict ⟨[⟨kh P z73,.str z73 196,.str z74 187⟩,⟨kh P z75,.str z75 198,.str z11 197⟩,⟨kh P z76,.str z76 200,.int 2 199⟩,⟨kh P z77,.str z77 201,.ref 22⟩]⟩ 4,⟨[]⟩⟩
def o18(P:Params):Obj:=⟨.type t2,.none,.seq ⟨[]⟩ 0,⟨[]⟩⟩
def o19(P:Params):Obj:=⟨.none,.none,.fields ⟨[]⟩,⟨[]⟩⟩
def o20(P:Params):Obj:=⟨.type t3,.none,.fields ⟨[.str z11 191,.str z11 192,.str z9 193,.int 2 0,.int 0 0,.int 0 0,.int 0 0,.int 0 0,.ref 18,.bool false,.int 181 0,.ref 19,.none,.none,.none,.none,.int 194 0,.int 2 0,.str z9 195]⟩,⟨[]⟩⟩
def o21(P:Params):Obj:=⟨.type t4,.none,.plain,⟨[.some (.ref 20),.some (.ref 3),.some (.ref 17),.none,.some (.str z74 187),.none,.some (.ref 0)]⟩⟩
def o22(P:Params):Obj:=⟨.type t2,.none,.seq ⟨[]⟩ 0,⟨[]⟩⟩
def o23(P:Params):Obj:=⟨.type t0,.none,.dict ⟨[⟨kh P z73,.str z73 196,.str z74 187⟩,⟨kh P z76,.str z76 200,.int 2 199⟩,⟨kh P z77,.str z77 201,.ref 22⟩,⟨kh P z78,.str z78 203,.ref 25⟩,⟨kh P z2,.str z2 204,.none⟩]⟩ 3,⟨[]⟩⟩
def o24(P:Params):Obj:=⟨.type t8,.none,.cls ⟨z11,[.type t5],[.ref 24,.type t5,.type t10,.type t11,.type t12],23,z11,true,[],[.ref 37,.ref 49,.ref 61,.ref 73,.ref 85,.ref 97,.ref 109,.ref 121],false,.none,false⟩,⟨[.some (.ref 15),.none,.some (.str z11 189),.some (.str z11 197),.some (.builtin t9),.some (.bool true)]⟩⟩
def Wg(P:Params):Obj:=⟨.type t8,.none,.cls ⟨z11,[.type t5],[.ref 24,.type t5,.type t10,.type t11,.type t12],23,z11,true,[],[],false,.none,false⟩,⟨[.some (.ref 15),.none,.some (.str z11 189),.some (.str z11 197),.some (.builtin t9),.some (.bool true)]⟩⟩
def Oz(P:Params):Obj:=⟨.type t8,.none,.cls ⟨z11,[.type t5],[.ref 24,.type t5,.type t10,.type t11,.type t12],23,z11,true,[],[.ref 37],false,.none,false⟩,⟨[.some (.ref 15),.none,.some (.str z11 189),.some (.str z11 197),.some (.builtin t9),.some (.bool true)]⟩⟩
def Rb(P:Params):Obj:=⟨.type t8,.none,.cls ⟨z11,[.type t5],[.ref 24,.type t5,.type t10,.type t11,.type t12],23,z11,true,[],[.ref 37,.ref 49],false,.none,false⟩,⟨[.some (.ref 15),.none,.some (.str z11 189),.some (.str z11 197),.some (.builtin t9),.some (.bool true)]⟩⟩
def Ml(P:Params):Obj:=⟨.type t8,.none,.cls ⟨z11,[.type t5],[.ref 24,.type t5,.type t10,.type t11,.type t12],23,z11,true,[],[.ref 37,.ref 49,.ref 61],false,.none,false⟩,⟨[.some (.ref 15),.none,.some (.str z11 189),.some (.str z11 197),.some (.builtin t9),.some (.bool true)]⟩⟩
def Ld(P:Params):Obj:=⟨.type t8,.none,.cls ⟨z11,[.type t5],[.ref 24,.type t5,.type t10,.type t11,.type t12],23,z11,true,[],[.ref 37,.ref 49,.ref 61,.ref 73],false,.none,false⟩,⟨[.some (.ref 15),.none,.some (.str z11 189),.some (.str z11 197),.some (.builtin t9),.some (.bool true)]⟩⟩
def LZ(P:Params):Obj:=⟨.type t8,.none,.cls ⟨z11,[.type t5],[.ref 24,.type t5,.type t10,.type t11,.type t12],23,z11,true,[],[.ref 37,.ref 49,.ref 61,.ref 73,.ref 85],false,.none,false⟩,⟨[.some (.ref 15),.none,.some (.str z11 189),.some (.str z11 197),.some (.builtin t9),.some (.bool true)]⟩⟩
def Kq(P:Params):Obj:=⟨.type t8,.none,.cls ⟨z11,[.type t5],[.ref 24,.type t5,.type t10,.type t11,.type t12],23,z11,true,[],[.ref 37,.ref 49,.ref 61,.ref 73,.ref 85,.ref 97],false,.none,false⟩,⟨[.some (.ref 15),.none,.some (.str z11 189),.some (.str z11 197),.some (.builtin t9),.some (.bool true)]⟩⟩
def Lp(P:Params):Obj:=⟨.type t8,.none,.cls ⟨z11,[.type t5],[.ref 24,.type t5,.type t10,.type t11,.type t12],23,z11,true,[],[.ref 37,.ref 49,.ref 61,.ref 73,.ref 85,.ref 97,.ref 109],false,.none,false⟩,⟨[.some (.ref 15),.none,.some (.str z11 189),.some (.str z11 197),.some (.builtin t9),.some (.bool true)]⟩⟩
def o25(P:Params):Obj:=⟨.type t13,.none,.fields ⟨[.str z78 202,.ref 24,.builtin t14,.none]⟩,⟨[]⟩⟩
def o26(P:Params):Obj:=⟨.type t15,.none,.fields ⟨[.ref 24,.ref 24,.ref 24]⟩,⟨[]⟩⟩
def o27(P:Params):Obj:=⟨.type t6,.none,.fields ⟨[.builtin t16,.ref 24]⟩,⟨[]⟩⟩
def o28(P:Params):Obj:=⟨.type t2,.none,.seq ⟨[.ref 24]⟩ 0,⟨[]⟩⟩
def o29(P:Params):Obj:=⟨.type t6,.none,.fields ⟨[.builtin t7,.type t8]⟩,⟨[]⟩⟩
def o30(P:Params):Obj:=⟨.type t0,.none,.dict ⟨[⟨kh P z73,.str z73 214,.str z74 187⟩,⟨kh P z75,.str z75 216,.str z12 215⟩,⟨kh P z76,.str z76 218,.int 4 217⟩,⟨kh P z77,.str z77 219,.ref 35⟩]⟩ 4,⟨[]⟩⟩
def o31(P:Params):Obj:=⟨.type t2,.none,.seq ⟨[]⟩ 0,⟨[]⟩⟩
def o32(P:Params):Obj:=⟨.none,.none,.fields ⟨[]⟩,⟨[]⟩⟩
def o33(P:Params):Obj:=⟨.type t3,.none,.fields ⟨[.str z12 209,.str z12 210,.str z9 211,.int 4 0,.int 0 0,.int 0 0,.int 0 0,.int 0 0,.ref 31,.bool false,.int 181 0,.ref 32,.none,.none,.none,.none,.int 212 0,.int 4 0,.str z9 213]⟩,⟨[]⟩⟩
def o34(P:Params):Obj:=⟨.type t4,.none,.plain,⟨[.some (.ref 33),.some (.ref 3),.some (.ref 30),.none,.some (.str z74 187),.none,.some (.ref 0)]⟩⟩
def o35(P:Params):Obj:=⟨.type t2,.none,.seq ⟨[]⟩ 0,⟨[]⟩⟩
def o36(P:Params):Obj:=⟨.type t0,.none,.dict ⟨[⟨kh P z73,.str z73 214,.str z74 187⟩,⟨kh P z76,.str z76 218,.int 4 217⟩,⟨kh P z77,.str z77 219,.ref 35⟩,⟨kh P z2,.str z2 220,.none⟩]⟩ 2,⟨[]⟩⟩
def o37(P:Params):Obj:=⟨.type t8,.none,.cls ⟨z12,[.ref 24],[.ref 37,.ref 24,.type t5,.type t10,.type t11,.type t12],36,z12,true,[],[],false,.none,false⟩,⟨[.some (.ref 28),.none,.some (.str z12 207),.some (.str z12 215),.some (.builtin t9),.some (.bool true)]⟩⟩
def o38(P:Params):Obj:=⟨.type t15,.none,.fields ⟨[.ref 37,.ref 37,.ref 37]⟩,⟨[]⟩⟩
def o39(P:Params):Obj:=⟨.type t6,.none,.fields ⟨[.builtin t16,.ref 37]⟩,⟨[]⟩⟩
def o40(P:Params):Obj:=⟨.type t2,.none,.seq ⟨[.ref 24]⟩ 0,⟨[]⟩⟩
def o41(P:Params):Obj:=⟨.type t6,.none,.fields ⟨[.builtin t7,.type t8]⟩,⟨[]⟩⟩
def o42(P:Params):Obj:=⟨.type t0,.none,.dict ⟨[⟨kh P z73,.str z73 230,.str z74 187⟩,⟨kh P z75,.str z75 232,.str z13 231⟩,⟨kh P z76,.str z76 234,.int 6 233⟩,⟨kh P z77,.str z77 235,.ref 47⟩]⟩ 4,⟨[]⟩⟩
def o43(P:Params):Obj:=⟨.type t2,.none,.seq ⟨[]⟩ 0,⟨[]⟩⟩
def o44(P:Params):Obj:=⟨.none,.none,.fields ⟨[]⟩,⟨[]⟩⟩
def o45(P:Params):Obj:=⟨.type t3,.none,.fields ⟨[.str z13 225,.str z13 226,.str z9 227,.int 6 0,.int 0 0,.int 0 0,.int 0 0,.int 0 0,.ref 43,.bool false,.int 181 0,.ref 44,.none,.none,.none,.none,.int 228 0,.int 6 0,.str z9 229]⟩,⟨[]⟩⟩
def o46(P:Params):Obj:=⟨.type t4,.none,.plain,⟨[.some (.ref 45),.some (.ref 3),.some (.ref 42),.none,.some (.str z74 187),.none,.some (.ref 0)]⟩⟩
def o47(P:Params):Obj:=⟨.type t2,.none,.seq ⟨[]⟩ 0,⟨[]⟩⟩
def o48(P:Params):Obj:=⟨.type t0,.none,.dict ⟨[⟨kh P z73,.str z73 230,.str z74 187⟩,⟨kh P z76,.str z76 234,.int 6 233⟩,⟨kh P z77,.str z77 235,.ref 47⟩,⟨kh P z2,.str z2 236,.none⟩]⟩ 2,⟨[]⟩⟩
def o49(P:Params):Obj:=⟨.type t8,.none,.cls ⟨z13,[.ref 24],[.ref 49,.ref 24,.type t5,.type t10,.type t11,.type t12],48,z13,true,[],[],false,.none,false⟩,⟨[.some (.ref 40),.none,.some (.str z13 223),.some (.str z13 231),.some (.builtin t9),.some (.bool true)]⟩⟩
def o50(P:Params):Obj:=⟨.type t15,.none,.fields ⟨[.ref 49,.ref 49,.ref 49]⟩,⟨[]⟩⟩
def o51(P:Params):Obj:=⟨.type t6,.none,.fields ⟨[.builtin t16,.ref 49]⟩,⟨[]⟩⟩
def o52(P:Params):Obj:=⟨.type t2,.none,.seq ⟨[.ref 24]⟩ 0,⟨[]⟩⟩
def o53(P:Params):Obj:=⟨.type t6,.none,.fields ⟨[.builtin t7,.type t8]⟩,⟨[]⟩⟩
def o54(P:Params):Obj:=⟨.type t0,.none,.dict ⟨[⟨kh P z73,.str z73 246,.str z74 187⟩,⟨kh P z75,.str z75 248,.str z14 247⟩,⟨kh P z76,.str z76 250,.int 8 249⟩,⟨kh P z77,.str z77 251,.ref 59⟩]⟩ 4,⟨[]⟩⟩
def o55(P:Params):Obj:=⟨.type t2,.none,.seq ⟨[]⟩ 0,⟨[]⟩⟩
def o56(P:Params):Obj:=⟨.none,.none,.fields ⟨[]⟩,⟨[]⟩⟩
def o57(P:Params):Obj:=⟨.type t3,.none,.fields ⟨[.str z14 241,.str z14 242,.str z9 243,.int 8 0,.int 0 0,.int 0 0,.int 0 0,.int 0 0,.ref 55,.bool false,.int 181 0,.ref 56,.none,.none,.none,.none,.int 244 0,.int 8 0,.str z9 245]⟩,⟨[]⟩⟩
def o58(P:Params):Obj:=⟨.type t4,.none,.plain,⟨[.some (.ref 57),.some (.ref 3),.some (.ref 54),.none,.some (.str z74 187),.none,.some (.ref 0)]⟩⟩
def o59(P:Params):Obj:=⟨.type t2,.none,.seq ⟨[]⟩ 0,⟨[]⟩⟩
def o60(P:Params):Obj:=⟨.type t0,.none,.dict ⟨[⟨kh P z73,.str z73 246,.str z74 187⟩,⟨kh P z76,.str z76 250,.int 8 249⟩,⟨kh P z77,.str z77 251,.ref 59⟩,⟨kh P z2,.str z2 252,.none⟩]⟩ 2,⟨[]⟩⟩
def o61(P:Params):Obj:=⟨.type t8,.none,.cls ⟨z14,[.ref 24],[.ref 61,.ref 24,.type t5,.type t10,.type t11,.type t12],60,z14,true,[],[],false,.none,false⟩,⟨[.some (.ref 52),.none,.some (.str z14 239),.some (.str z14 247),.some (.builtin t9),.some (.bool true)]⟩⟩
def o62(P:Params):Obj:=⟨.type t15,.none,.fields ⟨[.ref 61,.ref 61,.ref 61]⟩,⟨[]⟩⟩
def o63(P:Params):Obj:=⟨.type t6,.none,.fields ⟨[.builtin t16,.ref 61]⟩,⟨[]⟩⟩
def o64(P:Params):Obj:=⟨.type t2,.none,.seq ⟨[.ref 24]⟩ 0,⟨[]⟩⟩
def o65(P:Params):Obj:=⟨.type t6,.none,.fields ⟨[.builtin t7,.type t8]⟩,⟨[]⟩⟩
def o66(P:Params):Obj:=⟨.type t0,.none,.dict ⟨[⟨kh P z73,.str z73 262,.str z74 187⟩,⟨kh P z75,.str z75 264,.str z15 263⟩,⟨kh P z76,.str z76 266,.int 10 265⟩,⟨kh P z77,.str z77 267,.ref 71⟩]⟩ 4,⟨[]⟩⟩
def o67(P:Params):Obj:=⟨.type t2,.none,.seq ⟨[]⟩ 0,⟨[]⟩⟩
def o68(P:Params):Obj:=⟨.none,.none,.fields ⟨[]⟩,⟨[]⟩⟩
def o69(P:Params):Obj:=⟨.type t3,.none,.fields ⟨[.str z15 257,.str z15 258,.str z9 259,.int 10 0,.int 0 0,.int 0 0,.int 0 0,.int 0 0,.ref 67,.bool false,.int 181 0,.ref 68,.none,.none,.none,.none,.int 260 0,.int 10 0,.str z9 261]⟩,⟨[]⟩⟩
def o70(P:Params):Obj:=⟨.type t4,.none,.plain,⟨[.some (.ref 69),.some (.ref 3),.some (.ref 66),.none,.some (.str z74 187),.none,.some (.ref 0)]⟩⟩
def o71(P:Params):Obj:=⟨.type t2,.none,.seq ⟨[]⟩ 0,⟨[]⟩⟩
def o72(P:Params):Obj:=⟨.type t0,.none,.dict ⟨[⟨kh P z73,.str z73 262,.str z74 187⟩,⟨kh P z76,.str z76 266,.int 10 265⟩,⟨kh P z77,.str z77 267,.ref 71⟩,⟨kh P z2,.str z2 268,.none⟩]⟩ 2,⟨[]⟩⟩
def o73(P:Params):Obj:=⟨.type t8,.none,.cls ⟨z15,[.ref 24],[.ref 73,.ref 24,.type t5,.type t10,.type t11,.type t12],72,z15,true,[],[],false,.none,false⟩,⟨[.some (.ref 64),.none,.some (.str z15 255),.some (.str z15 263),.some (.builtin t9),.some (.bool true)]⟩⟩
def o74(P:Params):Obj:=⟨.type t15,.none,.fields ⟨[.ref 73,.ref 73,.ref 73]⟩,⟨[]⟩⟩
def o75(P:Params):Obj:=⟨.type t6,.none,.fields ⟨[.builtin t16,.ref 73]⟩,⟨[]⟩⟩
def o76(P:Params):Obj:=⟨.type t2,.none,.seq ⟨[.ref 24]⟩ 0,⟨[]⟩⟩
def o77(P:Params):Obj:=⟨.type t6,.none,.fields ⟨[.builtin t7,.type t8]⟩,⟨[]⟩⟩
def o78(P:Params):Obj:=⟨.type t0,.none,.dict ⟨[⟨kh P z73,.str z73 278,.str z74 187⟩,⟨kh P z75,.str z75 280,.str z16 279⟩,⟨kh P z76,.str z76 282,.int 12 281⟩,⟨kh P z77,.str z77 283,.ref 83⟩]⟩ 4,⟨[]⟩⟩
def o79(P:Params):Obj:=⟨.type t2,.none,.seq ⟨[]⟩ 0,⟨[]⟩⟩
def o80(P:Params):Obj:=⟨.none,.none,.fields ⟨[]⟩,⟨[]⟩⟩
def o81(P:Params):Obj:=⟨.type t3,.none,.fields ⟨[.str z16 273,.str z16 274,.str z9 275,.int 12 0,.int 0 0,.int 0 0,.int 0 0,.int 0 0,.ref 79,.bool false,.int 181 0,.ref 80,.none,.none,.none,.none,.int 276 0,.int 12 0,.str z9 277]⟩,⟨[]⟩⟩
def o82(P:Params):Obj:=⟨.type t4,.none,.plain,⟨[.some (.ref 81),.some (.ref 3),.some (.ref 78),.none,.some (.str z74 187),.none,.some (.ref 0)]⟩⟩
def o83(P:Params):Obj:=⟨.type t2,.none,.seq ⟨[]⟩ 0,⟨[]⟩⟩
def o84(P:Params):Obj:=⟨.type t0,.none,.dict ⟨[⟨kh P z73,.str z73 278,.str z74 187⟩,⟨kh P z76,.str z76 282,.int 12 281⟩,⟨kh P z77,.str z77 283,.ref 83⟩,⟨kh P z2,.str z2 284,.none⟩]⟩ 2,⟨[]⟩⟩
def o85(P:Params):Obj:=⟨.type t8,.none,.cls ⟨z16,[.ref 24],[.ref 85,.ref 24,.type t5,.type t10,.type t11,.type t12],84,z16,true,[],[],false,.none,false⟩,⟨[.some (.ref 76),.none,.some (.str z16 271),.some (.str z16 279),.some (.builtin t9),.some (.bool true)]⟩⟩
def o86(P:Params):Obj:=⟨.type t15,.none,.fields ⟨[.ref 85,.ref 85,.ref 85]⟩,⟨[]⟩⟩
def o87(P:Params):Obj:=⟨.type t6,.none,.fields ⟨[.builtin t16,.ref 85]⟩,⟨[]⟩⟩
def o88(P:Params):Obj:=⟨.type t2,.none,.seq ⟨[.ref 24]⟩ 0,⟨[]⟩⟩
def o89(P:Params):Obj:=⟨.type t6,.none,.fields ⟨[.builtin t7,.type t8]⟩,⟨[]⟩⟩
def o90(P:Params):Obj:=⟨.type t0,.none,.dict ⟨[⟨kh P z73,.str z73 294,.str z74 187⟩,⟨kh P z75,.str z75 296,.str z17 295⟩,⟨kh P z76,.str z76 298,.int 14 297⟩,⟨kh P z77,.str z77 299,.ref 95⟩]⟩ 4,⟨[]⟩⟩
def o91(P:Params):Obj:=⟨.type t2,.none,.seq ⟨[]⟩ 0,⟨[]⟩⟩
def o92(P:Params):Obj:=⟨.none,.none,.fields ⟨[]⟩,⟨[]⟩⟩
def o93(P:Params):Obj:=⟨.type t3,.none,.fields ⟨[.str z17 289,.str z17 290,.str z9 291,.int 14 0,.int 0 0,.int 0 0,.int 0 0,.int 0 0,.ref 91,.bool false,.int 181 0,.ref 92,.none,.none,.none,.none,.int 292 0,.int 14 0,.str z9 293]⟩,⟨[]⟩⟩
def o94(P:Params):Obj:=⟨.type t4,.none,.plain,⟨[.some (.ref 93),.some (.ref 3),.some (.ref 90),.none,.some (.str z74 187),.none,.some (.ref 0)]⟩⟩
def o95(P:Params):Obj:=⟨.type t2,.none,.seq ⟨[]⟩ 0,⟨[]⟩⟩
def o96(P:Params):Obj:=⟨.type t0,.none,.dict ⟨[⟨kh P z73,.str z73 294,.str z74 187⟩,⟨kh P z76,.str z76 298,.int 14 297⟩,⟨kh P z77,.str z77 299,.ref 95⟩,⟨kh P z2,.str z2 300,.none⟩]⟩ 2,⟨[]⟩⟩
def o97(P:Params):Obj:=⟨.type t8,.none,.cls ⟨z17,[.ref 24],[.ref 97,.ref 24,.type t5,.type t10,.type t11,.type t12],96,z17,true,[],[],false,.none,false⟩,⟨[.some (.ref 88),.none,.some (.str z17 287),.some (.str z17 295),.some (.builtin t9),.some (.bool true)]⟩⟩
def o98(P:Params):Obj:=⟨.type t15,.none,.fields ⟨[.ref 97,.ref 97,.ref 97]⟩,⟨[]⟩⟩
def o99(P:Params):Obj:=⟨.type t6,.none,.fields ⟨[.builtin t16,.ref 97]⟩,⟨[]⟩⟩
def o100(P:Params):Obj:=⟨.type t2,.none,.seq ⟨[.ref 24]⟩ 0,⟨[]⟩⟩
def YT(P:Params):Obj:=⟨.type t6,.none,.fields ⟨[.builtin t7,.type t8]⟩,⟨[]⟩⟩
def Xy(P:Params):Obj:=⟨.type t0,.none,.dict ⟨[⟨kh P z73,.str z73 310,.str z74 187⟩,⟨kh P z75,.str z75 312,.str z18 311⟩,⟨kh P z76,.str z76 314,.int 16 313⟩,⟨kh P z77,.str z77 315,.ref 107⟩]⟩ 4,⟨[]⟩⟩
def Yi(P:Params):Obj:=⟨.type t2,.none,.seq ⟨[]⟩ 0,⟨[]⟩⟩
def Xl(P:Params):Obj:=⟨.none,.none,.fields ⟨[]⟩,⟨[]⟩⟩
def Xd(P:Params):Obj:=⟨.type t3,.none,.fields ⟨[.str z18 305,.str z18 306,.str z9 307,.int 16 0,.int 0 0,.int 0 0,.int 0 0,.int 0 0,.ref 103,.bool false,.int 181 0,.ref 104,.none,.none,.none,.none,.int 308 0,.int 16 0,.str z9 309]⟩,⟨[]⟩⟩
def Xp(P:Params):Obj:=⟨.type t4,.none,.plain,⟨[.some (.ref 105),.some (.ref 3),.some (.ref 102),.none,.some (.str z74 187),.none,.some (.ref 0)]⟩⟩
def Vb(P:Params):Obj:=⟨.type t2,.none,.seq ⟨[]⟩ 0,⟨[]⟩⟩
def UN(P:Params):Obj:=⟨.type t0,.none,.dict ⟨[⟨kh P z73,.str z73 310,.str z74 187⟩,⟨kh P z76,.str z76 314,.int 16 313⟩,⟨kh P z77,.str z77 315,.ref 107⟩,⟨kh P z2,.str z2 316,.none⟩]⟩ 2,⟨[]⟩⟩
def V5(P:Params):Obj:=⟨.type t8,.none,.cls ⟨z18,[.ref 24],[.ref 109,.ref 24,.type t5,.type t10,.type t11,.type t12],108,z18,true,[],[],false,.none,false⟩,⟨[.some (.ref 100),.none,.some (.str z18 303),.some (.str z18 311),.some (.builtin t9),.some (.bool true)]⟩⟩
def Xg(P:Params):Obj:=⟨.type t15,.none,.fields ⟨[.ref 109,.ref 109,.ref 109]⟩,⟨[]⟩⟩
def o111(P:Params):Obj:=⟨.type t6,.none,.fields ⟨[.builtin t16,.ref 109]⟩,⟨[]⟩⟩
def Ru(P:Params):Obj:=⟨.type t2,.none,.seq ⟨[.ref 24]⟩ 0,⟨[]⟩⟩
def XQ(P:Params):Obj:=⟨.type t6,.none,.fields ⟨[.builtin t7,.type t8]⟩,⟨[]⟩⟩
def XH(P:Params):Obj:=⟨.type t0,.none,.dict ⟨[⟨kh P z73,.str z73 326,.str z74 187⟩,⟨kh P z75,.str z75 328,.str z19 327⟩,⟨kh P z76,.str z76 330,.int 18 329⟩,⟨kh P z77,.str z77 331,.ref 119⟩]⟩ 4,⟨[]⟩⟩
def XR(P:Params):Obj:=⟨.type t2,.none,.seq ⟨[]⟩ 0,⟨[]⟩⟩
def YL(P:Params):Obj:=⟨.none,.none,.fields ⟨[]⟩,⟨[]⟩⟩
def YH(P:Params):Obj:=⟨.type t3,.none,.fields ⟨[.str z19 321,.str z19 322,.str z9 323,.int 18 0,.int 0 0,.int 0 0,.int 0 0,.int 0 0,.ref 115,.bool false,.int 181 0,.ref 116,.none,.none,.none,.none,.int 324 0,.int 18 0,.str z9 325]⟩,⟨[]⟩⟩
def Xc(P:Params):Obj:=⟨.type t4,.none,.plain,⟨[.some (.ref 117),.some (.ref 3),.some (.ref 114),.none,.some (.str z74 187),.none,.some (.ref 0)]⟩⟩
def SV(P:Params):Obj:=⟨.type t2,.none,.seq ⟨[]⟩ 0,⟨[]⟩⟩
def SQ(P:Params):Obj:=⟨.type t0,.none,.dict ⟨[⟨kh P z73,.str z73 326,.str z74 187⟩,⟨kh P z76,.str z76 330,.int 18 329⟩,⟨kh P z77,.str z77 331,.ref 119⟩,⟨kh P z2,.str z2 332,.none⟩]⟩ 2,⟨[]⟩⟩
def Wi(P:Params):Obj:=⟨.type t8,.none,.cls ⟨z19,[.ref 24],[.ref 121,.ref 24,.type t5,.type t10,.type t11,.type t12],120,z19,true,[],[],false,.none,false⟩,⟨[.some (.ref 112),.none,.some (.str z19 319),.some (.str z19 327),.some (.builtin t9),.some (.bool true)]⟩⟩
def XJ(P:Params):Obj:=⟨.type t15,.none,.fields ⟨[.ref 121,.ref 121,.ref 121]⟩,⟨[]⟩⟩
def X6(P:Params):Obj:=⟨.type t6,.none,.fields ⟨[.builtin t16,.ref 121]⟩,⟨[]⟩⟩
def Od(P:Params):Obj:=⟨.type t2,.none,.seq ⟨[]⟩ 0,⟨[]⟩⟩
def XY(P:Params):Obj:=⟨.none,.none,.fields ⟨[]⟩,⟨[]⟩⟩
def NT(P:Params):Obj:=⟨.type t2,.none,.seq ⟨[.str z79 340,.str z80 341]⟩ 0,⟨[]⟩⟩
def Ng(P:Params):Obj:=⟨.type t2,.none,.seq ⟨[]⟩ 0,⟨[]⟩⟩
def QH(P:Params):Obj:=⟨.none,.none,.func ⟨z20,z20,L2.aG (tt 11),.stmts (L2.aD (tt 11)),L2.aj (tt 11),0,[],.none,.none,.none,.none,.none,.none,.none,0⟩,⟨[]⟩⟩
def Uj(P:Params):Obj:=⟨.type t3,.none,.fields ⟨[.str z20 337,.str z20 338,.str z9 339,.int 21 0,.int 1 0,.int 0 0,.int 0 0,.int 3 0,.ref 124,.bool true,.int 181 0,.ref 125,.none,.ref 126,.ref 127,.ref 128,.int 342 0,.int 21 0,.str z9 343]⟩,⟨[]⟩⟩
def PD(P:Params):Obj:=⟨.type t17,.none,.func ⟨z20,z20,L2.aG (tt 11),.stmts (L2.aD (tt 11)),L2.aj (tt 11),3,[],.none,.none,.none,.str z81 335,.none,.ref 129,.none,0⟩,⟨[]⟩⟩
def SR(P:Params):Obj:=⟨.type t2,.none,.seq ⟨[]⟩ 0,⟨[]⟩⟩
def Yw(P:Params):Obj:=⟨.none,.none,.fields ⟨[]⟩,⟨[]⟩⟩
def QM(P:Params):Obj:=⟨.type t2,.none,.seq ⟨[.str z82 348,.str z79 349]⟩ 0,⟨[]⟩⟩
def R9(P:Params):Obj:=⟨.type t2,.none,.seq ⟨[]⟩ 0,⟨[]⟩⟩
def Nv(P:Params):Obj:=⟨.none,.none,.func ⟨z21,z21,L2.aG (tt 12),.stmts (L2.aD (tt 12)),L2.aj (tt 12),0,[],.none,.none,.none,.none,.none,.none,.none,0⟩,⟨[]⟩⟩
def Wn(P:Params):Obj:=⟨.type t3,.none,.fields ⟨[.str z21 345,.str z21 346,.str z9 347,.int 30 0,.int 2 0,.int 0 0,.int 0 0,.int 3 0,.ref 131,.bool true,.int 181 0,.ref 132,.none,.ref 133,.ref 134,.ref 135,.int 350 0,.int 30 0,.str z9 351]⟩,⟨[]⟩⟩
def Ny(P:Params):Obj:=⟨.type t17,.none,.func ⟨z21,z21,L2.aG (tt 12),.stmts (L2.aD (tt 12)),L2.aj (tt 12),3,[],.none,.none,.none,.str z81 335,.none,.ref 136,.none,0⟩,⟨[]⟩⟩
def VF(P:Params):Obj:=⟨.type t2,.none,.seq ⟨[]⟩ 0,⟨[]⟩⟩
def XS(P:Params):Obj:=⟨.none,.none,.fields ⟨[]⟩,⟨[]⟩⟩
def Vd(P:Params):Obj:=⟨.type t2,.none,.seq ⟨[.str z83 356,.str z79 357,.str z84 358,.str z85 359,.str z86 360]⟩ 0,⟨[]⟩⟩
def Oj(P:Params):Obj:=⟨.type t2,.none,.seq ⟨[]⟩ 0,⟨[]⟩⟩
def Wz(P:Params):Obj:=⟨.none,.none,.func ⟨z22,z22,L2.aG (tt 13),.stmts (L2.aD (tt 13)),L2.aj (tt 13),0,[],.none,.none,.none,.none,.none,.none,.none,0⟩,⟨[]⟩⟩
def Uv(P:Params):Obj:=⟨.type t3,.none,.fields ⟨[.str z22 353,.str z22 354,.str z9 355,.int 34 0,.int 2 0,.int 0 0,.int 0 0,.int 3 0,.ref 138,.bool true,.int 181 0,.ref 139,.none,.ref 140,.ref 141,.ref 142,.int 361 0,.int 34 0,.str z9 362]⟩,⟨[]⟩⟩
def Nz(P:Params):Obj:=⟨.type t17,.none,.func ⟨z22,z22,L2.aG (tt 13),.stmts (L2.aD (tt 13)),L2.aj (tt 13),3,[],.none,.none,.none,.str z81 335,.none,.ref 143,.none,0⟩,⟨[]⟩⟩
def Sq(P:Params):Obj:=⟨.type t2,.none,.seq ⟨[]⟩ 0,⟨[]⟩⟩
def XF(P:Params):Obj:=⟨.none,.none,.fields ⟨[]⟩,⟨[]⟩⟩
def OL(P:Params):Obj:=⟨.type t2,.none,.seq ⟨[.str z82 367,.str z87 368,.str z88 369]⟩ 0,⟨[]⟩⟩
def U6(P:Params):Obj:=⟨.type t2,.none,.seq ⟨[]⟩ 0,⟨[]⟩⟩
def Sg(P:Params):Obj:=⟨.none,.none,.func ⟨z23,z23,L2.aG (tt 14),.stmts (L2.aD (tt 14)),L2.aj (tt 14),0,[],.none,.none,.none,.none,.none,.none,.none,0⟩,⟨[]⟩⟩
def RZ(P:Params):Obj:=⟨.type t3,.none,.fields ⟨[.str z23 364,.str z23 365,.str z9 366,.int 44 0,.int 3 0,.int 0 0,.int 0 0,.int 3 0,.ref 145,.bool true,.int 181 0,.ref 146,.none,.ref 147,.ref 148,.ref 149,.int 370 0,.int 44 0,.str z9 371]⟩,⟨[]⟩⟩
def Sx(P:Params):Obj:=⟨.type t17,.none,.func ⟨z23,z23,L2.aG (tt 14),.stmts (L2.aD (tt 14)),L2.aj (tt 14),3,[],.none,.none,.none,.str z81 335,.none,.ref 150,.none,0⟩,⟨[]⟩⟩
def NK(P:Params):Obj:=⟨.type t2,.none,.seq ⟨[]⟩ 0,⟨[]⟩⟩
def Xz(P:Params):Obj:=⟨.none,.none,.fields ⟨[]⟩,⟨[]⟩⟩
def VB(P:Params):Obj:=⟨.type t2,.none,.seq ⟨[.str z87 380,.str z88 381]⟩ 0,⟨[]⟩⟩
def NS(P:Params):Obj:=⟨.type t2,.none,.seq ⟨[]⟩ 0,⟨[]⟩⟩
def U9(P:Params):Obj:=⟨.none,.none,.func ⟨z25,z25,L2.aG (tt 17),.stmts (L2.aD (tt 17)),L2.aj (tt 17),0,[],.none,.none,.none,.none,.none,.none,.none,0⟩,⟨[]⟩⟩
def Pz(P:Params):Obj:=⟨.type t3,.none,.fields ⟨[.str z25 377,.str z25 378,.str z9 379,.int 52 0,.int 2 0,.int 0 0,.int 0 0,.int 3 0,.ref 152,.bool true,.int 181 0,.ref 153,.none,.ref 154,.ref 155,.ref 156,.int 382 0,.int 52 0,.str z9 383]⟩,⟨[]⟩⟩
def Tt(P:Params):Obj:=⟨.type t17,.none,.func ⟨z25,z25,L2.aG (tt 17),.stmts (L2.aD (tt 17)),L2.aj (tt 17),3,[],.none,.none,.none,.str z89 373,.none,.ref 157,.none,0⟩,⟨[]⟩⟩
def Ul(P:Params):Obj:=⟨.type t2,.none,.seq ⟨[]⟩ 0,⟨[]⟩⟩
def Yq(P:Params):Obj:=⟨.none,.none,.fields ⟨[]⟩,⟨[]⟩⟩
def Tr(P:Params):Obj:=⟨.type t2,.none,.seq ⟨[.str z82 388,.str z90 389,.str z91 390,.str z92 391,.str z93 392]⟩ 0,⟨[]⟩⟩
def Wd(P:Params):Obj:=⟨.type t2,.none,.seq ⟨[]⟩ 0,⟨[]⟩⟩
def PB(P:Params):Obj:=⟨.none,.none,.func ⟨z26,z26,L2.aG (tt 18),.stmts (L2.aD (tt 18)),L2.aj (tt 18),0,[],.none,.none,.none,.none,.none,.none,.none,0⟩,⟨[]⟩⟩
def Ov(P:Params):Obj:=⟨.type t3,.none,.fields ⟨[.str z26 385,.str z26 386,.str z9 387,.int 56 0,.int 3 0,.int 0 0,.int 0 0,.int 3 0,.ref 159,.bool true,.int 181 0,.ref 160,.none,.ref 161,.ref 162,.ref 163,.int 393 0,.int 56 0,.str z9 394]⟩,⟨[]⟩⟩
def WG(P:Params):Obj:=⟨.type t17,.none,.func ⟨z26,z26,L2.aG (tt 18),.stmts (L2.aD (tt 18)),L2.aj (tt 18),3,[],.none,.none,.none,.str z89 373,.none,.ref 164,.none,0⟩,⟨[]⟩⟩
def U0(P:Params):Obj:=⟨.type t2,.none,.seq ⟨[]⟩ 0,⟨[]⟩⟩
def WY(P:Params):Obj:=⟨.none,.none,.fields ⟨[]⟩,⟨[]⟩⟩
def Ox(P:Params):Obj:=⟨.type t2,.none,.seq ⟨[.str z94 399,.str z95 400,.str z82 401,.str z90 402,.str z96 403,.str z97 404]⟩ 0,⟨[]⟩⟩
def RV(P:Params):Obj:=⟨.type t2,.none,.seq ⟨[]⟩ 0,⟨[]⟩⟩
def M7(P:Params):Obj:=⟨.none,.none,.func ⟨z27,z27,L2.aG (tt 19),.stmts (L2.aD (tt 19)),L2.aj (tt 19),0,[],.none,.none,.none,.none,.none,.none,.none,0⟩,⟨[]⟩⟩
def V1(P:Params):Obj:=⟨.type t3,.none,.fields ⟨[.str z27 396,.str z27 397,.str z9 398,.int 61 0,.int 2 0,.int 0 0,.int 0 0,.int 3 0,.ref 166,.bool true,.int 181 0,.ref 167,.none,.ref 168,.ref 169,.ref 170,.int 405 0,.int 61 0,.str z9 406]⟩,⟨[]⟩⟩
def Ui(P:Params):Obj:=⟨.type t17,.none,.func ⟨z27,z27,L2.aG (tt 19),.stmts (L2.aD (tt 19)),L2.aj (tt 19),3,[],.none,.none,.none,.str z89 373,.none,.ref 171,.none,0⟩,⟨[]⟩⟩
def U5(P:Params):Obj:=⟨.type t2,.none,.seq ⟨[]⟩ 0,⟨[]⟩⟩
def Xf(P:Params):Obj:=⟨.none,.none,.fields ⟨[]⟩,⟨[]⟩⟩
def Rk(P:Params):Obj:=⟨.type t2,.none,.seq ⟨[.str z98 413,.str z99 414]⟩ 0,⟨[]⟩⟩
def Wt(P:Params):Obj:=⟨.type t2,.none,.seq ⟨[]⟩ 0,⟨[]⟩⟩
def Np(P:Params):Obj:=⟨.none,.none,.func ⟨z28,z28,L2.aG (tt 21),.stmts (L2.aD (tt 21)),L2.aj (tt 21),0,[],.none,.none,.none,.none,.none,.none,.none,0⟩,⟨[]⟩⟩
def Pr(P:Params):Obj:=⟨.type t3,.none,.fields ⟨[.str z28 410,.str z28 411,.str z9 412,.int 70 0,.int 1 0,.int 0 0,.int 0 0,.int 3 0,.ref 173,.bool true,.int 181 0,.ref 174,.none,.ref 175,.ref 176,.ref 177,.int 415 0,.int 70 0,.str z9 416]⟩,⟨[]⟩⟩
def Ni(P:Params):Obj:=⟨.type t17,.none,.func ⟨z28,z28,L2.aG (tt 21),.stmts (L2.aD (tt 21)),L2.aj (tt 21),3,[],.none,.none,.none,.str Jm 408,.none,.ref 178,.none,0⟩,⟨[]⟩⟩
def Og(P:Params):Obj:=⟨.type t2,.none,.seq ⟨[]⟩ 0,⟨[]⟩⟩
def YQ(P:Params):Obj:=⟨.none,.none,.fields ⟨[]⟩,⟨[]⟩⟩
def Nx(P:Params):Obj:=⟨.type t2,.none,.seq ⟨[.str z82 421,.str z87 422,.str z88 423,.str z92 424,.str Z5 425,.str z93 426]⟩ 0,⟨[]⟩⟩
def Pa(P:Params):Obj:=⟨.type t2,.none,.seq ⟨[]⟩ 0,⟨[]⟩⟩
def SN(P:Params):Obj:=⟨.none,.none,.func ⟨z29,z29,L2.aG (tt 22),.stmts (L2.aD (tt 22)),L2.aj (tt 22),0,[],.none,.none,.none,.none,.none,.none,.none,0⟩,⟨[]⟩⟩
def Qx(P:Params):Obj:=⟨.type t3,.none,.fields ⟨[.str z29 418,.str z29 419,.str z9 420,.int 75 0,.int 3 0,.int 0 0,.int 0 0,.int 3 0,.ref 180,.bool true,.int 181 0,.ref 181,.none,.ref 182,.ref 183,.ref 184,.int 427 0,.int 75 0,.str z9 428]⟩,⟨[]⟩⟩
def QX(P:Params):Obj:=⟨.type t17,.none,.func ⟨z29,z29,L2.aG (tt 22),.stmts (L2.aD (tt 22)),L2.aj (tt 22),3,[],.none,.none,.none,.str Jm 408,.none,.ref 185,.none,0⟩,⟨[]⟩⟩
def Qs(P:Params):Obj:=⟨.type t2,.none,.seq ⟨[]⟩ 0,⟨[]⟩⟩
def YF(P:Params):Obj:=⟨.none,.none,.fields ⟨[]⟩,⟨[]⟩⟩
def RQ(P:Params):Obj:=⟨.type t2,.none,.seq ⟨[.str z82 433,.str z87 434,.str z88 435,.str Xv 436,.str Zc 437,.str z86 438,.str ZK 439,.str Zw 440,.str z93 441]⟩ 0,⟨[]⟩⟩
def TY(P:Params):Obj:=⟨.type t2,.none,.seq ⟨[]⟩ 0,⟨[]⟩⟩
def Sd(P:Params):Obj:=⟨.none,.none,.func ⟨z30,z30,L2.aG (tt 23),.stmts (L2.aD (tt 23)),L2.aj (tt 23),0,[],.none,.none,.none,.none,.none,.none,.none,0⟩,⟨[]⟩⟩
def VZ(P:Params):Obj:=⟨.type t3,.none,.fields ⟨[.str z30 430,.str z30 431,.str z9 432,.int 81 0,.int 3 0,.int 0 0,.int 0 0,.int 3 0,.ref 187,.bool true,.int 181 0,.ref 188,.none,.ref 189,.ref 190,.ref 191,.int 442 0,.int 81 0,.str z9 443]⟩,⟨[]⟩⟩
def Wc(P:Params):Obj:=⟨.type t17,.none,.func ⟨z30,z30,L2.aG (tt 23),.stmts (L2.aD (tt 23)),L2.aj (tt 23),3,[],.none,.none,.none,.str Jm 408,.none,.ref 192,.none,0⟩,⟨[]⟩⟩
def UJ(P:Params):Obj:=⟨.type t2,.none,.seq ⟨[]⟩ 0,⟨[]⟩⟩
def YG(P:Params):Obj:=⟨.none,.none,.fields ⟨[]⟩,⟨[]⟩⟩
def UG(P:Params):Obj:=⟨.none,.none,.func ⟨z31,z31,L2.aG (tt 24),.stmts (L2.aD (tt 24)),L2.aj (tt 24),0,[],.none,.none,.none,.none,.none,.none,.none,0⟩,⟨[]⟩⟩
def Nt(P:Params):Obj:=⟨.type t3,.none,.fields ⟨[.str z31 445,.str z31 446,.str z9 447,.int 91 0,.int 2 0,.int 0 0,.int 0 0,.int 3 0,.ref 194,.bool true,.int 181 0,.ref 195,.none,.none,.none,.ref 196,.int 448 0,.int 91 0,.str z9 449]⟩,⟨[]⟩⟩
def NP(P:Params):Obj:=⟨.type t17,.none,.func ⟨z31,z31,L2.aG (tt 24),.stmts (L2.aD (tt 24)),L2.aj (tt 24),3,[],.none,.none,.none,.str Jm 408,.none,.ref 197,.none,0⟩,⟨[]⟩⟩
def Qy(P:Params):Obj:=⟨.type t2,.none,.seq ⟨[]⟩ 0,⟨[]⟩⟩
def o200(P:Params):Obj:=⟨.none,.none,.fields ⟨[]⟩,⟨[]⟩⟩
def Qm(P:Params):Obj:=⟨.type t2,.none,.seq ⟨[.str z82 454,.str z87 455,.str z88 456,.str Zn 457,.str Y9 458,.str z86 459]⟩ 0,⟨[]⟩⟩
def QF(P:Params):Obj:=⟨.type t2,.none,.seq ⟨[]⟩ 0,⟨[]⟩⟩
def Qw(P:Params):Obj:=⟨.none,.none,.func ⟨z32,z32,L2.aG (tt 25),.stmts (L2.aD (tt 25)),L2.aj (tt 25),0,[],.none,.none,.none,.none,.none,.none,.none,0⟩,⟨[]⟩⟩
def V2(P:Params):Obj:=⟨.type t3,.none,.fields ⟨[.str z32 451,.str z32 452,.str z9 453,.int 96 0,.int 3 0,.int 0 0,.int 0 0,.int 3 0,.ref 199,.bool true,.int 181 0,.ref 200,.none,.ref 201,.ref 202,.ref 203,.int 460 0,.int 96 0,.str z9 461]⟩,⟨[]⟩⟩
def RJ(P:Params):Obj:=⟨.type t17,.none,.func ⟨z32,z32,L2.aG (tt 25),.stmts (L2.aD (tt 25)),L2.aj (tt 25),3,[],.none,.none,.none,.str Jm 408,.none,.ref 204,.none,0⟩,⟨[]⟩⟩
def Ww(P:Params):Obj:=⟨.type t2,.none,.seq ⟨[]⟩ 0,⟨[]⟩⟩
def W7(P:Params):Obj:=⟨.none,.none,.fields ⟨[]⟩,⟨[]⟩⟩
def Qj(P:Params):Obj:=⟨.none,.none,.func ⟨z33,z33,L2.aG (tt 26),.stmts (L2.aD (tt 26)),L2.aj (tt 26),0,[],.none,.none,.none,.none,.none,.none,.none,0⟩,⟨[]⟩⟩
def Vk(P:Params):Obj:=⟨.type t3,.none,.fields ⟨[.str z33 463,.str z33 464,.str z9 465,.int 104 0,.int 2 0,.int 0 0,.int 0 0,.int 3 0,.ref 206,.bool true,.int 181 0,.ref 207,.none,.none,.none,.ref 208,.int 466 0,.int 104 0,.str z9 467]⟩,⟨[]⟩⟩
def UC(P:Params):Obj:=⟨.type t17,.none,.func ⟨z33,z33,L2.aG (tt 26),.stmts (L2.aD (tt 26)),L2.aj (tt 26),3,[],.none,.none,.none,.str Jm 408,.none,.ref 209,.none,0⟩,⟨[]⟩⟩
def Rq(P:Params):Obj:=⟨.type t2,.none,.seq ⟨[]⟩ 0,⟨[]⟩⟩
def W2(P:Params):Obj:=⟨.none,.none,.fields ⟨[]⟩,⟨[]⟩⟩
def PV(P:Params):Obj:=⟨.none,.none,.func ⟨z34,z34,L2.aG (tt 27),.stmts (L2.aD (tt 27)),L2.aj (tt 27),0,[],.none,.none,.none,.none,.none,.none,.none,0⟩,⟨[]⟩⟩
def Vl(P:Params):Obj:=⟨.type t3,.none,.fields ⟨[.str z34 469,.str z34 470,.str z9 471,.int 108 0,.int 2 0,.int 0 0,.int 0 0,.int 3 0,.ref 211,.bool true,.int 181 0,.ref 212,.none,.none,.none,.ref 213,.int 472 0,.int 108 0,.str z9 473]⟩,⟨[]⟩⟩
def QB(P:Params):Obj:=⟨.type t17,.none,.func ⟨z34,z34,L2.aG (tt 27),.stmts (L2.aD (tt 27)),L2.aj (tt 27),3,[],.none,.none,.none,.str Jm 408,.none,.ref 214,.none,0⟩,⟨[]⟩⟩
def M6(P:Params):Obj:=⟨.type t2,.none,.seq ⟨[]⟩ 0,⟨[]⟩⟩
def Xw(P:Params):Obj:=⟨.none,.none,.fields ⟨[]⟩,⟨[]⟩⟩
def Nh(P:Params):Obj:=⟨.none,.none,.func ⟨z35,z35,L2.aG (tt 29),.stmts (L2.aD (tt 29)),L2.aj (tt 29),0,[],.none,.none,.none,.none,.none,.none,.none,0⟩,⟨[]⟩⟩
def RH(P:Params):Obj:=⟨.type t3,.none,.fields ⟨[.str z35 477,.str z35 478,.str z9 479,.int 112 0,.int 3 0,.int 0 0,.int 0 0,.int 3 0,.ref 216,.bool true,.int 181 0,.ref 217,.none,.none,.none,.ref 218,.int 480 0,.int 112 0,.str z9 481]⟩,⟨[]⟩⟩
def Rv(P:Params):Obj:=⟨.type t17,.none,.func ⟨z35,z35,L2.aG (tt 29),.stmts (L2.aD (tt 29)),L2.aj (tt 29),3,[],.none,.none,.none,.str Nf 475,.none,.ref 219,.none,0⟩,⟨[]⟩⟩
def RX(P:Params):Obj:=⟨.type t2,.none,.seq ⟨[]⟩ 0,⟨[]⟩⟩
def W4(P:Params):Obj:=⟨.none,.none,.fields ⟨[]⟩,⟨[]⟩⟩
def WQ(P:Params):Obj:=⟨.type t2,.none,.seq ⟨[.str z90 486,.str z95 487,.str X3 488,.str z93 489,.str Z1 490]⟩ 0,⟨[]⟩⟩
def Ou(P:Params):Obj:=⟨.type t2,.none,.seq ⟨[]⟩ 0,⟨[]⟩⟩
def Oi(P:Params):Obj:=⟨.none,.none,.func ⟨z36,z36,L2.aG (tt 30),.stmts (L2.aD (tt 30)),L2.aj (tt 30),0,[],.none,.none,.none,.none,.none,.none,.none,0⟩,⟨[]⟩⟩
def Vg(P:Params):Obj:=⟨.type t3,.none,.fields ⟨[.str z36 483,.str z36 484,.str z9 485,.int 115 0,.int 2 0,.int 0 0,.int 0 0,.int 3 0,.ref 221,.bool true,.int 181 0,.ref 222,.none,.ref 223,.ref 224,.ref 225,.int 491 0,.int 115 0,.str z9 492]⟩,⟨[]⟩⟩
def Td(P:Params):Obj:=⟨.type t17,.none,.func ⟨z36,z36,L2.aG (tt 30),.stmts (L2.aD (tt 30)),L2.aj (tt 30),3,[],.none,.none,.none,.str Nf 475,.none,.ref 226,.none,0⟩,⟨[]⟩⟩
def Va(P:Params):Obj:=⟨.type t2,.none,.seq ⟨[]⟩ 0,⟨[]⟩⟩
def W8(P:Params):Obj:=⟨.none,.none,.fields ⟨[]⟩,⟨[]⟩⟩
def UQ(P:Params):Obj:=⟨.type t2,.none,.seq ⟨[.str X3 497,.str z90 498,.str z93 499]⟩ 0,⟨[]⟩⟩
def Vp(P:Params):Obj:=⟨.type t2,.none,.seq ⟨[]⟩ 0,⟨[]⟩⟩
def Vc(P:Params):Obj:=⟨.none,.none,.func ⟨z37,z37,L2.aG (tt 31),.stmts (L2.aD (tt 31)),L2.aj (tt 31),0,[],.none,.none,.none,.none,.none,.none,.none,0⟩,⟨[]⟩⟩
def Qu(P:Params):Obj:=⟨.type t3,.none,.fields ⟨[.str z37 494,.str z37 495,.str z9 496,.int 121 0,.int 1 0,.int 0 0,.int 0 0,.int 3 0,.ref 228,.bool true,.int 181 0,.ref 229,.none,.ref 230,.ref 231,.ref 232,.int 500 0,.int 121 0,.str z9 501]⟩,⟨[]⟩⟩
def Uo(P:Params):Obj:=⟨.type t17,.none,.func ⟨z37,z37,L2.aG (tt 31),.stmts (L2.aD (tt 31)),L2.aj (tt 31),3,[],.none,.none,.none,.str Nf 475,.none,.ref 233,.none,0⟩,⟨[]⟩⟩
def QD(P:Params):Obj:=⟨.type t2,.none,.seq ⟨[]⟩ 0,⟨[]⟩⟩
def Ys(P:Params):Obj:=⟨.none,.none,.fields ⟨[]⟩,⟨[]⟩⟩
def U7(P:Params):Obj:=⟨.type t2,.none,.seq ⟨[.str z79 510,.str z97 511]⟩ 0,⟨[]⟩⟩
def Ry(P:Params):Obj:=⟨.type t2,.none,.seq ⟨[]⟩ 0,⟨[]⟩⟩
def NW(P:Params):Obj:=⟨.none,.none,.func ⟨z39,z39,L2.aG (tt 34),.stmts (L2.aD (tt 34)),L2.aj (tt 34),0,[],.none,.none,.none,.none,.none,.none,.none,0⟩,⟨[]⟩⟩
def Pj(P:Params):Obj:=⟨.type t3,.none,.fields ⟨[.str z39 507,.str z39 508,.str z9 509,.int 128 0,.int 1 0,.int 0 0,.int 0 0,.int 3 0,.ref 235,.bool true,.int 181 0,.ref 236,.none,.ref 237,.ref 238,.ref 239,.int 512 0,.int 128 0,.str z9 513]⟩,⟨[]⟩⟩
def U8(P:Params):Obj:=⟨.type t17,.none,.func ⟨z39,z39,L2.aG (tt 34),.stmts (L2.aD (tt 34)),L2.aj (tt 34),3,[],.none,.none,.none,.str GD 503,.none,.ref 240,.none,0⟩,⟨[]⟩⟩
def R8(P:Params):Obj:=⟨.type t2,.none,.seq ⟨[]⟩ 0,⟨[]⟩⟩
def Yu(P:Params):Obj:=⟨.none,.none,.fields ⟨[]⟩,⟨[]⟩⟩
def Qz(P:Params):Obj:=⟨.type t2,.none,.seq ⟨[.str Zv 518,.str VR 519]⟩ 0,⟨[]⟩⟩
def VX(P:Params):Obj:=⟨.type t2,.none,.seq ⟨[]⟩ 0,⟨[]⟩⟩
def VW(P:Params):Obj:=⟨.none,.none,.func ⟨z40,z40,L2.aG (tt 35),.stmts (L2.aD (tt 35)),L2.aj (tt 35),0,[],.none,.none,.none,.none,.none,.none,.none,0⟩,⟨[]⟩⟩
def Qo(P:Params):Obj:=⟨.type t3,.none,.fields ⟨[.str z40 515,.str z40 516,.str z9 517,.int 133 0,.int 2 0,.int 0 0,.int 0 0,.int 3 0,.ref 242,.bool true,.int 181 0,.ref 243,.none,.ref 244,.ref 245,.ref 246,.int 520 0,.int 133 0,.str z9 521]⟩,⟨[]⟩⟩
def O7(P:Params):Obj:=⟨.type t17,.none,.func ⟨z40,z40,L2.aG (tt 35),.stmts (L2.aD (tt 35)),L2.aj (tt 35),3,[],.none,.none,.none,.str GD 503,.none,.ref 247,.none,0⟩,⟨[]⟩⟩
def Wv(P:Params):Obj:=⟨.type t2,.none,.seq ⟨[]⟩ 0,⟨[]⟩⟩
def W9(P:Params):Obj:=⟨.none,.none,.fields ⟨[]⟩,⟨[]⟩⟩
def TX(P:Params):Obj:=⟨.none,.none,.func ⟨z41,z41,L2.aG (tt 36),.stmts (L2.aD (tt 36)),L2.aj (tt 36),0,[],.none,.none,.none,.none,.none,.none,.none,0⟩,⟨[]⟩⟩
def Ro(P:Params):Obj:=⟨.type t3,.none,.fields ⟨[.str z41 523,.str z41 524,.str z9 525,.int 135 0,.int 2 0,.int 0 0,.int 0 0,.int 3 0,.ref 249,.bool true,.int 181 0,.ref 250,.none,.none,.none,.ref 251,.int 526 0,.int 135 0,.str z9 527]⟩,⟨[]⟩⟩
def WB(P:Params):Obj:=⟨.type t17,.none,.func ⟨z41,z41,L2.aG (tt 36),.stmts (L2.aD (tt 36)),L2.aj (tt 36),3,[],.none,.none,.none,.str GD 503,.none,.ref 252,.none,0⟩,⟨[]⟩⟩
def Oh(P:Params):Obj:=⟨.type t2,.none,.seq ⟨[]⟩ 0,⟨[]⟩⟩
def Xr(P:Params):Obj:=⟨.none,.none,.fields ⟨[]⟩,⟨[]⟩⟩
def Vs(P:Params):Obj:=⟨.type t2,.none,.seq ⟨[.str XG 532,.str z79 533,.str WX 534]⟩ 0,⟨[]⟩⟩
def PK(P:Params):Obj:=⟨.type t2,.none,.seq ⟨[]⟩ 0,⟨[]⟩⟩
def VG(P:Params):Obj:=⟨.none,.none,.func ⟨z42,z42,L2.aG (tt 37),.stmts (L2.aD (tt 37)),L2.aj (tt 37),0,[],.none,.none,.none,.none,.none,.none,.none,0⟩,⟨[]⟩⟩
def Rt(P:Params):Obj:=⟨.type t3,.none,.fields ⟨[.str z42 529,.str z42 530,.str z9 531,.int 137 0,.int 2 0,.int 0 0,.int 0 0,.int 3 0,.ref 254,.bool true,.int 181 0,.ref 255,.none,.ref 256,.ref 257,.ref 258,.int 535 0,.int 137 0,.str z9 536]⟩,⟨[]⟩⟩
def Sw(P:Params):Obj:=⟨.type t17,.none,.func ⟨z42,z42,L2.aG (tt 37),.stmts (L2.aD (tt 37)),L2.aj (tt 37),3,[],.none,.none,.none,.str GD 503,.none,.ref 259,.none,0⟩,⟨[]⟩⟩
def VQ(P:Params):Obj:=⟨.type t2,.none,.seq ⟨[]⟩ 0,⟨[]⟩⟩
def Yl(P:Params):Obj:=⟨.none,.none,.fields ⟨[]⟩,⟨[]⟩⟩
def Q6(P:Params):Obj:=⟨.type t2,.none,.seq ⟨[.str XG 541,.str z79 542,.str z83 543,.str WX 544,.str Zg 545]⟩ 0,⟨[]⟩⟩
def Vx(P:Params):Obj:=⟨.type t2,.none,.seq ⟨[]⟩ 0,⟨[]⟩⟩
def PZ(P:Params):Obj:=⟨.none,.none,.func ⟨z43,z43,L2.aG (tt 38),.stmts (L2.aD (tt 38)),L2.aj (tt 38),0,[],.none,.none,.none,.none,.none,.none,.none,0⟩,⟨[]⟩⟩
def R6(P:Params):Obj:=⟨.type t3,.none,.fields ⟨[.str z43 538,.str z43 539,.str z9 540,.int 140 0,.int 4 0,.int 0 0,.int 0 0,.int 3 0,.ref 261,.bool true,.int 181 0,.ref 262,.none,.ref 263,.ref 264,.ref 265,.int 546 0,.int 140 0,.str z9 547]⟩,⟨[]⟩⟩
def VP(P:Params):Obj:=⟨.type t17,.none,.func ⟨z43,z43,L2.aG (tt 38),.stmts (L2.aD (tt 38)),L2.aj (tt 38),3,[],.none,.none,.none,.str GD 503,.none,.ref 266,.none,0⟩,⟨[]⟩⟩
def Tc(P:Params):Obj:=⟨.type t2,.none,.seq ⟨[]⟩ 0,⟨[]⟩⟩
def Xu(P:Params):Obj:=⟨.none,.none,.fields ⟨[]⟩,⟨[]⟩⟩
def Ud(P:Params):Obj:=⟨.none,.none,.func ⟨z44,z44,L2.aG (tt 39),.stmts (L2.aD (tt 39)),L2.aj (tt 39),0,[],.none,.none,.none,.none,.none,.none,.none,0⟩,⟨[]⟩⟩
def Ph(P:Params):Obj:=⟨.type t3,.none,.fields ⟨[.str z44 549,.str z44 550,.str z9 551,.int 143 0,.int 2 0,.int 0 0,.int 0 0,.int 3 0,.ref 268,.bool true,.int 181 0,.ref 269,.none,.none,.none,.ref 270,.int 552 0,.int 143 0,.str z9 553]⟩,⟨[]⟩⟩
def QL(P:Params):Obj:=⟨.type t17,.none,.func ⟨z44,z44,L2.aG (tt 39),.stmts (L2.aD (tt 39)),L2.aj (tt 39),3,[],.none,.none,.none,.str GD 503,.none,.ref 271,.none,0⟩,⟨[]⟩⟩
def Vr(P:Params):Obj:=⟨.type t2,.none,.seq ⟨[]⟩ 0,⟨[]⟩⟩
def Yx(P:Params):Obj:=⟨.none,.none,.fields ⟨[]⟩,⟨[]⟩⟩
def Ws(P:Params):Obj:=⟨.type t2,.none,.seq ⟨[.str z82 558,.str z87 559,.str z88 560]⟩ 0,⟨[]⟩⟩
def Te(P:Params):Obj:=⟨.type t2,.none,.seq ⟨[]⟩ 0,⟨[]⟩⟩
def Uw(P:Params):Obj:=⟨.none,.none,.func ⟨z45,z45,L2.aG (tt 40),.stmts (L2.aD (tt 40)),L2.aj (tt 40),0,[],.none,.none,.none,.none,.none,.none,.none,0⟩,⟨[]⟩⟩
def Wh(P:Params):Obj:=⟨.type t3,.none,.fields ⟨[.str z45 555,.str z45 556,.str z9 557,.int 161 0,.int 3 0,.int 0 0,.int 0 0,.int 3 0,.ref 273,.bool true,.int 181 0,.ref 274,.none,.ref 275,.ref 276,.ref 277,.int 561 0,.int 161 0,.str z9 562]⟩,⟨[]⟩⟩
def Vh(P:Params):Obj:=⟨.type t17,.none,.func ⟨z45,z45,L2.aG (tt 40),.stmts (L2.aD (tt 40)),L2.aj (tt 40),3,[],.none,.none,.none,.str GD 503,.none,.ref 278,.none,0⟩,⟨[]⟩⟩
def Tq(P:Params):Obj:=⟨.type t2,.none,.seq ⟨[]⟩ 0,⟨[]⟩⟩
def X5(P:Params):Obj:=⟨.none,.none,.fields ⟨[]⟩,⟨[]⟩⟩
def PY(P:Params):Obj:=⟨.none,.none,.func ⟨z46,z46,L2.aG (tt 42),.stmts (L2.aD (tt 42)),L2.aj (tt 42),0,[],.none,.none,.none,.none,.none,.none,.none,0⟩,⟨[]⟩⟩
def Vz(P:Params):Obj:=⟨.type t3,.none,.fields ⟨[.str z46 566,.str z46 567,.str z9 568,.int 164 0,.int 2 0,.int 0 0,.int 0 0,.int 3 0,.ref 280,.bool true,.int 181 0,.ref 281,.none,.none,.none,.ref 282,.int 569 0,.int 164 0,.str z9 570]⟩,⟨[]⟩⟩
def Q9(P:Params):Obj:=⟨.type t17,.none,.func ⟨z46,z46,L2.aG (tt 42),.stmts (L2.aD (tt 42)),L2.aj (tt 42),3,[],.none,.none,.none,.str NQ 564,.none,.ref 283,.none,0⟩,⟨[]⟩⟩
def Ve(P:Params):Obj:=⟨.type t2,.none,.seq ⟨[]⟩ 0,⟨[]⟩⟩
def Yc(P:Params):Obj:=⟨.none,.none,.fields ⟨[]⟩,⟨[]⟩⟩
def Vu(P:Params):Obj:=⟨.type t2,.none,.seq ⟨[.str z94 575,.str z82 576,.str VR 577,.str Xv 578]⟩ 0,⟨[]⟩⟩
def RT(P:Params):Obj:=⟨.type t2,.none,.seq ⟨[]⟩ 0,⟨[]⟩⟩
def QZ(P:Params):Obj:=⟨.none,.none,.func ⟨z47,z47,L2.aG (tt 43),.stmts (L2.aD (tt 43)),L2.aj (tt 43),0,[],.none,.none,.none,.none,.none,.none,.none,0⟩,⟨[]⟩⟩
def Ss(P:Params):Obj:=⟨.type t3,.none,.fields ⟨[.str z47 572,.str z47 573,.str z9 574,.int 172 0,.int 1 0,.int 0 0,.int 0 0,.int 3 0,.ref 285,.bool true,.int 181 0,.ref 286,.none,.ref 287,.ref 288,.ref 289,.int 579 0,.int 172 0,.str z9 580]⟩,⟨[]⟩⟩
def UU(P:Params):Obj:=⟨.type t17,.none,.func ⟨z47,z47,L2.aG (tt 43),.stmts (L2.aD (tt 43)),L2.aj (tt 43),3,[],.none,.none,.none,.str NQ 564,.none,.ref 290,.none,0⟩,⟨[]⟩⟩
def Ug(P:Params):Obj:=⟨.type t2,.none,.seq ⟨[]⟩ 0,⟨[]⟩⟩
def YW(P:Params):Obj:=⟨.none,.none,.fields ⟨[]⟩,⟨[]⟩⟩
def Wk(P:Params):Obj:=⟨.type t2,.none,.seq ⟨[.str z94 585,.str Zt 586,.str z90 587]⟩ 0,⟨[]⟩⟩
def Wa(P:Params):Obj:=⟨.type t2,.none,.seq ⟨[]⟩ 0,⟨[]⟩⟩
def QY(P:Params):Obj:=⟨.none,.none,.func ⟨z48,z48,L2.aG (tt 44),.stmts (L2.aD (tt 44)),L2.aj (tt 44),0,[],.none,.none,.none,.none,.none,.none,.none,0⟩,⟨[]⟩⟩
def R3(P:Params):Obj:=⟨.type t3,.none,.fields ⟨[.str z48 582,.str z48 583,.str z9 584,.int 177 0,.int 1 0,.int 0 0,.int 0 0,.int 3 0,.ref 292,.bool true,.int 181 0,.ref 293,.none,.ref 294,.ref 295,.ref 296,.int 588 0,.int 177 0,.str z9 589]⟩,⟨[]⟩⟩
def RN(P:Params):Obj:=⟨.type t17,.none,.func ⟨z48,z48,L2.aG (tt 44),.stmts (L2.aD (tt 44)),L2.aj (tt 44),3,[],.none,.none,.none,.str NQ 564,.none,.ref 297,.none,0⟩,⟨[]⟩⟩
def WK(P:Params):Obj:=⟨.type t2,.none,.seq ⟨[]⟩ 0,⟨[]⟩⟩
def o300(P:Params):Obj:=⟨.none,.none,.fields ⟨[]⟩,⟨[]⟩⟩
def UZ(P:Params):Obj:=⟨.type t2,.none,.seq ⟨[.str Zm 596]⟩ 0,⟨[]⟩⟩
def VL(P:Params):Obj:=⟨.type t2,.none,.seq ⟨[]⟩ 0,⟨[]⟩⟩
def Oq(P:Params):Obj:=⟨.none,.none,.func ⟨z49,z49,L2.aG (tt 46),.stmts (L2.aD (tt 46)),L2.aj (tt 46),0,[],.none,.none,.none,.none,.none,.none,.none,0⟩,⟨[]⟩⟩
def Rn(P:Params):Obj:=⟨.type t3,.none,.fields ⟨[.str z49 593,.str z49 594,.str z9 595,.int 182 0,.int 1 0,.int 0 0,.int 0 0,.int 3 0,.ref 299,.bool true,.int 181 0,.ref 300,.none,.ref 301,.ref 302,.ref 303,.int 597 0,.int 182 0,.str z9 598]⟩,⟨[]⟩⟩
def Nj(P:Params):Obj:=⟨.type t17,.none,.func ⟨z49,z49,L2.aG (tt 46),.stmts (L2.aD (tt 46)),L2.aj (tt 46),3,[],.none,.none,.none,.str Bb 591,.none,.ref 304,.none,0⟩,⟨[]⟩⟩
def Wu(P:Params):Obj:=⟨.type t2,.none,.seq ⟨[]⟩ 0,⟨[]⟩⟩
def W0(P:Params):Obj:=⟨.none,.none,.fields ⟨[]⟩,⟨[]⟩⟩
def Rh(P:Params):Obj:=⟨.none,.none,.func ⟨z50,z50,L2.aG (tt 47),.stmts (L2.aD (tt 47)),L2.aj (tt 47),0,[],.none,.none,.none,.none,.none,.none,.none,0⟩,⟨[]⟩⟩
def V8(P:Params):Obj:=⟨.type t3,.none,.fields ⟨[.str z50 600,.str z50 601,.str z9 602,.int 185 0,.int 3 0,.int 0 0,.int 0 0,.int 3 0,.ref 306,.bool true,.int 181 0,.ref 307,.none,.none,.none,.ref 308,.int 603 0,.int 185 0,.str z9 604]⟩,⟨[]⟩⟩
def Tz(P:Params):Obj:=⟨.type t17,.none,.func ⟨z50,z50,L2.aG (tt 47),.stmts (L2.aD (tt 47)),L2.aj (tt 47),3,[],.none,.none,.none,.str Bb 591,.none,.ref 309,.none,0⟩,⟨[]⟩⟩
def SJ(P:Params):Obj:=⟨.type t2,.none,.seq ⟨[]⟩ 0,⟨[]⟩⟩
def Yp(P:Params):Obj:=⟨.none,.none,.fields ⟨[]⟩,⟨[]⟩⟩
def Uh(P:Params):Obj:=⟨.type t2,.none,.seq ⟨[.str Rg 609,.str Wl 610,.str W5 611]⟩ 0,⟨[]⟩⟩
def Tf(P:Params):Obj:=⟨.type t2,.none,.seq ⟨[]⟩ 0,⟨[]⟩⟩
def OV(P:Params):Obj:=⟨.none,.none,.func ⟨z51,z51,L2.aG (tt 48),.stmts (L2.aD (tt 48)),L2.aj (tt 48),0,[],.none,.none,.none,.none,.none,.none,.none,0⟩,⟨[]⟩⟩
def Qa(P:Params):Obj:=⟨.type t3,.none,.fields ⟨[.str z51 606,.str z51 607,.str z9 608,.int 189 0,.int 3 0,.int 0 0,.int 0 0,.int 3 0,.ref 311,.bool true,.int 181 0,.ref 312,.none,.ref 313,.ref 314,.ref 315,.int 612 0,.int 189 0,.str z9 613]⟩,⟨[]⟩⟩
def Rf(P:Params):Obj:=⟨.type t17,.none,.func ⟨z51,z51,L2.aG (tt 48),.stmts (L2.aD (tt 48)),L2.aj (tt 48),3,[],.none,.none,.none,.str Bb 591,.none,.ref 316,.none,0⟩,⟨[]⟩⟩
def Ux(P:Params):Obj:=⟨.type t2,.none,.seq ⟨[]⟩ 0,⟨[]⟩⟩
def Yv(P:Params):Obj:=⟨.none,.none,.fields ⟨[]⟩,⟨[]⟩⟩
def Qv(P:Params):Obj:=⟨.type t2,.none,.seq ⟨[.str Rg 618,.str Wl 619,.str W5 620]⟩ 0,⟨[]⟩⟩
def Oe(P:Params):Obj:=⟨.type t2,.none,.seq ⟨[]⟩ 0,⟨[]⟩⟩
def Pn(P:Params):Obj:=⟨.none,.none,.func ⟨z52,z52,L2.aG (tt 49),.stmts (L2.aD (tt 49)),L2.aj (tt 49),0,[],.none,.none,.none,.none,.none,.none,.none,0⟩,⟨[]⟩⟩
def O6(P:Params):Obj:=⟨.type t3,.none,.fields ⟨[.str z52 615,.str z52 616,.str z9 617,.int 191 0,.int 3 0,.int 0 0,.int 0 0,.int 3 0,.ref 318,.bool true,.int 181 0,.ref 319,.none,.ref 320,.ref 321,.ref 322,.int 621 0,.int 191 0,.str z9 622]⟩,⟨[]⟩⟩
def SG(P:Params):Obj:=⟨.type t17,.none,.func ⟨z52,z52,L2.aG (tt 49),.stmts (L2.aD (tt 49)),L2.aj (tt 49),3,[],.none,.none,.none,.str Bb 591,.none,.ref 323,.none,0⟩,⟨[]⟩⟩
def Ol(P:Params):Obj:=⟨.type t2,.none,.seq ⟨[]⟩ 0,⟨[]⟩⟩
def Xh(P:Params):Obj:=⟨.none,.none,.fields ⟨[]⟩,⟨[]⟩⟩
def Vm(P:Params):Obj:=⟨.none,.none,.func ⟨z53,z53,L2.aG (tt 50),.stmts (L2.aD (tt 50)),L2.aj (tt 50),0,[],.none,.none,.none,.none,.none,.none,.none,0⟩,⟨[]⟩⟩
def Vj(P:Params):Obj:=⟨.type t3,.none,.fields ⟨[.str z53 624,.str z53 625,.str z9 626,.int 193 0,.int 3 0,.int 0 0,.int 0 0,.int 3 0,.ref 325,.bool true,.int 181 0,.ref 326,.none,.none,.none,.ref 327,.int 627 0,.int 193 0,.str z9 628]⟩,⟨[]⟩⟩
def TN(P:Params):Obj:=⟨.type t17,.none,.func ⟨z53,z53,L2.aG (tt 50),.stmts (L2.aD (tt 50)),L2.aj (tt 50),3,[],.none,.none,.none,.str Bb 591,.none,.ref 328,.none,0⟩,⟨[]⟩⟩
def Sh(P:Params):Obj:=⟨.type t2,.none,.seq ⟨[]⟩ 0,⟨[]⟩⟩
def Ym(P:Params):Obj:=⟨.none,.none,.fields ⟨[]⟩,⟨[]⟩⟩
def TJ(P:Params):Obj:=⟨.none,.none,.func ⟨z54,z54,L2.aG (tt 51),.stmts (L2.aD (tt 51)),L2.aj (tt 51),0,[],.none,.none,.none,.none,.none,.none,.none,0⟩,⟨[]⟩⟩
def QJ(P:Params):Obj:=⟨.type t3,.none,.fields ⟨[.str z54 630,.str z54 631,.str z9 632,.int 195 0,.int 4 0,.int 0 0,.int 0 0,.int 3 0,.ref 330,.bool true,.int 181 0,.ref 331,.none,.none,.none,.ref 332,.int 633 0,.int 195 0,.str z9 634]⟩,⟨[]⟩⟩
def Wq(P:Params):Obj:=⟨.type t17,.none,.func ⟨z54,z54,L2.aG (tt 51),.stmts (L2.aD (tt 51)),L2.aj (tt 51),3,[],.none,.none,.none,.str Bb 591,.none,.ref 333,.none,0⟩,⟨[]⟩⟩
def M8(P:Params):Obj:=⟨.type t2,.none,.seq ⟨[]⟩ 0,⟨[]⟩⟩
def XC(P:Params):Obj:=⟨.none,.none,.fields ⟨[]⟩,⟨[]⟩⟩
def OB(P:Params):Obj:=⟨.type t2,.none,.seq ⟨[.str z87 639,.str z88 640,.str aah 641,.str z82 642,.str Rg 643,.str Wl 644,.str VR 645]⟩ 0,⟨[]⟩⟩
def OD(P:Params):Obj:=⟨.type t2,.none,.seq ⟨[]⟩ 0,⟨[]⟩⟩
def Rx(P:Params):Obj:=⟨.none,.none,.func ⟨z55,z55,L2.aG (tt 52),.stmts (L2.aD (tt 52)),L2.aj (tt 52),0,[],.none,.none,.none,.none,.none,.none,.none,0⟩,⟨[]⟩⟩
def Pb(P:Params):Obj:=⟨.type t3,.none,.fields ⟨[.str z55 636,.str z55 637,.str z9 638,.int 200 0,.int 3 0,.int 0 0,.int 0 0,.int 3 0,.ref 335,.bool true,.int 181 0,.ref 336,.none,.ref 337,.ref 338,.ref 339,.int 646 0,.int 200 0,.str z9 647]⟩,⟨[]⟩⟩
def Qk(P:Params):Obj:=⟨.type t17,.none,.func ⟨z55,z55,L2.aG (tt 52),.stmts (L2.aD (tt 52)),L2.aj (tt 52),3,[],.none,.none,.none,.str Bb 591,.none,.ref 340,.none,0⟩,⟨[]⟩⟩
def Rp(P:Params):Obj:=⟨.type t2,.none,.seq ⟨[]⟩ 0,⟨[]⟩⟩
def Xj(P:Params):Obj:=⟨.none,.none,.fields ⟨[]⟩,⟨[]⟩⟩
def SX(P:Params):Obj:=⟨.type t2,.none,.seq ⟨[.str z87 652,.str z88 653]⟩ 0,⟨[]⟩⟩
def RB(P:Params):Obj:=⟨.type t2,.none,.seq ⟨[]⟩ 0,⟨[]⟩⟩
def Ow(P:Params):Obj:=⟨.none,.none,.func ⟨z56,z56,L2.aG (tt 53),.stmts (L2.aD (tt 53)),L2.aj (tt 53),0,[],.none,.none,.none,.none,.none,.none,.none,0⟩,⟨[]⟩⟩
def Sy(P:Params):Obj:=⟨.type t3,.none,.fields ⟨[.str z56 649,.str z56 650,.str z9 651,.int 207 0,.int 2 0,.int 0 0,.int 0 0,.int 3 0,.ref 342,.bool true,.int 181 0,.ref 343,.none,.ref 344,.ref 345,.ref 346,.int 654 0,.int 207 0,.str z9 655]⟩,⟨[]⟩⟩
def Ua(P:Params):Obj:=⟨.type t17,.none,.func ⟨z56,z56,L2.aG (tt 53),.stmts (L2.aD (tt 53)),L2.aj (tt 53),3,[],.none,.none,.none,.str Bb 591,.none,.ref 347,.none,0⟩,⟨[]⟩⟩
def VJ(P:Params):Obj:=⟨.type t2,.none,.seq ⟨[]⟩ 0,⟨[]⟩⟩
def Xa(P:Params):Obj:=⟨.none,.none,.fields ⟨[]⟩,⟨[]⟩⟩
def Sv(P:Params):Obj:=⟨.type t2,.none,.seq ⟨[.str z87 660,.str z88 661]⟩ 0,⟨[]⟩⟩
def QS(P:Params):Obj:=⟨.type t2,.none,.seq ⟨[]⟩ 0,⟨[]⟩⟩
def Pq(P:Params):Obj:=⟨.none,.none,.func ⟨z57,z57,L2.aG (tt 54),.stmts (L2.aD (tt 54)),L2.aj (tt 54),0,[],.none,.none,.none,.none,.none,.none,.none,0⟩,⟨[]⟩⟩
def VN(P:Params):Obj:=⟨.type t3,.none,.fields ⟨[.str z57 657,.str z57 658,.str z9 659,.int 209 0,.int 2 0,.int 0 0,.int 0 0,.int 3 0,.ref 349,.bool true,.int 181 0,.ref 350,.none,.ref 351,.ref 352,.ref 353,.int 662 0,.int 209 0,.str z9 663]⟩,⟨[]⟩⟩
def Vv(P:Params):Obj:=⟨.type t17,.none,.func ⟨z57,z57,L2.aG (tt 54),.stmts (L2.aD (tt 54)),L2.aj (tt 54),3,[],.none,.none,.none,.str Bb 591,.none,.ref 354,.none,0⟩,⟨[]⟩⟩
def Pk(P:Params):Obj:=⟨.type t2,.none,.seq ⟨[]⟩ 0,⟨[]⟩⟩
def Xb(P:Params):Obj:=⟨.none,.none,.fields ⟨[]⟩,⟨[]⟩⟩
def U4(P:Params):Obj:=⟨.none,.none,.func ⟨z58,z58,L2.aG (tt 55),.stmts (L2.aD (tt 55)),L2.aj (tt 55),0,[],.none,.none,.none,.none,.none,.none,.none,0⟩,⟨[]⟩⟩
def PX(P:Params):Obj:=⟨.type t3,.none,.fields ⟨[.str z58 665,.str z58 666,.str z9 667,.int 211 0,.int 2 0,.int 0 0,.int 0 0,.int 3 0,.ref 356,.bool true,.int 181 0,.ref 357,.none,.none,.none,.ref 358,.int 668 0,.int 211 0,.str z9 669]⟩,⟨[]⟩⟩
def TV(P:Params):Obj:=⟨.type t17,.none,.func ⟨z58,z58,L2.aG (tt 55),.stmts (L2.aD (tt 55)),L2.aj (tt 55),3,[],.none,.none,.none,.str Bb 591,.none,.ref 359,.none,0⟩,⟨[]⟩⟩
def Ub(P:Params):Obj:=⟨.type t2,.none,.seq ⟨[]⟩ 0,⟨[]⟩⟩
def Xx(P:Params):Obj:=⟨.none,.none,.fields ⟨[]⟩,⟨[]⟩⟩
def SY(P:Params):Obj:=⟨.type t2,.none,.seq ⟨[.str YX 676,.str Wr 677]⟩ 0,⟨[]⟩⟩
def Tw(P:Params):Obj:=⟨.type t2,.none,.seq ⟨[]⟩ 0,⟨[]⟩⟩
def Pu(P:Params):Obj:=⟨.none,.none,.func ⟨z59,z59,L2.aG (tt 57),.stmts (L2.aD (tt 57)),L2.aj (tt 57),0,[],.none,.none,.none,.none,.none,.none,.none,0⟩,⟨[]⟩⟩
def WD(P:Params):Obj:=⟨.type t3,.none,.fields ⟨[.str z59 673,.str z59 674,.str z9 675,.int 222 0,.int 2 0,.int 0 0,.int 0 0,.int 3 0,.ref 361,.bool true,.int 181 0,.ref 362,.none,.ref 363,.ref 364,.ref 365,.int 678 0,.int 222 0,.str z9 679]⟩,⟨[]⟩⟩
def Tp(P:Params):Obj:=⟨.type t17,.none,.func ⟨z59,z59,L2.aG (tt 57),.stmts (L2.aD (tt 57)),L2.aj (tt 57),3,[],.none,.none,.none,.str z1 671,.none,.ref 366,.none,0⟩,⟨[]⟩⟩
def N6(P:Params):Obj:=⟨.type t2,.none,.seq ⟨[]⟩ 0,⟨[]⟩⟩
def XM(P:Params):Obj:=⟨.none,.none,.fields ⟨[]⟩,⟨[]⟩⟩
def QC(P:Params):Obj:=⟨.type t2,.none,.seq ⟨[.str MQ 684,.str Wr 685,.str YM 686]⟩ 0,⟨[]⟩⟩
def Tn(P:Params):Obj:=⟨.type t2,.none,.seq ⟨[]⟩ 0,⟨[]⟩⟩
def Vf(P:Params):Obj:=⟨.none,.none,.func ⟨z60,z60,L2.aG (tt 58),.stmts (L2.aD (tt 58)),L2.aj (tt 58),0,[],.none,.none,.none,.none,.none,.none,.none,0⟩,⟨[]⟩⟩
def O8(P:Params):Obj:=⟨.type t3,.none,.fields ⟨[.str z60 681,.str z60 682,.str z9 683,.int 226 0,.int 2 0,.int 0 0,.int 0 0,.int 3 0,.ref 368,.bool true,.int 181 0,.ref 369,.none,.ref 370,.ref 371,.ref 372,.int 687 0,.int 226 0,.str z9 688]⟩,⟨[]⟩⟩
def Ti(P:Params):Obj:=⟨.type t17,.none,.func ⟨z60,z60,L2.aG (tt 58),.stmts (L2.aD (tt 58)),L2.aj (tt 58),3,[],.none,.none,.none,.str z1 671,.none,.ref 373,.none,0⟩,⟨[]⟩⟩
def X7(P:Params):Obj:=⟨.type t2,.none,.seq ⟨[]⟩ 0,⟨[]⟩⟩
def WV(P:Params):Obj:=⟨.none,.none,.fields ⟨[]⟩,⟨[]⟩⟩
def o377(P:Params):Obj:=⟨.type t2,.none,.seq ⟨[.str MQ 693]⟩ 0,⟨[]⟩⟩
def Yg(P:Params):Obj:=⟨.type t2,.none,.seq ⟨[]⟩ 0,⟨[]⟩⟩
def YZ(P:Params):Obj:=⟨.none,.none,.func ⟨z61,z61,L2.aG (tt 59),.stmts (L2.aD (tt 59)),L2.aj (tt 59),0,[],.none,.none,.none,.none,.none,.none,.none,0⟩,⟨[]⟩⟩
def XD(P:Params):Obj:=⟨.type t3,.none,.fields ⟨[.str z61 690,.str z61 691,.str z9 692,.int 230 0,.int 1 0,.int 0 0,.int 0 0,.int 3 0,.ref 375,.bool true,.int 181 0,.ref 376,.none,.ref 377,.ref 378,.ref 379,.int 694 0,.int 230 0,.str z9 695]⟩,⟨[]⟩⟩
def Yy(P:Params):Obj:=⟨.type t17,.none,.func ⟨z61,z61,L2.aG (tt 59),.stmts (L2.aD (tt 59)),L2.aj (tt 59),3,[],.none,.none,.none,.str z1 671,.none,.ref 380,.none,0⟩,⟨[]⟩⟩
def U3(P:Params):Obj:=⟨.type t2,.none,.seq ⟨[]⟩ 0,⟨[]⟩⟩
def Yz(P:Params):Obj:=⟨.none,.none,.fields ⟨[]⟩,⟨[]⟩⟩
def Vw(P:Params):Obj:=⟨.type t2,.none,.seq ⟨[.str Tg 700,.str YM 701]⟩ 0,⟨[]⟩⟩
def RM(P:Params):Obj:=⟨.type t2,.none,.seq ⟨[]⟩ 0,⟨[]⟩⟩
def M5(P:Params):Obj:=⟨.none,.none,.func ⟨z62,z62,L2.aG (tt 60),.stmts (L2.aD (tt 60)),L2.aj (tt 60),0,[],.none,.none,.none,.none,.none,.none,.none,0⟩,⟨[]⟩⟩
def Vt(P:Params):Obj:=⟨.type t3,.none,.fields ⟨[.str z62 697,.str z62 698,.str z9 699,.int 232 0,.int 2 0,.int 0 0,.int 0 0,.int 3 0,.ref 382,.bool true,.int 181 0,.ref 383,.none,.ref 384,.ref 385,.ref 386,.int 702 0,.int 232 0,.str z9 703]⟩,⟨[]⟩⟩
def Nk(P:Params):Obj:=⟨.type t17,.none,.func ⟨z62,z62,L2.aG (tt 60),.stmts (L2.aD (tt 60)),L2.aj (tt 60),3,[],.none,.none,.none,.str z1 671,.none,.ref 387,.none,0⟩,⟨[]⟩⟩
def Q8(P:Params):Obj:=⟨.type t2,.none,.seq ⟨[]⟩ 0,⟨[]⟩⟩
def XU(P:Params):Obj:=⟨.none,.none,.fields ⟨[]⟩,⟨[]⟩⟩
def VD(P:Params):Obj:=⟨.type t2,.none,.seq ⟨[.str Tg 708,.str MQ 709,.str Wr 710,.str aai 711,.str ZV 712]⟩ 0,⟨[]⟩⟩
def Wy(P:Params):Obj:=⟨.type t2,.none,.seq ⟨[]⟩ 0,⟨[]⟩⟩
def PL(P:Params):Obj:=⟨.none,.none,.func ⟨z63,z63,L2.aG (tt 61),.stmts (L2.aD (tt 61)),L2.aj (tt 61),0,[],.none,.none,.none,.none,.none,.none,.none,0⟩,⟨[]⟩⟩
def NV(P:Params):Obj:=⟨.type t3,.none,.fields ⟨[.str z63 705,.str z63 706,.str z9 707,.int 236 0,.int 3 0,.int 0 0,.int 0 0,.int 3 0,.ref 389,.bool true,.int 181 0,.ref 390,.none,.ref 391,.ref 392,.ref 393,.int 713 0,.int 236 0,.str z9 714]⟩,⟨[]⟩⟩
def R7(P:Params):Obj:=⟨.type t17,.none,.func ⟨z63,z63,L2.aG (tt 61),.stmts (L2.aD (tt 61)),L2.aj (tt 61),3,[],.none,.none,.none,.str z1 671,.none,.ref 394,.none,0⟩,⟨[]⟩⟩
def Qp(P:Params):Obj:=⟨.type t2,.none,.seq ⟨[]⟩ 0,⟨[]⟩⟩
def YK(P:Params):Obj:=⟨.none,.none,.fields ⟨[]⟩,⟨[]⟩⟩
def Tv(P:Params):Obj:=⟨.none,.none,.func ⟨z64,z64,L2.aG (tt 62),.stmts (L2.aD (tt 62)),L2.aj (tt 62),0,[],.none,.none,.none,.none,.none,.none,.none,0⟩,⟨[]⟩⟩
def Wx(P:Params):Obj:=⟨.type t3,.none,.fields ⟨[.str z64 716,.str z64 717,.str z9 718,.int 240 0,.int 2 0,.int 0 0,.int 0 0,.int 3 0,.ref 396,.bool true,.int 181 0,.ref 397,.none,.none,.none,.ref 398,.int 719 0,.int 240 0,.str z9 720]⟩,⟨[]⟩⟩
def o400(P:Params):Obj:=⟨.type t17,.none,.func ⟨z64,z64,L2.aG (tt 62),.stmts (L2.aD (tt 62)),L2.aj (tt 62),3,[],.none,.none,.none,.str z1 671,.none,.ref 399,.none,0⟩,⟨[]⟩⟩
def Uy(P:Params):Obj:=⟨.type t2,.none,.seq ⟨[]⟩ 0,⟨[]⟩⟩
def YD(P:Params):Obj:=⟨.none,.none,.fields ⟨[]⟩,⟨[]⟩⟩
def Ql(P:Params):Obj:=⟨.none,.none,.func ⟨z65,z65,L2.aG (tt 63),.stmts (L2.aD (tt 63)),L2.aj (tt 63),0,[],.none,.none,.none,.none,.none,.none,.none,0⟩,⟨[]⟩⟩
def Q5(P:Params):Obj:=⟨.type t3,.none,.fields ⟨[.str z65 722,.str z65 723,.str z9 724,.int 248 0,.int 4 0,.int 0 0,.int 0 0,.int 3 0,.ref 401,.bool true,.int 181 0,.ref 402,.none,.none,.none,.ref 403,.int 725 0,.int 248 0,.str z9 726]⟩,⟨[]⟩⟩
def Ur(P:Params):Obj:=⟨.type t17,.none,.func ⟨z65,z65,L2.aG (tt 63),.stmts (L2.aD (tt 63)),L2.aj (tt 63),3,[],.none,.none,.none,.str z1 671,.none,.ref 404,.none,0⟩,⟨[]⟩⟩
def Wj(P:Params):Obj:=⟨.type t2,.none,.seq ⟨[]⟩ 0,⟨[]⟩⟩
def XE(P:Params):Obj:=⟨.none,.none,.fields ⟨[]⟩,⟨[]⟩⟩
def Rj(P:Params):Obj:=⟨.none,.none,.func ⟨z66,z66,L2.aG (tt 64),.stmts (L2.aD (tt 64)),L2.aj (tt 64),0,[],.none,.none,.none,.none,.none,.none,.none,0⟩,⟨[]⟩⟩
def Pg(P:Params):Obj:=⟨.type t3,.none,.fields ⟨[.str z66 728,.str z66 729,.str z9 730,.int 258 0,.int 2 0,.int 0 0,.int 0 0,.int 3 0,.ref 406,.bool true,.int 181 0,.ref 407,.none,.none,.none,.ref 408,.int 731 0,.int 258 0,.str z9 732]⟩,⟨[]⟩⟩
def RP(P:Params):Obj:=⟨.type t17,.none,.func ⟨z66,z66,L2.aG (tt 64),.stmts (L2.aD (tt 64)),L2.aj (tt 64),3,[],.none,.none,.none,.str z1 671,.none,.ref 409,.none,0⟩,⟨[]⟩⟩
def Oo(P:Params):Obj:=⟨.type t2,.none,.seq ⟨[]⟩ 0,⟨[]⟩⟩
def XO(P:Params):Obj:=⟨.none,.none,.fields ⟨[]⟩,⟨[]⟩⟩
def V9(P:Params):Obj:=⟨.type t2,.none,.seq ⟨[.str Z0 737,.str Zu 738,.str Zz 739]⟩ 0,⟨[]⟩⟩
def Nm(P:Params):Obj:=⟨.type t2,.none,.seq ⟨[]⟩ 0,⟨[]⟩⟩
def OJ(P:Params):Obj:=⟨.none,.none,.func ⟨z67,z67,L2.aG (tt 65),.stmts (L2.aD (tt 65)),L2.aj (tt 65),0,[],.none,.none,.none,.none,.none,.none,.none,0⟩,⟨[]⟩⟩
def Qc(P:Params):Obj:=⟨.type t3,.none,.fields ⟨[.str z67 734,.str z67 735,.str z9 736,.int 265 0,.int 1 0,.int 0 0,.int 0 0,.int 3 0,.ref 411,.bool true,.int 181 0,.ref 412,.none,.ref 413,.ref 414,.ref 415,.int 740 0,.int 265 0,.str z9 741]⟩,⟨[]⟩⟩
def Vq(P:Params):Obj:=⟨.type t17,.none,.func ⟨z67,z67,L2.aG (tt 65),.stmts (L2.aD (tt 65)),L2.aj (tt 65),3,[],.none,.none,.none,.str z1 671,.none,.ref 416,.none,0⟩,⟨[]⟩⟩
def Nb(P:Params):Obj:=⟨.type t2,.none,.seq ⟨[]⟩ 0,⟨[]⟩⟩
def W3(P:Params):Obj:=⟨.none,.none,.fields ⟨[]⟩,⟨[]⟩⟩
def RG(P:Params):Obj:=⟨.type t2,.none,.seq ⟨[.str Xe 746,.str ZC 747,.str Zk 748]⟩ 0,⟨[]⟩⟩
def Ue(P:Params):Obj:=⟨.type t2,.none,.seq ⟨[.str Xm 749,.str Yh 750]⟩ 0,⟨[]⟩⟩
def OX(P:Params):Obj:=⟨.none,.none,.func ⟨z68,z68,L2.aG (tt 66),.stmts (L2.aD (tt 66)),L2.aj (tt 66),0,[],.none,.none,.none,.none,.none,.none,.none,0⟩,⟨[]⟩⟩
def N5(P:Params):Obj:=⟨.type t3,.none,.fields ⟨[.str z68 743,.str z68 744,.str z9 745,.int 278 0,.int 2 0,.int 0 0,.int 0 0,.int 3 0,.ref 418,.bool true,.int 181 0,.ref 419,.none,.ref 420,.ref 421,.ref 422,.int 751 0,.int 278 0,.str z9 752]⟩,⟨[]⟩⟩
def Qh(P:Params):Obj:=⟨.type t17,.none,.func ⟨z68,z68,L2.aG (tt 66),.stmts (L2.aD (tt 66)),L2.aj (tt 66),3,[],.none,.none,.none,.str z1 671,.none,.ref 423,.none,0⟩,⟨[]⟩⟩
def Rz(P:Params):Obj:=⟨.type t2,.none,.seq ⟨[]⟩ 0,⟨[]⟩⟩
def WZ(P:Params):Obj:=⟨.none,.none,.fields ⟨[]⟩,⟨[]⟩⟩
def NZ(P:Params):Obj:=⟨.none,.none,.func ⟨z69,z69,L2.aG (tt 67),.stmts (L2.aD (tt 67)),L2.aj (tt 67),0,[],.none,.none,.none,.none,.none,.none,.none,0⟩,⟨[]⟩⟩
def Qq(P:Params):Obj:=⟨.type t3,.none,.fields ⟨[.str z69 754,.str z69 755,.str z9 756,.int 285 0,.int 3 0,.int 0 0,.int 0 0,.int 3 0,.ref 425,.bool true,.int 181 0,.ref 426,.none,.none,.none,.ref 427,.int 757 0,.int 285 0,.str z9 758]⟩,⟨[]⟩⟩
def WT(P:Params):Obj:=⟨.type t17,.none,.func ⟨z69,z69,L2.aG (tt 67),.stmts (L2.aD (tt 67)),L2.aj (tt 67),3,[],.none,.none,.none,.str z1 671,.none,.ref 428,.none,0⟩,⟨[]⟩⟩
def UY(P:Params):Obj:=⟨.type t2,.none,.seq ⟨[]⟩ 0,⟨[]⟩⟩
def X8(P:Params):Obj:=⟨.none,.none,.fields ⟨[]⟩,⟨[]⟩⟩
def Wo(P:Params):Obj:=⟨.type t2,.none,.seq ⟨[.str YX 763,.str ZJ 764,.str MQ 765,.str Tg 766,.str Zd 767,.str Xe 768,.str Y8 769,.str Zh 770,.str Xm 771,.str Yh 772,.str Ze 773,.str Zo 774,.str Y5 775,.str ZM 776,.str Z4 777]⟩ 0,⟨[]⟩⟩
def Qg(P:Params):Obj:=⟨.type t2,.none,.seq ⟨[]⟩ 0,⟨[]⟩⟩
def Ut(P:Params):Obj:=⟨.none,.none,.func ⟨z70,z70,L2.aG (tt 68),.stmts (L2.aD (tt 68)),L2.aj (tt 68),0,[],.none,.none,.none,.none,.none,.none,.none,0⟩,⟨[]⟩⟩
def TQ(P:Params):Obj:=⟨.type t3,.none,.fields ⟨[.str z70 760,.str z70 761,.str z9 762,.int 288 0,.int 1 0,.int 0 0,.int 0 0,.int 3 0,.ref 430,.bool true,.int 181 0,.ref 431,.none,.ref 432,.ref 433,.ref 434,.int 778 0,.int 288 0,.str z9 779]⟩,⟨[]⟩⟩
def WH(P:Params):Obj:=⟨.type t17,.none,.func ⟨z70,z70,L2.aG (tt 68),.stmts (L2.aD (tt 68)),L2.aj (tt 68),3,[],.none,.none,.none,.str z1 671,.none,.ref 435,.none,0⟩,⟨[]⟩⟩
def TF(P:Params):BT:=(nd (PySem.W.boot_o_0 P) (nd (PySem.W.boot_o_1 P) (nd (o3 P) (nd (PySem.W.boot_o_7 P) (nd (o15 P) (nd (o31 P) (nd (o63 P) (nd (Ng P) (nd (Xr P) e e) (nd (Yz P) e e)) (nd (Sd P) (nd (Yv P) e e) e)) (nd (o95 P) (nd (Ul P) (nd (Vu P) e e) (nd (OJ P) e e)) (nd (WQ P) (nd (Sv P) e e) e))) (nd (o47 P) (nd (o79 P) (nd (Uv P) (nd (Ph P) e e) (nd (Wx P) e e)) (nd (W7 P) (nd (M8 P) e e) e)) (nd (o111 P) (nd (Rk P) (nd (Oq P) e e) (nd (X8 P) e e)) (nd (NW P) (nd (Tp P) e e) e)))) (nd (o23 P) (nd (o39 P) (nd (o71 P) (nd (Nv P) (nd (Q6 P) e e) (nd (VD P) e e)) (nd (Qy P) (nd (Vm P) e e) e)) (nd (Yi P) (nd (WY P) (nd (Wa P) e e) (nd (N5 P) e e)) (nd (Vp P) (nd (PX P) e e) e))) (nd (o55 P) (nd (o87 P) (nd (Sx P) (nd (Vh P) e e) (nd (XE P) e e)) (nd (QB P) (nd (Xj P) e e) e)) (nd (SV P) (nd (Pa P) (nd (SJ P) e e) e) (nd (Qo P) (nd (X7 P) e e) e))))) (nd (o11 P) (nd (o19 P) (nd (o35 P) (nd (o67 P) (nd (SR P) (nd (Rt P) e e) (nd (Vt P) e e)) (nd (YG P) (nd (O6 P) e e) e)) (nd (o99 P) (nd (PB P) (nd (UU P) e e) (nd (W3 P) e e)) (nd (Td P) (nd (Vv P) e e) e))) (nd (o51 P) (nd (o83 P) (nd (OL P) (nd (Ws P) e e) (nd (Ql P) e e)) (nd (Rq P) (nd (Rx P) e e) e)) (nd (XR P) (nd (Ni P) (nd (W0 P) e e) (nd (TQ P) e e)) (nd (Yu P) (nd (Tn P) e e) e)))) (nd (o27 P) (nd (o43 P) (nd (o75 P) (nd (XS P) (nd (VP P) e e) (nd (R7 P) e e)) (nd (Qw P) (nd (Ym P) e e) e)) (nd (Vb P) (nd (V1 P) (nd (WK P) e e) (nd (NZ P) e e)) (nd (QD P) (nd (SY P) e e) e))) (nd (o59 P) (nd (o91 P) (nd (NS P) (nd (Vz P) e e) (nd (Oo P) e e)) (nd (RH P) (nd (Sy P) e e) e)) (nd (X6 P) (nd (Qs P) (nd (OV P) e e) e) (nd (TX P) (nd (YZ P) e e) e)))))) (nd (PySem.W.boot_o_5 P) (nd (PySem.W.boot_o_9 P) (nd (o17 P) (nd (o33 P) (nd (o65 P) (nd (Uj P) (nd (PK P) e e) (nd (RM P) e e)) (nd (Wc P) (nd (Oe P) e e) e)) (nd (o97 P) (nd (Tr P) (nd (QZ P) e e) (nd (Vq P) e e)) (nd (Oi P) (nd (Pq P) e e) e))) (nd (o49 P) (nd (o81 P) (nd (Sq P) (nd (Vr P) e e) (nd (Uy P) e e)) (nd (Vk P) (nd (OB P) e e) e)) (nd (XQ P) (nd (Np P) (nd (Nj P) e e) (nd (Qg P) e e)) (nd (U8 P) (nd (XM P) e e) e)))) (nd (o25 P) (nd (o41 P) (nd (o73 P) (nd (Ny P) (nd (PZ P) e e) (nd (PL P) e e)) (nd (Qm P) (nd (TN P) e e) e)) (nd (Xd P) (nd (RV P) (nd (R3 P) e e) (nd (Rz P) e e)) (nd (Qu P) (nd (Ub P) e e) e))) (nd (o57 P) (nd (o89 P) (nd (Xz P) (nd (X5 P) e e) (nd (Pg P) e e)) (nd (Xw P) (nd (RB P) e e) e)) (nd (Wi P) (nd (Qx P) (nd (Uh P) e e) e) (nd (Wv P) (nd (o377 P) e e) e))))) (nd (o13 P) (nd (o21 P) (nd (o37 P) (nd (o69 P) (nd (QM P) (nd (VQ P) e e) (nd (Q8 P) e e)) (nd (Nt P) (nd (Ol P) e e) e)) (nd (YT P) (nd (WG P) (nd (YW P) e e) (nd (Ue P) e e)) (nd (W8 P) (nd (Xb P) e e) e))) (nd (o53 P) (nd (o85 P) (nd (Sg P) (nd (Uw P) e e) (nd (Ur P) e e)) (nd (PV P) (nd (Qk P) e e) e)) (nd (YH P) (nd (YQ P) (nd (V8 P) e e) e) (nd (VX P) (nd (O8 P) e e) e)))) (nd (o29 P) (nd (o45 P) (nd (o77 P) (nd (Oj P) (nd (Xu P) e e) (nd (YK P) e e)) (nd (RJ P) (nd (QJ P) e e) e)) (nd (V5 P) (nd (U5 P) (nd (UZ P) e e) (nd (WT P) e e)) (nd (U7 P) (nd (Pu P) e e) e))) (nd (o61 P) (nd (o93 P) (nd (Pz P) (nd (Ve P) e e) (nd (V9 P) e e)) (nd (RX P) (nd (VJ P) e e) e)) (nd (XY P) (nd (RQ P) (nd (Rf P) e e) e) (nd (WB P) (nd (Yy P) e e) e))))))) (nd (PySem.W.boot_o_2 P) (nd (PySem.W.boot_o_4 P) (nd (PySem.W.boot_o_8 P) (nd (o16 P) (nd (o32 P) (nd (o64 P) (nd (QH P) (nd (Vs P) e e) (nd (Vw P) e e)) (nd (VZ P) (nd (Qv P) e e) e)) (nd (o96 P) (nd (Yq P) (nd (RT P) e e) (nd (Qc P) e e)) (nd (Ou P) (nd (QS P) e e) e))) (nd (o48 P) (nd (o80 P) (nd (Nz P) (nd (QL P) e e) (nd (o400 P) e e)) (nd (Qj P) (nd (XC P) e e) e)) (nd (Ru P) (nd (Wt P) (nd (Rn P) e e) (nd (Wo P) e e)) (nd (Pj P) (nd (N6 P) e e) e)))) (nd (o24 P) (nd (o40 P) (nd (o72 P) (nd (Wn P) (nd (Vx P) e e) (nd (Wy P) e e)) (nd (o200 P) (nd (Vj P) e e) e)) (nd (Xl P) (nd (Ox P) (nd (QY P) e e) (nd (Qh P) e e)) (nd (Vc P) (nd (TV P) e e) e))) (nd (o56 P) (nd (o88 P) (nd (NK P) (nd (Tq P) e e) (nd (Rj P) e e)) (nd (M6 P) (nd (SX P) e e) e)) (nd (SQ P) (nd (SN P) (nd (Yp P) e e) e) (nd (O7 P) (nd (WV P) e e) e))))) (nd (o12 P) (nd (o20 P) (nd (o36 P) (nd (o68 P) (nd (Yw P) (nd (Sw P) e e) (nd (Nk P) e e)) (nd (UG P) (nd (SG P) e e) e)) (nd (o100 P) (nd (Ov P) (nd (Ug P) e e) (nd (RG P) e e)) (nd (Va P) (nd (Pk P) e e) e))) (nd (o52 P) (nd (o84 P) (nd (U6 P) (nd (Te P) e e) (nd (Q5 P) e e)) (nd (W2 P) (nd (Pb P) e e) e)) (nd (YL P) (nd (Og P) (nd (Rh P) e e) (nd (WH P) e e)) (nd (Qz P) (nd (Vf P) e e) e)))) (nd (o28 P) (nd (o44 P) (nd (o76 P) (nd (Vd P) (nd (Tc P) e e) (nd (Qp P) e e)) (nd (V2 P) (nd (TJ P) e e) e)) (nd (UN P) (nd (Ui P) (nd (o300 P) e e) (nd (Qq P) e e)) (nd (Ys P) (nd (Tw P) e e) e))) (nd (o60 P) (nd (o92 P) (nd (U9 P) (nd (Q9 P) e e) (nd (XO P) e e)) (nd (Rv P) (nd (Ua P) e e) e)) (nd (Od P) (nd (YF P) (nd (Qa P) e e) e) (nd (Ro P) (nd (XD P) e e) e)))))) (nd (PySem.W.boot_o_6 P) (nd (PySem.W.boot_o_10 P) (nd (o18 P) (nd (o34 P) (nd (o66 P) (nd (PD P) (nd (VG P) e e) (nd (M5 P) e e)) (nd (UJ P) (nd (Pn P) e e) e)) (nd (o98 P) (nd (Wd P) (nd (Ss P) e e) (nd (Nb P) e e)) (nd (Vg P) (nd (VN P) e e) e))) (nd (o50 P) (nd (o82 P) (nd (XF P) (nd (Yx P) e e) (nd (YD P) e e)) (nd (UC P) (nd (OD P) e e) e)) (nd (XH P) (nd (Pr P) (nd (Wu P) e e) (nd (Ut P) e e)) (nd (R8 P) (nd (QC P) e e) e)))) (nd (o26 P) (nd (o42 P) (nd (o74 P) (nd (VF P) (nd (R6 P) e e) (nd (NV P) e e)) (nd (QF P) (nd (Sh P) e e) e)) (nd (Xp P) (nd (M7 P) (nd (RN P) e e) (nd (WZ P) e e)) (nd (Uo P) (nd (Xx P) e e) e))) (nd (o58 P) (nd (o90 P) (nd (VB P) (nd (PY P) e e) (nd (RP P) e e)) (nd (Nh P) (nd (Ow P) e e) e)) (nd (XJ P) (nd (QX P) (nd (Tf P) e e) e) (nd (W9 P) (nd (Yg P) e e) e))))) (nd (o14 P) (nd (o22 P) (nd (o38 P) (nd (o70 P) (nd (R9 P) (nd (Yl P) e e) (nd (XU P) e e)) (nd (NP P) (nd (Xh P) e e) e)) (nd (Xy P) (nd (U0 P) (nd (Wk P) e e) (nd (OX P) e e)) (nd (UQ P) (nd (U4 P) e e) e))) (nd (o54 P) (nd (o86 P) (nd (RZ P) (nd (Wh P) e e) (nd (Wj P) e e)) (nd (Vl P) (nd (Rp P) e e) e)) (nd (Xc P) (nd (Nx P) (nd (Tz P) e e) e) (nd (VW P) (nd (Ti P) e e) e)))) (nd (o30 P) (nd (o46 P) (nd (o78 P) (nd (Wz P) (nd (Ud P) e e) (nd (Tv P) e e)) (nd (Ww P) (nd (Wq P) e e) e)) (nd (Xg P) (nd (Xf P) (nd (VL P) e e) (nd (UY P) e e)) (nd (Ry P) (nd (WD P) e e) e))) (nd (o62 P) (nd (o94 P) (nd (Tt P) (nd (Yc P) e e) (nd (Nm P) e e)) (nd (W4 P) (nd (Xa P) e e) e)) (nd (NT P) (nd (TY P) (nd (Ux P) e e) e) (nd (Oh P) (nd (U3 P) e e) e))))))))
def HF(P:Params):Heap:=⟨⟨[PySem.W.boot_o_0 P,PySem.W.boot_o_1 P,PySem.W.boot_o_2 P,o3 P,PySem.W.boot_o_4 P,PySem.W.boot_o_5 P,PySem.W.boot_o_6 P,PySem.W.boot_o_7 P,PySem.W.boot_o_8 P,PySem.W.boot_o_9 P,PySem.W.boot_o_10 P,o11 P,o12 P,o13 P,o14 P,o15 P,o16 P,o17 P,o18 P,o19 P,o20 P,o21 P,o22 P,o23 P,o24 P,o25 P,o26 P,o27 P,o28 P,o29 P,o30 P,o31 P,o32 P,o33 P,o34 P,o35 P,o36 P,o37 P,o38 P,o39 P,o40 P,o41 P,o42 P,o43 P,o44 P,o45 P,o46 P,o47 P,o48 P,o49 P,o50 P,o51 P,o52 P,o53 P,o54 P,o55 P,o56 P,o57 P,o58 P,o59 P,o60 P,o61 P,o62 P,o63 P,o64 P,o65 P,o66 P,o67 P,o68 P,o69 P,o70 P,o71 P,o72 P,o73 P,o74 P,o75 P,o76 P,o77 P,o78 P,o79 P,o80 P,o81 P,o82 P,o83 P,o84 P,o85 P,o86 P,o87 P,o88 P,o89 P,o90 P,o91 P,o92 P,o93 P,o94 P,o95 P,o96 P,o97 P,o98 P,o99 P,o100 P,YT P,Xy P,Yi P,Xl P,Xd P,Xp P,Vb P,UN P,V5 P,Xg P,o111 P,Ru P,XQ P,XH P,XR P,YL P,YH P,Xc P,SV P,SQ P,Wi P,XJ P,X6 P,Od P,XY P,NT P,Ng P,QH P,Uj P,PD P,SR P,Yw P,QM P,R9 P,Nv P,Wn P,Ny P,VF P,XS P,Vd P,Oj P,Wz P,Uv P,Nz P,Sq P,XF P,OL P,U6 P,Sg P,RZ P,Sx P,NK P,Xz P,VB P,NS P,U9 P,Pz P,Tt P,Ul P,Yq P,Tr P,Wd P,PB P,Ov P,WG P,U0 P,WY P,Ox P,RV P,M7 P,V1 P,Ui P,U5 P,Xf P,Rk P,Wt P,Np P,Pr P,Ni P,Og P,YQ P,Nx P,Pa P,SN P,Qx P,QX P,Qs P,YF P,RQ P,TY P,Sd P,VZ P,Wc P,UJ P,YG P,UG P,Nt P,NP P,Qy P,o200 P,Qm P,QF P,Qw P,V2 P,RJ P,Ww P,W7 P,Qj P,Vk P,UC P,Rq P,W2 P,PV P,Vl P,QB P,M6 P,Xw P,Nh P,RH P,Rv P,RX P,W4 P,WQ P,Ou P,Oi P,Vg P,Td P,Va P,W8 P,UQ P,Vp P,Vc P,Qu P,Uo P,QD P,Ys P,U7 P,Ry P,NW P,Pj P,U8 P,R8 P,Yu P,Qz P,VX P,VW P,Qo P,O7 P,Wv P,W9 P,TX P,Ro P,WB P,Oh P,Xr P,Vs P,PK P,VG P,Rt P,Sw P,VQ P,Yl P,Q6 P,Vx P,PZ P,R6 P,VP P,Tc P,Xu P,Ud P,Ph P,QL P,Vr P,Yx P,Ws P,Te P,Uw P,Wh P,Vh P,Tq P,X5 P,PY P,Vz P,Q9 P,Ve P,Yc P,Vu P,RT P,QZ P,Ss P,UU P,Ug P,YW P,Wk P,Wa P,QY P,R3 P,RN P,WK P,o300 P,UZ P,VL P,Oq P,Rn P,Nj P,Wu P,W0 P,Rh P,V8 P,Tz P,SJ P,Yp P,Uh P,Tf P,OV P,Qa P,Rf P,Ux P,Yv P,Qv P,Oe P,Pn P,O6 P,SG P,Ol P,Xh P,Vm P,Vj P,TN P,Sh P,Ym P,TJ P,QJ P,Wq P,M8 P,XC P,OB P,OD P,Rx P,Pb P,Qk P,Rp P,Xj P,SX P,RB P,Ow P,Sy P,Ua P,VJ P,Xa P,Sv P,QS P,Pq P,VN P,Vv P,Pk P,Xb P,U4 P,PX P,TV P,Ub P,Xx P,SY P,Tw P,Pu P,WD P,Tp P,N6 P,XM P,QC P,Tn P,Vf P,O8 P,Ti P,X7 P,WV P,o377 P,Yg P,YZ P,XD P,Yy P,U3 P,Yz P,Vw P,RM P,M5 P,Vt P,Nk P,Q8 P,XU P,VD P,Wy P,PL P,NV P,R7 P,Qp P,YK P,Tv P,Wx P,o400 P,Uy P,YD P,Ql P,Q5 P,Ur P,Wj P,XE P,Rj P,Pg P,RP P,Oo P,XO P,V9 P,Nm P,OJ P,Qc P,Vq P,Nb P,W3 P,RG P,Ue P,OX P,N5 P,Qh P,Rz P,WZ P,NZ P,Qq P,WT P,UY P,X8 P,Wo P,Qg P,Ut P,TQ P,WH P]⟩,{}⟩
def K(P:Params):Frag:=(nat_lit 0,PySem.W.boot_o_0 P)::(nat_lit 1,PySem.W.boot_o_1 P)::(nat_lit 2,PySem.W.boot_o_2 P)::(nat_lit 3,o3 P)::(nat_lit 4,PySem.W.boot_o_4 P)::(nat_lit 5,PySem.W.boot_o_5 P)::(nat_lit 6,PySem.W.boot_o_6 P)::(nat_lit 7,PySem.W.boot_o_7 P)::(nat_lit 9,PySem.W.boot_o_9 P)::(nat_lit 10,PySem.W.boot_o_10 P)::(nat_lit 11,o11 P)::(nat_lit 12,o12 P)::(nat_lit 13,o13 P)::(nat_lit 14,o14 P)::(nat_lit 15,o15 P)::(nat_lit 22,o22 P)::(nat_lit 23,o23 P)::(nat_lit 24,o24 P)::(nat_lit 25,o25 P)::(nat_lit 28,o28 P)::(nat_lit 35,o35 P)::(nat_lit 36,o36 P)::(nat_lit 37,o37 P)::(nat_lit 40,o40 P)::(nat_lit 47,o47 P)::(nat_lit 48,o48 P)::(nat_lit 49,o49 P)::(nat_lit 52,o52 P)::(nat_lit 59,o59 P)::(nat_lit 60,o60 P)::(nat_lit 61,o61 P)::(nat_lit 64,o64 P)::(nat_lit 71,o71 P)::(nat_lit 72,o72 P)::(nat_lit 73,o73 P)::(nat_lit 76,o76 P)::(nat_lit 83,o83 P)::(nat_lit 84,o84 P)::(nat_lit 85,o85 P)::(nat_lit 88,o88 P)::(nat_lit 95,o95 P)::(nat_lit 96,o96 P)::(nat_lit 97,o97 P)::(nat_lit 100,o100 P)::(nat_lit 107,Vb P)::(nat_lit 108,UN P)::(nat_lit 109,V5 P)::(nat_lit 112,Ru P)::(nat_lit 119,SV P)::(nat_lit 120,SQ P)::(nat_lit 121,Wi P)::(nat_lit 124,Od P)::(nat_lit 126,NT P)::(nat_lit 127,Ng P)::(nat_lit 128,QH P)::(nat_lit 129,Uj P)::(nat_lit 130,PD P)::(nat_lit 131,SR P)::(nat_lit 133,QM P)::(nat_lit 134,R9 P)::(nat_lit 135,Nv P)::(nat_lit 136,Wn P)::(nat_lit 137,Ny P)::(nat_lit 138,VF P)::(nat_lit 140,Vd P)::(nat_lit 141,Oj P)::(nat_lit 142,Wz P)::(nat_lit 143,Uv P)::(nat_lit 144,Nz P)::(nat_lit 145,Sq P)::(nat_lit 147,OL P)::(nat_lit 148,U6 P)::(nat_lit 149,Sg P)::(nat_lit 150,RZ P)::(nat_lit 151,Sx P)::(nat_lit 152,NK P)::(nat_lit 154,VB P)::(nat_lit 155,NS P)::(nat_lit 156,U9 P)::(nat_lit 157,Pz P)::(nat_lit 158,Tt P)::(nat_lit 159,Ul P)::(nat_lit 161,Tr P)::(nat_lit 162,Wd P)::(nat_lit 163,PB P)::(nat_lit 164,Ov P)::(nat_lit 165,WG P)::(nat_lit 166,U0 P)::(nat_lit 168,Ox P)::(nat_lit 169,RV P)::(nat_lit 170,M7 P)::(nat_lit 171,V1 P)::(nat_lit 172,Ui P)::(nat_lit 173,U5 P)::(nat_lit 175,Rk P)::(nat_lit 176,Wt P)::(nat_lit 177,Np P)::(nat_lit 178,Pr P)::(nat_lit 179,Ni P)::(nat_lit 180,Og P)::(nat_lit 182,Nx P)::(nat_lit 183,Pa P)::(nat_lit 184,SN P)::(nat_lit 185,Qx P)::(nat_lit 186,QX P)::(nat_lit 187,Qs P)::(nat_lit 189,RQ P)::(nat_lit 190,TY P)::(nat_lit 191,Sd P)::(nat_lit 192,VZ P)::(nat_lit 193,Wc P)::(nat_lit 194,UJ P)::(nat_lit 196,UG P)::(nat_lit 197,Nt P)::(nat_lit 198,NP P)::(nat_lit 199,Qy P)::(nat_lit 201,Qm P)::(nat_lit 202,QF P)::(nat_lit 203,Qw P)::(nat_lit 204,V2 P)::(nat_lit 205,RJ P)::(nat_lit 206,Ww P)::(nat_lit 208,Qj P)::(nat_lit 209,Vk P)::(nat_lit 210,UC P)::(nat_lit 211,Rq P)::(nat_lit 213,PV P)::(nat_lit 214,Vl P)::(nat_lit 215,QB P)::(nat_lit 216,M6 P)::(nat_lit 218,Nh P)::(nat_lit 219,RH P)::(nat_lit 220,Rv P)::(nat_lit 221,RX P)::(nat_lit 223,WQ P)::(nat_lit 224,Ou P)::(nat_lit 225,Oi P)::(nat_lit 226,Vg P)::(nat_lit 227,Td P)::(nat_lit 228,Va P)::(nat_lit 230,UQ P)::(nat_lit 231,Vp P)::(nat_lit 232,Vc P)::(nat_lit 233,Qu P)::(nat_lit 234,Uo P)::(nat_lit 235,QD P)::(nat_lit 237,U7 P)::(nat_lit 238,Ry P)::(nat_lit 239,NW P)::(nat_lit 240,Pj P)::(nat_lit 241,U8 P)::(nat_lit 242,R8 P)::(nat_lit 244,Qz P)::(nat_lit 245,VX P)::(nat_lit 246,VW P)::(nat_lit 247,Qo P)::(nat_lit 248,O7 P)::(nat_lit 249,Wv P)::(nat_lit 251,TX P)::(nat_lit 252,Ro P)::(nat_lit 253,WB P)::(nat_lit 254,Oh P)::(nat_lit 256,Vs P)::(nat_lit 257,PK P)::(nat_lit 258,VG P)::(nat_lit 259,Rt P)::(nat_lit 260,Sw P)::(nat_lit 261,VQ P)::(nat_lit 263,Q6 P)::(nat_lit 264,Vx P)::(nat_lit 265,PZ P)::(nat_lit 266,R6 P)::(nat_lit 267,VP P)::(nat_lit 268,Tc P)::(nat_lit 270,Ud P)::(nat_lit 271,Ph P)::(nat_lit 272,QL P)::(nat_lit 273,Vr P)::(nat_lit 275,Ws P)::(nat_lit 276,Te P)::(nat_lit 277,Uw P)::(nat_lit 278,Wh P)::(nat_lit 279,Vh P)::(nat_lit 280,Tq P)::(nat_lit 282,PY P)::(nat_lit 283,Vz P)::(nat_lit 284,Q9 P)::(nat_lit 285,Ve P)::(nat_lit 287,Vu P)::(nat_lit 288,RT P)::(nat_lit 289,QZ P)::(nat_lit 290,Ss P)::(nat_lit 291,UU P)::(nat_lit 292,Ug P)::(nat_lit 294,Wk P)::(nat_lit 295,Wa P)::(nat_lit 296,QY P)::(nat_lit 297,R3 P)::(nat_lit 298,RN P)::(nat_lit 299,WK P)::(nat_lit 301,UZ P)::(nat_lit 302,VL P)::(nat_lit 303,Oq P)::(nat_lit 304,Rn P)::(nat_lit 305,Nj P)::(nat_lit 306,Wu P)::(nat_lit 308,Rh P)::(nat_lit 309,V8 P)::(nat_lit 310,Tz P)::(nat_lit 311,SJ P)::(nat_lit 313,Uh P)::(nat_lit 314,Tf P)::(nat_lit 315,OV P)::(nat_lit 316,Qa P)::(nat_lit 317,Rf P)::(nat_lit 318,Ux P)::(nat_lit 320,Qv P)::(nat_lit 321,Oe P)::(nat_lit 322,Pn P)::(nat_lit 323,O6 P)::(nat_lit 324,SG P)::(nat_lit 325,Ol P)::(nat_lit 327,Vm P)::(nat_lit 328,Vj P)::(nat_lit 329,TN P)::(nat_lit 330,Sh P)::(nat_lit 332,TJ P)::(nat_lit 333,QJ P)::(nat_lit 334,Wq P)::(nat_lit 335,M8 P)::(nat_lit 337,OB P)::(nat_lit 338,OD P)::(nat_lit 339,Rx P)::(nat_lit 340,Pb P)::(nat_lit 341,Qk P)::(nat_lit 342,Rp P)::(nat_lit 344,SX P)::(nat_lit 345,RB P)::(nat_lit 346,Ow P)::(nat_lit 347,Sy P)::(nat_lit 348,Ua P)::(nat_lit 349,VJ P)::(nat_lit 351,Sv P)::(nat_lit 352,QS P)::(nat_lit 353,Pq P)::(nat_lit 354,VN P)::(nat_lit 355,Vv P)::(nat_lit 356,Pk P)::(nat_lit 358,U4 P)::(nat_lit 359,PX P)::(nat_lit 360,TV P)::(nat_lit 361,Ub P)::(nat_lit 363,SY P)::(nat_lit 364,Tw P)::(nat_lit 365,Pu P)::(nat_lit 366,WD P)::(nat_lit 367,Tp P)::(nat_lit 368,N6 P)::(nat_lit 370,QC P)::(nat_lit 371,Tn P)::(nat_lit 372,Vf P)::(nat_lit 373,O8 P)::(nat_lit 374,Ti P)::(nat_lit 382,U3 P)::(nat_lit 384,Vw P)::(nat_lit 385,RM P)::(nat_lit 386,M5 P)::(nat_lit 387,Vt P)::(nat_lit 388,Nk P)::(nat_lit 389,Q8 P)::(nat_lit 391,VD P)::(nat_lit 392,Wy P)::(nat_lit 393,PL P)::(nat_lit 394,NV P)::(nat_lit 395,R7 P)::(nat_lit 396,Qp P)::(nat_lit 398,Tv P)::(nat_lit 399,Wx P)::(nat_lit 400,o400 P)::(nat_lit 401,Uy P)::(nat_lit 403,Ql P)::(nat_lit 404,Q5 P)::(nat_lit 405,Ur P)::(nat_lit 406,Wj P)::(nat_lit 408,Rj P)::(nat_lit 409,Pg P)::(nat_lit 410,RP P)::(nat_lit 411,Oo P)::(nat_lit 413,V9 P)::(nat_lit 414,Nm P)::(nat_lit 415,OJ P)::(nat_lit 416,Qc P)::(nat_lit 417,Vq P)::(nat_lit 418,Nb P)::(nat_lit 420,RG P)::(nat_lit 421,Ue P)::(nat_lit 422,OX P)::(nat_lit 423,N5 P)::(nat_lit 424,Qh P)::(nat_lit 425,Rz P)::(nat_lit 427,NZ P)::(nat_lit 428,Qq P)::(nat_lit 429,WT P)::(nat_lit 430,UY P)::(nat_lit 432,Wo P)::(nat_lit 433,Qg P)::(nat_lit 434,Ut P)::(nat_lit 435,TQ P)::(nat_lit 436,WH P)::[]
def as:List Nat:=[nat_lit 0,nat_lit 1,nat_lit 2,nat_lit 3,nat_lit 4,nat_lit 5,nat_lit 6,nat_lit 7,nat_lit 9,nat_lit 10,nat_lit 11,nat_lit 12,nat_lit 13,nat_lit 14,nat_lit 15,nat_lit 22,nat_lit 23,nat_lit 24,nat_lit 25,nat_lit 28,nat_lit 35,nat_lit 36,nat_lit 37,nat_lit 40,nat_lit 47,nat_lit 48,nat_lit 49,nat_lit 52,nat_lit 59,nat_lit 60,nat_lit 61,nat_lit 64,nat_lit 71,nat_lit 72,nat_lit 73,nat_lit 76,nat_lit 83,nat_lit 84,nat_lit 85,nat_lit 88,nat_lit 95,nat_lit 96,nat_lit 97,nat_lit 100,nat_lit 107,nat_lit 108,nat_lit 109,nat_lit 112,nat_lit 119,nat_lit 120,nat_lit 121,nat_lit 124,nat_lit 126,nat_lit 127,nat_lit 128,nat_lit 129,nat_lit 130,nat_lit 131,nat_lit 133,nat_lit 134,nat_lit 135,nat_lit 136,nat_lit 137,nat_lit 138,nat_lit 140,nat_lit 141,nat_lit 142,nat_lit 143,nat_lit 144,nat_lit 145,nat_lit 147,nat_lit 148,nat_lit 149,nat_lit 150,nat_lit 151,nat_lit 152,nat_lit 154,nat_lit 155,nat_lit 156,nat_lit 157,nat_lit 158,nat_lit 159,nat_lit 161,nat_lit 162,nat_lit 163,nat_lit 164,nat_lit 165,nat_lit 166,nat_lit 168,nat_lit 169,nat_lit 170,nat_lit 171,nat_lit 172,nat_lit 173,nat_lit 175,nat_lit 176,nat_lit 177,nat_lit 178,nat_lit 179,nat_lit 180,nat_lit 182,nat_lit 183,nat_lit 184,nat_lit 185,nat_lit 186,nat_lit 187,nat_lit 189,nat_lit 190,nat_lit 191,nat_lit 192,nat_lit 193,nat_lit 194,nat_lit 196,nat_lit 197,nat_lit 198,nat_lit 199,nat_lit 201,nat_lit 202,nat_lit 203,nat_lit 204,nat_lit 205,nat_lit 206,nat_lit 208,nat_lit 209,nat_lit 210,nat_lit 211,nat_lit 213,nat_lit 214,nat_lit 215,nat_lit 216,nat_lit 218,nat_lit 219,nat_lit 220,nat_lit 221,nat_lit 223,nat_lit 224,nat_lit 225,nat_lit 226,nat_lit 227,nat_lit 228,nat_lit 230,nat_lit 231,nat_lit 232,nat_lit 233,nat_lit 234,nat_lit 235,nat_lit 237,nat_lit 238,nat_lit 239,nat_lit 240,nat_lit 241,nat_lit 242,nat_lit 244,nat_lit 245,nat_lit 246,nat_lit 247,nat_lit 248,nat_lit 249,nat_lit 251,nat_lit 252,nat_lit 253,nat_lit 254,nat_lit 256,nat_lit 257,nat_lit 258,nat_lit 259,nat_lit 260,nat_lit 261,nat_lit 263,nat_lit 264,nat_lit 265,nat_lit 266,nat_lit 267,nat_lit 268,nat_lit 270,nat_lit 271,nat_lit 272,nat_lit 273,nat_lit 275,nat_lit 276,nat_lit 277,nat_lit 278,nat_lit 279,nat_lit 280,nat_lit 282,nat_lit 283,nat_lit 284,nat_lit 285,nat_lit 287,nat_lit 288,nat_lit 289,nat_lit 290,nat_lit 291,nat_lit 292,nat_lit 294,nat_lit 295,nat_lit 296,nat_lit 297,nat_lit 298,nat_lit 299,nat_lit 301,nat_lit 302,nat_lit 303,nat_lit 304,nat_lit 305,nat_lit 306,nat_lit 308,nat_lit 309,nat_lit 310,nat_lit 311,nat_lit 313,nat_lit 314,nat_lit 315,nat_lit 316,nat_lit 317,nat_lit 318,nat_lit 320,nat_lit 321,nat_lit 322,nat_lit 323,nat_lit 324,nat_lit 325,nat_lit 327,nat_lit 328,nat_lit 329,nat_lit 330,nat_lit 332,nat_lit 333,nat_lit 334,nat_lit 335,nat_lit 337,nat_lit 338,nat_lit 339,nat_lit 340,nat_lit 341,nat_lit 342,nat_lit 344,nat_lit 345,nat_lit 346,nat_lit 347,nat_lit 348,nat_lit 349,nat_lit 351,nat_lit 352,nat_lit 353,nat_lit 354,nat_lit 355,nat_lit 356,nat_lit 358,nat_lit 359,nat_lit 360,nat_lit 361,nat_lit 363,nat_lit 364,nat_lit 365,nat_lit 366,nat_lit 367,nat_lit 368,nat_lit 370,nat_lit 371,nat_lit 372,nat_lit 373,nat_lit 374,nat_lit 382,nat_lit 384,nat_lit 385,nat_lit 386,nat_lit 387,nat_lit 388,nat_lit 389,nat_lit 391,nat_lit 392,nat_lit 393,nat_lit 394,nat_lit 395,nat_lit 396,nat_lit 398,nat_lit 399,nat_lit 400,nat_lit 401,nat_lit 403,nat_lit 404,nat_lit 405,nat_lit 406,nat_lit 408,nat_lit 409,nat_lit 410,nat_lit 411,nat_lit 413,nat_lit 414,nat_lit 415,nat_lit 416,nat_lit 417,nat_lit 418,nat_lit 420,nat_lit 421,nat_lit 422,nat_lit 423,nat_lit 424,nat_lit 425,nat_lit 427,nat_lit 428,nat_lit 429,nat_lit 430,nat_lit 432,nat_lit 433,nat_lit 434,nat_lit 435,nat_lit 436]
def cut(n:Nat)(t:BT):Nat->Nat->BT:=BT.rec (motive:=fun _=>Nat->Nat->BT) (fun _ _=> .nil) (fun v _ _ l r a b=>cond (Nat.blt b n) (.node v (l (Nat.mul 2 a) (Nat.add a b)) (r (Nat.mul 2 a) (Nat.add (Nat.mul 2 a) b))) .nil) t
def HA(P:Params):Heap:=⟨⟨[PySem.W.boot_o_0 P,PySem.W.boot_o_1 P,PySem.W.boot_o_2 P,PySem.W.boot_o_3 P,PySem.W.boot_o_4 P,PySem.W.boot_o_5 P,PySem.W.boot_o_6 P,PySem.W.boot_o_7 P,PySem.W.boot_o_8 P,PySem.W.boot_o_9 P,PySem.W.boot_o_10 P,o11 P,Mg P,o13 P,o14 P]⟩,{}⟩
def SA(w:World)(os:OsState):Shared:=⟨HA w.params,⟨[]⟩,{},187,os⟩
def T1(P:Params):BT:=((cut 15 (TF P) 1 0).set 3 fun _=>PySem.W.boot_o_3 P).set 12 fun _=>Mg P
def S1(w:World)(os:OsState):SharedT:=⟨T1 w.params,15,{},⟨[]⟩,{},187,os⟩
def T2(P:Params):BT:=(((cut 28 (TF P) 1 0).set 3 fun _=>Y0 P).set 12 fun _=>Ri P).set 24 fun _=>Wg P
def S2(w:World)(os:OsState):SharedT:=⟨T2 w.params,28,{},⟨[]⟩,{},207,os⟩
def T3(P:Params):BT:=(((cut 40 (TF P) 1 0).set 3 fun _=>Zy P).set 12 fun _=>QW P).set 24 fun _=>Oz P
def S3(w:World)(os:OsState):SharedT:=⟨T3 w.params,40,{},⟨[]⟩,{},223,os⟩
def T4(P:Params):BT:=(((cut 52 (TF P) 1 0).set 3 fun _=>ZD P).set 12 fun _=>WM P).set 24 fun _=>Rb P
def S4(w:World)(os:OsState):SharedT:=⟨T4 w.params,52,{},⟨[]⟩,{},239,os⟩
def T5(P:Params):BT:=(((cut 64 (TF P) 1 0).set 3 fun _=>Qi P).set 12 fun _=>KQ P).set 24 fun _=>Ml P
def S5(w:World)(os:OsState):SharedT:=⟨T5 w.params,64,{},⟨[]⟩,{},255,os⟩
def T6(P:Params):BT:=(((cut 76 (TF P) 1 0).set 3 fun _=>Uu P).set 12 fun _=>MG P).set 24 fun _=>Ld P
def S6(w:World)(os:OsState):SharedT:=⟨T6 w.params,76,{},⟨[]⟩,{},271,os⟩
def T7(P:Params):BT:=(((cut 88 (TF P) 1 0).set 3 fun _=>UW P).set 12 fun _=>KH P).set 24 fun _=>LZ P
def S7(w:World)(os:OsState):SharedT:=⟨T7 w.params,88,{},⟨[]⟩,{},287,os⟩
def T8(P:Params):BT:=(((cut 100 (TF P) 1 0).set 3 fun _=>WR P).set 12 fun _=>Lg P).set 24 fun _=>Kq P
def S8(w:World)(os:OsState):SharedT:=⟨T8 w.params,100,{},⟨[]⟩,{},303,os⟩
def T9(P:Params):BT:=(((cut 112 (TF P) 1 0).set 3 fun _=>Ra P).set 12 fun _=>Mu P).set 24 fun _=>Lp P
def S9(w:World)(os:OsState):SharedT:=⟨T9 w.params,112,{},⟨[]⟩,{},319,os⟩
def T10(P:Params):BT:=((cut 159 (TF P) 1 0).set 3 fun _=>QG P).set 12 fun _=>KC P
def S10(w:World)(os:OsState):SharedT:=⟨T10 w.params,159,{},⟨[]⟩,{},385,os⟩
def T11(P:Params):BT:=((cut 235 (TF P) 1 0).set 3 fun _=>Qf P).set 12 fun _=>MP P
def S11(w:World)(os:OsState):SharedT:=⟨T11 w.params,235,{},⟨[]⟩,{},505,os⟩
def T12(P:Params):BT:=((cut 311 (TF P) 1 0).set 3 fun _=>Ob P).set 12 fun _=>JZ P
def S12(w:World)(os:OsState):SharedT:=⟨T12 w.params,311,{},⟨[]⟩,{},606,os⟩
def T13(P:Params):BT:=((cut 396 (TF P) 1 0).set 3 fun _=>Uz P).set 12 fun _=>Kz P
def S13(w:World)(os:OsState):SharedT:=⟨T13 w.params,396,{},⟨[]⟩,{},716,os⟩
def T14(P:Params):BT:=cut 437 (TF P) 1 0
def S14(w:World)(os:OsState):SharedT:=⟨T14 w.params,437,{},⟨[]⟩,{},781,os⟩
def SF(w:World)(os:OsState):Shared:=⟨HF w.params,⟨[]⟩,{},781,os⟩
def ann:Option Value:=some (.ref 6)
def env:Env:={ scope:=pwL.main.scope,locals:=mainNs,globals:=mainNs,cells:=[],code:= .ref 13,frame:=some 14 }
def cE:Code:= .body (behindTheImports pwL) env
abbrev BB:List Frame:=[topFrame ⟨0,0,0,0⟩]
def q:Program:={ pwL with main:={ pwL.main with body:=[topF 1,topF 2,topF 3,topF 4,topF 5,topF 6,topF 7,topF 8,topF 9,topF 11,topF 12,topF 13,topF 14,topF 16,topF 17,topF 18,topF 19,topF 21,topF 22,topF 23,topF 24,topF 25,topF 26,topF 27,topF 29,topF 30,topF 31,topF 33,topF 34,topF 35,topF 36,topF 37,topF 38,topF 39,topF 40,topF 42,topF 43,topF 44,topF 46,topF 47,topF 48,topF 49,topF 50,topF 51,topF 52,topF 53,topF 54,topF 55,topF 57,topF 58,topF 59,topF 60,topF 61,topF 62,topF 63,topF 64,topF 65,topF 66,topF 67,topF 68] } }
theorem warm2:((fun(_:Env) (_:Code) (_:Program)=>true) env cE q)=true:=by k_qdec
theorem a0:@segRunT=PySem.W.Fast.tw10110043849684766642:=PySem.W.Fast.te10110043849684766642
theorem a1:@treeTable=PySem.W.Fast.tw14364793385576792824:=PySem.W.Fast.te14364793385576792824
theorem a2:@topGo=PySem.W.Fast.tw15667345088766844465:=PySem.W.Fast.te15667345088766844465
theorem a3:@topRun=PySem.W.Fast.tw14082659384304107361:=PySem.W.Fast.te14082659384304107361
theorem a4:@segRun=PySem.W.Fast.tw14374325043358763698:=PySem.W.Fast.te14374325043358763698
theorem a5:@denote=PySem.W.Fast.tw11892475500146522536:=PySem.W.Fast.te11892475500146522536
theorem a6:@cE=PySem.W.Fast.tw10398764989302131046:=PySem.W.Fast.te10398764989302131046
theorem a7:@env=PySem.W.Fast.tw18373599770314350165:=PySem.W.Fast.te18373599770314350165
theorem a8:@q=PySem.W.Fast.tw18256012922466448709:=PySem.W.Fast.te18256012922466448709
theorem a9:@pwL=PySem.W.Fast.tw11753578407564087281:=PySem.W.Fast.te11753578407564087281
theorem a10:@topF=PySem.W.Fast.tw15049585217503352139:=PySem.W.Fast.te15049585217503352139
theorem a11:@importedModules=PySem.W.Fast.tw5923862056798008813:=PySem.W.Fast.te5923862056798008813
theorem a12:@openSeen=PySem.W.Fast.tw4187177175401517315:=PySem.W.Fast.te4187177175401517315
theorem a13:@Heap.nsMap=PySem.W.Fast.tw8920871248978507458:=PySem.W.Fast.te8920871248978507458
set_option maxHeartbeats 0
theorem pre(w:World)(os:OsState):topGo treeTable pwL w 11 ann 12 ⟨boot_heap w.params,⟨[]⟩,boot_drawn,boot_toks,os⟩ (topStub pwL)=some (SA w os,⟨denote treeTable cE,cE,⟨0,0,0,0⟩,BB⟩):=by
 (try rw[a0]);(try rw[a1]);(try rw[a2]);(try rw[a3]);(try rw[a4]);(try rw[a5]);(try rw[a6]);(try rw[a7]);(try rw[a8]);(try rw[a9]);(try rw[a10]);kernel_rfl
theorem blk(w:World)(os:OsState):segRun treeTable pwL w 11 ann 1 1 (SA w os) (blockOf (behindTheImports pwL) env cE ⟨0,0,0,0⟩ BB)=some (.next,(S1 w os).abs,cE,⟨0,0,0,0⟩):=by
 (try rw[a0]);(try rw[a1]);(try rw[a2]);(try rw[a3]);(try rw[a4]);(try rw[a5]);(try rw[a6]);(try rw[a7]);(try rw[a8]);(try rw[a9]);(try rw[a10]);kernel_rfl
abbrev c1:List Stmt:=[topF 0,topF 1]
theorem p1(w:World)(os:OsState):segRunT treeTable pwL w 11 ann 1 196 (S1 w os) (piecesOf c1 env cE ⟨0,0,0,0⟩ BB)=some (.next,S2 w os,cE,⟨2,0,3,8⟩):=by
 unfold c1;(try rw[a0]);(try rw[a1]);(try rw[a2]);(try rw[a3]);(try rw[a4]);(try rw[a5]);(try rw[a6]);(try rw[a7]);(try rw[a8]);(try rw[a9]);(try rw[a10]);kernel_rfl
abbrev c2:List Stmt:=[topF 2]
theorem p2(w:World)(os:OsState):segRunT treeTable pwL w 11 ann 1 214 (S2 w os) (piecesOf c2 env cE ⟨2,0,3,8⟩ BB)=some (.next,S3 w os,cE,⟨4,0,5,8⟩):=by
 unfold c2;(try rw[a0]);(try rw[a1]);(try rw[a2]);(try rw[a3]);(try rw[a4]);(try rw[a5]);(try rw[a6]);(try rw[a7]);(try rw[a8]);(try rw[a9]);(try rw[a10]);kernel_rfl
abbrev c3:List Stmt:=[topF 3]
theorem p3(w:World)(os:OsState):segRunT treeTable pwL w 11 ann 1 214 (S3 w os) (piecesOf c3 env cE ⟨4,0,5,8⟩ BB)=some (.next,S4 w os,cE,⟨6,0,7,8⟩):=by
 unfold c3;(try rw[a0]);(try rw[a1]);(try rw[a2]);(try rw[a3]);(try rw[a4]);(try rw[a5]);(try rw[a6]);(try rw[a7]);(try rw[a8]);(try rw[a9]);(try rw[a10]);kernel_rfl
abbrev c4:List Stmt:=[topF 4]
theorem p4(w:World)(os:OsState):segRunT treeTable pwL w 11 ann 1 214 (S4 w os) (piecesOf c4 env cE ⟨6,0,7,8⟩ BB)=some (.next,S5 w os,cE,⟨8,0,9,8⟩):=by
 unfold c4;(try rw[a0]);(try rw[a1]);(try rw[a2]);(try rw[a3]);(try rw[a4]);(try rw[a5]);(try rw[a6]);(try rw[a7]);(try rw[a8]);(try rw[a9]);(try rw[a10]);kernel_rfl
abbrev c5:List Stmt:=[topF 5]
theorem p5(w:World)(os:OsState):segRunT treeTable pwL w 11 ann 1 214 (S5 w os) (piecesOf c5 env cE ⟨8,0,9,8⟩ BB)=some (.next,S6 w os,cE,⟨10,0,11,8⟩):=by
 unfold c5;(try rw[a0]);(try rw[a1]);(try rw[a2]);(try rw[a3]);(try rw[a4]);(try rw[a5]);(try rw[a6]);(try rw[a7]);(try rw[a8]);(try rw[a9]);(try rw[a10]);kernel_rfl
abbrev c6:List Stmt:=[topF 6]
theorem p6(w:World)(os:OsState):segRunT treeTable pwL w 11 ann 1 214 (S6 w os) (piecesOf c6 env cE ⟨10,0,11,8⟩ BB)=some (.next,S7 w os,cE,⟨12,0,13,8⟩):=by
 unfold c6;(try rw[a0]);(try rw[a1]);(try rw[a2]);(try rw[a3]);(try rw[a4]);(try rw[a5]);(try rw[a6]);(try rw[a7]);(try rw[a8]);(try rw[a9]);(try rw[a10]);kernel_rfl
abbrev c7:List Stmt:=[topF 7]
theorem p7(w:World)(os:OsState):segRunT treeTable pwL w 11 ann 1 214 (S7 w os) (piecesOf c7 env cE ⟨12,0,13,8⟩ BB)=some (.next,S8 w os,cE,⟨14,0,15,8⟩):=by
 unfold c7;(try rw[a0]);(try rw[a1]);(try rw[a2]);(try rw[a3]);(try rw[a4]);(try rw[a5]);(try rw[a6]);(try rw[a7]);(try rw[a8]);(try rw[a9]);(try rw[a10]);kernel_rfl
abbrev c8:List Stmt:=[topF 8]
theorem p8(w:World)(os:OsState):segRunT treeTable pwL w 11 ann 1 214 (S8 w os) (piecesOf c8 env cE ⟨14,0,15,8⟩ BB)=some (.next,S9 w os,cE,⟨16,0,17,8⟩):=by
 unfold c8;(try rw[a0]);(try rw[a1]);(try rw[a2]);(try rw[a3]);(try rw[a4]);(try rw[a5]);(try rw[a6]);(try rw[a7]);(try rw[a8]);(try rw[a9]);(try rw[a10]);kernel_rfl
abbrev c9:List Stmt:=[topF 9,topF 10,topF 11,topF 12,topF 13,topF 14,topF 15,topF 16,topF 17]
theorem p9(w:World)(os:OsState):segRunT treeTable pwL w 11 ann 1 395 (S9 w os) (piecesOf c9 env cE ⟨16,0,17,8⟩ BB)=some (.next,S10 w os,cE,⟨52,0,55,17⟩):=by
 unfold c9;(try rw[a0]);(try rw[a1]);(try rw[a2]);(try rw[a3]);(try rw[a4]);(try rw[a5]);(try rw[a6]);(try rw[a7]);(try rw[a8]);(try rw[a9]);(try rw[a10]);kernel_rfl
abbrev c10:List Stmt:=[topF 18,topF 19,topF 20,topF 21,topF 22,topF 23,topF 24,topF 25,topF 26,topF 27,topF 28,topF 29,topF 30,topF 31,topF 32]
theorem p10(w:World)(os:OsState):segRunT treeTable pwL w 11 ann 1 398 (S10 w os) (piecesOf c10 env cE ⟨52,0,55,17⟩ BB)=some (.next,S11 w os,cE,⟨126,0,126,8⟩):=by
 unfold c10;(try rw[a0]);(try rw[a1]);(try rw[a2]);(try rw[a3]);(try rw[a4]);(try rw[a5]);(try rw[a6]);(try rw[a7]);(try rw[a8]);(try rw[a9]);(try rw[a10]);kernel_rfl
abbrev c11:List Stmt:=[topF 33,topF 34,topF 35,topF 36,topF 37,topF 38,topF 39,topF 40,topF 41,topF 42,topF 43,topF 44,topF 45,topF 46,topF 47]
theorem p11(w:World)(os:OsState):segRunT treeTable pwL w 11 ann 1 379 (S11 w os) (piecesOf c11 env cE ⟨126,0,126,8⟩ BB)=some (.next,S12 w os,cE,⟨185,0,188,51⟩):=by
 unfold c11;(try rw[a0]);(try rw[a1]);(try rw[a2]);(try rw[a3]);(try rw[a4]);(try rw[a5]);(try rw[a6]);(try rw[a7]);(try rw[a8]);(try rw[a9]);(try rw[a10]);kernel_rfl
abbrev c12:List Stmt:=[topF 48,topF 49,topF 50,topF 51,topF 52,topF 53,topF 54,topF 55,topF 56,topF 57,topF 58,topF 59,topF 60,topF 61]
theorem p12(w:World)(os:OsState):segRunT treeTable pwL w 11 ann 1 398 (S12 w os) (piecesOf c12 env cE ⟨185,0,188,51⟩ BB)=some (.next,S13 w os,cE,⟨236,0,239,135⟩):=by
 unfold c12;(try rw[a0]);(try rw[a1]);(try rw[a2]);(try rw[a3]);(try rw[a4]);(try rw[a5]);(try rw[a6]);(try rw[a7]);(try rw[a8]);(try rw[a9]);(try rw[a10]);kernel_rfl
abbrev c13:List Stmt:=[topF 62,topF 63,topF 64,topF 65,topF 66,topF 67,topF 68]
theorem p13(w:World)(os:OsState):segRunT treeTable pwL w 11 ann 1 212 (S13 w os) (piecesOf c13 env cE ⟨236,0,239,135⟩ BB)=some (.next,S14 w os,cE,⟨288,0,311,91⟩):=by
 unfold c13;(try rw[a0]);(try rw[a1]);(try rw[a2]);(try rw[a3]);(try rw[a4]);(try rw[a5]);(try rw[a6]);(try rw[a7]);(try rw[a8]);(try rw[a9]);(try rw[a10]);kernel_rfl
theorem fin(w:World)(os:OsState):topRun treeTable pwL w 11 ann 2 (S14 w os).abs ⟨doneF .next,cE,⟨288,0,311,91⟩,BB⟩=some (SF w os):=by
 (try rw[a0]);(try rw[a1]);(try rw[a2]);(try rw[a3]);(try rw[a4]);(try rw[a5]);(try rw[a6]);(try rw[a7]);(try rw[a8]);(try rw[a9]);(try rw[a10]);kernel_rfl
theorem body:behindTheImports pwL=c1++(c2++(c3++(c4++(c5++(c6++(c7++(c8++(c9++(c10++(c11++(c12++(c13++([]))))))))))))):=by
 (try rw[a6]);(try rw[a7]);(try rw[a8]);(try rw[a9]);(try rw[a10]);kernel_rfl
theorem run(w:World)(os:OsState):topRun treeTable pwL w 11 ann (12+(1+(196+(214+(214+(214+(214+(214+(214+(214+(395+(398+(379+(398+(212+(2)))))))))))))))) ⟨boot_heap w.params,⟨[]⟩,boot_drawn,boot_toks,os⟩ (topStub pwL)=some (SF w os):=
 go_top (pre w os) (piece_block (blk w os) (by rw[body];exact piece_app (segRun_of (p1 w os)) (piece_app (segRun_of (p2 w os)) (piece_app (segRun_of (p3 w os)) (piece_app (segRun_of (p4 w os)) (piece_app (segRun_of (p5 w os)) (piece_app (segRun_of (p6 w os)) (piece_app (segRun_of (p7 w os)) (piece_app (segRun_of (p8 w os)) (piece_app (segRun_of (p9 w os)) (piece_app (segRun_of (p10 w os)) (piece_app (segRun_of (p11 w os)) (piece_app (segRun_of (p12 w os)) (piece_app (segRun_of (p13 w os)) (piece_nil (fin w os))))))))))))))))
theorem size(w:World):((boot_heap w.params).isNs mainGlobals&&(Array.mk ([]:List GenState)).size==0,(boot_heap w.params).objs.size,(boot_heap w.params).nsMap mainGlobals "__annotations__")=(true,11,ann):=by
 (try rw[a11]);(try rw[a12]);(try rw[a13]);kernel_rfl
abbrev Xt(s:Shared):Bool:=xlAt q [] s&&recOk [] s
theorem lk1(w:World)(os:OsState):(staticsOk (importedModules pwL.main.body) (boot_heap w.params) (HF w.params)&&namesBound pwL (HF w.params)&&gensDone (SF w os)&&laidKept (boot_heap w.params) (HF w.params))=true:=by
 (try rw[a11]);(try rw[a12]);(try rw[a13]);(try rw[a6]);(try rw[a7]);(try rw[a8]);(try rw[a9]);(try rw[a10]);kernel_rfl
theorem lk2(w:World)(os:OsState):openSeen q [] (importedModules pwL.main.body) Xt true (SF w os)=openGood q []:=by
 (try rw[a11]);(try rw[a12]);(try rw[a13]);(try rw[a6]);(try rw[a7]);(try rw[a8]);(try rw[a9]);(try rw[a10]);kernel_rfl
theorem lk3(w:World)(os:OsState):PySem.W.X.obsZ as (SF w os)=PySem.W.X.valZ K 437 781 w:=by
 (try rw[a11]);(try rw[a12]);(try rw[a13]);(try rw[a6]);(try rw[a7]);(try rw[a8]);(try rw[a9]);(try rw[a10]);kernel_rfl
theorem imports:opening pwL=plainProg pwL.main.scope.names:=by kernel_rfl
theorem left:LeftO pwL q [] Xt (PySem.W.X.obsZ as) (PySem.W.X.valZ K 437 781) 7052:=
 LeftO.of_pieces (boot_open imports (by rfl) (fun s=>by kernel_rfl)) size run (by rfl) fun w=>funext fun os=>looks_pair (lk1 w os) (looks_pair (lk2 w os) (lk3 w os))
end
end H
end K35
open PySem PySem.W PyProof.Rows
set_option maxRecDepth 100000 in
set_option maxHeartbeats 0 in
theorem PySem.Challenge.cw_nextbyrule_k35_mixes_refused_holds : PySem.Challenge.rw_nextbyrule_k35_mixes_refused.Holds := by
 change K35.rwL.Holds
 w_on;o_law;rename_i said
 refine holds_openX (d:=?d) (kwd:=?kwd) K35.H.left (fun s h=>xl_of s (Bool.and_eq_true_iff.mp h).1) XL.keeps (by rfl) (by rfl) (by rfl) (fun s h=>recFacts_of (Bool.and_eq_true_iff.mp h).2) (by rfl) said (by decide +kernel) ⟨rfl,rfl,rfl,rfl,rfl,by decide +kernel⟩ ?hw ?hc;case hw=>w_witness2
 k_fill
 refine L2.E8 (fun _=>by kernel_rfl) ?_;refine L2.FZ "_law_all" (l:=K35.rwL) (n:=63) (k:=K35.Vn) (x:= "_law_script") (CX:=fun w=>L2.jC K35.rwL.prog w) (sp:=fun _ T=>K35.C6 _ T) rfl (by decide) rfl ⟨rfl,by decide,by decide⟩ (fun w h Y=>Y) (by kernel_rfl) (fun _=>by kernel_rfl) ?F (fun w T H a ns hl hb hT hS=>⟨a,ns,rfl,hS,hl,hb,hT,fun _=>rfl⟩) (fun _ _ _ _ _ z=>L2.m8 z);case F=>
  intro w mg fa h KX G hmg
  refine' K35.all_mk KX G hmg ?F0 ?F1 ?F2 ?F3 ?F4 ?F5 ?F6 ?F7 ?F8 ?F9 ?F10 ?F11 ?F12 ?F13 ?F14 ?F15 ?F16 ?F17 ?F18 ?F19 ?F20 ?F21 ?F22 ?F23 ?F24 ?F25 ?F26 ?F27 ?F28 ?F29 ?F30 ?F31 ?F32 ?F33 ?F34 ?F35 ?F36 ?F37 ?F38 ?F39 ?F40 ?F41 ?F42 ?F43 ?F44 ?F45 ?F46 ?FL ?z_ValueError ?z_int ?z_isinstance ?z_len ?z_list ?z_max ?z_min ?z_range ?z_sum ?z_tuple ?g_BELOW_THE_PRIMES ?g_LONGEST ?n_NoBy ?n_NoName ?n_NoNumber ?n_NoRow ?n_NoText ?n_RuleError ?n_TooBig ?n_TooFar ?n_TooLong ?q_NoBy ?u_NoBy_RuleError ?v_NoBy_RuleError ?w1_NoBy ?w2_NoBy ?w3_NoBy ?w4_NoBy ?w5_NoBy ?w6_NoBy ?k_NoBy_NoBy ?k_NoBy_NoName ?k_NoBy_NoNumber ?k_NoBy_NoRow ?k_NoBy_NoText ?k_NoBy_RuleError ?k_NoBy_TooBig ?k_NoBy_TooFar ?k_NoBy_TooLong ?k_NoBy_ValueError ?q_TooLong ?u_TooLong_RuleError ?v_TooLong_RuleError ?w1_TooLong ?w2_TooLong ?w3_TooLong ?w4_TooLong ?w5_TooLong ?w6_TooLong ?k_TooLong_NoBy ?k_TooLong_NoName ?k_TooLong_NoNumber ?k_TooLong_NoRow ?k_TooLong_NoText ?k_TooLong_RuleError ?k_TooLong_TooBig ?k_TooLong_TooFar ?k_TooLong_TooLong ?k_TooLong_ValueError
  (case F0=>(refine' L2.bh ?a ?l ?c ?k;(case a=>k_is);(case l=>k_is);(case c=>k_is);(case k=>k_is)))
  (case F1=>(refine' L2.bh ?a ?l ?c ?k;(case a=>k_is);(case l=>k_is);(case c=>k_is);(case k=>k_is)))
  (case F2=>(refine' L2.bh ?a ?l ?c ?k;(case a=>k_is);(case l=>k_is);(case c=>k_is);(case k=>k_is)))
  (case F3=>(refine' L2.bh ?a ?l ?c ?k;(case a=>k_is);(case l=>k_is);(case c=>k_is);(case k=>k_is)))
  (case F4=>(refine' L2.bh ?a ?l ?c ?k;(case a=>k_is);(case l=>k_is);(case c=>k_is);(case k=>k_is)))
  (case F5=>(refine' L2.bh ?a ?l ?c ?k;(case a=>k_is);(case l=>k_is);(case c=>k_is);(case k=>k_is)))
  (case F6=>(refine' L2.bh ?a ?l ?c ?k;(case a=>k_is);(case l=>k_is);(case c=>k_is);(case k=>k_is)))
  (case F7=>(refine' L2.bh ?a ?l ?c ?k;(case a=>k_is);(case l=>k_is);(case c=>k_is);(case k=>k_is)))
  (case F8=>(refine' L2.bh ?a ?l ?c ?k;(case a=>k_is);(case l=>k_is);(case c=>k_is);(case k=>k_is)))
  (case F9=>(refine' L2.bh ?a ?l ?c ?k;(case a=>k_is);(case l=>k_is);(case c=>k_is);(case k=>k_is)))
  (case F10=>(refine' L2.bh ?a ?l ?c ?k;(case a=>k_is);(case l=>k_is);(case c=>k_is);(case k=>k_is)))
  (case F11=>(refine' L2.bh ?a ?l ?c ?k;(case a=>k_is);(case l=>k_is);(case c=>k_is);(case k=>k_is)))
  (case F12=>(refine' L2.bh ?a ?l ?c ?k;(case a=>k_is);(case l=>k_is);(case c=>k_is);(case k=>k_is)))
  (case F13=>(refine' L2.bh ?a ?l ?c ?k;(case a=>k_is);(case l=>k_is);(case c=>k_is);(case k=>k_is)))
  (case F14=>(refine' L2.bh ?a ?l ?c ?k;(case a=>k_is);(case l=>k_is);(case c=>k_is);(case k=>k_is)))
  (case F15=>(refine' L2.bh ?a ?l ?c ?k;(case a=>k_is);(case l=>k_is);(case c=>k_is);(case k=>k_is)))
  (case F16=>(refine' L2.bh ?a ?l ?c ?k;(case a=>k_is);(case l=>k_is);(case c=>k_is);(case k=>k_is)))
  (case F17=>(refine' L2.bh ?a ?l ?c ?k;(case a=>k_is);(case l=>k_is);(case c=>k_is);(case k=>k_is)))
  (case F18=>(refine' L2.bh ?a ?l ?c ?k;(case a=>k_is);(case l=>k_is);(case c=>k_is);(case k=>k_is)))
  (case F19=>(refine' L2.bh ?a ?l ?c ?k;(case a=>k_is);(case l=>k_is);(case c=>k_is);(case k=>k_is)))
  (case F20=>(refine' L2.bh ?a ?l ?c ?k;(case a=>k_is);(case l=>k_is);(case c=>k_is);(case k=>k_is)))
  (case F21=>(refine' L2.bh ?a ?l ?c ?k;(case a=>k_is);(case l=>k_is);(case c=>k_is);(case k=>k_is)))
  (case F22=>(refine' L2.bh ?a ?l ?c ?k;(case a=>k_is);(case l=>k_is);(case c=>k_is);(case k=>k_is)))
  (case F23=>(refine' L2.bh ?a ?l ?c ?k;(case a=>k_is);(case l=>k_is);(case c=>k_is);(case k=>k_is)))
  (case F24=>(refine' L2.bh ?a ?l ?c ?k;(case a=>k_is);(case l=>k_is);(case c=>k_is);(case k=>k_is)))
  (case F25=>(refine' L2.bh ?a ?l ?c ?k;(case a=>k_is);(case l=>k_is);(case c=>k_is);(case k=>k_is)))
  (case F26=>(refine' L2.bh ?a ?l ?c ?k;(case a=>k_is);(case l=>k_is);(case c=>k_is);(case k=>k_is)))
  (case F27=>(refine' L2.bh ?a ?l ?c ?k;(case a=>k_is);(case l=>k_is);(case c=>k_is);(case k=>k_is)))
  (case F28=>(refine' L2.bh ?a ?l ?c ?k;(case a=>k_is);(case l=>k_is);(case c=>k_is);(case k=>k_is)))
  (case F29=>(refine' L2.bh ?a ?l ?c ?k;(case a=>k_is);(case l=>k_is);(case c=>k_is);(case k=>k_is)))
  (case F30=>(refine' L2.bh ?a ?l ?c ?k;(case a=>k_is);(case l=>k_is);(case c=>k_is);(case k=>k_is)))
  (case F31=>(refine' L2.bh ?a ?l ?c ?k;(case a=>k_is);(case l=>k_is);(case c=>k_is);(case k=>k_is)))
  (case F32=>(refine' L2.bh ?a ?l ?c ?k;(case a=>k_is);(case l=>k_is);(case c=>k_is);(case k=>k_is)))
  (case F33=>(refine' L2.bh ?a ?l ?c ?k;(case a=>k_is);(case l=>k_is);(case c=>k_is);(case k=>k_is)))
  (case F34=>(refine' L2.bh ?a ?l ?c ?k;(case a=>k_is);(case l=>k_is);(case c=>k_is);(case k=>k_is)))
  (case F35=>(refine' L2.bh ?a ?l ?c ?k;(case a=>k_is);(case l=>k_is);(case c=>k_is);(case k=>k_is)))
  (case F36=>(refine' L2.bh ?a ?l ?c ?k;(case a=>k_is);(case l=>k_is);(case c=>k_is);(case k=>k_is)))
  (case F37=>(refine' L2.bh ?a ?l ?c ?k;(case a=>k_is);(case l=>k_is);(case c=>k_is);(case k=>k_is)))
  (case F38=>(refine' L2.bh ?a ?l ?c ?k;(case a=>k_is);(case l=>k_is);(case c=>k_is);(case k=>k_is)))
  (case F39=>(refine' L2.bh ?a ?l ?c ?k;(case a=>k_is);(case l=>k_is);(case c=>k_is);(case k=>k_is)))
  (case F40=>(refine' L2.bh ?a ?l ?c ?k;(case a=>k_is);(case l=>k_is);(case c=>k_is);(case k=>k_is)))
  (case F41=>(refine' L2.bh ?a ?l ?c ?k;(case a=>k_is);(case l=>k_is);(case c=>k_is);(case k=>k_is)))
  (case F42=>(refine' L2.bh ?a ?l ?c ?k;(case a=>k_is);(case l=>k_is);(case c=>k_is);(case k=>k_is)))
  (case F43=>(refine' L2.bh ?a ?l ?c ?k;(case a=>k_is);(case l=>k_is);(case c=>k_is);(case k=>k_is)))
  (case F44=>(refine' L2.bh ?a ?l ?c ?k;(case a=>k_is);(case l=>k_is);(case c=>k_is);(case k=>k_is)))
  (case F45=>(refine' L2.bh ?a ?l ?c ?k;(case a=>k_is);(case l=>k_is);(case c=>k_is);(case k=>k_is)))
  (case F46=>(refine' L2.bh ?a ?l ?c ?k;(case a=>k_is);(case l=>k_is);(case c=>k_is);(case k=>k_is)))
  (case FL=>(refine' L2.bh ?a ?l ?c ?k;(case a=>k_is);(case l=>k_is);(case c=>k_is);(case k=>k_is)))
  (case z_ValueError=>k_is)
  (case z_int=>k_is)
  (case z_isinstance=>k_is)
  (case z_len=>k_is)
  (case z_list=>k_is)
  (case z_max=>k_is)
  (case z_min=>k_is)
  (case z_range=>k_is)
  (case z_sum=>k_is)
  (case z_tuple=>k_is)
  (case g_BELOW_THE_PRIMES=>exact⟨_,by k_is⟩)
  (case g_LONGEST=>exact⟨_,by k_is⟩)
  (case n_NoBy=>k_is)
  (case n_NoName=>k_is)
  (case n_NoNumber=>k_is)
  (case n_NoRow=>k_is)
  (case n_NoText=>k_is)
  (case n_RuleError=>k_is)
  (case n_TooBig=>k_is)
  (case n_TooFar=>k_is)
  (case n_TooLong=>k_is)
  (case q_NoBy=>k_exc)
  (case u_NoBy_RuleError=>kernel_rfl)
  (case v_NoBy_RuleError=>kernel_rfl)
  (case w1_NoBy=>k_is)
  (case w2_NoBy=>k_is)
  (case w3_NoBy=>k_is)
  (case w4_NoBy=>k_is)
  (case w5_NoBy=>k_is)
  (case w6_NoBy=>kernel_rfl)
  (case k_NoBy_NoBy=>kit_is)
  (case k_NoBy_NoName=>kit_is)
  (case k_NoBy_NoNumber=>kit_is)
  (case k_NoBy_NoRow=>kit_is)
  (case k_NoBy_NoText=>kit_is)
  (case k_NoBy_RuleError=>kit_is)
  (case k_NoBy_TooBig=>kit_is)
  (case k_NoBy_TooFar=>kit_is)
  (case k_NoBy_TooLong=>kit_is)
  (case k_NoBy_ValueError=>kit_is)
  (case q_TooLong=>k_exc)
  (case u_TooLong_RuleError=>kernel_rfl)
  (case v_TooLong_RuleError=>kernel_rfl)
  (case w1_TooLong=>k_is)
  (case w2_TooLong=>k_is)
  (case w3_TooLong=>k_is)
  (case w4_TooLong=>k_is)
  (case w5_TooLong=>k_is)
  (case w6_TooLong=>kernel_rfl)
  (case k_TooLong_NoBy=>kit_is)
  (case k_TooLong_NoName=>kit_is)
  (case k_TooLong_NoNumber=>kit_is)
  (case k_TooLong_NoRow=>kit_is)
  (case k_TooLong_NoText=>kit_is)
  (case k_TooLong_RuleError=>kit_is)
  (case k_TooLong_TooBig=>kit_is)
  (case k_TooLong_TooFar=>kit_is)
  (case k_TooLong_TooLong=>kit_is)
  (case k_TooLong_ValueError=>kit_is)
