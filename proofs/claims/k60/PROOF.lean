import PyProof.Rows.All
import Wide.All
import OpenK.AllK
import Wide.FinOn
import Lean
import PyProof.EqAt
import PyProof.EqKinds
import PyProof.TupleCall
import PySem.Challenge.RW_nextbyrule_k60_whole_closed_forms
local macro_rules | `(tactic| omega)=>`(tactic| lia)
set_option Elab.async false
set_option linter.all false
set_option maxRecDepth 100000
noncomputable section
def aG:=@List.length_map
def dh:=@List.getD_eq_getElem?_getD
def aR:=@Int.mul_zero
def aN:=@Nat.le_refl
def dg:=@List.mem_cons_of_mem
def cP:=@List.mem_singleton
def eY:=@List.getElem?_eq_getElem
def cQ:=@List.mem_cons_self
def bN:=@Int.mul_assoc
def dY:=@Nat.add_sub_cancel
def cj:=@List.mem_cons
def bY:=@Int.mul_comm
def fJ:=@List.length_append
def fP:=@Bool.false_ne_true
def fG:=@List.size_toArray
def cM:=@List.mem_map
def dz:=@List.map_cons
def eV:=@List.mem_append
def cU:=@Int.add_zero
def cJ:=@Nat.zero_le
def fW:=@Int.toNat_natCast
def gj:=@Int.mul_left_comm
def gP:=@List.length_cons
def gR:=@List.not_mem_nil
def jF:=@List.mem_of_getElem?
def jG:=@List.mem_iff_getElem
def fj:=@List.map_map
def jd:=@Nat.lt_of_lt_of_le
def fU:=@Int.zero_mul
def jl:=@List.length_take
def fX:=@Nat.le_of_lt
def lW:=@Nat.mul_le_mul_right
def nZ:=@List.mem_append_right
def jq:=@List.map_append
def gC:=@Int.zero_add
def jV:=@List.getElem?_map
def nR:=@Int.emod_emod_of_dvd
def uE:=@PyProof.Rows.callWith_type1
def pO:=@List.take_of_length_le
def jh:=@Nat.mul_le_mul
def u9:=@List.eq_nil_of_length_eq_zero
def kE:=@List.take_length
def mX:=@List.mem_map_of_mem
def gZ:=@Int.pow_succ
def lJ:=@List.length_drop
def gM:=@Int.one_mul
def kI:=@Int.mul_eq_zero
def jg:=@List.sum_cons
def iT:=@Nat.le_trans
def gY:=@Int.mul_sub
def n8:=@Nat.lt_of_le_of_lt
def kW:=@List.mem_range
def uT:=@List.getElem?_eq_some_iff
def uJ:=@Classical.byContradiction
def jK:=@Nat.lt_irrefl
def iI:=@Int.mul_one
def yR:=@PyProof.Rows.slot_tuple_getitem
def mF:=@Nat.not_lt_zero
def ud:=@List.getElem?_eq_none
def qQ:=@List.length_reverse
def iW:=@Int.mul_add
def iY:=@Int.neg_mul
def rz:=@Int.emod_lt_of_pos
def oM:=@List.length_set
def mU:=@Int.natAbs_mul
def pX:=@List.mem_reverse
def qO:=@List.take_add_one
def qI:=@List.length_range
def uU:=@Nat.pow_le_pow_right
def kZ:=@Nat.ne_of_lt
def sG:=@Int.ofNat_dvd_left
def tX:=@Int.natAbs_natCast
def eG:=@Ne.symm
def qx:=@List.nodup_cons
def qC:=@Int.emod_nonneg
def vR:=@PySem.mem_of_lookup
def wj:=@List.map_congr_left
def vW:=@List.length_pos_iff
def vf:=@Nat.mul_le_mul_left
def mL:=@Int.mul_emod
def rJ:=@List.mem_filter
def Av:=@Int.dvd_of_emod_eq_zero
def tK:=@List.all_eq_true
def tH:=@List.any_eq_true
def nA:=@Int.dvd_refl
def mj:=@Int.sub_mul
def wz:=@List.filter_eq_self
def ur:=@Option.some.inj
def oG:=@Int.add_comm
def oB:=@Int.pow_zero
def oA:=@Int.zero_sub
def oR:=@PySem.W.mg_none_of
def vp:=@Bool.and_eq_true
def Al:=@List.pairwise_append
def C7:=@Nat.add_sub_cancel_left
def rC:=@Nat.le_of_dvd
def pW:=@Nat.succ_mul
def oF:=@Int.mul_neg
def GY:=@PySem.F.slot_tuple_iterator_next
def qT:=@Nat.sub_self
def yK:=@Int.sub_eq_add_neg
def CQ:=@Classical.not_forall
def xY:=@List.append_nil
def Az:=@Nat.gcd_dvd_right
def sY:=@Nat.sub_zero
def Dg:=@List.replicate_succ
def B5:=@List.getElem?_range
def rE:=@Int.add_mul
def rD:=@Int.dvd_add
def Hl:=@List.pairwise_singleton
def yX:=@Nat.le_add_right
def zf:=@Nat.gcd_dvd_left
def Rb:=@Int.mul_le_mul_of_nonneg_left
def JY:=@PySem.F.slot_enumerate_next
def zR:=@Int.neg_one_mul
def PK:=@Nat.mul_lt_mul_of_pos_right
def Cq:=@Int.dvd_mul_right
def BQ:=@Int.emod_eq_of_lt
def xW:=@List.map_take
def RT:=@List.getElem?_append_right
def GV:=@List.length_dropLast
def HZ:=@Bool.and_eq_true_iff
def qm:=@PySem.W.kia_one
def Tf:=@List.getElem?_append_left
def DW:=@List.getElem_mem
def C6:=@Nat.lt_succ_self
def J9:=@PySem.F.args_tuple_add_2
def wI:=@Nat.mul_comm
def wD:=@Int.sub_zero
def Qn:=@Int.mul_fdiv_cancel_left
def Cm:=@Bool.eq_iff_iff
def QM:=@PySem.F.entry_tuple_add
def Bq:=@Bool.or_eq_true
def Iv:=@List.filter_append
def Oj:=@PySem.F.plainAttrs_list
def GK:=@Nat.lt_or_gt_of_ne
def OB:=@Nat.mul_div_cancel_left
def CV:=@Nat.min_eq_left
def Pj:=@PySem.F.slot_tuple_add
def Qa:=@Nat.le_mul_of_pos_left
def HN:=@List.flatten_cons
def Gw:=@List.append_assoc
def xJ:=@Nat.one_mul
def CJ:=@Int.natAbs_neg
def Mx:=@List.length_singleton
def zZ:=@Nat.pow_succ
def Rg:=@Nat.eq_of_beq_eq_true
def AK:=@Nat.lt_or_ge
def Qf:=@Int.natAbs_dvd_natAbs
def Mt:=@List.take_append_drop
def Ge:=@Int.natCast_emod
def Rt:=@List.mem_append_left
def TQ:=@PySem.F.excBase_ValueError
def QD:=@List.mem_of_mem_take
def adR:=@PySem.F.args_tuple_iterator_next_1
def DM:=@Nat.dvd_trans
def CP:=@Int.dvd_trans
def Du:=@Int.ofNat_dvd
def Q8:=@List.filterMap_cons
def Nm:=@Array.length_toList
def HW:=@List.find?_cons
def Hu:=@List.forIn_cons
def WH:=@PySem.F.entry_tuple_iterator_next
def Fj:=@PySem.F.slot_zip_next
def zN:=@Nat.mul_add
def R4:=@Int.toNat_of_nonneg
def Vx:=@Int.fdiv_eq_ediv_of_nonneg
def Ks:=@List.mem_filterMap
def Cg:=@Nat.zero_add
def NZ:=@List.getElem?_take
def aat:=@Nat.add_mul_mod_self_left
def acJ:=@Int.eq_of_mul_eq_mul_left
def ac8:=@List.pairwise_iff_getElem
def RW:=@Classical.not_imp
def Xi:=@Nat.pow_lt_pow_iff_right
def Ir:=@Bool.true_and
def BJ:=@Int.neg_neg
def Gi:=@Int.add_assoc
def Bg:=@Nat.mul_one
def acE:=@List.filter_cons_of_neg
def acw:=@List.filter_cons_of_pos
def ac6:=@Int.dvd_mul_of_dvd_left
def ZV:=@List.length_eq_zero_iff
def GN:=@Bool.and_true
def Rv:=@Nat.min_le_right
def Nz:=@List.ext_getElem
def QN:=@List.getElem_map
def PJ:=@Classical.skolem
def abS:=@List.getElem?_set_self
def adY:=@PyProof.noPylong_small
def aaq:=@Nat.dvd_of_mod_eq_zero
def ZW:=@Nat.mod_eq_zero_of_dvd
def VQ:=@List.drop_eq_nil_of_le
def Wy:=@List.filter_eq_nil_iff
def Ja:=@Nat.ne_of_gt
def Ng:=@List.of_mem_zip
def abL:=@List.length_replicate
def WX:=@Array.getElem?_toList
def U5:=@List.getElem?_zipWith
def U8:=@List.getElem?_reverse
def Rh:=@List.range_succ
def J7:=@List.sum_append
def Jm:=@Int.sub_self
def Vd:=@Int.dvd_self_sub_emod
def ac1:=@List.pairwise_reverse
def aaU:=@List.take_eq_take_iff
def Z2:=@List.getElem?_set_ne
def ady:=@List.getElem?_mapIdx
def Tz:=@Int.mul_le_mul
def aaC:=@List.length_zipWith
def Jk:=@Int.pow_add
def adL:=@List.flatMap_append
def LR:=@Int.zero_emod
def xV:=@PySem.W.mg_of
def MP:=@Nat.add_comm
def KP:=@Nat.le_of_eq
def Tn:=@Nat.add_zero
def Qu:=@Nat.zero_mul
def O8:=@Nat.pow_zero
def PD:=@Nat.mul_zero
def Lx:=@Nat.lt_trans
def SX:=@Nat.pow_pos
def Kg:=@Nat.add_mul
def RZ:=@Nat.dvd_gcd
def Q5:=@Int.le_refl
def J4:=@List.map_id
def Ly:=@Nat.log2_lt
namespace L2
open PySem PySem.Spec PyProof.Rows
abbrev Key:=Sum Int Str
def UQ:Key->Value->Bool
 |.inl k,v=>Value.isInt k v
 |.inr x,v=>Value.isStrOf x v
def aqR(w:World):Key->Int
 |.inl k=>hashInt k
 |.inr x=>hashStr w x
def uq:∀{k:Key} {v:Value},UQ k v=true->(∃i t,k=Sum.inl i/\v=Value.int i t)∨(∃x t,k=Sum.inr x/\v=Value.str x t)
 |.inl i,v,h=>by
  obtain⟨t,e⟩:=Value.isInt_shape (k:=i) (v:=v) h;exact .inl ⟨i,t,rfl,e⟩
 |.inr x,v,h=>by
  obtain⟨t,e⟩:=Value.isStrOf_shape (x:=x) (v:=v) h;exact .inr ⟨x,t,rfl,e⟩
def ai6(a b:Int):decide ((Sum.inl a:Key)=Sum.inl b)=(a==b):=by
 by_cases e:a=b
 .subst e;simp
 .have h:¬(Sum.inl a:Key)=Sum.inl b:=λq=>e (Sum.inl.inj q);rw[decide_eq_false h];exact(beq_eq_false_iff_ne.mpr e).symm
def aju(a b:Str):decide ((Sum.inr a:Key)=Sum.inr b)=decide (a=b):=by
 by_cases e:a=b
 .subst e;simp
 .have h:¬(Sum.inr a:Key)=Sum.inr b:=λq=>e (Sum.inr.inj q);rw[decide_eq_false h,decide_eq_false e]
def alj(a:Int)(b:Str):decide ((Sum.inl a:Key)=Sum.inr b)=false:=decide_eq_false (λq=>nomatch q)
def afx(a:Str)(b:Int):decide ((Sum.inr a:Key)=Sum.inl b)=false:=decide_eq_false (λq=>nomatch q)
def AW(prog:Program)(w:World):PySem.KeyKind prog w Key where
 is:=UQ
 hash:=aqR w
 inj:=λv a b ha hb=>by
  rcases uq ha with⟨i,t,rfl,rfl⟩|⟨x,t,rfl,rfl⟩
  .rcases uq hb with⟨j,u,rfl,e⟩|⟨y,u,rfl,e⟩
   .injection e with e1 _;rw[e1]
   .exact nomatch e
  .rcases uq hb with⟨j,u,rfl,e⟩|⟨y,u,rfl,e⟩
   .exact nomatch e
   .injection e with e1 _;rw[e1]
 byValue:=λk v h=>by
  rcases uq h with⟨i,t,rfl,rfl⟩|⟨x,t,rfl,rfl⟩<;>rfl
 pyHash:=λhv h=>by
  rcases uq hv with⟨i,t,rfl,rfl⟩|⟨x,t,rfl,rfl⟩
  .exact wpAny_pyHash_int h
  .exact wpAny_pyHash_str h
 eqBool:=λhu hv h=>by
  rcases uq hu with⟨i,t,rfl,rfl⟩|⟨x,t,rfl,rfl⟩
  .rcases uq hv with⟨j,u,rfl,rfl⟩|⟨y,u,rfl,rfl⟩
   .rw[ai6]at h;exact wpAny_eqBool_int h
   .rw[alj]at h;exact SeqAt.EqAt.int_str i t y u _ _ _ _ h
  .rcases uq hv with⟨j,u,rfl,rfl⟩|⟨y,u,rfl,rfl⟩
   .rw[afx]at h;exact SeqAt.EqAt.str_int x t j u _ _ _ _ h
   .rw[aju]at h;exact wpAny_eqBool_str h
 «strs»:=λk x t v h=>by
  rcases uq h with⟨i,u,rfl,e⟩|⟨y,u,rfl,e⟩
  .exact nomatch e
  .injection e with e1 _;subst e1;cases v<;>rfl
inductive V where
 |non|bl (b:Bool)|int (i:Int)|str (x:Str)|mC (b:Array UInt8)|flt (b:UInt64)|ref (a:Addr)|ty (n:String)
 deriving DecidableEq
def RelV:V->Value->Prop
 |.non,u=>u=Value.none
 |.bl b,u=>u=Value.bool b
 |.int i,u=>∃t,u=Value.int i t
 |.str x,u=>∃t,u=Value.str x t
 |.mC b,u=>∃t,u=Value.bytes b t
 |.flt b,u=>∃t,u=Value.float b t
 |.ref a,u=>u=Value.ref a
 |.ty n,u=>u=Value.type n
abbrev Vals:List V->List Value->Prop:=Paired RelV
theorem Vals.length{xs:List V}{us:List Value}(r:Vals xs us):xs.length=us.length:=Paired.length r
theorem Vals.get:∀{xs:List V} {us:List Value} {i:Nat} {x:V},Vals xs us->xs[i]?=some x->∃u,us[i]?=some u/\RelV x u
 |_,_,_,_,.nil,e=>by simp at e
 |_,_,0,_,.cons r _,e=>by simp at e;subst e;exact⟨_,rfl,r⟩
 |_,_,i+1,x,.cons _ t,e=>by
  obtain⟨u,h1,h2⟩:=Vals.get (i:=i) (x:=x) t (by simpa using e);exact⟨u,by simpa using h1,h2⟩
theorem Vals.set{x:V}{u:Value}(r:RelV x u):∀{xs:List V} {us:List Value} (i:Nat),Vals xs us->Vals (xs.set i x) (us.set i u)
 |_,_,_,.nil=> .nil
 |_,_,0,.cons _ t=> .cons r t
 |_,_,i+1,.cons q t=> .cons q (Vals.set r i t)
theorem Vals.append:∀{xs ys:List V} {us ws:List Value},Vals xs us->Vals ys ws->Vals (xs++ys) (us++ws)
 |_,_,_,_,.nil,s=>s
 |_,_,_,_,.cons r t,s=> .cons r (Vals.append t s)
theorem Vals.take:∀{xs:List V} {us:List Value} (n:Nat),Vals xs us->Vals (xs.take n) (us.take n)
 |_,_,0,_=> .nil
 |_,_,_+1,.nil=> .nil
 |_,_,n+1,.cons r t=> .cons r (Vals.take n t)
theorem Vals.drop:∀{xs:List V} {us:List Value} (n:Nat),Vals xs us->Vals (xs.drop n) (us.drop n)
 |_,_,0,r=>r
 |_,_,_+1,.nil=> .nil
 |_,_,n+1,.cons _ t=>Vals.drop n t
def rO:Option V->Option Value->Prop
 |some v,some u=>RelV v u
 |none,none=>True
 |_,_=>False
def KV{κ:Type}:List (κ×V)->List (κ×Value)->Prop:=Paired λ(p:κ×V) (q:κ×Value)=>p.1=q.1/\RelV p.2 q.2
def kV:Key->V
 |.inl i=> .int i
 |.inr x=> .str x
inductive HO where
 /-- a list -/
 |lst (xs:List V)
 /-- a tuple (never changes) -/
 |tup (xs:List V)
 /-- a dict whose keys are ints and texts;one whose keys are tuples of ints and texts (the empty one is both) -/
 |dK (kvs:List (Key×V))|dT (kvs:List (List Key×V))
 /-- a set of ints: its members,its size -/
 |set (S:Int->Bool) (n:Nat)
 /-- an instance of the class at C,its dict at dx,its attributes -/
 |ins (C dx:Addr) (fs:List (Str×V))
 /-- the dict of the instance at x -/
 |own (x:Addr)
 /-- the dict of an exception -/
 |xd (fs:List (Str×V))
 /-- a bound method,f of x -/
 |met (f x:Addr)
 /-- a range object lo,lo+1,.. below hi -/
 |rng (lo hi:Int)
 /-- a thing that is known to the object (the script;a dict while a loop walks it): read,never written while it is so -/
 |jx (o:Obj) (u:HO)
 /-- a code object's table -/
 |sU (ps:Array Value)
 /-- any other thing,by what is true of its one object (a def of au8 own: auS a S n:=HO.ext λh=> ..) -/
 |ext (φ:Heap->Prop)
abbrev Hp:=Addr->Option HO
def upd(H:Hp)(a:Addr)(o:HO):Hp:=λb=>if b=a then some o else H b
def aA{H:Hp}{a:Addr}{o:HO}:upd H a o a=some o:=by unfold upd;rw[if_pos rfl]
def cC{H:Hp}{a b:Addr}{o:HO}(h:b≠a):upd H a o b=H b:=by unfold upd;rw[if_neg h]
def atP{H:Hp}{a:Addr}{o u:HO}:upd (upd H a o) a u=upd H a u:=by
 funext b;unfold upd;split<;>rfl
def ju{H:Hp}{a b:Addr}{o:HO}(h:H a=some o)(h':H b=none):a≠b:=by
 intro e;subst e;rw[h]at h';cases h'
section
variable (P:Program) (w:World)
def iD(H:Hp)(h:Heap)(a:Addr):HO->Prop
 |.lst xs=>xs.length<=sizeLine/\∃(its:List Value) (n:Nat),Vals xs its/\h.get? a=some { cls:= .type "list",data:= .seq its.toArray n }
 |.tup xs=>xs.length<=sizeLine/\∃its:List Value,Vals xs its/\IsTup h a its.toArray
 |.dK kvs=>kvs.length<=sizeLine/\(a==sysModules)=false/\∃vs,KV kvs vs/\h.DictOf (AW P w) a vs
 |.dT kvs=>kvs.length<=sizeLine/\(a==sysModules)=false/\∃xs:List (List Key×Addr×Value),
   Paired (λ(p:List Key×V) (q:List Key×Addr×Value)=>p.1=q.1/\H q.2.1=some (.tup (p.1.map kV))/\RelV p.2 q.2.2) kvs xs/\
   ∃o es ep,h.get? a=some o/\o.ExactDict/\o.data = .dict es ep/\es.toList=xs.map (entryOfKey (tupleKind (AW P w)))/\(xs.map (·.1)).Nodup
 |.set S n=>h.SetOf (intKind P w) a S n
 |.ins C dx fs=>H dx=some (.own a)/\fs.length<=1000/\dx≠a/\h.get? a=some (W.instObj C dx)/\
   ∃mA,h.Ns1 dx mA/\(∀f,rO (fs.lookup f) (mA f))/\PySem.Within mA (fs.map (·.1))
 |.own _=>∃o,h.get? a=some o
 |.xd fs=>∃mA,h.Ns1 a mA/\∀f,rO (fs.lookup f) (mA f)
 |.rng lo hi=>∃t u v,h.get? a=some { cls:= .type "range",data:= .fields #[.int lo t,.int hi u,.int 1 v] }
 |.jx o u=>h.get? a=some o/\iD H h a u
 |.sU ps=>h.get? a=some { cls:= .none,data:= .fields ps }
 |.met f x=>h.get? a=some (W.methodObj (.ref f) (.ref x))
 |.ext φ=>φ h/\(∃o,h.get? a=some o)/\∀h1 h2:Heap,φ h1->(∀o,h1.get? a=some o->h2.get? a=some o)->φ h2
def gk(H:Hp)(h:Heap):Prop:=∀a o,H a=some o->iD P w H h a o
end
section
variable {P:Program} {w:World} {H H':Hp} {h h':Heap} {a:Addr} {o:HO}
theorem iD.lt(x:iD P w H h a o):a<h.objs.size:=by
 cases o with
 |lst xs=>obtain⟨_,_,_,_,e⟩:=x;exact Heap.lt_size e
 |tup xs=>obtain⟨_,_,_,p⟩:=x;exact p.lt
 |dK kvs=>obtain⟨_,_,_,_,o,_,_,e,_⟩:=x;exact Heap.lt_size e
 |dT kvs=>obtain⟨_,_,_,_,o,_,_,e,_⟩:=x;exact Heap.lt_size e
 |set S n=>obtain⟨o,_,_,_,e,_⟩:=x;exact Heap.lt_size e
 |ins C dx fs=>obtain⟨_,_,_,e,_⟩:=x;exact Heap.lt_size e
 |own y=>obtain⟨_,e⟩:=x;exact Heap.lt_size e
 |xd fs=>obtain⟨_,⟨_,_,_,e,_⟩,_⟩:=x;exact Heap.lt_size e
 |rng lo hi=>obtain⟨_,_,_,e⟩:=x;exact Heap.lt_size e
 |jx ob u=>obtain⟨e,_⟩:=x;exact Heap.lt_size e
 |sU ps=>exact Heap.lt_size (show h.get? a=some _ from x)
 |met f y=>exact Heap.lt_size (show h.get? a=some _ from x)
 |ext φ=>obtain⟨_,⟨_,e⟩,_⟩:=x;exact Heap.lt_size e
theorem Paired.ach{α β:Type}{F G:α->β->Prop}:∀{l₁:List α} {l₂:List β},Paired F l₁ l₂->(∀a b,F a b->G a b)->Paired G l₁ l₂
 |_,_,.nil,_=> .nil
 |_,_,.cons r t,f=> .cons (f _ _ r) (Paired.ach t f)
def iD.stay(x:iD P w H h a o)(k:∀b u,(b=a∨H b=some (.own a))->h.get? b=some u->h'.get? b=some u)
  (ho:∀b,H b=some (.own a)->H' b=some (.own a)) (ht:∀b xs,H b=some (.tup xs)->H' b=some (.tup xs)):iD P w H' h' a o:=by
 induction o with
 |lst xs=>obtain⟨z,its,n,r,e⟩:=x;exact⟨z,its,n,r,k _ _ (.inl rfl) e⟩
 |tup xs=>obtain⟨z,its,r,ob,e,c⟩:=x;exact⟨z,its,r,ob,k _ _ (.inl rfl) e,c⟩
 |dK kvs=>obtain⟨z,y,vs,r,ob,es,ep,e,c⟩:=x;exact⟨z,y,vs,r,ob,es,ep,k _ _ (.inl rfl) e,c⟩
 |dT kvs=>
  obtain⟨z,y,xs,r,ob,es,ep,e,c⟩:=x;exact⟨z,y,xs,Paired.ach r λp q z=>⟨z.1,ht _ _ z.2.1,z.2.2⟩,ob,es,ep,k _ _ (.inl rfl) e,c⟩
 |set S n=>obtain⟨ob,es,ep,t,e,c⟩:=x;exact⟨ob,es,ep,t,k _ _ (.inl rfl) e,c⟩
 |ins C dx fs=>
  obtain⟨d,z,ne,e,mA,⟨od,es,ep,e2,c⟩,r⟩:=x;exact⟨ho _ d,z,ne,k _ _ (.inl rfl) e,mA,⟨od,es,ep,k _ _ (.inr d) e2,c⟩,r⟩
 |own y=>obtain⟨ob,e⟩:=x;exact⟨ob,k _ _ (.inl rfl) e⟩
 |xd fs=>obtain⟨mA,⟨od,es,ep,e,c⟩,r⟩:=x;exact⟨mA,⟨od,es,ep,k _ _ (.inl rfl) e,c⟩,r⟩
 |rng lo hi=>obtain⟨t,u,v,e⟩:=x;exact⟨t,u,v,k _ _ (.inl rfl) e⟩
 |jx ob u ih=>obtain⟨e,q⟩:=x;exact⟨k _ _ (.inl rfl) e,ih q⟩
 |sU ps=>
  have e:h.get? a=some { cls:= .none,data:= .fields ps }:=x;show h'.get? a=some { cls:= .none,data:= .fields ps };exact k a _ (.inl rfl) e
 |met f y=>
  have e:h.get? a=some (W.methodObj (.ref f) (.ref y)):=x;show h'.get? a=some (W.methodObj (.ref f) (.ref y));exact k a _ (.inl rfl) e
 |ext φ=>obtain⟨p,⟨o,e⟩,st⟩:=x;exact⟨st _ _ p λo q=>k _ _ (.inl rfl) q,⟨o,k _ _ (.inl rfl) e⟩,st⟩
theorem gk.lt(x:gk P w H h)(e:H a=some o):a<h.objs.size:=(x a o e).lt
def gk.fresh(x:gk P w H h)(e:h.objs.size<=a):H a=none:=by
 cases q:H a with
 |none=>rfl
 |some u=>exact absurd (jd (x.lt q) e) (jK _)
def gk.kept(x:gk P w H h)(k:∀b u,h.get? b=some u->h'.get? b=some u):gk P w H h':=λa o e=>
 (x a o e).stay (λb u _ q=>k b u q) (λ_ q=>q) λ_ _ q=>q
def gk.laid(x:gk P w H h)(k:∀b u,h.get? b=some u->h'.get? b=some u)(hp:h.objs.size<=a)(new:iD P w (upd H a o) h' a o):gk P w (upd H a o) h':=λb u e=>by
 have hn:=x.fresh hp;by_cases hb:b=a
 .subst hb;rw[aA]at e;cases e;exact new
 .rw[cC hb]at e;exact(x b u e).stay (λc v _ q=>k c v q) (λc q=>by rw[cC (ju q hn)];exact q) λc xs q=>by rw[cC (ju q hn)];exact q
end
def Rd(H:Hp)(a:Addr)(u:HO):Prop:=H a=some u∨∃o,H a=some (.jx o u)
def Rd.ok{P:Program}{w:World}{H:Hp}{h:Heap}{a:Addr}{u:HO}(r:Rd H a u)(x:gk P w H h):iD P w H h a u:=by
 rcases r with r|⟨o,r⟩
 .exact x a u r
 .obtain⟨_,q⟩:=x a _ r;exact q
def Ek:Option HO->Prop
 |some (.lst _)=>True
 |some (.dK _)=>True
 |some (.dT _)=>True
 |some (.set _ _)=>True
 |some (.ins _ _ _)=>True
 |some (.ext _)=>True
 |_=>False
section
variable {P:Program} {w:World} {H:Hp} {h h':Heap} {x e:Addr} {o':HO}
def gk.write(ok:gk P w H h)(mu:Ek (H x))(he:e=x∨H e=some (.own x))(k:∀b u,b≠e->h.get? b=some u->h'.get? b=some u)(heo:∃u,h'.get? e=some u)
  (new:iD P w (upd H x o') h' x o'):gk P w (upd H x o') h':=λb u q=>by
 have Yv:∀c y,H c=some (.own y)->c≠x:=λc y r z=>by subst z;rw[r]at mu;exact mu
 have ag8:∀c xs,H c=some (.tup xs)->c≠x:=λc xs r z=>by subst z;rw[r]at mu;exact mu
 by_cases hb:b=x
 .subst hb;rw[aA]at q;cases q;exact new
 .rw[cC hb]at q;by_cases hbe:b=e
  .have q':H b=some (.own x):=by
    rcases he with z|z
    .exact absurd (hbe.trans z) hb
    .rw[hbe];exact z
   rw[q]at q';cases q';obtain⟨v,hv⟩:=heo;exact⟨v,by rw[hbe];exact hv⟩
  .refine(ok b u q).stay (λc v hc r=>k c v ?_ r) (λc r=>by rw[cC (Yv c b r)];exact r) λc xs r=>by rw[cC (ag8 c xs r)];exact r
   rcases hc with rfl|hc
   .exact hbe
   .rintro rfl;rcases he with z|z
    .exact Yv c b hc z
    .rw[hc]at z;cases z;exact hb rfl
end
structure Un(fs ex:List Addr)(H H':Hp)(h h':Heap):Prop where
 keep:∀b o,h.get? b=some o->H b=none->b∉fs->b∉ex->h'.get? b=some o
 slot:∀b o,h.get? b=some o->H b=none->b∈fs->b∉ex->∃sl,h'.get? b=some { o with slots:=sl }
 free:∀b o,h.get? b=some o->H b=none->b∉ex->H' b=none
 there:∀b o,h.get? b=some o->b∉ex->∃o',h'.get? b=some o'
 tups:∀b xs,H b=some (.tup xs)->H' b=some (.tup xs)
 mZ:∀b o u,H b=some (.jx o u)->H' b=some (.jx o u)
 oJ:∀b ps,H b=some (.sU ps)->∃more,H' b=some (.sU (ps++more))
section
variable {fs fs' ex ex':List Addr} {H H1 H2:Hp} {h h1 h2 h':Heap} {a x e:Addr} {o:HO}
def Un.any(u:Un fs ex H H1 h h1){b:Addr}{ob:Obj}(q:h.get? b=some ob)(n:H b=none)(hx:b∉ex):∃sl,h1.get? b=some { ob with slots:=sl }:=by
 by_cases hb:b∈fs
 .exact u.slot b ob q n hb hx
 .exact⟨ob.slots,u.keep b ob q n hb hx⟩
def Un.kept(k:∀b u,h.get? b=some u->h'.get? b=some u):Un fs ex H H h h':=
 ⟨λb ob q _ _ _=>k b ob q,λb ob q _ _ _=>⟨ob.slots,k b ob q⟩,λ_ _ _ n _=>n,λb ob q _=>⟨ob,k b ob q⟩,λ_ _ q=>q,λ_ _ _ q=>q,λ_ ps q=>⟨#[],by rw[q];simp⟩⟩
def Un.refl:Un fs ex H H h h:=Un.kept λ_ _ q=>q
def Un.laid(k:∀b u,h.get? b=some u->h'.get? b=some u)(hp:h.objs.size<=a)(hn:H a=none):Un fs ex H (upd H a o) h h' where
 keep:=λb u q _ _ _=>k b u q
 slot:=λb u q _ _ _=>⟨u.slots,k b u q⟩
 free:=λb u q n _=>by rw[cC (kZ (jd (Heap.lt_size q) hp))];exact n
 there:=λb u q _=>⟨u,k b u q⟩
 tups:=λb xs q=>by rw[cC (ju q hn)];exact q
 mZ:=λb u xs q=>by rw[cC (ju q hn)];exact q
 oJ:=λb ps q=>⟨#[],by rw[cC (ju q hn),q];simp⟩
def Un.write(mu:Ek (H x))(he:e=x∨H e=some (.own x))(k:∀b u,b≠e->h.get? b=some u->h'.get? b=some u)(heo:∃u,h'.get? e=some u):Un fs ex H (upd H x o) h h':=by
 have hx:∀b,H b=none->b≠x:=λb n z=>by subst z;rw[n]at mu;exact mu
 have hb:∀b,H b=none->b≠e:=λb n z=>by
  subst z;rcases he with r|r
  .exact hx b n r
  .rw[n]at r;cases r
 have hm:∀b u,H b=some u->¬Ek (some u)->b≠x:=λb u q nm z=>by subst z;rw[q]at mu;exact nm mu
 refine⟨λb u q n _ _=>k b u (hb b n) q,λb u q n _ _=>⟨u.slots,k b u (hb b n) q⟩,λb u q n _=>by rw[cC (hx b n)];exact n,λb u q _=>?_,
  λb xs q=>by rw[cC (hm b _ q λz=>z)];exact q,λb u xs q=>by rw[cC (hm b _ q λz=>z)];exact q,λb ps q=>⟨#[],by rw[cC (hm b _ q λz=>z),q];simp⟩⟩
 by_cases hbe:b=e
 .subst hbe;exact heo
 .exact⟨u,k b u hbe q⟩
end
def IK(h:Heap)(H:Hp):List Addr:=(List.range h.objs.size).filter λa=>(H a).isSome
def sZ(h:Heap)(H:Hp):Heap:=W.hideAll h (IK h H)
def afV(h:Heap)(H:Hp):(sZ h H).objs.size=h.objs.size:=W.hideAll_size _ _
def afq{h:Heap}{H:Hp}{b:Addr}{o:Obj}(e:h.get? b=some o)(n:H b=none):(sZ h H).get? b=some o:=
 W.hideAll_get _ e λhm=>by
  have q:(H b).isSome=true:=(rJ.mp hm).2;rw[n]at q;simp at q
def ak3{h:Heap}{H:Hp}{b:Addr}{o:Obj}(e:(sZ h H).get? b=some o):h.get? b=some o/\H b=none:=by
 have e':h.get? b=some o:=W.of_hideAll (IK h H) e;refine⟨e',?_⟩;cases q:H b with
 |none=>rfl
 |some x=>
  have hm:b∈IK h H:=rJ.mpr ⟨kW.mpr (Heap.lt_size e'),by simp[q]⟩;have z:(sZ h H).get? b=none:=W.hideAll_none (IK h H) hm;rw[z]at e;cases e
structure Mod(K:W.Frag)(mg:Str->Option Value)(base:Heap):Prop where
 Nv:K.In base
 glob:base.Ns mainGlobals mg
 blt:∃mb,base.Ns builtinsNs mb/\∀x:Str,x≠ "__name__" -> mb x=bootBuiltins x
 nolimit:base.NoLimit
 digits:base.NoDigits
structure Cx where
 prog:Program
 w:World
 K:W.Frag
 mg:Str->Option Value
 base:Heap
 A:Around
 N:List Str
 s₀:Shared
 H₀:Hp
 env:Env
 outer:List Env
 stack:List Env
 ex:List Addr
 fn:Str->Bool
 calm:Bool
 pn:List (Addr×Obj)
 xe:Value->Shared->Prop
def frs(l:List Env):List Addr:=l.filterMap (·.frame)
abbrev Cx.fs(X:Cx):List Addr:=frs X.outer
def HJ(sc:Scope)(x:Str):Prop:=sc.names.lookup x=some .local∨sc.names.lookup x=some .cell∨sc.names.lookup x=some .free
def Loc(sc:Scope)(x:Str):Prop:=sc.names.lookup x=some .local∨sc.names.lookup x=some .cell
def Look(env:Env)(h:Heap)(m:Str->Option Value)(x:Str)(u:Value):Prop:=
 (env.kindOf x=some .local/\m x=some u)∨((env.kindOf x=some .cell∨env.kindOf x=some .free)/\∃c,env.cells.lookup x=some c/\h.IsCell c (some u))
structure Cx.Ok(X:Cx):Prop where
 mod:Mod X.K X.mg X.base
 kind:X.env.scope.kind = .function
 glob:X.env.globals=mainGlobals
 blt:X.env.builtins=builtinsNs
 above:X.s₀.heap.objs.size<=X.env.locals
 inj:∀x y c,X.env.cells.lookup x=some c->X.env.cells.lookup y=some c->x=y
 has:∀x,(X.env.kindOf x=some .cell∨X.env.kindOf x=some .free)->∃c,X.env.cells.lookup x=some c
 cab:∀x c,X.fn x=true->X.env.cells.lookup x=some c->X.s₀.heap.objs.size<=c
 hd:X.calm=true->X.A.handled=none
 frames:X.A.frames=some X.stack
 stk:X.stack=X.outer∨(X.stack=X.env::X.outer/\X.env.frame=some X.env.locals)
 exf:∀b∈X.ex,b≠X.env.locals/\∀x c,X.env.cells.lookup x=some c->c≠b
 bs:∀b o,X.base.get? b=some o->X.s₀.heap.get? b=some o/\X.H₀ b=none
 vX:X.base.objs.size<=X.s₀.heap.objs.size
 BL:∀b o,X.base.get? b=some o->b∉X.ex
 Dl:∀b∈X.ex,b∉X.fs
 qz:X.s₀.heap.FunFrames X.base X.outer
 Ak:∀b∈X.fs,X.H₀ b=none
structure Inv(X:Cx)(pins:List (Addr×Obj))(σ:List (Option V))(H:Hp)(s:Shared):Prop where
 ok:X.Ok
 os:s.os=X.s₀.os
 bare:AllBare s.gens
 base:Un X.fs X.ex X.H₀ H X.s₀.heap s.heap
 loc:∃m,s.heap.Ns X.env.locals m/\∀(i:Nat) (x:Str) (v:V),X.N[i]?=some x->σ[i]?=some (some v)->HJ X.env.scope x->∃u,RelV v u/\Look X.env s.heap m x u
 cell:∀x c,X.env.cells.lookup x=some c->∃v,s.heap.IsCell c v
 free:H X.env.locals=none
 rB:∀x c,X.env.cells.lookup x=some c->H c=none
 pin:∀p∈X.pn++pins,s.heap.get? p.1=some p.2/\H p.1=none/\p.1≠X.env.locals/\p.1∉X.fs/\∀v,p.2.data≠ .cell v
 hok:gk X.prog X.w H s.heap
 len:σ.length=X.N.length
section
variable {X:Cx} {pins:List (Addr×Obj)} {σ:List (Option V)} {H H':Hp} {s:Shared} {h':Heap}
def Cx.Ok.at9(ok:X.Ok){b:Addr}{o:Obj}(e:X.base.get? b=some o):b∉X.fs:=λhb=>by
 have:=(ok.qz.mem hb).1;rw[e]at this;cases this
theorem Inv.bs(I:Inv X pins σ H s):∀b o,X.base.get? b=some o->s.heap.get? b=some o/\H b=none:=λb o e=>
 ⟨I.base.keep b o (I.ok.bs b o e).1 (I.ok.bs b o e).2 (I.ok.at9 e) (I.ok.BL b o e),I.base.free b o (I.ok.bs b o e).1 (I.ok.bs b o e).2 (I.ok.BL b o e)⟩
def Inv.bk(I:Inv X pins σ H s):∀b o,X.base.get? b=some o->s.heap.get? b=some o:=λb o e=>(I.bs b o e).1
theorem Inv.mod(I:Inv X pins σ H s):Mod X.K X.mg X.base:=I.ok.mod
def Inv.jO(I:Inv X pins σ H s):X.K.In s.heap:=I.ok.mod.Nv.keeps I.bk
theorem Inv.lt(I:Inv X pins σ H s):X.env.locals<s.heap.objs.size:=let⟨_,hn,_⟩:=I.loc;hn.lt
def Inv.sz(I:Inv X pins σ H s):X.s₀.heap.objs.size<=s.heap.objs.size:=iT I.ok.above (fX I.lt)
def Inv.arf(I:Inv X pins σ H s){a:Addr}(h:s.heap.objs.size<=a):a∉X.fs:=λhb=>by
 obtain⟨_,o,ho,_⟩:=I.ok.qz.mem hb;exact absurd (jd (Heap.lt_size ho) (iT I.sz h)) (jK _)
def Inv.xR(I:Inv X pins σ H s):∀x c,X.env.cells.lookup x=some c->c≠X.env.locals:=λx c e z=>by
 obtain⟨v,o,ho,hd⟩:=I.cell x c e;obtain⟨m,⟨o',es,ep,ho',hd',_⟩,_⟩:=I.loc;rw[z,ho']at ho;cases ho;rw[hd']at hd;cases hd
theorem Inv.qz(I:Inv X pins σ H s):s.heap.FunFrames X.base X.outer:=by
 have all:∀(l:List Env),(∀b∈frs l,b∈X.fs)->X.s₀.heap.FunFrames X.base l->s.heap.FunFrames X.base l:=by
  intro l;induction l with
  |nil=>intro _ _;trivial
  |cons env r ih=>
   intro hs hl;obtain⟨hk,⟨L,o,hf,hn,ho,hd⟩,hr⟩:=hl;have hL:L∈X.fs:=hs L (by unfold frs;rw[Q8,hf];exact cQ);obtain⟨sl,e⟩:=I.base.slot L o ho (I.ok.Ak L hL) hL λz=>I.ok.Dl L z hL;exact⟨hk,⟨L,_,hf,hn,e,hd⟩,ih (λb hb=>hs b (by unfold frs;rw[Q8,hf];exact dg _ hb)) hr⟩
 exact all X.outer (λ_ hb=>hb) I.ok.qz
theorem Inv.stack(I:Inv X pins σ H s):s.heap.FunFrames X.base X.stack:=by
 rcases I.ok.stk with e|⟨e,hf⟩
 .rw[e];exact I.qz
 .rw[e];obtain⟨m,hn,_⟩:=I.loc;refine .cons (by rw[I.ok.kind];decide) hf hn ?_ I.qz;exact Heap.get?_none_of_le (iT I.ok.vX I.ok.above)
def Inv.IB(I:Inv X pins σ H s):∀b∈frs X.stack,b∈X.env.locals::X.fs:=λb hb=>by
 rcases I.ok.stk with e|⟨e,hf⟩
 .rw[e]at hb;exact dg _ hb
 .rw[e]at hb;unfold frs at hb;rw[Q8,hf]at hb;exact hb
def Inv.Ni(I:Inv X pins σ H s):∀b∈frs X.stack,H b=none:=λb hb=>by
 rcases cj.mp (I.IB b hb)with e|hb
 .rw[e];exact I.free
 .obtain⟨_,o,ho,_⟩:=I.ok.qz.mem hb;exact I.base.free b o ho (I.ok.Ak b hb) λz=>I.ok.Dl b z hb
def Inv.step{g':Array GenState}{t':Nat}{d':Drawn}{ch:List Addr}(I:Inv X pins σ H s)
  (hch:∀b∈ch,(b∈X.ex∨X.s₀.heap.objs.size<=b)/\b≠X.env.locals/\(∀x c,X.env.cells.lookup x=some c->c≠b)/\∀p∈X.pn++pins,p.1≠b)
  (keep:∀b o,b≠X.env.locals->b∉X.fs->b∉ch->s.heap.get? b=some o->H b=none->h'.get? b=some o)
  (slot:∀b o,b≠X.env.locals->b∈X.fs->b∉ch->s.heap.get? b=some o->H b=none->∃sl,h'.get? b=some { o with slots:=sl }) (free:∀b o,b∉ch->s.heap.get? b=some o->H b=none->H' b=none)
  (there:∀b o,b∉ch->s.heap.get? b=some o->∃o',h'.get? b=some o')
  (tups:∀b xs,H b=some (.tup xs)->H' b=some (.tup xs)) (mZ:∀b o u,H b=some (.jx o u)->H' b=some (.jx o u)) (oJ:∀b ps,H b=some (.sU ps)->∃more,H' b=some (.sU (ps++more)))
  (ns:∀m,s.heap.Ns X.env.locals m->h'.Ns X.env.locals m) (hok:gk X.prog X.w H' h') (hg:AllBare g'):
  Inv X pins σ H' { s with heap:=h',gens:=g',drawn:=d',toks:=t' }:=by
 have Xr:∀b o,X.s₀.heap.get? b=some o->b≠X.env.locals:=λb o e=>kZ (jd (Heap.lt_size e) I.ok.above);have Gv:∀b o,X.s₀.heap.get? b=some o->b∉X.ex->b∉ch:=λb o e hx hb=>by
  rcases(hch b hb).1 with z|z
  .exact hx z
  .exact absurd (jd (Heap.lt_size e) z) (jK _)
 have cellK:∀x c,X.env.cells.lookup x=some c->∀v,s.heap.IsCell c v->h'.IsCell c v:=λx c e v ⟨o,ho,hd⟩=>by
  have BX:c∉ch:=λz=>(hch c z).2.2.1 x c e rfl;by_cases hc:c∈X.fs
  .obtain⟨sl,q⟩:=slot c o (I.xR x c e) hc BX ho (I.rB x c e);exact⟨_,q,hd⟩
  .exact⟨o,keep c o (I.xR x c e) hc BX ho (I.rB x c e),hd⟩
 refine⟨I.ok,I.os,hg,⟨λb o e n hb hx=>?_,λb o e n hb hx=>?_,λb o e n hx=>?_,λb o e hx=>?_,λb xs e=>tups b xs (I.base.tups b xs e),λb o xs e=>mZ b o xs (I.base.mZ b o xs e),λb ps e=>?_⟩,?_,λx c e=>?_,?_,λx c e=>?_,λp hp=>?_,hok,I.len⟩
 .exact keep b o (Xr b o e) hb (Gv b o e hx) (I.base.keep b o e n hb hx) (I.base.free b o e n hx)
 .obtain⟨sl,e1⟩:=I.base.slot b o e n hb hx;obtain⟨sl',e2⟩:=slot b _ (Xr b o e) hb (Gv b o e hx) e1 (I.base.free b o e n hx);exact⟨sl',e2⟩
 .obtain⟨o',e1⟩:=I.base.there b o e hx;exact free b o' (Gv b o e hx) e1 (I.base.free b o e n hx)
 .obtain⟨o',e1⟩:=I.base.there b o e hx;exact there b o' (Gv b o e hx) e1
 .obtain⟨m1,e1⟩:=I.base.oJ b ps e;obtain⟨m2,e2⟩:=oJ b _ e1;exact⟨m1++m2,by rw[e2,Array.append_assoc]⟩
 .obtain⟨m,hn,hl⟩:=I.loc;refine⟨m,ns m hn,λi x v e1 e2 e3=>?_⟩;obtain⟨u,r,l⟩:=hl i x v e1 e2 e3;refine⟨u,r,?_⟩;rcases l with l|⟨k,c,e,z⟩
  .exact .inl l
  .exact .inr ⟨k,c,e,cellK x c e _ z⟩
 .obtain⟨v,z⟩:=I.cell x c e;exact⟨v,cellK x c e v z⟩
 .obtain⟨m,⟨o,_,_,ho,_⟩,_⟩:=I.loc;exact free _ o (λz=>(hch _ z).2.1 rfl) ho I.free
 .obtain⟨v,o,ho,hd⟩:=I.cell x c e;exact free c o (λz=>(hch c z).2.2.1 x c e rfl) ho (I.rB x c e)
 .obtain⟨e,n,ne,nf,d⟩:=I.pin p hp;have BX:p.1∉ch:=λz=>(hch p.1 z).2.2.2 p hp rfl;exact⟨keep p.1 p.2 ne nf BX e n,free p.1 p.2 BX e n,ne,nf,d⟩
def Inv.un{t':Nat}(I:Inv X pins σ H s)(u:Un X.fs [] H H' s.heap h')(hok:gk X.prog X.w H' h'):Inv X pins σ H' { s with heap:=h',toks:=t' }:=by
 obtain⟨m,⟨o,es,ep,ho,r⟩,_⟩:=id I.loc;obtain⟨sl,hL⟩:=u.any ho I.free (by simp);exact I.step (g':=s.gens) (d':=s.drawn) (ch:=[]) (λ_ z=>nomatch z) (λb o _ hb _ e n=>u.keep b o e n hb (by simp)) (λb o _ hb _ e n=>u.slot b o e n hb (by simp)) (λb o _ e n=>u.free b o e n (by simp)) (λb o _ e=>u.there b o e (by simp)) u.tups u.mZ u.oJ (λm' hm=>by
  obtain⟨o',es',ep',ho',r'⟩:=hm;rw[ho]at ho';cases ho';exact⟨_,es',ep',hL,r'⟩) hok I.bare
def Inv.call{g':Array GenState}{t':Nat}{d':Drawn}{ch:List Addr}(I:Inv X pins σ H s)(u:Un (frs X.stack) ch H H' s.heap h')(hok:gk X.prog X.w H' h')(hg:AllBare g')
  (hch:∀b∈ch,(b∈X.ex∨X.s₀.heap.objs.size<=b)/\b≠X.env.locals/\(∀x c,X.env.cells.lookup x=some c->c≠b)/\∀p∈X.pn++pins,p.1≠b):
  Inv X pins σ H' { s with heap:=h',gens:=g',drawn:=d',toks:=t' }:=by
 obtain⟨m,⟨o,es,ep,ho,r⟩,_⟩:=id I.loc;obtain⟨sl,hL⟩:=u.any ho I.free λz=>(hch _ z).2.1 rfl;exact I.step (ch:=ch) hch (λb o hL hb hc e n=>u.keep b o e n (λz=>(cj.mp (I.IB b z)).elim hL hb) hc) (λb o _ _ hc e n=>u.any e n hc) (λb o hc e n=>u.free b o e n hc) (λb o hc e=>u.there b o e hc) u.tups u.mZ u.oJ (λm' hm=>by
  obtain⟨o',es',ep',ho',r'⟩:=hm;rw[ho]at ho';cases ho';exact⟨_,es',ep',hL,r'⟩) hok hg
def Inv.turned{t':Nat}{it:Addr}(I:Inv X pins σ H s)(k:∀b o,b≠it->s.heap.get? b=some o->h'.get? b=some o)(hn:H it=none)(hL:it≠X.env.locals)
  (h1:it∈X.ex∨X.s₀.heap.objs.size<=it) (h2:∀x c,X.env.cells.lookup x=some c->c≠it) (h3:∀p∈X.pn++pins,p.1≠it):Inv X pins σ H { s with heap:=h',toks:=t' }:=by
 have nit:∀b u,H b=some u->b≠it:=λb u e z=>by rw[z,hn]at e;cases e
 refine I.step (g':=s.gens) (d':=s.drawn) (ch:=[it]) (λb hb=>?_) (λb o _ _ hc e _=>k b o (λz=>hc (by simp[z])) e) (λb o _ _ hc e _=>⟨o.slots,k b o (λz=>hc (by simp[z])) e⟩) (λ_ _ _ _ n=>n)
  (λb o hc e=>⟨o,k b o (λz=>hc (by simp[z])) e⟩) (λ_ _ e=>e) (λ_ _ _ e=>e) (λb ps e=>⟨#[],by rw[e];simp⟩) (λm hm=>?_) (λb u e=>?_) I.bare
 .have e:b=it:=by simpa using hb
  subst e;exact⟨h1,hL,h2,h3⟩
 .obtain⟨o,es,ep,ho,r⟩:=hm;exact⟨o,es,ep,k _ o (eG hL) ho,r⟩
 .refine(I.hok b u e).stay (λc v hc q=>k c v ?_ q) (λ_ q=>q) λ_ _ q=>q;rcases hc with z|z
  .rw[z];exact nit b u e
  .exact nit c _ z
def Inv.tok(I:Inv X pins σ H s)(t:Nat):Inv X pins σ H { s with toks:=t }:=I.un (h':=s.heap) (t':=t) Un.refl I.hok
theorem Inv.kept{t':Nat}(I:Inv X pins σ H s)(k:∀b u,s.heap.get? b=some u->h'.get? b=some u):Inv X pins σ H { s with heap:=h',toks:=t' }:=I.un (Un.kept k) (I.hok.kept k)
theorem Inv.laid{a:Addr}{o:HO}{t':Nat}(I:Inv X pins σ H s)(k:∀b u,s.heap.get? b=some u->h'.get? b=some u)(hp:s.heap.objs.size<=a)(new:iD X.prog X.w (upd H a o) h' a o):
  Inv X pins σ (upd H a o) { s with heap:=h',toks:=t' }:=I.un (Un.laid k hp (I.hok.fresh hp)) (I.hok.laid k hp new)
theorem Inv.write{x e:Addr}{o:HO}{t':Nat}(I:Inv X pins σ H s)(mu:Ek (H x))(he:e=x∨H e=some (.own x))(k:∀b u,b≠e->s.heap.get? b=some u->h'.get? b=some u)(heo:∃u,h'.get? e=some u)
  (new:iD X.prog X.w (upd H x o) h' x o):Inv X pins σ (upd H x o) { s with heap:=h',toks:=t' }:=I.un (Un.write mu he k heo) (I.hok.write mu he k heo new)
def Inv.aea{acp:List (Addr×Obj)}(I:Inv X pins σ H s)(h:∀p∈acp,s.heap.get? p.1=some p.2/\H p.1=none/\p.1≠X.env.locals/\p.1∉X.fs/\∀v,p.2.data≠ .cell v):Inv X acp σ H s:=
 ⟨I.ok,I.os,I.bare,I.base,I.loc,I.cell,I.free,I.rB,λp hp=>(eV.mp hp).elim (λz=>I.pin p (Rt _ z)) (h p),I.hok,I.len⟩
def X6{N:List Str}(hN:N.Nodup){i j:Nat}{x:Str}(a:N[i]?=some x)(b:N[j]?=some x):i=j:=by
 obtain⟨h1,e1⟩:=uT.mp a;obtain⟨h2,e2⟩:=uT.mp b;exact(List.getElem_inj hN).mp (e1.trans e2.symm)
def apS{M:Model}{A:Around}{E:Value->Shared->Prop}{i:Nat}{x:Str}{v:V}{u:Value}{Q:Unit->Shared->Prop}(I:Inv X pins σ H s)(hN:X.N.Nodup)(hi:X.N[i]?=some x)(hx:Loc X.env.scope x)(r:RelV v u)
  (h:∀s',Inv X pins (σ.set i (some v)) H s'->(∃a,Heap.SameBut a s.heap s'.heap/\(a=X.env.locals∨X.env.cells.lookup x=some a))->Q () s') (hf:X.fn x=true∨X.env.scope.names.lookup x=some .local:=by first|exact .inl rfl|exact .inr rfl|assumption):wpAny M A (storeName X.env x u) Q E s:=by
 obtain⟨m,hn,hl⟩:=id I.loc;have hcls:(X.env.scope.kind== .class||(X.env.scope.kind== .module&&X.env.locals != X.env.globals))=false:=by rw[I.ok.kind];rfl
 have XJ:i < σ.length:=by rw[I.len];exact(uT.mp hi).1
 have xR:=I.xR;have tracked:∀{a:Addr} {h':Heap},(∃o,s.heap.get? a=some o/\H a=none)->Heap.SameBut a s.heap h'->gk X.prog X.w H h':=λ{a h'} ha hs b ob e=>by
  obtain⟨_,_,hfree⟩:=ha;refine(I.hok b ob e).stay (λc w' hc q=>(hs.2 c ?_).trans q) (λ_ q=>q) λ_ _ q=>q;rintro rfl;rcases hc with rfl|hc
  .rw[hfree]at e;cases e
  .rw[hfree]at hc;cases hc
 rcases hx with hk|hk
 .refine wpAny_storeName_local hk hn (λh' hn' hs=>?_) hcls;obtain⟨oL,_,_,hoL,_⟩:=id hn;refine h _ ⟨I.ok,I.os,I.bare,⟨λb o e n hb hx=>?_,λb o e n hb hx=>?_,I.base.free,λb o e hx=>?_,I.base.tups,I.base.mZ,I.base.oJ⟩,⟨_,hn',λj y v' e1 e2 e3=>?_⟩,λy c e=>?_,I.free,I.rB,λp hp=>?_,tracked ⟨oL,hoL,I.free⟩ hs,by simpa using I.len⟩ ⟨_,hs,.inl rfl⟩
  .exact(hs.2 b (kZ (jd (Heap.lt_size e) I.ok.above))).trans (I.base.keep b o e n hb hx)
  .obtain⟨sl,e1⟩:=I.base.slot b o e n hb hx;exact⟨sl,(hs.2 b (kZ (jd (Heap.lt_size e) I.ok.above))).trans e1⟩
  .obtain⟨o',e1⟩:=I.base.there b o e hx;exact⟨o',(hs.2 b (kZ (jd (Heap.lt_size e) I.ok.above))).trans e1⟩
  .by_cases hj:j=i
   .subst hj;rw[hi]at e1;cases e1;rw[abS XJ]at e2;cases e2;exact⟨u,r,.inl ⟨hk,by simp⟩⟩
   .rw[Z2 (eG hj)]at e2;obtain⟨u',r',q⟩:=hl j y v' e1 e2 e3;refine⟨u',r',?_⟩;rcases q with⟨k,e⟩|⟨k,c,e,z⟩
    .refine .inl ⟨k,?_⟩;have:y≠x:=λe=>hj (X6 hN e1 (e▸hi));simp[this,e]
    .exact .inr ⟨k,c,e,z.sameBut hs (xR y c e)⟩
  .obtain⟨w',z⟩:=I.cell y c e;exact⟨w',z.sameBut hs (xR y c e)⟩
  .obtain⟨e,n,ne,nf,d⟩:=I.pin p hp;exact⟨(hs.2 p.1 ne).trans e,n,ne,nf,d⟩
 .have hfn:X.fn x=true:=by
   rcases hf with z|z
   .exact z
   .rw[z]at hk;cases hk
  obtain⟨c,hc⟩:=I.ok.has x (.inl hk);obtain⟨w',z⟩:=I.cell x c hc;refine wpAny_storeName_cell I.ok.kind hk hc z (λh' hc' hs=>?_);obtain⟨oc,hoc,ajO⟩:=id z;refine h { s with heap:=h' } ⟨I.ok,I.os,I.bare,⟨λb o e n hb hx=>?_,λb o e n hb hx=>?_,I.base.free,λb o e hx=>?_,I.base.tups,I.base.mZ,I.base.oJ⟩,⟨m,hn.sameBut hs (eG (xR x c hc)),λj y v' e1 e2 e3=>?_⟩,λy c' e=>?_,I.free,I.rB,λp hp=>?_,tracked ⟨oc,hoc,I.rB x c hc⟩ hs,by simpa using I.len⟩ ⟨c,hs,.inr hc⟩
  .exact(hs.2 b (kZ (jd (Heap.lt_size e) (I.ok.cab x c hfn hc)))).trans (I.base.keep b o e n hb hx)
  .obtain⟨sl,e1⟩:=I.base.slot b o e n hb hx;exact⟨sl,(hs.2 b (kZ (jd (Heap.lt_size e) (I.ok.cab x c hfn hc)))).trans e1⟩
  .obtain⟨o',e1⟩:=I.base.there b o e hx;exact⟨o',(hs.2 b (kZ (jd (Heap.lt_size e) (I.ok.cab x c hfn hc)))).trans e1⟩
  .by_cases hj:j=i
   .subst hj;rw[hi]at e1;cases e1;rw[abS XJ]at e2;cases e2;exact⟨u,r,.inr ⟨.inl hk,c,hc,hc'⟩⟩
   .rw[Z2 (eG hj)]at e2;obtain⟨u',r',q⟩:=hl j y v' e1 e2 e3;refine⟨u',r',?_⟩;rcases q with q|⟨k,c',e,z'⟩
    .exact .inl q
    .refine .inr ⟨k,c',e,z'.sameBut hs ?_⟩;rintro rfl;exact hj (X6 hN e1 (I.ok.inj _ _ _ e hc▸hi))
  .by_cases hcc:c'=c
   .subst hcc;exact⟨_,hc'⟩
   .obtain⟨w2,z2⟩:=I.cell y c' e;exact⟨w2,z2.sameBut hs hcc⟩
  .obtain⟨e,n,ne,nf,d⟩:=I.pin p hp;refine⟨(hs.2 p.1 ?_).trans e,n,ne,nf,d⟩;intro q;rw[q,hoc]at e;have q':oc=p.2:=ur e;exact d w' (by rw[<-q'];exact ajO)
def Bw{M:Model}{A:Around}{E:Value->Shared->Prop}{i:Nat}{x:Str}{v:V}{u:Value}{Q:Unit->Shared->Prop}(I:Inv X pins σ H s)(hN:X.N.Nodup)(hi:X.N[i]?=some x)(hx:Loc X.env.scope x)(r:RelV v u)
  (h:∀s',Inv X pins (σ.set i (some v)) H s'->Q () s') (hf:X.fn x=true∨X.env.scope.names.lookup x=some .local:=by first|exact .inl rfl|exact .inr rfl|assumption):wpAny M A (storeName X.env x u) Q E s:=
 apS I hN hi hx r (λs' I' _=>h s' I') hf
def Inv.an0{s':Shared}{ch:List Addr}(I:Inv X pins σ H s)(ho:s'.os=s.os)(u:Un (frs X.stack) ch H H' s.heap s'.heap)(hok:gk X.prog X.w H' s'.heap)(hg:AllBare s'.gens)
  (hch:∀b∈ch,(b∈X.ex∨X.s₀.heap.objs.size<=b)/\b≠X.env.locals/\(∀x c,X.env.cells.lookup x=some c->c≠b)/\∀p∈X.pn++pins,p.1≠b):Inv X pins σ H' s':=by
 obtain⟨h',g',d',t',o'⟩:=s';have e:o'=s.os:=ho;subst e;exact I.call (g':=g') (t':=t') (d':=d') u hok hg hch
end
abbrev XK:=Value->Option Addr->Hp->Prop
abbrev St:=List (Option V)
abbrev VK:=V->Hp->Prop
abbrev TE:=St->Hp->VK->Prop
abbrev TT:=St->Hp->(Bool->Hp->Prop)->Prop
abbrev TA:=St->Hp->(List V->Hp->Prop)->Prop
structure Ends where
 nx:St->Hp->Prop
 rt:VK
 bk:St->Hp->Prop:=λ_ _=>False
 ct:St->Hp->Prop:=λ_ _=>False
abbrev TS:=Ends->St->Hp->Prop
def EP(X:Cx)(pins:List (Addr×Obj))(σ:St)(Q:VK)(u:Value)(s':Shared):Prop:=∃v H',Inv X pins σ H' s'/\RelV v u/\Q v H'
def TP(X:Cx)(pins:List (Addr×Obj))(σ:St)(Q:Bool->Hp->Prop)(b:Bool)(s':Shared):Prop:=∃H',Inv X pins σ H' s'/\Q b H'
def AP(X:Cx)(pins:List (Addr×Obj))(σ:St)(Q:List V->Hp->Prop)(us:List Value)(s':Shared):Prop:=∃vs H',Inv X pins σ H' s'/\Vals vs us/\Q vs H'
def SP(X:Cx)(pins:List (Addr×Obj))(D:Ends)(f:Flow)(s':Shared):Prop:=
 match f with
 |.next=>∃σ' H',Inv X pins σ' H' s'/\D.nx σ' H'
 |.brk=>∃σ' H',Inv X pins σ' H' s'/\D.bk σ' H'
 |.cont=>∃σ' H',Inv X pins σ' H' s'/\D.ct σ' H'
 |.ret u=>∃v σ' H',Inv X pins σ' H' s'/\RelV v u/\D.rt v H'
def PE(X:Cx)(e:Expr)(t:TE):Prop:=
 ∀(pins:List (Addr×Obj)) (s:Shared) (σ:St) (H:Hp) (Q:VK),Inv X pins σ H s->t σ H Q->wpAny (model X.prog X.w) X.A (eval e X.env) (EP X pins σ Q) X.xe s
def PT(X:Cx)(e:Expr)(t:TT):Prop:=
 ∀(pins:List (Addr×Obj)) (s:Shared) (σ:St) (H:Hp) (Q:Bool->Hp->Prop),Inv X pins σ H s->t σ H Q->wpAny (model X.prog X.w) X.A (isTrue e X.env (eval e X.env)) (TP X pins σ Q) X.xe s
def PW(X:Cx)(e:Expr)(t:TT):Prop:=
 ∀(whole:Sem Value) (pins:List (Addr×Obj)) (s:Shared) (σ:St) (H:Hp) (Q:Bool->Hp->Prop),Inv X pins σ H s->t σ H Q->wpAny (model X.prog X.w) X.A (isTrue e X.env whole) (TP X pins σ Q) X.xe s
def PW.pt{X:Cx}{e:Expr}{t:TT}(h:PW X e t):PT X e t:=h _
def PA(X:Cx)(es:List Expr)(t:TA):Prop:=
 ∀(pos:Pos) (pins:List (Addr×Obj)) (s:Shared) (σ:St) (H:Hp) (Q:List V->Hp->Prop),Inv X pins σ H s->t σ H Q->wpAny (model X.prog X.w) X.A (spliced (backTo pos (starEach es X.env))) (AP X pins σ Q) X.xe s
def PS(X:Cx)(st:Stmt)(t:TS):Prop:=
 ∀(pins:List (Addr×Obj)) (s:Shared) (σ:St) (H:Hp) (D:Ends),Inv X pins σ H s->t D σ H->wpAny (model X.prog X.w) X.A (exec st X.env) (SP X pins D) X.xe s
def jM(X:Cx)(st:List Stmt)(t:TS):Prop:=
 ∀(pins:List (Addr×Obj)) (s:Shared) (σ:St) (H:Hp) (D:Ends),Inv X pins σ H s->t D σ H->wpAny (model X.prog X.w) X.A (execs st X.env) (SP X pins D) X.xe s
def bf{α:Type}{t:Sem α}{Q Q':α->Shared->Prop}{M:Model}{A:Around}{E:Value->Shared->Prop}{s:Shared}(h:wpAny M A t Q E s)(hQ:∀a s,Q a s->Q' a s):wpAny M A t Q' E s:=wpAny_mono h hQ λ_ _ x=>x
section
variable {X:Cx}
inductive agb(i:Nat)(σ:St)(H:Hp)(Q:VK):Prop|mk (v:V) (h:σ[i]?=some (some v)) (q:Q v H)
def adq(i:Nat):TE:=λσ H Q=>agb i σ H Q
def tC(v:V):TE:=λ_ H Q=>Q v H
def apI{i:Nat}{x:Str}{pos:Pos}(hN:X.N[i]?=some x)(hv:HJ X.env.scope x)(hd:(x==("__debug__" : Str))=false:=by decide)(hcd:(x==("__classdict__" : Str))=false:=by decide):PE X (.Name x pos) (adq i):=by
 intro pins s σ H Q I h;obtain⟨v,e,h⟩:=h;obtain⟨m,hn,hl⟩:=I.loc;obtain⟨u,r,l⟩:=hl i x v hN e hv;have fin:EP X pins σ Q u s:=⟨v,H,I,r,h⟩;rcases l with⟨hk,hm⟩|⟨hk,c,hc,hcell⟩
 .exact wpAny_Name (wpAny_loadName_local I.ok.kind hk hn hm fin) hd
 .rcases hk with hk|hk
  .exact wpAny_Name (wpAny_loadName_cell I.ok.kind hk hc hcell fin) hd
  .exact wpAny_Name (wpAny_loadName_free I.ok.kind hk hc hcell fin hcd) hd
def ak{i j pos}:PE X (.Constant (.int i) j pos) (tC (.int i)):=λ_ _ _ H _ I h=>wpAny_Constant_int ⟨.int i,H,I.tok _,⟨_,rfl⟩,h⟩
def nM{b j pos}:PE X (.Constant (.bool b) j pos) (tC (.bl b)):=λ_ _ _ H _ I h=>Constant_bool ⟨.bl b,H,I,rfl,h⟩
def Fw{j pos}:PE X (.Constant .none j pos) (tC .non):=λ_ _ _ H _ I h=>Constant_none ⟨.non,H,I,rfl,h⟩
def DP{x j pos}:PE X (.Constant (.str x) j pos) (tC (.str x)):=λ_ _ _ H _ I h=>Calls.Constant_str ⟨.str x,H,I.tok _,⟨_,rfl⟩,h⟩
def Gl(X:Cx)(x:Str):Prop:=X.env.kindOf x=some .globalImplicit
def Ko{E:Value->Shared->Prop}{pins:List (Addr×Obj)}{s:Shared}{σ:St}{H:Hp}{x:Str}{u:Value}{pos:Pos}{Q:Value->Shared->Prop}(I:Inv X pins σ H s)(hg:Gl X x)(hm:X.mg x=some u)(h:Q u s)
  (hd:(x==("__debug__" : Str))=false:=by decide):wpAny (model X.prog X.w) X.A (eval (.Name x pos) X.env) Q E s:=
 Calls.Name_function_global I.ok.kind hg (Calls.loadGlobal_global (by rw[I.ok.glob];exact I.mod.glob.keeps I.bk) hm h) hd
def qg{E:Value->Shared->Prop}{pins:List (Addr×Obj)}{s:Shared}{σ:St}{H:Hp}{x:Str}{u:Value}{pos:Pos}{Q:Value->Shared->Prop}(I:Inv X pins σ H s)(hg:Gl X x)(hm:X.mg x=none)(hv:bootBuiltins x=some u)(h:Q u s)
  (hn:x≠ "__name__" := by decide) (hd:(x==("__debug__" : Str))=false:=by decide):wpAny (model X.prog X.w) X.A (eval (.Name x pos) X.env) Q E s:=by
 obtain⟨mb,h1,h2⟩:=I.mod.blt;exact Calls.Name_function_global I.ok.kind hg (Calls.loadGlobal_builtin (by rw[I.ok.glob];exact I.mod.glob.keeps I.bk) hm (by rw[I.ok.blt];exact h1.keeps I.bk) ((h2 x hn).trans hv) h) hd
def ais{x:Str}{v:V}{u:Value}{pos:Pos}(hg:Gl X x)(hm:X.mg x=some u)(r:RelV v u)(hd:(x==("__debug__" : Str))=false:=by decide):PE X (.Name x pos) (tC v):=
 λ_ _ _ H _ I h=>Ko I hg hm ⟨v,H,I,r,h⟩ hd
def agl{x:Str}{v:V}{u:Value}{pos:Pos}(hg:Gl X x)(hm:X.mg x=none)(hv:bootBuiltins x=some u)(r:RelV v u)(hn:x≠ "__name__" := by decide)(hd:(x==("__debug__" : Str))=false:=by decide):PE X (.Name x pos) (tC v):=
 λ_ _ _ H _ I h=>qg I hg hm hv ⟨v,H,I,r,h⟩ hn hd
variable {a b:Expr} {ta tb:TE} {pos:Pos}
def PC(X:Cx)(op:CmpOp)(a b:Expr)(t:TE):Prop:=
 ∀(pins:List (Addr×Obj)) (s:Shared) (σ:St) (H:Hp) (Q:VK),Inv X pins σ H s->t σ H Q->
  wpAny (model X.prog X.w) X.A (eval a X.env) (λv s₁=>wpAny (model X.prog X.w) X.A (eval b X.env) (λu s₂=>wpAny (model X.prog X.w) X.A (compareOp op v u) (EP X pins σ Q) X.xe s₂) X.xe s₁) X.xe s
def auh(b:Expr){op:CmpOp}(h:op≠ .In)(h2:op≠ .NotIn):behindInMarks op b=false:=by
 have e1:(op==CmpOp.In)=false:=by cases op<;>first|rfl|exact absurd rfl h
 have e2:(op==CmpOp.NotIn)=false:=by cases op<;>first|rfl|exact absurd rfl h2
 cases b<;>simp[behindInMarks,e1,e2]
def an2(ta:TE):TE:=λσ H Q=>ta σ H λx H1=>Q (.bl (decide (x = .non))) H1
def ai4(ta:TE):TE:=λσ H Q=>ta σ H λx H1=>Q (.bl (!decide (x = .non))) H1
def RelV.X7{x:V}{v:Value}(r:RelV x v):(v==Value.none)=decide (x = .non):=by
 cases x with
 |non=>cases r;rfl
 |bl _=>cases r;rfl
 |int _=>obtain⟨t,rfl⟩:=r;rfl
 |str _=>obtain⟨t,rfl⟩:=r;rfl
 |mC _=>obtain⟨t,rfl⟩:=r;rfl
 |flt _=>obtain⟨t,rfl⟩:=r;rfl
 |ref _=>cases r;rfl
 |ty _=>cases r;rfl
def acv{j pos'}(ha:PE X a ta):PC X .Is a (.Constant .none j pos') (an2 ta):=by
 intro pins s σ H Q I h;refine bf (ha pins s σ H _ I h) λv s1 ⟨x,H1,I1,r1,q1⟩=>?_;exact Constant_none (is_none_gen ⟨.bl _,H1,I1,by rw[r1.X7];rfl,q1⟩)
def aeu{j pos'}(ha:PE X a ta):PC X .IsNot a (.Constant .none j pos') (ai4 ta):=by
 intro pins s σ H Q I h;refine bf (ha pins s σ H _ I h) λv s1 ⟨x,H1,I1,r1,q1⟩=>?_;exact Constant_none (isnot_none_gen ⟨.bl _,H1,I1,by rw[r1.X7];rfl,q1⟩)
def tB(t:TE):TT:=λσ H Q=>t σ H λx H1=>∃c,x = .bl c/\Q c H1
def Jp{op:CmpOp}{t:TE}(h:PC X op a b t)(h1:behindInMarks op b=false:=by first|exact auh _ (by decide) (by decide)|rfl):PT X (.Compare a [op] [b] pos) (tB t):=by
 intro pins s σ H Q I hw;refine wpAny_isTrue_Compare1 (bf (h pins s σ H _ I hw) λv s1 h1=>bf h1 λu s2 h2=>bf h2 λc s3 ⟨x,H1,I1,r1,q1⟩=>?_) h1;obtain⟨d,rfl,q⟩:=q1;cases r1;exact wpAny_truthy_bool ⟨H1,I1,q⟩
def uD{e:Expr}{t:TE}(h:PE X e t)(he:∀whole,isTrue e X.env whole=(do let v<-whole;standAt e.pos;holding [v] (truthy v)):=by intro _;rfl):PT X e (tB t):=by
 intro pins s σ H Q I hw;refine isTrue_plain (bf (h pins s σ H _ I hw) λv s1 ⟨x,H1,I1,r1,q1⟩=>?_) (he _);obtain⟨d,rfl,q⟩:=q1;cases r1;exact wpAny_truthy_bool ⟨H1,I1,q⟩
variable {tA Im:TT} {rest:List Expr}
def anU(t u:TT):TT:=λσ H Q=>t σ H λc H1=>if c=true then u σ H1 Q else Q false H1
def tOr(t u:TT):TT:=λσ H Q=>t σ H λc H1=>if c=true then Q true H1 else u σ H1 Q
def as3(t:TT):TT:=λσ H Q=>t σ H λc H1=>Q (!c) H1
def yd(ha:PT X a tA):PW X (.BoolOp .And [a] pos) tA:=by
 intro wh pins s σ H Q I h;refine isTrue_and (bf (ha pins s σ H Q I h) λc s1 e=>?_);cases c with
 |true=>exact isTrue_and_nil e
 |false=>exact e
def Ed(ha:PT X a tA):PW X (.BoolOp .Or [a] pos) tA:=by
 intro wh pins s σ H Q I h;refine isTrue_or (bf (ha pins s σ H Q I h) λc s1 e=>?_);cases c with
 |false=>exact isTrue_or_nil e
 |true=>exact e
def vm(ha:PT X a tA)(hb:PW X (.BoolOp .And (b::rest) pos) Im):PW X (.BoolOp .And (a::b::rest) pos) (anU tA Im):=by
 intro wh pins s σ H Q I h;refine isTrue_and (bf (ha pins s σ H _ I h) λc s1 ⟨H1,I1,q1⟩=>?_);cases c with
 |true=>exact hb wh pins s1 σ H1 Q I1 q1
 |false=>exact⟨H1,I1,q1⟩
def rH(ha:PT X a tA)(hb:PW X (.BoolOp .Or (b::rest) pos) Im):PW X (.BoolOp .Or (a::b::rest) pos) (tOr tA Im):=by
 intro wh pins s σ H Q I h;refine isTrue_or (bf (ha pins s σ H _ I h) λc s1 ⟨H1,I1,q1⟩=>?_);cases c with
 |true=>exact⟨H1,I1,q1⟩
 |false=>exact hb wh pins s1 σ H1 Q I1 q1
def AZ(ha:PT X a tA):PT X (.UnaryOp .Not a pos) (as3 tA):=by
 intro pins s σ H Q I h;exact isTrue_not (ha pins s σ H (λc H1=>Q (!c) H1) I h)
def al9(ta tb:TE):TE:=λσ H Q=>ta σ H λx H1=>∃c,x = .bl c/\if c=true then tb σ H1 Q else Q (.bl false) H1
def atr(ta tb:TE):TE:=λσ H Q=>ta σ H λx H1=>∃c,x = .bl c/\if c=true then Q (.bl true) H1 else tb σ H1 Q
def Vz{op}{t:TE}(h:PE X a t):PE X (.BoolOp op [a] pos) t:=λpins s σ H Q I hw=>BoolOp_one (h pins s σ H Q I hw)
def an7(ha:PE X a ta)(hb:PE X (.BoolOp .And (b::rest) pos) tb):PE X (.BoolOp .And (a::b::rest) pos) (al9 ta tb):=by
 intro pins s σ H Q I h;refine BoolOp_and (bf (ha pins s σ H _ I h) λv s1 ⟨x,H1,I1,r1,q1⟩=>?_);obtain⟨c,rfl,q1⟩:=q1;cases r1;refine wpAny_truthy_bool ?_;cases c with
 |true=>exact hb pins s1 σ H1 Q I1 q1
 |false=>exact⟨.bl false,H1,I1,rfl,q1⟩
def ao7(ha:PE X a ta)(hb:PE X (.BoolOp .Or (b::rest) pos) tb):PE X (.BoolOp .Or (a::b::rest) pos) (atr ta tb):=by
 intro pins s σ H Q I h;refine BoolOp_or (bf (ha pins s σ H _ I h) λv s1 ⟨x,H1,I1,r1,q1⟩=>?_);obtain⟨c,rfl,q1⟩:=q1;cases r1;refine wpAny_truthy_bool ?_;cases c with
 |false=>exact hb pins s1 σ H1 Q I1 q1
 |true=>exact⟨.bl true,H1,I1,rfl,q1⟩
def tIf(t:TT)(ta tb:TE):TE:=λσ H Q=>t σ H λc H1=>if c=true then ta σ H1 Q else tb σ H1 Q
def W5{c:Expr}(hc:PT X c tA)(ha:PE X a ta)(hb:PE X b tb):PE X (.IfExp c a b pos) (tIf tA ta tb):=by
 intro pins s σ H Q I h;refine wpAny_IfExp (bf (hc pins s σ H _ I h) λd s1 ⟨H1,I1,q1⟩=>?_);cases d with
 |true=>exact ha pins s1 σ H1 Q I1 q1
 |false=>exact hb pins s1 σ H1 Q I1 q1
end
def aq(K:W.Frag)(H:Hp)(a:Addr)(xs:List V):Prop:=
 Rd H a (.lst xs)∨
  ∃(o:Obj) (its:Array Value) (n:Nat),K.lookup a=some o/\o.cls = .type "list" /\ o.dict=none/\o.data = .seq its n/\its.size<=sizeLine/\Vals xs its.toList
def aC(K:W.Frag)(H:Hp)(a:Addr)(xs:List V):Prop:=
 Rd H a (.tup xs)∨
  ∃(o:Obj) (its:Array Value) (n:Nat),K.lookup a=some o/\o.cls = .type "tuple" /\ o.data = .seq its n/\its.size<=sizeLine/\Vals xs its.toList
def afj:Value->Option V
 |.none=>some .non
 |.bool b=>some (.bl b)
 |.int i _=>some (.int i)
 |.str x _=>some (.str x)
 |.bytes b _=>some (.mC b)
 |.float b _=>some (.flt b)
 |.ref a=>some (.ref a)
 |.type n=>some (.ty n)
 |_=>none
def RelV.abs{x:V}{u:Value}(r:RelV x u):afj u=some x:=by
 cases x with
 |non=>cases r;rfl
 |bl _=>cases r;rfl
 |int _=>obtain⟨t,rfl⟩:=r;rfl
 |str _=>obtain⟨t,rfl⟩:=r;rfl
 |mC _=>obtain⟨t,rfl⟩:=r;rfl
 |flt _=>obtain⟨t,rfl⟩:=r;rfl
 |ref _=>cases r;rfl
 |ty _=>cases r;rfl
theorem RelV.inj{x y:V}{u:Value}(r:RelV x u)(q:RelV y u):x=y:=ur (r.abs.symm.trans q.abs)
theorem Vals.inj{xs ys:List V}{us:List Value}(h:Vals xs us)(h':Vals ys us):xs=ys:=by
 induction h generalizing ys with
 |nil=>cases h';rfl
 |cons r t ih=>
  cases h' with
  |cons r' t'=>rw[r.inj r',ih t']
section
variable {X:Cx} {pins:List (Addr×Obj)} {σ:St} {H:Hp} {s:Shared} {a:Addr} {xs ys:List V}
def aq.of{K:W.Frag}(h:H a=some (.lst xs)):aq K H a xs:= .inl (.inl h)
def aC.of{K:W.Frag}(h:H a=some (.tup xs)):aC K H a xs:= .inl (.inl h)
def Inv.list(I:Inv X pins σ H s)(h:aq X.K H a xs):∃its:List Value,Vals xs its/\PlainL s.heap a its.toArray/\xs.length<=sizeLine:=by
 rcases h with h|⟨o,its,n,hk,hc,hd,hs,hz,r⟩
 .obtain⟨z,its,n,r,e⟩:=h.ok I.hok;exact⟨its,r,⟨_,n,e,rfl,rfl,rfl⟩,z⟩
 .refine⟨its.toList,r,⟨o,n,I.jO a o hk,hc,hd,by simpa using hs⟩,?_⟩;have e:=r.length;simp only[Nm]at e;omega
def Inv.tuple(I:Inv X pins σ H s)(h:aC X.K H a xs):∃its:List Value,Vals xs its/\IsTup s.heap a its.toArray/\xs.length<=sizeLine:=by
 rcases h with h|⟨o,its,n,hk,hc,hs,hz,r⟩
 .obtain⟨z,its,r,p⟩:=h.ok I.hok;exact⟨its,r,p,z⟩
 .refine⟨its.toList,r,⟨o,I.jO a o hk,hc,n,by simpa using hs⟩,?_⟩;have e:=r.length;simp only[Nm]at e;omega
def Inv.K4(I:Inv X pins σ H s)(h:aq X.K H a xs)(h':aq X.K H a ys):xs=ys:=by
 obtain⟨its,r,⟨o,n,e,_,_,d⟩,_⟩:=I.list h;obtain⟨its',r',⟨o',n',e',_,_,d'⟩,_⟩:=I.list h';rw[e]at e';cases e';rw[d]at d';injection d' with d1 _;have:its=its':=by simpa using congrArg Array.toList d1
 subst this;exact r.inj r'
def Inv.aa0(I:Inv X pins σ H s)(h:aC X.K H a xs)(h':aC X.K H a ys):xs=ys:=by
 obtain⟨its,r,⟨o,e,_,n,d⟩,_⟩:=I.tuple h;obtain⟨its',r',⟨o',e',_,n',d'⟩,_⟩:=I.tuple h';rw[e]at e';cases e';rw[d]at d';injection d' with d1 _;have:its=its':=by simpa using congrArg Array.toList d1
 subst this;exact r.inj r'
end
abbrev Cx.wish(X:Cx)(E:Value->Shared->Prop):Cx:={ X with xe:=E }
abbrev Cx.B7(X:Cx):Cx:=X.wish λ_ _=>False
theorem Cx.Ok.wish{X:Cx}(ok:X.Ok)(E:Value->Shared->Prop):(X.wish E).Ok:=
 ⟨ok.mod,ok.kind,ok.glob,ok.blt,ok.above,ok.inj,ok.has,ok.cab,ok.hd,ok.frames,ok.stk,ok.exf,ok.bs,ok.vX,ok.BL,ok.Dl,ok.qz,ok.Ak⟩
def Cx.Ok.vo{X:Cx}{E:Value->Shared->Prop}(ok:(X.wish E).Ok):X.Ok:=
 ⟨ok.mod,ok.kind,ok.glob,ok.blt,ok.above,ok.inj,ok.has,ok.cab,ok.hd,ok.frames,ok.stk,ok.exf,ok.bs,ok.vX,ok.BL,ok.Dl,ok.qz,ok.Ak⟩
section
variable {X:Cx} {pins:List (Addr×Obj)} {σ:St} {H:Hp} {s:Shared} {E:Value->Shared->Prop}
theorem Inv.wish(I:Inv X pins σ H s)(E:Value->Shared->Prop):Inv (X.wish E) pins σ H s:=⟨I.ok.wish E,I.os,I.bare,I.base,I.loc,I.cell,I.free,I.rB,I.pin,I.hok,I.len⟩
theorem Inv.vo(I:Inv (X.wish E) pins σ H s):Inv X pins σ H s:=⟨I.ok.vo,I.os,I.bare,I.base,I.loc,I.cell,I.free,I.rB,I.pin,I.hok,I.len⟩
theorem SP.vo{D:Ends}{f:Flow}{s':Shared}(h:SP (X.wish E) pins D f s'):SP X pins D f s':=by
 cases f with
 |next=>obtain⟨σ',H',I,q⟩:=h;exact⟨σ',H',I.vo,q⟩
 |brk=>obtain⟨σ',H',I,q⟩:=h;exact⟨σ',H',I.vo,q⟩
 |cont=>obtain⟨σ',H',I,q⟩:=h;exact⟨σ',H',I.vo,q⟩
 |ret u=>obtain⟨v,σ',H',I,r,q⟩:=h;exact⟨v,σ',H',I.vo,r,q⟩
theorem jM.B7{st:List Stmt}{t:TS}(h:jM X.B7 st t):jM X st t:=λpins s σ H D I hw=>
 wpAny_mono (h pins s σ H D (I.wish _) hw) (λ_ _ q=>q.vo) λ_ _ z=>False.elim z
end
section
variable {X:Cx} {st:Stmt} {rest:List Stmt} {t u:TS} {e:Expr} {te:TE} {pos:Pos}
def ahu:TS:=λD σ H=>D.nx σ H
def agS(t u:TS):TS:=λD σ H=>t { D with nx:=u D } σ H
def cZ:jM X [] ahu:=λ_ _ σ H _ I h=>wpAny_execs_nil ⟨σ,H,I,h⟩
def au(h1:PS X st t)(h2:jM X rest u):jM X (st::rest) (agS t u):=by
 intro pins s σ H D I h;refine wpAny_execs_cons (bf (h1 pins s σ H { D with nx:=u D } I h) λf s1 q=>?_);cases f with
 |next=>
  obtain⟨σ',H',I',q⟩:=q;exact h2 pins s1 σ' H' D I' q
 |ret v=>exact q
 |brk=>exact q
 |cont=>exact q
def aF(h1:PS X st t):jM X [st] t:=by
 intro pins s σ H D I h;refine wpAny_execs_cons (bf (h1 pins s σ H D I h) λf s1 q=>?_);cases f with
 |next=>exact wpAny_execs_nil q
 |ret v=>exact q
 |brk=>exact q
 |cont=>exact q
def Inv.quiet{pins:List (Addr×Obj)}{σ:St}{H:Hp}{s:Shared}(I:Inv X pins σ H s):interactive X.env=false:=by simp[interactive,I.ok.kind]
def agQ(te:TE):TS:=λD σ H=>te σ H λ_ H1=>D.nx σ H1
def n6(he:PE X e te)(hs:swapsWith e none pos.line X.env=pure false:=by rfl):PS X (.Expr e pos) (agQ te):=by
 intro pins s σ H D I h;exact wpAny_Expr_any (bf (he pins s σ H _ I h) λv s1 ⟨x,H1,I1,r1,q1⟩=>⟨σ,H1,I1,q1⟩) I.quiet hs
def alU(te:TE):TS:=λD σ H=>te σ H D.rt
def aX(he:PE X e te):PS X (.Return (some e) pos) (alU te):=by
 intro pins s σ H D I h;exact wpAny_Return_some (bf (he pins s σ H _ I h) λv s1 ⟨x,H1,I1,r1,q1⟩=>⟨x,σ,H1,I1,r1,q1⟩)
def aqz(c:TT)(t u:TS):TS:=λD σ H=>c σ H λb H1=>if b=true then t D σ H1 else u D σ H1
def cW{c:Expr}{a b:List Stmt}{tc:TT}(hc:PT X c tc)(ha:jM X a t)(hb:jM X b u):PS X (.If c a b pos) (aqz tc t u):=by
 intro pins s σ H D I h;refine wpAny_If (bf (hc pins s σ H _ I h) λd s1 ⟨H1,I1,q1⟩=>?_);cases d with
 |true=>exact ha pins s1 σ H1 D I1 q1
 |false=>exact hb pins s1 σ H1 D I1 q1
def ar0:TS:=λ_ _ _=>False
def abk:PS X st ar0:=λ_ _ _ _ _ _ h=>h.elim
end
abbrev TG:=V->St->Hp->(St->Hp->Prop)->Prop
abbrev uc:=List V->St->Hp->(St->Hp->Prop)->Prop
def PG(X:Cx)(target:Expr)(t:TG):Prop:=
 ∀(pins:List (Addr×Obj)) (s:Shared) (σ:St) (H:Hp) (v:V) (u:Value) (Q:St->Hp->Prop),Inv X pins σ H s->RelV v u->t v σ H Q->
  wpAny (model X.prog X.w) X.A (assign target X.env u) (λ_ s'=>∃σ' H',Inv X pins σ' H' s'/\Q σ' H') X.xe s
def yL(X:Cx)(ts:List Expr)(t:uc):Prop:=
 ∀(pins:List (Addr×Obj)) (s:Shared) (σ:St) (H:Hp) (vs:List V) (us:List Value) (Q:St->Hp->Prop),Inv X pins σ H s->Vals vs us->t vs σ H Q->
  wpAny (model X.prog X.w) X.A (assignInOrder ((assignEach ts X.env).map (·.2)) us) (λ_ s'=>∃σ' H',Inv X pins σ' H' s'/\Q σ' H') X.xe s
abbrev Kv:=V->V->V->Hp->(Hp->Prop)->Prop
def Xf(X:Cx)(t:Kv):Prop:=
 ∀(pins:List (Addr×Obj)) (s:Shared) (σ:St) (H:Hp) (o i v:V) (ov iv u:Value) (Q:Hp->Prop),Inv X pins σ H s->RelV o ov->RelV i iv->RelV v u->t o i v H Q->
  wpAny (model X.prog X.w) X.A (setItem ov iv u) (λ_ s'=>∃H',Inv X pins σ H' s'/\Q H') X.xe s
section
variable {X:Cx} {pos:Pos}
def gU(i:Nat):TG:=λv σ H Q=>Q (σ.set i (some v)) H
def aV{i:Nat}{x:Str}(hN:X.N.Nodup)(hi:X.N[i]?=some x)(hx:Loc X.env.scope x)(hf:X.fn x=true∨X.env.scope.names.lookup x=some .local:=by first|exact .inl rfl|exact .inr rfl|assumption):PG X (.Name x pos) (gU i):=by
 intro pins s σ H v u Q I r h;exact wpAny_assign_Name (Bw I hN hi hx r (λs' I'=>⟨_,H,I',h⟩) hf)
def Dc:uc:=λvs σ H Q=>vs=[]/\Q σ H
inductive ap9(t:TG)(u:uc)(vs:List V)(σ:St)(H:Hp)(Q:St->Hp->Prop):Prop|mk (v:V) (r:List V) (h:vs=v::r) (q:t v σ H λσ' H'=>u r σ' H' Q)
def su(t:TG)(u:uc):uc:=λvs σ H Q=>ap9 t u vs σ H Q
def lH:yL X [] Dc:=by
 intro pins s σ H vs us Q I r h;obtain⟨e,h⟩:=h;subst e;cases r;exact assignInOrder_nil ⟨σ,H,I,h⟩
def eX{e:Expr}{es:List Expr}{t:TG}{u:uc}(h1:PG X e t)(h2:yL X es u)
  (hs:(assignEach (e::es) X.env).map (·.2)=assign e X.env::(assignEach es X.env).map (·.2):=by rfl):yL X (e::es) (su t u):=by
 intro pins s σ H vs us Q I r h;obtain⟨v,vr,e1,h⟩:=h;subst e1;cases r with
 |cons r rr=>
  rw[hs];refine assignInOrder_cons (bf (h1 pins s σ H _ _ _ I r h) λ_ s1 ⟨σ1,H1,I1,q1⟩=>?_);exact h2 pins s1 σ1 H1 _ _ Q I1 rr q1
def yx(K:W.Frag)(n:Nat)(t:uc):TG:=λv σ H Q=>∃a xs,v = .ref a/\aC K H a xs/\xs.length=n/\t xs σ H Q
def amf{es:List Expr}{k:Nat}{t:uc}{n:Nat}(hc:X.calm=true)(h:yL X es t)
  (hn:(assignEach es X.env).length=n:=by rfl) (hst:(assignEach es X.env).findIdx? (·.1)=none:=by rfl):PG X (.Tuple es k pos) (yx X.K n t):=by
 intro pins s σ H v u Q I r hw;obtain⟨a,xs,e1,hq,hl,hw⟩:=hw;subst e1;cases r;obtain⟨its,rv,ht,hz⟩:=I.tuple hq;refine assign_Tuple_tuple (I.ok.hd hc) ht (by simp[hn,<-hl,rv.length]) hst λh' hx=>?_;have I1:Inv X pins σ H { s with heap:=h' }:=I.kept (t':=s.toks) λb o e=>hx b o (kZ (Heap.lt_size e)) e;exact h pins _ σ H xs _ Q I1 (by simpa using rv) hw
def alC(to ti:TE)(t:Kv):TG:=λv σ H Q=>to σ H λo H1=>ti σ H1 λi H2=>t o i v H2 λH3=>Q σ H3
def wK{o i:Expr}{to ti:TE}{t:Kv}(ho:PE X o to)(hi:PE X i ti)(hs:Xf X t)
  (ha:∀v,assign (.Subscript o i pos) X.env v=(do
   let ov<-holding [v] (eval o X.env)
   let iv<-holding [v,ov] (eval i X.env)
   standAt pos
   holding [v,ov,iv] (setItem ov iv v)
   release [v,ov,iv] []):=by intro _;rfl):PG X (.Subscript o i pos) (alC to ti t):=by
 intro pins s σ H v u Q I r h;rw[ha];refine wpAny_bind (wpAny_holding (bf (ho pins s σ H _ I h) λov s1 ⟨x,H1,I1,r1,q1⟩=>?_));refine wpAny_bind (wpAny_holding (bf (hi pins s1 σ H1 _ I1 q1) λiv s2 ⟨y,H2,I2,r2,q2⟩=>?_));refine wpAny_bind (wpAny_standAt (wpAny_bind (wpAny_holding (bf (hs pins s2 σ H2 x y v ov iv u _ I2 r1 r2 r q2) λ_ s3 ⟨H3,I3,q3⟩=>?_))));exact wpAny_release ⟨σ,H3,I3,q3⟩
def Uk(te:TE)(g:TG):TS:=λD σ H=>te σ H λx H1=>g x σ H1 D.nx
def qM{tg e:Expr}{te:TE}{g:TG}(he:PE X e te)(hg:PG X tg g)(hs:swapsWithSole [tg] e pos.line X.env=pure false:=by rfl)(hw:swappedStores [tg] e X.env=pure none:=by rfl)
  (h1:(assignEach [tg] X.env).map (·.2)=[assign tg X.env]:=by rfl):PS X (.Assign [tg] e pos) (Uk te g):=by
 intro pins s σ H D I h;refine wpAny_Assign_stores (bf (he pins s σ H _ I h) λv s1 ⟨x,H1,I1,r1,q1⟩=>?_) hs hw;rw[h1];exact bf (hg pins s1 σ H1 x v _ I1 r1 q1) λ_ s2 q=>q
def aD{i:Nat}{x:Str}{e:Expr}{te:TE}{pos':Pos}(hN:X.N.Nodup)(hi:X.N[i]?=some x)(hx:Loc X.env.scope x)(he:PE X e te)(hs:swapsWith e (some (.Name x pos')) pos.line X.env=pure false:=by rfl)(hf:X.fn x=true∨X.env.scope.names.lookup x=some .local:=by first|exact .inl rfl|exact .inr rfl|assumption):
  PS X (.Assign [.Name x pos'] e pos) (Uk te (gU i)):=by
 intro pins s σ H D I h;refine wpAny_Assign_Name (bf (he pins s σ H _ I h) λv s1 ⟨y,H1,I1,r1,q1⟩=>?_) hs;exact Bw I1 hN hi hx r1 (λs2 I2=>⟨_,H1,I2,q1⟩) hf
def afL(i j:Nat)(ta:TA):TS:=λD σ H=>ta σ H λvs H1=>∃v w,vs=[v,w]/\D.nx ((σ.set i (some v)).set j (some w)) H1
def aq0{i j:Nat}{x y:Str}{a b:Expr}{ta:TA}{px py pt:Pos}{kt k2 TV}(hc:X.calm=true)(hN:X.N.Nodup)(hi:X.N[i]?=some x)(hj:X.N[j]?=some y)(hij:i≠j)
  (hx:X.env.scope.names.lookup x=some .local) (hy:X.env.scope.names.lookup y=some .local) (ha:PA X [a,b] ta)
  (hw:swappedStores [.Tuple [.Name x px,.Name y py] kt pt] (.Tuple [a,b] k2 TV) X.env=pure (some [x,y]))
  (hs:swapsWithSole [.Tuple [.Name x px,.Name y py] kt pt] (.Tuple [a,b] k2 TV) pos.line X.env=pure false:=by rfl):
  PS X (.Assign [.Tuple [.Name x px,.Name y py] kt pt] (.Tuple [a,b] k2 TV) pos) (afL i j ta):=by
 intro pins s σ H D I h;rw[exec_Assign_arm];refine wpAny_bind (wpAny_standAt ?_);rw[hs];refine wpAny_bind (wpAny_pure ?_);rw[if_neg (by decide)];refine wpAny_bind (Tuple_ (bf (ha _ pins s σ H _ I h) λus s1 ⟨vs,H1,I1,r1,q1⟩=>?_));obtain⟨v,w,e1,q1⟩:=q1;subst e1;obtain⟨u1,u2,rfl,rv,Bp⟩:∃u1 u2,us=[u1,u2]/\RelV v u1/\RelV w u2:=by
  cases r1 with
  |cons p q=>
   cases q with
   |cons p' q'=>
    cases q';exact⟨_,_,rfl,p,p'⟩
 refine wpAny_newObj_type ?_ (by show 2<=sizeLine;decide);have I2:Inv X pins σ H1 { s1 with heap:=s1.heap.push { cls:= .type "tuple",data:= .seq [u1,u2].toArray } }:=I1.kept (t':=s1.toks) λb o e=>Heap.get?_push_of_some _ e;rw[hw];refine wpAny_bind (wpAny_pure ?_);show wpAny (model X.prog X.w) X.A (do rule "assign.swapped-stores";let items<-unpackItems (.ref s1.heap.objs.size) 2 none;assignInOrder [λv=>bindName X.env y v,λv=>bindName X.env x v] items.reverse;pure Flow.next) _ _ _
 refine wpAny_bind (wpAny_rule (wpAny_bind (unpackItems_tuple (items:=#[u1,u2]) (I.ok.hd hc) (IsTup.new s1.heap _) λh' hx'=>?_)));have I3:=I2.kept (h':=h') (t':=s1.toks) λb o e=>hx' b o (kZ (Heap.lt_size e)) e;show wpAny _ _ (assignInOrder [λv=>bindName X.env y v,λv=>bindName X.env x v] [u2,u1]>>=λ_=>pure Flow.next) _ _ _;refine wpAny_bind (assignInOrder_cons (wpAny_bindName (Bw I3 hN hj (.inl hy) Bp (λs2 I4=>?_) (.inr hy))));refine assignInOrder_cons (wpAny_bindName (Bw I4 hN hi (.inl hx) rv (λs3 I5=>assignInOrder_nil (wpAny_pure ?_)) (.inr hx)));rw[List.set_comm _ _ (eG hij)]at I5;exact⟨_,H1,I5,q1⟩
end
section
variable {X:Cx} {pos:Pos}
def as9(c:TT)(tb:TS):TS:=λD σ H=>∃W:Nat->St->Hp->Prop,(∃m,W m σ H)/\∀m σ H,W m σ H->
 c σ H λb H1=>if b=true then ∃N:St->Hp->Prop,(∀σ' H',N σ' H'->∃m',m'<m/\W m' σ' H')/\tb { D with nx:=N,ct:=N,bk:=D.nx } σ H1 else D.nx σ H1
def oY{c:Expr}{body:List Stmt}{tc:TT}{tb:TS}(hp:PassesOwn (model X.prog X.w) X.A X.env X.xe)(hc:PT X c tc)(hb:jM X body tb):PS X (.While c body [] pos) (as9 tc tb):=by
 intro pins s σ H D I h;obtain⟨W,⟨m0,w0⟩,turn⟩:=h;refine wpAny_While (codeAny_whileLoop (λn s'=>∃σ' H',Inv X pins σ' H' s'/\W n σ' H') ?_ m0 ⟨σ,H,I,w0⟩);rintro n s1 ⟨σ1,H1,I1,w1⟩;refine wpAny_passesOwn hp (bf (hc pins s1 σ1 H1 _ I1 (turn n σ1 H1 w1)) λb s2 ⟨H2,I2,q2⟩=>?_);cases b with
 |true=>
  obtain⟨N,hN,q2⟩:=q2;rw[if_pos rfl];refine wpAny_passesOwn hp (bf (hb pins s2 σ1 H2 _ I2 q2) λf s3 q3=>?_);cases f with
  |next=>
   obtain⟨σ3,H3,I3,n3⟩:=q3;obtain⟨m',hm,w3⟩:=hN σ3 H3 n3;exact⟨m',hm,σ3,H3,I3,w3⟩
  |cont=>
   obtain⟨σ3,H3,I3,n3⟩:=q3;obtain⟨m',hm,w3⟩:=hN σ3 H3 n3;exact⟨m',hm,σ3,H3,I3,w3⟩
  |brk=>exact q3
  |ret v=>exact q3
 |false=>
  rw[if_neg fP];exact wpAny_execs_nil ⟨σ1,H2,I2,q2⟩
end
structure It where
 go:Nat->Hp->Prop
 jB:Nat->Hp->V->Hp->Prop
 stop:Nat->Hp->Prop
def oh(X:Cx)(pins:List (Addr×Obj))(H:Hp)(b:Addr):Prop:=
 H b=none/\b≠X.env.locals/\b∉X.fs/\(b∈X.ex∨X.s₀.heap.objs.size<=b)/\(∀x c,X.env.cells.lookup x=some c->c≠b)/\∀p∈X.pn++pins,p.1≠b
def Inv.ou{X:Cx}{pins:List (Addr×Obj)}{σ:St}{H H':Hp}{s:Shared}{b:Addr}(I:Inv X pins σ H s)(hb:s.heap.objs.size<=b)(hn:H' b=none):oh X pins H' b:=by
 refine⟨hn,Ja (jd I.lt hb),I.arf hb,.inr (iT I.sz hb),λx c e z=>?_,λp hp z=>?_⟩
 .obtain⟨v,q⟩:=I.cell x c e;exact absurd (jd q.lt (by rw[z];exact hb)) (jK _)
 .exact absurd (jd (Heap.lt_size (I.pin p hp).1) (by rw[z];exact hb)) (jK _)
structure Turn(P:Program)(w:World)(K:W.Frag)(tg:Expr)(J:It)(fp:List Addr)(it:Addr)(tn:Nat->Heap->Prop):Prop where
 mem:it∈fp
 obj:∀i h,tn i h->∀b∈fp,∃o,h.get? b=some o/\∀v,o.data≠ .cell v
 keep:∀i h h',tn i h->(∀b∈fp,∀o,h.get? b=some o->h'.get? b=some o)->tn i h'
 item:∀(X:Cx),X.prog=P->X.w=w->X.K=K->X.calm=true->∀(i:Nat) (pins:List (Addr×Obj)) (s:Shared) (σ:St) (H:Hp) (E:Value->Shared->Prop),Inv X pins σ H s->(∀b∈fp,oh X pins H b)->tn i s.heap->J.go i H->
  wpAny (model P w) X.A (pyNext (.ref it)) (λr s1=>∃u,r=some u/\
   wpAny (model P w) X.A (letOwnedTupleGo tg (.ref it) u) (λ_ s2=>∃x H',Inv X pins σ H' s2/\RelV x u/\J.jB i H x H'/\tn (i+1) s2.heap/\∀b∈fp,H' b=none) E s1) E s
 done:∀(X:Cx),X.prog=P->X.w=w->X.K=K->X.calm=true->∀(i:Nat) (pins:List (Addr×Obj)) (s:Shared) (σ:St) (H:Hp) (E:Value->Shared->Prop),Inv X pins σ H s->(∀b∈fp,oh X pins H b)->tn i s.heap->J.stop i H->
  wpAny (model P w) X.A (pyNext (.ref it)) (λr s1=>r=none/\Inv X pins σ H s1) E s
 self:∀(A:Around) (i:Nat) (s:Shared) (Q:Value->Shared->Prop) (E:Value->Shared->Prop),tn i s.heap->Q (.ref it) s->wpAny (model P w) A (pyIter (.ref it)) Q E s
abbrev TI:=St->Hp->(It->Hp->Prop)->Prop
def PY(X:Cx)(pins:List (Addr×Obj))(σ:St)(tg:Expr)(R:It->Hp->Prop)(itv:Value)(s2:Shared):Prop:=
 ∃(it:Addr) (fp:List Addr) (tn:Nat->Heap->Prop) (J:It) (H':Hp),itv = .ref it/\Inv X pins σ H' s2/\Turn X.prog X.w X.K tg J fp it tn/\tn 0 s2.heap/\(∀b∈fp,oh X pins H' b)/\R J H'
def PI(X:Cx)(tg iter:Expr)(wi:TI):Prop:=
 ∀(pins:List (Addr×Obj)) (s:Shared) (σ:St) (H:Hp) (R:It->Hp->Prop),Inv X pins σ H s->wi σ H R->
  wpAny (model X.prog X.w) X.A (eval iter X.env) (λv s1=>wpAny (model X.prog X.w) X.A (pyIter v) (PY X pins σ tg R) X.xe s1) X.xe s
def BD{M:Model}{A:Around}{E:Value->Shared->Prop}{s:Shared}{tg:Expr}{it:Addr}{u:Value}{o:Obj}{n:String}{vs:Array Value}{Q:Unit->Shared->Prop}(ho:s.heap.get? it=some o)(hc:o.cls = .type n)(hd:o.data = .fields vs)
  (hn:["enumerate","zip","dict_itemiterator","dict_reverseitemiterator","odict_iterator","itertools.zip_longest","itertools.pairwise"].contains n=false) (hQ:Q () s):wpAny M A (letOwnedTupleGo tg (.ref it) u) Q E s:=by
 unfold letOwnedTupleGo;cases tg<;>first
  |exact wpAny_pure hQ
  |(cases u<;>first
    |exact wpAny_pure hQ
    |(refine wpAny_bind (wpAny_load ho ?_);rw[hc,hd];show wpAny M A (if(["enumerate","zip","dict_itemiterator","dict_reverseitemiterator","odict_iterator","itertools.zip_longest","itertools.pairwise"].contains n&&vs[0]?==some (rawInt _))=true then _ else _) Q E s;rw[if_neg (by intro h;rw[hn,Bool.false_and]at h;cases h)];exact wpAny_pure hQ))
def lB(K:W.Frag)(a:Addr):It:=
 ⟨λi H=>∃xs x,aq K H a xs/\xs[i]?=some x,λi H x H'=>H'=H/\∀xs,aq K H a xs->xs[i]?=some x,λi H=>∃xs,aq K H a xs/\xs.length<=i⟩
def Ht(K:W.Frag)(a:Addr):It:=
 ⟨λi H=>∃xs x,aC K H a xs/\xs[i]?=some x,λi H x H'=>H'=H/\∀xs,aC K H a xs->xs[i]?=some x,λi H=>∃xs,aC K H a xs/\xs.length<=i⟩
def rA(lo:Int)(n:Nat):It:=⟨λi _=>i<n,λi H x H'=>H'=H/\x = .int (lo+i),λi _=>n<=i⟩
def ag3{P:Program}{w:World}{K:W.Frag}{tg:Expr}(a it:Addr):Turn P w K tg (lB K a) [it] it (λi h=>h.IsListIter it a i) where
 mem:=by simp
 obj:=λi h st b hb=>by
  have e:b=it:=by simpa using hb
  subst e;obtain⟨o,e,c,d⟩:=st;exact⟨o,e,λv z=>by rw[d]at z;cases z⟩
 keep:=λi h h' st k=>st.at λo e=>k it (by simp) o e
 item:=by
  intro X hP hw hK hc i pins s σ H E I hf st hg;subst hP hw hK;obtain⟨xs,x,hq,hx⟩:=hg;obtain⟨its,rv,p,hz⟩:=I.list hq;obtain⟨u,hu,ru⟩:=rv.get hx;obtain⟨f0,f1,f2,f3,f4,f5⟩:=hf it (by simp);refine wpAny_pyNext_list_item st p.isList (x:=u) (by simpa using hu) λh' st' sb=>?_;have I1:Inv X pins σ H { s with heap:=h' }:=I.turned (t':=s.toks) (λb o hb e=>(sb.2 b hb).trans e) f0 f1 f3 f4 f5;obtain⟨o,e,c,d⟩:=id st';exact⟨u,rfl,BD (s:={ s with heap:=h' }) e c d (by decide) ⟨x,H,I1,ru,⟨rfl,λys hy=>by rw[I.K4 hy hq];exact hx⟩,st',λb hb=>(hf b hb).1⟩⟩
 done:=by
  intro X hP hw hK hc i pins s σ H E I hf st hg;subst hP hw hK;obtain⟨xs,hq,hx⟩:=hg;obtain⟨its,rv,p,hz⟩:=I.list hq;obtain⟨f0,f1,f2,f3,f4,f5⟩:=hf it (by simp);have hl:=rv.length;exact wpAny_pyNext_list_end (I.ok.hd hc) st p.isList (by simp;omega) λh' eb=>⟨rfl,I.turned (t':=s.toks) (λb o hb e=>eb b o hb e) f0 f1 f3 f4 f5⟩
 self:=λ_ _ _ _ _ st h=>wpAny_pyIter_listiter st h
def anG{P:Program}{w:World}{K:W.Frag}{tg:Expr}(a it:Addr):Turn P w K tg (Ht K a) [it] it (λi h=>h.IsTupleIter it a i) where
 mem:=by simp
 obj:=λi h st b hb=>by
  have e:b=it:=by simpa using hb
  subst e;obtain⟨o,e,c,d⟩:=st;exact⟨o,e,λv z=>by rw[d]at z;cases z⟩
 keep:=λi h h' st k=>st.at λo e=>k it (by simp) o e
 item:=by
  intro X hP hw hK hc i pins s σ H E I hf st hg;subst hP hw hK;obtain⟨xs,x,hq,hx⟩:=hg;obtain⟨its,rv,p,hz⟩:=I.tuple hq;obtain⟨u,hu,ru⟩:=rv.get hx;obtain⟨f0,f1,f2,f3,f4,f5⟩:=hf it (by simp);refine wpAny_pyNext_tuple_item st (show s.heap.IsTuple a its.toArray from p) (x:=u) (by simpa using hu) λh' st' sb=>?_;have I1:Inv X pins σ H { s with heap:=h' }:=I.turned (t':=s.toks) (λb o hb e=>(sb.2 b hb).trans e) f0 f1 f3 f4 f5;obtain⟨o,e,c,d⟩:=id st';exact⟨u,rfl,BD (s:={ s with heap:=h' }) e c d (by decide) ⟨x,H,I1,ru,⟨rfl,λys hy=>by rw[I.aa0 hy hq];exact hx⟩,st',λb hb=>(hf b hb).1⟩⟩
 done:=by
  intro X hP hw hK hc i pins s σ H E I hf st hg;subst hP hw hK;obtain⟨xs,hq,hx⟩:=hg;obtain⟨its,rv,p,hz⟩:=I.tuple hq;obtain⟨f0,f1,f2,f3,f4,f5⟩:=hf it (by simp);have hl:=rv.length;exact wpAny_pyNext_tuple_end (I.ok.hd hc) st (show s.heap.IsTuple a its.toArray from p) (by simp;omega) λh' eb=>⟨rfl,I.turned (t':=s.toks) (λb o hb e=>eb b o hb e) f0 f1 f3 f4 f5⟩
 self:=λ_ _ _ _ _ st h=>wpAny_pyIter_tupleiter st h
def akL{P:Program}{w:World}{K:W.Frag}{tg:Expr}(it:Addr)(lo:Int)(n:Nat):Turn P w K tg (rA lo n) [it] it (λi h=>IsRangeIter h it (lo+(i:Nat)*1) ((n:Int)-(i:Nat)) 1) where
 mem:=by simp
 obj:=λi h st b hb=>by
  have e:b=it:=by simpa using hb
  subst e;exact⟨_,st,λv z=>by
   have z':Data.fields _=Data.cell v:=z;cases z'⟩
 keep:=λi h h' st k=>k it (by simp) _ st
 item:=by
  intro X hP hw hK hc i pins s σ H E I hf st hg;subst hP hw hK;obtain⟨f0,f1,f2,f3,f4,f5⟩:=hf it (by simp);have W:=Walks.range (prog:=X.prog) (w:=X.w) (I.ok.hd hc) it lo 1 n;refine W.item i s _ _ hg st λv h' tk hv st' kk=>?_;obtain⟨t,rfl⟩:=hv;have I1:Inv X pins σ H { s with heap:=h',toks:=tk }:=I.turned (λb o hb e=>kk b o (by simpa using hb) e) f0 f1 f3 f4 f5;refine⟨_,rfl,BD (s:={ s with heap:=h',toks:=tk }) (n:= "range_iterator") st' rfl rfl (by decide) ⟨.int (lo+i),H,I1,⟨t,?_⟩,⟨rfl,rfl⟩,st',λb hb=>(hf b hb).1⟩⟩;rw[iI]
 done:=by
  intro X hP hw hK hc i pins s σ H E I hf st hg;subst hP hw hK;obtain⟨f0,f1,f2,f3,f4,f5⟩:=hf it (by simp);exact wpAny_pyNext_range_end (I.ok.hd hc) st (by have:n<=i:=hg;omega) λh' eb=>⟨rfl,I.turned (t':=s.toks) (λb o hb e=>eb b o hb e) f0 f1 f3 f4 f5⟩
 self:=λ_ _ _ _ _ st h=>wpAny_pyIter_rangeiter st h
section
variable {X:Cx} {tg:Expr}
def arU(K:W.Frag)(tl:TE):TI:=λσ H R=>tl σ H λx H1=>∃a,x = .ref a/\(∃xs,aq K H1 a xs)/\R (lB K a) H1
def WT{pins:List (Addr×Obj)}{σ:St}{H:Hp}{s:Shared}{R:It->Hp->Prop}{E:Value->Shared->Prop}{lo hi:Int}{t u v:Tok}{tk:Nat}(I:Inv X pins σ H s)(h1:-(2^62)<=lo)(h2:lo<2^62)(h3:-(2^62)<=hi)(h4:hi<2^62)
  (q:R (rA lo (hi-lo).toNat) H):wpAny (model X.prog X.w) X.A (pyIter (.ref s.heap.objs.size)) (PY X pins σ tg R) E { s with heap:=s.heap.push { cls:= .type "range",data:= .fields #[.int lo t,.int hi u,.int 1 v] },toks:=tk }:=by
 refine wpAny_pyIter_range (IsRange.new ..) (small_one h1 h2 h3 h4) ?_;have I1:Inv X pins σ H { s with heap:=s.heap.push { cls:= .type "range",data:= .fields #[.int lo t,.int hi u,.int 1 v] },toks:=tk }:=I.kept λb o e=>Heap.get?_push_of_some _ e;refine⟨(s.heap.push { cls:= .type "range",data:= .fields #[.int lo t,.int hi u,.int 1 v] }).objs.size,[(s.heap.push { cls:= .type "range",data:= .fields #[.int lo t,.int hi u,.int 1 v] }).objs.size],_,_,H,rfl,
  I1.kept (t':=tk) λb o e=>Heap.get?_push_of_some _ e,akL _ lo (hi-lo).toNat,?_,λb hb=>?_,q⟩
 .have e1:lo+((0:Nat):Int)*1=lo:=by simp
  have e2:(((hi-lo).toNat:Nat):Int)-((0:Nat):Int)=Builtin.Range.rangeSize lo hi 1:=by rw[rangeSize_one];split<;>omega
  show IsRangeIter _ _ (lo+((0:Nat):Int)*1) ((((hi-lo).toNat:Nat):Int)-((0:Nat):Int)) 1;rw[e1,e2];exact Heap.get?_push_size _ rfl
 .have e:b=(s.heap.push { cls:= .type "range",data:= .fields #[.int lo t,.int hi u,.int 1 v] }).objs.size:=by simpa using hb
  subst e;exact I1.ou (aN _) (I1.hok.fresh (aN _))
inductive aon(vs:List V)(H:Hp)(R:It->Hp->Prop):Prop|mk (j:Int) (h:vs=[.int j]) (h1:-(2^62)<=j) (h2:j<2^62) (q:R (rA 0 j.toNat) H)
def agM(ta:TA):TI:=λσ H R=>ta σ H λvs H1=>aon vs H1 R
def aoD(ta:TA):TI:=λσ H R=>ta σ H λvs H1=>∃i j:Int,vs=[.int i,.int j]/\(-(2^62)<=i/\i<2^62/\-(2^62)<=j/\j<2^62)/\R (rA i (j-i).toNat) H1
def iJ{a:Expr}{ta:TA}{p pos:Pos}(hg:Gl X "range")(hm:X.mg "range" = none)(ha:PA X [a] ta)(hs:starEach [a] X.env=[(false,eval a X.env)]:=by rfl):PI X tg (.Call (.Name "range" p) [a] [] pos) (agM ta):=by
 intro pins s σ H R I h;refine Call_ (qg I hg hm boot_range (uE (bf (ha pos pins s σ H _ I h) λus s1 ⟨vs,H1,I1,r1,q1⟩=>?_) hs rfl));obtain⟨j,e,q1,q2,q⟩:=q1;subst e;cases r1 with
 |cons r rr=>
  cases rr;obtain⟨t,rfl⟩:=r;exact call_range_1 (WT I1 (by omega) (by omega) q1 q2 (by simpa using q))
def Wv{a b:Expr}{ta:TA}{p pos:Pos}(hg:Gl X "range")(hm:X.mg "range" = none)(ha:PA X [a,b] ta)(hs:starEach [a,b] X.env=[(false,eval a X.env),(false,eval b X.env)]:=by rfl)(hs2:starEach [b] X.env=[(false,eval b X.env)]:=by rfl):
  PI X tg (.Call (.Name "range" p) [a,b] [] pos) (aoD ta):=by
 intro pins s σ H R I h;refine Call_ (qg I hg hm boot_range (uE (bf (ha pos pins s σ H _ I h) λus s1 ⟨vs,H1,I1,r1,q1⟩=>?_) (by rw[hs,hs2]) (by rw[hs2];rfl)));obtain⟨i,j,e,⟨q1,q2,q3,q4⟩,q⟩:=q1;subst e;cases r1 with
 |cons r rr=>
  cases rr with
  |cons r' rr=>
   cases rr;obtain⟨t,rfl⟩:=r;obtain⟨t',rfl⟩:=r';exact call_range_2 (WT I1 q1 q2 q3 q4 q)
def as6(wi:TI)(g:TG)(tb:TS):TS:=λD σ H=>wi σ H λJ H1=>∃W:Nat->Nat->St->Hp->Prop,(∃m,W 0 m σ H1)/\∀i m σ H,W i m σ H->
 (J.stop i H/\D.nx σ H)∨(J.go i H/\∃N:St->Hp->Prop,(∀σ' H',N σ' H'->∃m',m'<m/\W (i+1) m' σ' H')/\∀x H',J.jB i H x H'->g x σ H' λσ2 H2=>tb { D with nx:=N,ct:=N,bk:=D.nx } σ2 H2)
def CW(fp:List Addr)(h:Heap):List (Addr×Obj):=fp.filterMap λb=>(h.get? b).map λo=>(b,o)
def CD{fp:List Addr}{h:Heap}{b:Addr}{o:Obj}(hb:b∈fp)(e:h.get? b=some o):(b,o)∈CW fp h:=Ks.mpr ⟨b,hb,by rw[e];rfl⟩
def aiE{fp:List Addr}{h:Heap}{p:Addr×Obj}(hp:p∈CW fp h):p.1∈fp/\h.get? p.1=some p.2:=by
 obtain⟨b,hb,e⟩:=Ks.mp hp;cases q:h.get? b with
 |none=>rw[q]at e;cases e
 |some o=>
  rw[q]at e;have e':(b,o)=p:=ur e;subst e';exact⟨hb,q⟩
def Inv.pinned{pins:List (Addr×Obj)}{σ:St}{H:Hp}{s:Shared}{fp:List Addr}(I:Inv X pins σ H s)(hf:∀b∈fp,oh X pins H b)(ho:∀b∈fp,∃o,s.heap.get? b=some o/\∀v,o.data≠ .cell v):Inv X (pins++CW fp s.heap) σ H s:=
 I.aea λp hp=>(eV.mp hp).elim (λz=>I.pin p (nZ _ z)) λz=>by
  obtain⟨hb,e⟩:=aiE z;obtain⟨f0,f1,f2,_⟩:=hf p.1 hb;obtain⟨o,e',d⟩:=ho p.1 hb;rw[e]at e';cases e';exact⟨e,f0,f1,f2,d⟩
def Inv.Cw{pins pl:List (Addr×Obj)}{σ:St}{H:Hp}{s:Shared}(I:Inv X (pins++pl) σ H s):Inv X pins σ H s:=I.aea λp hp=>I.pin p (nZ _ (Rt _ hp))
def fZ{iter:Expr}{body:List Stmt}{wi:TI}{g:TG}{tb:TS}{pos:Pos}(hp:PassesOwn (model X.prog X.w) X.A X.env X.xe)(hc:X.calm=true)(hi:PI X tg iter wi)(hg:PG X tg g)(hb:jM X body tb)
  (hs:∀x,foldedSetIterable iter X.env x=pure x:=by intro _;rfl):PS X (.For tg iter body [] pos) (as6 wi g tb):=by
 intro pins s σ H D I h;refine wpAny_For (bf (hi pins s σ H _ I h) λv s1 h1=>bf h1 λitv s2 h2=>?_) hs;obtain⟨it,fp,tn,J,H2,e,I2,T,st2,f2,W,⟨m0,w0⟩,turn⟩:=h2;subst e;have stat:∀{H':Hp},(∀b∈fp,H' b=none)->∀b∈fp,oh X pins H' b:=λhn b hb=>⟨hn b hb,(f2 b hb).2⟩;refine codeAny_forLoop_any (λn s'=>∃i σ' H',Inv X pins σ' H' s'/\tn i s'.heap/\(∀b∈fp,H' b=none)/\W i n σ' H') ?_ m0 ⟨0,σ,H2,I2,st2,λb hb=>(f2 b hb).1,w0⟩;rintro n s3 ⟨i,σ3,H3,I3,st3,fr3,w3⟩;rcases turn i n σ3 H3 w3 with⟨stop,qn⟩|⟨go,N,hN,step⟩
 .refine wpAny_passesOwn hp (bf (T.done X rfl rfl rfl hc i pins s3 σ3 H3 X.xe I3 (stat fr3) st3 stop) λr s4 ⟨hr,I4⟩=>?_);subst hr;exact wpAny_execs_nil ⟨σ3,H3,I4,qn⟩
 .refine wpAny_passesOwn hp (bf (T.item X rfl rfl rfl hc i pins s3 σ3 H3 X.xe I3 (stat fr3) st3 go) λr s4 ⟨u,hr,h4⟩=>?_);subst hr;refine wpAny_passesOwn hp (bf h4 λ_ s5 ⟨x,H5,I5,r5,y5,zQ,JG⟩=>?_);have I5':=I5.pinned (stat JG) (T.obj _ _ zQ);refine wpAny_passesOwn hp (bf (hg _ s5 σ3 H5 x u _ I5' r5 (step x H5 y5)) λ_ s6 ⟨σ6,H6,I6,q6⟩=>?_);refine wpAny_passesOwn hp (bf (hb _ s6 σ6 H6 _ I6 q6) λf s7 q7=>?_);have again:∀{σ7:St} {H7:Hp},Inv X (pins++CW fp s5.heap) σ7 H7 s7->N σ7 H7->∃m,m<n/\∃i σ' H',Inv X pins σ' H' s7/\tn i s7.heap/\(∀b∈fp,H' b=none)/\W i m σ' H':=λ{σ7 H7} I7 n7=>by
   obtain⟨m',hm,w7⟩:=hN σ7 H7 n7;refine⟨m',hm,i+1,σ7,H7,I7.Cw,T.keep _ _ _ zQ λb hb o e=>(I7.pin (b,o) (nZ _ (nZ _ (CD hb e)))).1,λb hb=>?_,w7⟩;obtain⟨o,e,d⟩:=T.obj _ _ zQ b hb;exact(I7.pin (b,o) (nZ _ (nZ _ (CD hb e)))).2.1
  cases f with
  |next=>obtain⟨σ7,H7,I7,n7⟩:=q7;exact again I7 n7
  |cont=>obtain⟨σ7,H7,I7,n7⟩:=q7;exact again I7 n7
  |brk=>obtain⟨σ7,H7,I7,q7⟩:=q7;exact⟨σ7,H7,I7.Cw,q7⟩
  |ret v=>obtain⟨x7,σ7,H7,I7,r7,q7⟩:=q7;exact⟨x7,σ7,H7,I7.Cw,r7,q7⟩
end
def pq{lo:Int}{n:Nat}{g:TG}{tb:TS}{D:Ends}{σ:St}{H:Hp}(Pv:Nat->St->Hp->Prop)(h0:Pv 0 σ H)
  (hs:∀i σ H,i<n->Pv i σ H->g (.int (lo+i)) σ H λσ2 H2=>tb { D with nx:=Pv (i+1),ct:=Pv (i+1),bk:=D.nx } σ2 H2) (hd:∀σ H,Pv n σ H->D.nx σ H):
  ∃W:Nat->Nat->St->Hp->Prop,(∃m,W 0 m σ H)/\∀i m σ H,W i m σ H->
   ((rA lo n).stop i H/\D.nx σ H)∨((rA lo n).go i H/\∃N:St->Hp->Prop,(∀σ' H',N σ' H'->∃m',m'<m/\W (i+1) m' σ' H')/\∀x H',(rA lo n).jB i H x H'->g x σ H' λσ2 H2=>tb { D with nx:=N,ct:=N,bk:=D.nx } σ2 H2):=by
 refine⟨λi m σ H=>m=n-i/\i<=n/\Pv i σ H,⟨n,by simp,cJ _,h0⟩,?_⟩;rintro i m σ H ⟨rfl,hi,p⟩;by_cases hlt:i<n
 .refine .inr ⟨hlt,Pv (i+1),λσ' H' p'=>⟨n-(i+1),by omega,rfl,hlt,p'⟩,λx H' y=>?_⟩;obtain⟨e,y⟩:=y;subst e y;exact hs i σ _ hlt p
 .have e:i=n:=by omega
  subst e;exact .inl ⟨aN _,hd σ H p⟩
abbrev R2:=V->V->Hp->VK->Prop
def cV(X:Cx)(f:Value->Value->Sem Value)(r:R2):Prop:=
 ∀(pins:List (Addr×Obj)) (s:Shared) (σ:St) (H:Hp) (x y:V) (v u:Value) (Q:VK),Inv X pins σ H s->RelV x v->RelV y u->r x y H Q->
  wpAny (model X.prog X.w) X.A (f v u) (EP X pins σ Q) X.xe s
def OJ(X:Cx)(f:Value->Sem Value)(r:V->Hp->VK->Prop):Prop:=
 ∀(pins:List (Addr×Obj)) (s:Shared) (σ:St) (H:Hp) (x:V) (v:Value) (Q:VK),Inv X pins σ H s->RelV x v->r x H Q->
  wpAny (model X.prog X.w) X.A (f v) (EP X pins σ Q) X.xe s
def lA(X:Cx)(f:Value)(r:List V->Hp->VK->Prop):Prop:=
 ∀(pins:List (Addr×Obj)) (s:Shared) (σ:St) (H:Hp) (xs:List V) (us:List Value) (Q:VK),Inv X pins σ H s->Vals xs us->r xs H Q->
  wpAny (model X.prog X.w) X.A (call f us) (EP X pins σ Q) X.xe s
def Gn(r:R2)(ta tb:TE):TE:=λσ H Q=>ta σ H λx H1=>tb σ H1 λy H2=>r x y H2 Q
def tUn(r:V->Hp->VK->Prop)(ta:TE):TE:=λσ H Q=>ta σ H λx H1=>r x H1 Q
inductive SII(C:Int->Int->Prop)(g:Int->Int->V)(x y:V)(H:Hp)(Q:VK):Prop|mk (i j:Int) (hx:x = .int i) (hy:y = .int j) (c:C i j) (q:Q (g i j) H)
def rI(C:Int->Int->Prop)(g:Int->Int->V):R2:=λx y H Q=>SII C g x y H Q
inductive SI0(g:Int->Int->V)(x y:V)(H:Hp)(Q:VK):Prop|mk (i j:Int) (hx:x = .int i) (hy:y = .int j) (q:Q (g i j) H)
def uP(g:Int->Int->V):R2:=λx y H Q=>SI0 g x y H Q
inductive SU(g:Int->V)(x:V)(H:Hp)(Q:VK):Prop|mk (i:Int) (hx:x = .int i) (q:Q (g i) H)
def rU(g:Int->V):V->Hp->VK->Prop:=λx H Q=>SU g x H Q
section
variable {X:Cx} {a b c:Expr} {ta tb tc:TE} {pos:Pos}
def Kr(ha:PE X a ta)(hb:PE X b tb){pins:List (Addr×Obj)}{s:Shared}{σ:St}{H:Hp}{R:V->V->Hp->Prop}(I:Inv X pins σ H s)
  (h:ta σ H λx H1=>tb σ H1 λy H2=>R x y H2) {Q:Value->Shared->Prop} {f:Value->Value->Sem Value}
  (hf:∀v u s2 x y H2,Inv X pins σ H2 s2->RelV x v->RelV y u->R x y H2->wpAny (model X.prog X.w) X.A (f v u) Q X.xe s2):
  wpAny (model X.prog X.w) X.A (eval a X.env) (λv s₁=>wpAny (model X.prog X.w) X.A (eval b X.env) (λu s₂=>wpAny (model X.prog X.w) X.A (f v u) Q X.xe s₂) X.xe s₁) X.xe s:=by
 refine bf (ha pins s σ H _ I h) λv s1 ⟨x,H1,I1,r1,q1⟩=>?_;refine bf (hb pins s1 σ H1 _ I1 q1) λu s2 ⟨y,H2,I2,r2,q2⟩=>?_;exact hf v u s2 x y H2 I2 r1 r2 q2
def aB{op:Operator}{r:R2}(ho:cV X (binaryOp op) r)(ha:PE X a ta)(hb:PE X b tb):PE X (.BinOp a op b pos) (Gn r ta tb):=by
 intro pins s σ H Q I h;exact wpAny_BinOp (Kr ha hb I h λv u s2 x y H2 I2 rx ry q=>ho pins s2 σ H2 x y v u Q I2 rx ry q)
def qF{op:UnaryOp}{r:V->Hp->VK->Prop}(ho:OJ X (unaryOp op) r)(ha:PE X a ta):PE X (.UnaryOp op a pos) (tUn r ta):=by
 intro pins s σ H Q I h;exact UnaryOp_ (bf (ha pins s σ H _ I h) λv s1 ⟨x,H1,I1,r1,q1⟩=>ho pins s1 σ H1 x v Q I1 r1 q1)
def zF{f:Value->Value->Sem Value}{C:Int->Int->Prop}{g:Int->Int->Int}
  (rule:∀(i j:Int) (t u:Tok) (s:Shared) (Q:Value->Shared->Prop) (E:Value->Shared->Prop),C i j->Q (.int (g i j) s.toks) { s with toks:=s.toks+1 }->wpAny (model X.prog X.w) X.A (f (.int i t) (.int j u)) Q E s):
  cV X f (rI C λi j=> .int (g i j)):=by
 intro pins s σ H x y v u Q I rx ry h;obtain⟨i,j,rfl,rfl,hc,q⟩:=h;obtain⟨t,rfl⟩:=rx;obtain⟨t',rfl⟩:=ry;exact rule i j t t' s _ _ hc ⟨.int (g i j),H,I.tok _,⟨_,rfl⟩,q⟩
def aaz{f:Value->Value->Sem Value}{g:Int->Int->Int}
  (rule:∀(i j:Int) (t u:Tok) (s:Shared) (Q:Value->Shared->Prop) (E:Value->Shared->Prop),Q (.int (g i j) s.toks) { s with toks:=s.toks+1 }->wpAny (model X.prog X.w) X.A (f (.int i t) (.int j u)) Q E s):
  cV X f (uP λi j=> .int (g i j)):=by
 intro pins s σ H x y v u Q I rx ry h;obtain⟨i,j,rfl,rfl,q⟩:=h;obtain⟨t,rfl⟩:=rx;obtain⟨t',rfl⟩:=ry;exact rule i j t t' s _ _ ⟨.int (g i j),H,I.tok _,⟨_,rfl⟩,q⟩
def Gq{f:Value->Value->Sem Value}{g:Int->Int->Bool}
  (rule:∀(i j:Int) (t u:Tok) (s:Shared) (Q:Value->Shared->Prop) (E:Value->Shared->Prop),Q (.bool (g i j)) s->wpAny (model X.prog X.w) X.A (f (.int i t) (.int j u)) Q E s):
  cV X f (uP λi j=> .bl (g i j)):=by
 intro pins s σ H x y v u Q I rx ry h;obtain⟨i,j,rfl,rfl,q⟩:=h;obtain⟨t,rfl⟩:=rx;obtain⟨t',rfl⟩:=ry;exact rule i j t t' s _ _ ⟨.bl (g i j),H,I,rfl,q⟩
def aue(i j:Int):Prop:=0<j/\j<1073741824
def arb(i j:Int):Prop:=0<=j/\j<=1000000/\i.natAbs<2^64
def ajQ:cV X (binaryOp .Add) (uP λi j=> .int (i+j)):=aaz λ_ _ _ _ _ _ _ q=>add_int q
def cO:cV X (binaryOp .Sub) (uP λi j=> .int (i-j)):=aaz λ_ _ _ _ _ _ _ q=>sub_int q
def vJ:cV X (binaryOp .FloorDiv) (rI aue λi j=> .int (i/j)):=zF λi j _ _ _ _ _ hc q=>by
 have h1:(0:Int)<j:=hc.1;have h2:j<1073741824:=hc.2;exact floordiv_int (by omega) (by rw[Vx i (by omega)];exact q) (.inl (adY (by omega)))
def d9:cV X (binaryOp .Mod) (rI (λ_ j=>0<j) λi j=> .int (i%j)):=zF λi j _ _ _ _ _ hc q=>by
 have h1:(0:Int)<j:=hc;exact mod_int' (by omega) (by rw[Int.fmod_eq_emod_of_nonneg i (by omega)];exact q)
def aki:cV X (binaryOp .Mod) (rI (λ_ j=>j≠0) λi j=> .int (i.fmod j)):=zF λ_ _ _ _ _ _ _ hc q=>mod_int' hc q
def MR:cV X (binaryOp .Pow) (rI arb λi j=> .int (i^j.toNat)):=zF λ_ _ _ _ _ _ _ hc q=>pow_int_small hc.1 hc.2.1 hc.2.2 q
def unI{f:Value->Sem Value}{g:Int->Int}
  (rule:∀(i:Int) (t:Tok) (s:Shared) (Q:Value->Shared->Prop) (E:Value->Shared->Prop),Q (.int (g i) s.toks) { s with toks:=s.toks+1 }->wpAny (model X.prog X.w) X.A (f (.int i t)) Q E s):
  OJ X f (rU λi=> .int (g i)):=by
 intro pins s σ H x v Q I rx h;obtain⟨i,rfl,q⟩:=h;obtain⟨t,rfl⟩:=rx;exact rule i t s _ _ ⟨.int (g i),H,I.tok _,⟨_,rfl⟩,q⟩
def qZ:OJ X (unaryOp .USub) (rU λi=> .int (-i)):=unI λ_ _ _ _ _ q=>neg_int q
end
def Qx:V->V->Bool
 |.non,.non=>true | .non,.int _=>true | .int _,.non=>true | .non,.bl _=>true | .bl _,.non=>true | .non,.str _=>true | .str _,.non=>true
 |.int _,.int _=>true | .bl _,.bl _=>true | .str _,.str _=>true | .mC _,.mC _=>true
 |.int _,.str _=>true | .str _,.int _=>true | .bl _,.str _=>true | .str _,.bl _=>true
 |_,_=>false
def rEq:R2:=λx y H Q=>Qx x y=true/\Q (.bl (decide (x=y))) H
def rNe:R2:=λx y H Q=>Qx x y=true/\Q (.bl (!decide (x=y))) H
def acj{i j:Int}:decide (V.int i=V.int j)=(i==j):=by
 rw[Cm];simp
def aal{i j:Bool}:decide (V.bl i=V.bl j)=(i==j):=by
 rw[Cm];simp
def Xu{i j:Str}:decide (V.str i=V.str j)=(i==j):=by
 rw[Cm];simp
def Yr{i j:Array UInt8}:decide (V.mC i=V.mC j)=(i.toList==j.toList):=by
 rw[Cm];cases i;cases j;simp
section
variable {X:Cx} {a b c:Expr} {ta tb tc:TE} {pos:Pos}
def fO{pins:List (Addr×Obj)}{σ:St}{H:Hp}{s:Shared}{Q:VK}{k k':Bool}(I:Inv X pins σ H s)(q:Q (.bl k) H)(e:k=k'):EP X pins σ Q (.bool k') s:=by
 subst e;exact⟨.bl k,H,I,rfl,q⟩
def agY:cV X (compareOp .Eq) rEq:=by
 intro pins s σ H x y v u Q I rx ry h;obtain⟨hs,q⟩:=h;cases x with
 |non=>
  cases rx;cases y with
  |non=>cases ry;exact PySem.EqNone.eq_none_none (fO I q (by simp))
  |bl j=>cases ry;exact PySem.EqNone.eq_none_bool (fO I q (by simp))
  |int j=>obtain⟨t',rfl⟩:=ry;exact PySem.EqNone.eq_none_int (fO I q (by simp))
  |str j=>obtain⟨t',rfl⟩:=ry;exact PySem.EqNone.eq_none_str (fO I q (by simp))
  |_=>exact absurd (show false=true from hs) fP
 |bl i=>
  cases rx;cases y with
  |non=>cases ry;exact PySem.EqNone.eq_bool_none (fO I q (by simp))
  |bl j=>cases ry;exact eq_bool (fO I q aal)
  |str j=>obtain⟨t',rfl⟩:=ry;exact PySem.EqMixed.eq_bool_str (fO I q (by simp))
  |_=>exact absurd (show false=true from hs) fP
 |int i=>
  obtain⟨t,rfl⟩:=rx;cases y with
  |non=>cases ry;exact PySem.EqNone.eq_int_none (fO I q (by simp))
  |int j=>obtain⟨t',rfl⟩:=ry;exact eq_int (fO I q acj)
  |str j=>obtain⟨t',rfl⟩:=ry;exact PySem.EqMixed.eq_int_str (fO I q (by simp))
  |_=>exact absurd (show false=true from hs) fP
 |str i=>
  obtain⟨t,rfl⟩:=rx;cases y with
  |non=>cases ry;exact PySem.EqNone.eq_str_none (fO I q (by simp))
  |bl j=>cases ry;exact PySem.EqMixed.eq_str_bool (fO I q (by simp))
  |int j=>obtain⟨t',rfl⟩:=ry;exact PySem.EqMixed.eq_str_int (fO I q (by simp))
  |str j=>obtain⟨t',rfl⟩:=ry;exact eq_str (fO I q Xu)
  |_=>exact absurd (show false=true from hs) fP
 |mC i=>
  obtain⟨t,rfl⟩:=rx;cases y with
  |mC j=>obtain⟨t',rfl⟩:=ry;exact W.eq_bytes (fO I q Yr)
  |_=>exact absurd (show false=true from hs) fP
 |_=>cases y<;>exact absurd (show false=true from hs) fP
def aou:cV X (compareOp .NotEq) rNe:=by
 intro pins s σ H x y v u Q I rx ry h;obtain⟨hs,q⟩:=h;cases x with
 |non=>
  cases rx;cases y with
  |non=>cases ry;exact PySem.EqNone.ne_none_none (fO I q (by simp))
  |bl j=>cases ry;exact PySem.EqNone.ne_none_bool (fO I q (by simp))
  |int j=>obtain⟨t',rfl⟩:=ry;exact PySem.EqNone.ne_none_int (fO I q (by simp))
  |str j=>obtain⟨t',rfl⟩:=ry;exact PySem.EqNone.ne_none_str (fO I q (by simp))
  |_=>exact absurd (show false=true from hs) fP
 |bl i=>
  cases rx;cases y with
  |non=>cases ry;exact PySem.EqNone.ne_bool_none (fO I q (by simp))
  |bl j=>cases ry;exact ne_bool (fO I q (congrArg not aal))
  |str j=>obtain⟨t',rfl⟩:=ry;exact PySem.EqMixed.ne_bool_str (fO I q (by simp))
  |_=>exact absurd (show false=true from hs) fP
 |int i=>
  obtain⟨t,rfl⟩:=rx;cases y with
  |non=>cases ry;exact PySem.EqNone.ne_int_none (fO I q (by simp))
  |int j=>obtain⟨t',rfl⟩:=ry;exact ne_int (fO I q (congrArg not acj))
  |str j=>obtain⟨t',rfl⟩:=ry;exact PySem.EqMixed.ne_int_str (fO I q (by simp))
  |_=>exact absurd (show false=true from hs) fP
 |str i=>
  obtain⟨t,rfl⟩:=rx;cases y with
  |non=>cases ry;exact PySem.EqNone.ne_str_none (fO I q (by simp))
  |bl j=>cases ry;exact PySem.EqMixed.ne_str_bool (fO I q (by simp))
  |int j=>obtain⟨t',rfl⟩:=ry;exact PySem.EqMixed.ne_str_int (fO I q (by simp))
  |str j=>obtain⟨t',rfl⟩:=ry;exact ne_str (fO I q (congrArg not Xu))
  |_=>exact absurd (show false=true from hs) fP
 |mC i=>
  obtain⟨t,rfl⟩:=rx;cases y with
  |mC j=>obtain⟨t',rfl⟩:=ry;exact W.ne_bytes (fO I q (congrArg not Yr))
  |_=>exact absurd (show false=true from hs) fP
 |_=>cases y<;>exact absurd (show false=true from hs) fP
def tZ:cV X (compareOp .Lt) (uP λi j=> .bl (decide (i<j))):=Gq λ_ _ _ _ _ _ _ q=>lt_int q
def Mj:cV X (compareOp .LtE) (uP λi j=> .bl (decide (i<=j))):=Gq λ_ _ _ _ _ _ _ q=>le_int q
def sW:cV X (compareOp .Gt) (uP λi j=> .bl (decide (j<i))):=Gq λ_ _ _ _ _ _ _ q=>gt_int q
def aeK:cV X (compareOp .GtE) (uP λi j=> .bl (decide (j<=i))):=Gq λ_ _ _ _ _ _ _ q=>ge_int q
def cV.or{f:Value->Value->Sem Value}{r r':R2}(h:cV X f r)(h':cV X f r'):cV X f (λx y H Q=>r x y H Q∨r' x y H Q):=by
 intro pins s σ H x y v u Q I rx ry q;rcases q with q|q
 .exact h pins s σ H x y v u Q I rx ry q
 .exact h' pins s σ H x y v u Q I rx ry q
def aZ(b:Expr){op:CmpOp}(h:op≠ .In:=by decide)(h2:op≠ .NotIn:=by decide):behindInMarks op b=false:=by
 have e1:(op==CmpOp.In)=false:=by cases op<;>first|rfl|exact absurd rfl h
 have e2:(op==CmpOp.NotIn)=false:=by cases op<;>first|rfl|exact absurd rfl h2
 cases b<;>simp[behindInMarks,e1,e2]
def uO{op:CmpOp}{r:R2}(ho:cV X (compareOp op) r)(ha:PE X a ta)(hb:PE X b tb)(hm:behindInMarks op b=false):PE X (.Compare a [op] [b] pos) (Gn r ta tb):=by
 intro pins s σ H Q I h;exact wpAny_Compare1 (Kr ha hb I h λv u s2 x y H2 I2 rx ry q=>ho pins s2 σ H2 x y v u Q I2 rx ry q) hm
inductive amo(x:V)(H:Hp)(Q:Bool->Hp->Prop):Prop|mk (k:Bool) (hx:x = .bl k) (q:Q k H)
def arA(t:TE):TT:=λσ H Q=>t σ H λx H'=>amo x H' Q
def bB{op:CmpOp}{r:R2}(ho:cV X (compareOp op) r)(ha:PE X a ta)(hb:PE X b tb)(hm:behindInMarks op b=false):PT X (.Compare a [op] [b] pos) (arA (Gn r ta tb)):=by
 intro pins s σ H Q I h;refine wpAny_isTrue_Compare1 (bf (ha pins s σ H _ I h) λv s1 ⟨x,H1,I1,r1,q1⟩=>bf (hb pins s1 σ H1 _ I1 q1) λu s2 ⟨y,H2,I2,r2,q2⟩=>
  bf (ho pins s2 σ H2 x y v u _ I2 r1 r2 q2) λc s3 ⟨z,H3,I3,r3,k,e,q3⟩=>?_) hm
 subst e;cases r3;exact wpAny_truthy_bool ⟨H3,I3,q3⟩
def auL{κ:Type}{kvs:List (κ×V)}{vs:List (κ×Value)}(r:KV kvs vs):(!vs.isEmpty)=!kvs.isEmpty:=by
 cases r<;>rfl
def auZ{xs:List V}{its:List Value}(r:Vals xs its):(!its.toArray.isEmpty)=!xs.isEmpty:=by
 cases r<;>simp
def DR:(sizeLine:Nat)<2^63:=by rw[sizeLine_eq];decide
def aqQ:cV X (binaryOp .Add) (λx y H Q=>∃i j,x = .str i/\y = .str j/\i.length+j.length<=sizeLine/\Q (.str (i++j)) H):=by
 intro pins s σ H x y v u Q I rx ry h;obtain⟨i,j,rfl,rfl,hz,q⟩:=h;obtain⟨t,rfl⟩:=rx;obtain⟨t',rfl⟩:=ry;exact add_str (λt' tk=>⟨.str (i++j),H,I.tok _,⟨_,rfl⟩,q⟩) hz
def vals1{x:V}{us:List Value}(r:Vals [x] us):∃u,us=[u]/\RelV x u:=by
 cases r with
 |cons r1 r2=>cases r2;exact⟨_,rfl,r1⟩
def vals2{x y:V}{us:List Value}(r:Vals [x,y] us):∃u w',us=[u,w']/\RelV x u/\RelV y w':=by
 cases r with
 |cons r1 r2=>
  cases r2 with
  |cons r3 r4=>cases r4;exact⟨_,_,rfl,r1,r3⟩
def Ab:lA X (.builtin "abs") (λxs H Q=>∃i,xs=[.int i]/\Q (.int (if i<0 then -i else i)) H):=by
 intro pins s σ H xs us Q I r h;obtain⟨i,rfl,q⟩:=h;obtain⟨u,rfl,t,rfl⟩:=vals1 r;exact call_abs_int λu tk=>⟨.int (if i<0 then -i else i),H,I.tok _,⟨_,rfl⟩,q⟩
def WK(hc:X.calm=true):lA X (.builtin "max") (λxs H Q=>∃i j,xs=[.int i,.int j]/\Q (.int (if j>i then j else i)) H):=by
 intro pins s σ H xs us Q I r h;obtain⟨i,j,rfl,q⟩:=h;obtain⟨u,w',rfl,⟨t,rfl⟩,⟨t',rfl⟩⟩:=vals2 r;refine max_two_ints (I.ok.hd hc) λh' tk k=>⟨_,H,I.kept k,?_,q⟩;by_cases hj:j>i
 .rw[if_pos hj,if_pos hj];exact⟨_,rfl⟩
 .rw[if_neg hj,if_neg hj];exact⟨_,rfl⟩
def aci(K:W.Frag)(x:V)(H:Hp)(n:Nat):Prop:=
 match x with
 |.str y=>y.length<=sizeLine/\n=y.length
 |.mC y=>y.size<=sizeLine/\n=y.size
 |.ref p=>(∃xs,aq K H p xs/\n=xs.length)∨∃xs,aC K H p xs/\n=xs.length
 |_=>False
def akV:lA X (.builtin "len") (λxs H Q=>∃x n,xs=[x]/\aci X.K x H n/\Q (.int n) H):=by
 intro pins s σ H xs us Q I r h;obtain⟨x,n,rfl,e,q⟩:=h;obtain⟨u,rfl,rx⟩:=vals1 r;have hl:=DR;have hs:sizeLine=16777216:=sizeLine_eq;cases x with
 |str y=>
  obtain⟨t,rfl⟩:=rx;obtain⟨hy,e'⟩:y.length<=sizeLine/\n=y.length:=e;subst e';exact len_str (by omega) ⟨.int _,H,I.tok _,⟨_,rfl⟩,q⟩
 |mC y=>
  obtain⟨t,rfl⟩:=rx;obtain⟨hy,e'⟩:y.size<=sizeLine/\n=y.size:=e;subst e';exact W.len_bytes (by omega) ⟨.int _,H,I.tok _,⟨_,rfl⟩,q⟩
 |ref p=>
  cases rx;have e':(∃xs,aq X.K H p xs/\n=xs.length)∨∃xs,aC X.K H p xs/\n=xs.length:=e;rcases e' with⟨xs,hx,e'⟩|⟨xs,hx,e'⟩
  .subst e';obtain⟨its,r',pl,hz⟩:=I.list hx;have hlen:=r'.length;exact Calls.call_len_list pl.isList (by simp only[fG];omega) ⟨.int xs.length,H,I.tok _,⟨_,by simp only[fG];rw[hlen]⟩,q⟩
  .subst e';obtain⟨its,r',pl,hz⟩:=I.tuple hx;have hlen:=r'.length;exact len_tuple pl (by simp only[fG];omega) ⟨.int xs.length,H,I.tok _,⟨_,by simp only[fG];rw[hlen]⟩,q⟩
 |_=>exact(show False from e).elim
end
structure Uh(h:Heap)(x dx C:Addr)(mA:Str->Option Value):Prop where
 obj:h.get? x=some (W.instObj C dx)
 ns:h.Ns1 dx mA
 ne:dx≠x
def ala{h:Heap}{dx:Addr}{mA:Str->Option Value}(n:h.Ns1 dx mA):∃od,h.get? dx=some od/\∀name,W.lookIn name od=some (mA name):=by
 obtain⟨o,es,ep,ho,hd,hk,_,hm⟩:=n;refine⟨o,ho,λname=>?_⟩;have e:=hm name;unfold nsFind findBy at e;rw[<-Array.find?_toList]at e;unfold W.lookIn;rw[hd];dsimp only;split
 .rename_i y q
  rw[q]at e;exact congrArg some e
 .rename_i q
  rw[q]at e;have a:es.toList.any (·.refKey)=false:=by
   rw[List.any_eq_false];intro y hy;obtain⟨z,t,hkey⟩:=hk y (Array.mem_toList_iff.mp hy);simp[DictEntry.refKey,hkey]
  have a':¬es.toList.any (·.refKey)=true:=by rw[a];exact fP
  rw[if_neg a'];exact congrArg some e
def Uh.look{h:Heap}{x dx C:Addr}{mA:Str->Option Value}(I:Uh h x dx C mA):∃od,W.InstAt h x (W.instObj C dx) C (some od)/\∀name,W.lookIn name od=some (mA name):=
 let⟨od,ho,hl⟩:=ala I.ns
 ⟨od,⟨I.obj,rfl,rfl,ho⟩,hl⟩
section
variable {prog:Program} {w:World} {A:Around} {E:Value->Shared->Prop} {s:Shared} {K:W.Frag} {x dx C f:Addr} {mA:Str->Option Value} {name:Str} {v:Value}
end
def rO.some_of{v:V}{o:Option Value}(r:rO (some v) o):∃u,o=some u/\RelV v u:=by
 cases o with
 |none=>exact(show False from r).elim
 |some u=>exact⟨u,rfl,r⟩
def rO.none_of{o:Option Value}(r:rO none o):o=none:=by
 cases o with
 |none=>rfl
 |some u=>exact(show False from r).elim
section
variable {P:Program} {w:World} {H H':Hp} {h h':Heap} {a C dx:Addr} {fs fs':List (Str×V)}
def aeT(hok:gk P w H h)(e:H a=some (.ins C dx fs)):∃mA,Uh h a dx C mA/\(∀f,rO (fs.lookup f) (mA f))/\PySem.Within mA (fs.map (·.1))/\fs.length<=1000/\H dx=some (.own a):=by
 obtain⟨d,z,ne,ob,mA,n,r,q⟩:=(show iD P w H h a (.ins C dx fs)from hok a _ e);exact⟨mA,⟨ob,n,ne⟩,r,q,z,d⟩
end
structure Cls(K:W.Frag)(C:Addr):Prop where
 pg:W.plainGet K C Str.empty=true
 hd:W.hasDictIn K C=true
 po:W.plainOver K C=true
 sa:W.findIn K (.ref C) "__setattr__" = some (some (.builtin "object.__setattr__"))
def Cls.get{K:W.Frag}{C:Addr}(c:Cls K C)(f:Str):W.plainGet K C f=true:=c.pg
section
variable {X:Cx} {pins:List (Addr×Obj)} {σ:St} {H:Hp} {s:Shared} {a C dx:Addr} {fs:List (Str×V)} {f:Str} {v:V} {A:Around} {E:Value->Shared->Prop}
end
section
variable {X:Cx} {o e value:Expr} {f:Str} {pos pos' tpos:Pos} {ta tv:TE}
end
section
variable {X:Cx} {pins:List (Addr×Obj)} {σ:St} {H:Hp} {s:Shared} {A:Around} {E:Value->Shared->Prop} {Q:Value->Shared->Prop} {c:Value} {b:Bool}
inductive nD(K:W.Frag)(H:Hp):V->Value->Prop where
 |non:nD K H .non (.type "NoneType")
 |bl (x:Bool):nD K H (.bl x) (.type "bool")
 |int (i:Int):nD K H (.int i) (.type "int")
 |str (x:Str):nD K H (.str x) (.type "str")
 |flt (x:UInt64):nD K H (.flt x) (.type "float")
 |lst {a:Addr} {xs:List V} (e:H a=some (.lst xs)):nD K H (.ref a) (.type "list")
 |jx {a:Addr} {o:Obj} {xs:List V} (e:H a=some (.jx o (.lst xs))):nD K H (.ref a) (.type "list")
 |tup {a:Addr} {xs:List V} (e:H a=some (.tup xs)):nD K H (.ref a) (.type "tuple")
 |dK {a:Addr} {kvs:List (Key×V)} (e:H a=some (.dK kvs)):nD K H (.ref a) (.type "dict")
 |dT {a:Addr} {kvs:List (List Key×V)} (e:H a=some (.dT kvs)):nD K H (.ref a) (.type "dict")
 |ins {a C dx:Addr} {fs:List (Str×V)} (e:H a=some (.ins C dx fs)) (cl:Cls K C) (ha:W.findIn K (.ref C) "__class__" = some (some (.builtin "object.__class__")))
   (hn:W.specialIn K (.builtin "object.__class__") "__get__" = some (some (.builtin "getset_descriptor.__get__"))) (htk:W.takesIn K (.builtin "object.__class__")=some true)
   (hm:W.mroIn K C (.type "object")=some true):nD K H (.ref a) (.ref C)
def ahX{x:V}{u t:Value}(I:Inv X pins σ H s)(rx:RelV x u)(ty:nD X.K H x t)(e:W.kitOne X.K t c=some b)(h:∀tk,Q (.bool b) { s with toks:=tk }):
  wpAny (model X.prog X.w) A (call (.builtin "isinstance") [u,c]) Q E s:=by
 cases ty with
 |non=>cases (show u=Value.none from rx);exact qm W.kitx_none I.jO True.intro e (λz=>nomatch z) h
 |bl y=>cases (show u=Value.bool y from rx);exact qm W.kitx_bool I.jO True.intro e (λz=>nomatch z) h
 |int i=>obtain⟨t,q⟩:=(show ∃t,u=Value.int i t from rx);cases q;exact qm W.kitx_int I.jO True.intro e (λz=>nomatch z) h
 |str y=>obtain⟨t,q⟩:=(show ∃t,u=Value.str y t from rx);cases q;exact qm W.kitx_str I.jO True.intro e (λz=>nomatch z) h
 |flt y=>obtain⟨t,q⟩:=(show ∃t,u=Value.float y t from rx);cases q;exact qm W.kitx_float I.jO True.intro e (λz=>nomatch z) h
 |@lst a xs ea=>
  cases (show u=Value.ref a from rx);obtain⟨_,_,n,_,h1⟩:=(show iD X.prog X.w H s.heap a (.lst xs)from I.hok a _ ea);exact qm W.kitx_list I.jO ⟨_,h1,rfl⟩ e (λz=>nomatch z) h
 |@jx a ob xs ea=>
  cases (show u=Value.ref a from rx);obtain⟨_,_,_,n,_,h1⟩:=(show iD X.prog X.w H s.heap a (.jx ob (.lst xs))from I.hok a _ ea);exact qm W.kitx_list I.jO ⟨_,h1,rfl⟩ e (λz=>nomatch z) h
 |@tup a xs ea=>
  cases (show u=Value.ref a from rx);obtain⟨_,_,_,p⟩:=(show iD X.prog X.w H s.heap a (.tup xs)from I.hok a _ ea);obtain⟨o,h1,h2,_⟩:=p;exact qm W.kitx_tuple I.jO ⟨o,h1,h2⟩ e (λz=>nomatch z) h
 |@dK a kvs ea=>
  cases (show u=Value.ref a from rx);obtain⟨_,_,vs,_,p⟩:=(show iD X.prog X.w H s.heap a (.dK kvs)from I.hok a _ ea);obtain⟨o,es,ep,h1,h2,_⟩:=p;exact qm W.kitx_dict I.jO ⟨o,h1,h2.1⟩ e (λz=>nomatch z) h
 |@dT a kvs ea=>
  cases (show u=Value.ref a from rx);obtain⟨_,_,xs,_,o,es,ep,h1,h2,_⟩:=(show iD X.prog X.w H s.heap a (.dT kvs)from I.hok a _ ea);exact qm W.kitx_dict I.jO ⟨o,h1,h2.1⟩ e (λz=>nomatch z) h
 |@ins a C dx fs ea cl ha hn htk hm=>
  cases (show u=Value.ref a from rx);obtain⟨mA,O,_⟩:=aeT I.hok ea;obtain⟨od,J,_⟩:=O.look;exact qm (W.kitx_own (cl.get _) cl.hd ha hn htk hm) I.jO J e (λz=>nomatch z) h
end
structure eZ(k:Nat)(A:Around):Prop where
 hd:A.handled=none
 dp:A.depth+3*k+5<recursionLimit
 un:A.units+16*k+200<cLine
def eZ.mono{j k:Nat}{A:Around}(r:eZ k A)(h:j<=k):eZ j A:=⟨r.hd,by have:=r.dp;omega,by have:=r.un;omega⟩
theorem eZ.deeper{k:Nat}{A:Around}(r:eZ (k+1) A)(env:Env):eZ k (A.deeper env):=
 ⟨r.hd,by have:=r.dp;show A.depth+1+3*k+5<_;omega,by have:=r.un;show A.units+3+16*k+200<_;omega⟩
theorem eZ.depth{k:Nat}{A:Around}(r:eZ k A):A.depth<recursionLimit:=by have:=r.dp;omega
theorem eZ.units{k:Nat}{A:Around}(r:eZ k A):A.units+64<cLine:=by have:=r.un;omega
def eZ.ZC{k:Nat}{A:Around}(r:eZ k A):A.units<cLine:=by have:=r.un;omega
def Rr:TA:=λ_ H Q=>Q [] H
def uh(ta:TE)(tr:TA):TA:=λσ H Q=>ta σ H λx H1=>tr σ H1 λxs H2=>Q (x::xs) H2
section
variable {X:Cx} {e:Expr} {es:List Expr} {te:TE} {t:TA} {pos:Pos}
def aj:PA X [] Rr:=λ_ _ _ _ H Q I h=>Calls.spliced_nil ⟨[],H,I,.nil,h⟩
def aM(ha:PE X e te)(hr:PA X es t)(hs:starEach (e::es) X.env=(false,eval e X.env)::starEach es X.env:=by rfl):PA X (e::es) (uh te t):=by
 intro pos pins s σ H Q I h;rw[hs];show wpAny _ _ (spliced ((false,eval e X.env)::backTo pos (starEach es X.env))) _ _ s;refine Calls.spliced_cons (bf (ha pins s σ H _ I h) λu s1 ⟨x,H1,I1,r1,q1⟩=>?_);exact bf (hr pos pins s1 σ H1 _ I1 q1) λus s2 ⟨xs,H2,I2,r2,q2⟩=>⟨x::xs,H2,I2,.cons r1 r2,q2⟩
inductive adi(xs:List V)(o:HO)(H:Hp)(Q:VK):Prop|mk (hz:xs.length<=sizeLine) (q:∀p,H p=none->Q (.ref p) (upd H p o))
def af9(t:TA):TE:=λσ H Q=>t σ H λxs H1=>adi xs (.tup xs) H1 Q
def aqG(t:TA):TE:=λσ H Q=>t σ H λxs H1=>adi xs (.lst xs) H1 Q
def fM{x1}(h:PA X es t):PE X (.Tuple es x1 pos) (af9 t):=by
 intro pins s σ H Q I hq;refine wpAny_Tuple_spliced (bf (h pos pins s σ H _ I hq) λus s1 ⟨xs,H1,I1,r,z,q⟩=>⟨by rw[<-r.length];exact z,?_⟩);have hf:H1 s1.heap.objs.size=none:=I1.hok.fresh (aN _);refine⟨.ref s1.heap.objs.size,upd H1 s1.heap.objs.size (.tup xs),I1.laid (t':=s1.toks) (λb u e=>Heap.get?_push_of_some _ e) (aN _) ?_,rfl,q _ hf⟩;exact⟨z,us,r,⟨_,Heap.get?_push_size _ rfl,rfl,_,rfl⟩⟩
def fB(h:PA X es t):PE X (.List es pos) (aqG t):=by
 intro pins s σ H Q I hq;refine wpAny_List_spliced (bf (h pos pins s σ H _ I hq) λus s1 ⟨xs,H1,I1,r,z,q⟩=>⟨by rw[<-r.length];exact z,?_⟩);have hf:H1 s1.heap.objs.size=none:=I1.hok.fresh (aN _);refine⟨.ref s1.heap.objs.size,upd H1 s1.heap.objs.size (.lst xs),I1.laid (t':=s1.toks) (λb u e=>Heap.get?_push_of_some _ e) (aN _) ?_,rfl,q _ hf⟩;exact⟨z,us,0,r,Heap.get?_push_size _ rfl⟩
end
abbrev Sp:=List V->Hp->VK->XK->Prop
abbrev rM:=List Env->Hp->Shared->XK->Value->Shared->Prop
structure Jr(P:Program)(w:World)(K:W.Frag)(mg:Str->Option Value)(base:Heap)(A:Around)(outer:List Env)(s:Shared)(H:Hp):Prop where
 frames:A.frames=some outer
 mod:Mod K mg base
 bs:∀b o,base.get? b=some o->s.heap.get? b=some o/\H b=none
 vX:base.objs.size<=s.heap.objs.size
 qz:s.heap.FunFrames base outer
 Ak:∀b∈frs outer,H b=none
 hok:gk P w H s.heap
 bare:AllBare s.gens
def CE(outer:List Env)(P:Program)(w:World)(H:Hp)(s:Shared)(Q:VK)(u:Value)(s':Shared):Prop:=
 ∃v H',s'.os=s.os/\AllBare s'.gens/\Un (frs outer) [] H H' s.heap s'.heap/\gk P w H' s'.heap/\RelV v u/\Q v H'
def CR(CX:rM)(outer:List Env)(P:Program)(w:World)(H:Hp)(s:Shared)(Q:VK)(E:XK)(r:Result)(s':Shared):Prop:=
 match r with
 |.ok (.ret u)=>CE outer P w H s Q u s'
 |.ok _=>False
 |.error e=>CX outer H s E e s'
structure qJ(P:Program)(w:World)(K:W.Frag)(mg:Str->Option Value)(base:Heap)(CX:rM)(k:Nat)(f:Addr)(fd:FuncData)(ps:List Str)(sp:Sp):Prop where
 len:∀vs H Q E,sp vs H Q E->vs.length=ps.length
 run:∀(A:Around) (outer:List Env) (s:Shared) (H:Hp) (args:Args) (us:List Value) (vs:List V) (Q:VK) (E:XK),eZ k A->Jr P w K mg base A outer s H->BindsTo s fd args (ps.zip us)->Vals vs us->sp vs H Q E->
  codeAny (model P w) A (.call (.ref f) args) (CR CX outer P w H s Q E) s
section
variable {X:Cx} {pins:List (Addr×Obj)} {σ:St} {H:Hp} {s s':Shared}
def Inv.env0(I:Inv X pins σ H s):Jr X.prog X.w X.K X.mg X.base X.A X.stack s H:=
 ⟨I.ok.frames,I.ok.mod,I.bs,iT I.ok.vX I.sz,I.stack,I.Ni,I.hok,I.bare⟩
def Inv.after{Q:VK}{u:Value}(I:Inv X pins σ H s)(h:CE X.stack X.prog X.w H s Q u s'):EP X pins σ Q u s':=by
 obtain⟨v,H',os,bare,un,hok,r,q⟩:=h;obtain⟨hh,g,d,t,os'⟩:=s';obtain rfl:os'=s.os:=os;exact⟨v,H',I.call (h':=hh) (g':=g) (d':=d) (t':=t) (ch:=[]) un hok bare (λb z=>absurd z (by simp)),r,q⟩
end
def Uc(sp:Sp)(pB:List V)(E:XK)(t:TA):TE:=λσ H Q=>t σ H λvs H1=>sp (vs++pB) H1 Q E
def Binds(K:W.Frag)(fd:FuncData)(ps:List Str)(ds:List Value):Prop:=
 ∀(s:Shared) (us:List Value),K.In s.heap->(us++ds).length=ps.length->BindsTo s fd ⟨us,[]⟩ (ps.zip (us++ds))
def Binds.all{K:W.Frag}{fd:FuncData}{ps:List Str}(h:∀us:List Value,us.length=ps.length->bindArgs fd ⟨us,[]⟩=pure (ps.zip us)):Binds K fd ps []:=λs us _ hl=>by
 rw[xY]at hl⊢;exact .of_eq (h us hl)
def Passes(CX:rM)(X:Cx)(E:XK):Prop:=∀(pins:List (Addr×Obj)) (σ:St) (H:Hp) (s:Shared) (e:Value) (s':Shared),Inv X pins σ H s->CX X.stack H s E e s'->X.xe e s'
section
variable {X:Cx} {CX:rM} {k:Nat} {f C:Addr} {fd:FuncData} {ps:List Str} {sp:Sp} {pB:List V} {ds:List Value} {E:XK} {x m:Str} {p pos apos:Pos} {e o:Expr} {es:List Expr} {ta:TE} {t:TA}
def ae1{pins:List (Addr×Obj)}{σ:St}{H:Hp}{s:Shared}{Q:VK}{us:List Value}{vs:List V}(F:qJ X.prog X.w X.K X.mg X.base CX k f fd ps sp)(hr:eZ k X.A)(hb:Binds X.K fd ps ds)(hd:Vals pB ds)(hx:Passes CX X E)
  (I:Inv X pins σ H s) (r:Vals vs us) (h:sp (vs++pB) H Q E):wpAny (model X.prog X.w) X.A (call (.ref f) us) (EP X pins σ Q) X.xe s:=by
 have r2:Vals (vs++pB) (us++ds):=r.append hd;have hl:(us++ds).length=ps.length:=by rw[<-r2.length];exact F.len _ _ _ _ h
 refine wpAny_call (codeAny_mono (F.run X.A X.stack s H ⟨us,[]⟩ (us++ds) (vs++pB) Q E hr I.env0 (hb s us I.jO hl) r2 h) λr s' hq=>?_);cases r with
 |error e=>exact hx pins σ H s e s' I hq
 |ok fl=>
  cases fl with
  |ret u=>exact I.after hq
  |next=>exact False.elim hq
  |brk=>exact False.elim hq
  |cont=>exact False.elim hq
def aay(F:qJ X.prog X.w X.K X.mg X.base CX k f fd ps sp)(hr:eZ k X.A)(hg:Gl X x)(hm:X.mg x=some (.ref f))(hk:W.keepIn X.K (.ref f)=true)(hb:Binds X.K fd ps ds)(hd:Vals pB ds)(hx:Passes CX X E)
  (ha:PA X (e::es) t) (hdb:(x==("__debug__" : Str))=false:=by decide) (he:starEach (e::es) X.env=(false,eval e X.env)::starEach es X.env:=by rfl) (hpl:(backTo pos (starEach es X.env)).any (·.1)=false:=by rfl):
  PE X (.Call (.Name x p) (e::es) [] pos) (Uc sp pB E t):=by
 intro pins s σ H Q I h;refine wpAny_Call_Name_kw (Ko I hg hm ?_ hdb);refine W.callWith_K (h₀:=X.base) I.ok.mod.Nv hk (bf (ha pos pins s σ H _ I h) λus s1 ⟨vs,H1,I1,r,q⟩=>⟨I1.jO,?_⟩) he hpl;exact ae1 F hr hb hd hx I1 r q
end
section
variable {X:Cx} {CX:rM} {k:Nat} {f C:Addr} {fd:FuncData} {ps ks:List Str} {sp:Sp} {E:XK} {x m:Str} {p pos apos kpos:Pos} {e o:Expr} {es:List Expr} {kws:List Keyword} {te ta:TE} {t tk:TA} {nm:Option Str}
variable {g:List Value->List Value->List Value} {gV:List V->List V->List V}
end
structure bD(N P:List Str)(sc:Scope):Prop where
 kind:sc.kind = .function
 co:sc.isCoroutine=false
 gen:sc.isGenerator=false
 nd:N.Nodup
 pre:N.take P.length=P
 par:∀x∈P,sc.names.lookup x=some .local∨sc.names.lookup x=some .cell
 RX:∀y∈sc.names,y.2≠ .free
theorem aeg{kindOf:Str->Option NameKind}{x:Str}:∀{binds:List (Str×Value)} {m:Str->Option Value},(∀v,(x,v)∉binds)->bindL kindOf binds m x=m x
 |[],_,_=>rfl
 |(n,v)::r,m,h=>by
  unfold bindL;rw[aeg λw hw=>h w (dg _ hw)];split
  .have:x≠n:=by rintro rfl;exact h v cQ
   simp[this]
  .rfl
theorem Xe{kindOf:Str->Option NameKind}{x:Str}:∀{binds:List (Str×Value)} {m:Str->Option Value},(∀v,(x,v)∉binds)->bindC kindOf binds m x=m x
 |[],_,_=>rfl
 |(n,v)::r,m,h=>by
  unfold bindC;rw[Xe λw hw=>h w (dg _ hw)];split
  .rfl
  .have:x≠n:=by rintro rfl;exact h v cQ
   simp[this]
theorem adw{kindOf:Str->Option NameKind}{x:Str}{v:Value}:∀{P:List Str} {vs:List Value} {i:Nat} {m:Str->Option Value},P.Nodup->P[i]?=some x->vs[i]?=some v->kindOf x=some .local->
  bindL kindOf (P.zip vs) m x=some v
 |[],_,_,_,_,h,_,_=>by simp at h
 |_::_,[],_,_,_,_,h,_=>by simp at h
 |p::P,w::vs,0,m,nd,h1,h2,hk=>by
  simp at h1 h2;subst h1;subst h2;show bindL kindOf ((p,w)::P.zip vs) m p=_;unfold bindL;rw[aeg λv hv=>(qx.mp nd).1 (Ng hv).1,if_pos hk];simp
 |p::P,w::vs,i+1,m,nd,h1,h2,hk=>by
  show bindL kindOf ((p,w)::P.zip vs) m x=_;unfold bindL;exact adw (i:=i) (qx.mp nd).2 (by simpa using h1) (by simpa using h2) hk
theorem aav{kindOf:Str->Option NameKind}{x:Str}{v:Value}:∀{P:List Str} {vs:List Value} {i:Nat} {m:Str->Option Value},P.Nodup->P[i]?=some x->vs[i]?=some v->kindOf x≠some .local->
  bindC kindOf (P.zip vs) m x=some v
 |[],_,_,_,_,h,_,_=>by simp at h
 |_::_,[],_,_,_,_,h,_=>by simp at h
 |p::P,w::vs,0,m,nd,h1,h2,hk=>by
  simp at h1 h2;subst h1;subst h2;show bindC kindOf ((p,w)::P.zip vs) m p=_;unfold bindC;rw[Xe λv hv=>(qx.mp nd).1 (Ng hv).1,if_neg hk];simp
 |p::P,w::vs,i+1,m,nd,h1,h2,hk=>by
  show bindC kindOf ((p,w)::P.zip vs) m x=_;unfold bindC;exact aav (i:=i) (qx.mp nd).2 (by simpa using h1) (by simpa using h2) hk
def start(N:List Str)(vs:List V):St:=vs.map some++List.replicate (N.length-vs.length) none
def Am(CX:rM)(P:Program)(w:World)(K:W.Frag)(mg:Str->Option Value)(base:Heap)(N:List Str)(qual:Str)(scope:Scope)(f:Addr)(cd:Value)(A:Around)(outer:List Env)(s:Shared)(H:Hp)(E:XK):Cx where
 prog:=P
 w:=w
 K:=K
 mg:=mg
 base:=base
 A:=A.deeper (envOfC qual scope s.heap.objs.size f cd)
 N:=N
 s₀:=s
 H₀:=H
 env:=envOfC qual scope s.heap.objs.size f cd
 outer:=outer
 stack:=envOfC qual scope s.heap.objs.size f cd::outer
 ex:=[]
 calm:=true
 fn:=λ_=>true
 pn:=[]
 xe:=λe s'=>wpAny (model P w) (A.deeper (envOfC qual scope s.heap.objs.size f cd)) (leaving (envOfC qual scope s.heap.objs.size f cd) e) (λ_ s''=>CX outer H s E e s'') (λe' s''=>CX outer H s E e' s'') s'
def aaM{sc:Scope}{n:Nat}{x:Str}(h:sc.names.lookup x=some .cell):∃c,(cellsFrom n sc.names []).lookup x=some c:=by
 have q:=W.cellsFrom_some sc.names n [] (.inl h);exact Option.isSome_iff_exists.mp q
def akW{CX:rM}{P:Program}{w:World}{K:W.Frag}{mg:Str->Option Value}{base:Heap}{N ps:List Str}{qual:Str}{scope:Scope}{f:Addr}{cd:Value}{A:Around}{outer:List Env}{s s1:Shared}{H:Hp}{E:XK}{us:List Value}{vs:List V}
  (S:bD N ps scope) (hd:A.handled=none) (e0:Jr P w K mg base A outer s H) (hl:vs.length=ps.length) (r:Vals vs us)
  (x:InCallC s s.heap.objs.size (bindL (envOfC qual scope s.heap.objs.size f cd).kindOf (ps.zip us) λ_=>none) (cellsFrom (s.heap.objs.size+1) scope.names []) (bindC (envOfC qual scope s.heap.objs.size f cd).kindOf (ps.zip us) λ_=>none) s1):
  Inv (Am CX P w K mg base N qual scope f cd A outer s H E) [] (start N vs) H s1:=by
 have hpl:ps.length<=N.length:=by have:=congrArg List.length S.pre;rw[jl]at this;omega
 obtain⟨h1,tk,rfl,hk⟩:=x.done;have CG:∀b:Addr,b∉(Am CX P w K mg base N qual scope f cd A outer s H E).ex:=λb z=>absurd (show b∈([]:List Addr)from z) (by simp);refine⟨⟨e0.mod,S.kind,rfl,rfl,aN _,λy z c h1 h2=>?_,λy hy=>?_,λy c _ h=>?_,λ_=>hd,Around.frames_deeper e0.frames,.inr ⟨rfl,rfl⟩,λb z=>absurd z (CG b),e0.bs,e0.vX,λb _ _=>CG b,λb z=>absurd z (CG b),e0.qz,e0.Ak⟩,
  rfl,e0.bare,Un.kept hk,⟨_,x.toInCall.ns,λi y v h1 h2 h3=>?_⟩,λy c h=>⟨_,x.cell y c h⟩,e0.hok.fresh (aN _),λy c h=>?_,λp hp=>absurd (show p∈([]:List (Addr×Obj))from hp) (by simp),e0.hok.kept hk,?_⟩
 .exact name_of_addr x.apart (vR h1) (vR h2)
 .have hy:scope.names.lookup y=some .cell∨scope.names.lookup y=some .free:=hy;rcases hy with hy|hy
  .exact aaM hy
  .exact absurd rfl (S.RX _ (vR hy))
 .exact fX (x.above y c (vR h))
 .have hi:i<vs.length:=by
   unfold start at h2;by_cases hi:i<vs.length
   .exact hi
   .rw[RT (by simpa using hi)]at h2;rw[List.getElem?_replicate]at h2;split at h2<;>cases h2
  have ha:vs[i]?=some v:=by
   unfold start at h2;rw[Tf (by simpa using hi),jV]at h2;cases e:vs[i]? with
   |none=>rw[e]at h2;cases h2
   |some a=>rw[e]at h2;cases h2;rfl
  obtain⟨u,hu,rv⟩:=r.get ha;have hp:ps[i]?=some y:=by
   rw[<-S.pre,List.getElem?_take_of_lt (by omega)];exact h1
  have ndP:ps.Nodup:=by rw[<-S.pre];exact S.nd.sublist (List.take_sublist _ _)
  refine⟨u,rv,?_⟩;rcases S.par y (jF hp)with k|k
  .exact .inl ⟨k,adw ndP hp hu k⟩
  .obtain⟨c,e⟩:=aaM (n:=s.heap.objs.size+1) k;refine .inr ⟨.inl k,c,e,?_⟩;have q:=x.cell y c e;rw[aav ndP hp hu (by show scope.names.lookup y≠_;rw[k];decide)]at q;exact q
 .exact e0.hok.fresh (fX (x.above y c (vR h)))
 .unfold start;show _=N.length;rw[fJ,aG,abL];omega
def ath{CX:rM}{P:Program}{w:World}{K:W.Frag}{mg:Str->Option Value}{base:Heap}{k:Nat}{f:Addr}{name qual:Str}{params:Arguments}{body:List Stmt}{scope:Scope}{dV kV doc pm cdv ct oc:Value}{an od:Option Addr}
  {osl:Array (Option Value)} {N ps:List Str} {sp:Sp} (lk:K.lookup f=some ⟨oc,od,.func (W.fnOf name qual params body scope dV kV doc pm an cdv ct),osl⟩) (hcd:W.codeIn K cdv qual=true) (S:bD N ps scope)
  (len:∀vs H Q E,sp vs H Q E->vs.length=ps.length)
  (hbody:∀(A:Around) (outer:List Env) (s:Shared) (H:Hp) (vs:List V) (Q:VK) (E:XK),eZ k (A.deeper (envOfC qual scope s.heap.objs.size f cdv))->sp vs H Q E->
   ∃t,jM (Am CX P w K mg base N qual scope f cdv A outer s H E) body t/\t { nx:=λ_ H'=>Q .non H',rt:=Q } (start N vs) H):
  qJ P w K mg base CX (k+1) f (W.fnOf name qual params body scope dV kV doc pm an cdv ct) ps sp:=by
 refine⟨len,λA outer s H args us vs Q E hr e0 hb r hsp=>?_⟩;have hl:=len _ _ _ _ hsp;have KX:K.In s.heap:=e0.mod.Nv.keeps λb o e=>(e0.bs b o e).1;have lim:s.heap.NoLimit:=e0.mod.nolimit.keeps λb o e=>(e0.bs b o e).1;have hkind:∀y∈ps.zip us,scope.names.lookup y.1=some .local∨(scope.names.lookup y.1=some .cell/\((cellsFrom (s.heap.objs.size+1) scope.names []).lookup y.1).isSome=true):=λ⟨n,v⟩ hy=>by
  rcases S.par n (Ng hy).1 with q|q
  .exact .inl q
  .exact .inr ⟨q,W.cellsFrom_some _ _ _ (.inl q)⟩
 refine codeAny_call_function hr.depth (KX _ _ lk) rfl S.co S.gen rfl (W.codeRec_of KX hcd) (hb _ _ _ _ ?_);refine wpAny_newFunctionEnv_cells S.kind hkind λenv he s1 x=>?_;subst he;refine⟨lim.keeps x.toInCall.keep,codeAny_func ?_⟩;obtain⟨t,ht,hq⟩:=hbody A outer s H vs Q E (hr.deeper _) hsp;have I:Inv (Am CX P w K mg base N qual scope f cdv A outer s H E) [] (start N vs) H s1:=akW S hr.hd e0 hl r x;refine wpAny_mono (ht [] s1 (start N vs) H _ I hq) (λfl s' hs=>?_) λe s' hs=>hs;have fin:∀{σ':St} {H':Hp} {v:V} {u:Value},Inv (Am CX P w K mg base N qual scope f cdv A outer s H E) [] σ' H' s'->RelV v u->Q v H'->CE outer P w H s Q u s':=
  λ{σ' H' v u} J rv q=>⟨v,H',J.os,J.bare,J.base,J.hok,rv,q⟩
 cases fl with
 |ret u=>
  obtain⟨v,σ',H',J,rv,q⟩:=hs;exact fin J rv q
 |next=>
  obtain⟨σ',H',J,q⟩:=hs;exact fin (v:=V.non) (u:=Value.none) J rfl q
 |brk=>
  obtain⟨_,_,_,q⟩:=hs;exact False.elim q
 |cont=>
  obtain⟨_,_,_,q⟩:=hs;exact False.elim q
section
variable {X:Cx} {x:Str} {p pos:Pos} {e:Expr} {es:List Expr} {t:TA} {id T:String} {r:List V->Hp->VK->Prop}
def WY(r:List V->Hp->VK->Prop)(t:TA):TE:=λσ H Q=>t σ H λvs H1=>r vs H1 Q
def bZ(hc:lA X (.builtin id) r)(hg:Gl X x)(hm:X.mg x=none)(hv:bootBuiltins x=some (.builtin id))(ha:PA X (e::es) t)(hn:x≠ "__name__" := by decide)(hdb:(x==("__debug__" : Str))=false:=by decide)
  (he:starEach (e::es) X.env=(false,eval e X.env)::starEach es X.env:=by rfl) (hpl:(backTo pos (starEach es X.env)).any (·.1)=false:=by rfl):PE X (.Call (.Name x p) (e::es) [] pos) (WY r t):=by
 intro pins s σ H Q I h;refine wpAny_Call_Name_kw (qg I hg hm hv ?_ hn hdb);exact PyProof.Rows.callWith_builtin1 (bf (ha pos pins s σ H _ I h) λus s1 ⟨vs,H1,I1,r1,q1⟩=>hc pins s1 σ H1 vs us Q I1 r1 q1) he hpl
def iB(hc:lA X (.type T) r)(hg:Gl X x)(hm:X.mg x=none)(hv:bootBuiltins x=some (.type T))(ha:PA X (e::es) t)(hn:x≠ "__name__" := by decide)(hdb:(x==("__debug__" : Str))=false:=by decide)
  (he:starEach (e::es) X.env=(false,eval e X.env)::starEach es X.env:=by rfl) (hpl:(backTo pos (starEach es X.env)).any (·.1)=false:=by rfl):PE X (.Call (.Name x p) (e::es) [] pos) (WY r t):=by
 intro pins s σ H Q I h;refine wpAny_Call_Name_kw (qg I hg hm hv ?_ hn hdb);exact uE (bf (ha pos pins s σ H _ I h) λus s1 ⟨vs,H1,I1,r1,q1⟩=>hc pins s1 σ H1 vs us Q I1 r1 q1) he hpl
end
end L2
namespace HT
open PySem PyProof.Rows
section
open PySem.SeqAt
open PySem.AutoSeq1 (wpAny_loadPart')
open PySem.MeetsSeq PySem.MeetsSeq2 PySem.MeetsSeq3
end
section
variable {prog:Program} {w:World} {A:Around} {E:Value->Shared->Prop} {s:Shared}
def ak5{t b:Addr}{vs ws:List Value}{Q:Value->Shared->Prop}(ht:IsTup s.heap t vs.toArray)(hb:IsTup s.heap b ws.toArray)(hv:vs≠[])
  (h1:ws=[]->Q (.ref t) s) (h2:ws≠[]->Q (.ref s.heap.objs.size) { s with heap:=s.heap.push { cls:= .type "tuple",data:= .seq (vs++ws).toArray } })
  (hsz:vs.length+ws.length<=sizeLine):wpAny (model prog w) A (binaryOp .Add (.ref t) (.ref b)) Q E s:=by
 obtain⟨⟨cls,dd,data,sl⟩,ho,hc,n,hd⟩:=id ht;obtain⟨⟨cls2,dd2,data2,sl2⟩,ho2,hc2,n2,hd2⟩:=id hb;simp only at hc hd hc2 hd2;subst hc hd hc2 hd2;have e:vs.toArray++ws.toArray=(vs++ws).toArray:=by simp
 by_cases hw:ws=[]
 .exact concat_meets ⟨_,ho,rfl⟩ ⟨_,ho2,rfl⟩ noFill_tuple_add seq_tuple_add Pj QM (J9 _ _)
   (tuple_addW1 t b vs.toArray ws.toArray n n2 dd dd2 sl sl2 (by simpa using hv) (by simp[hw])) ⟨ho,ho2,h1 hw⟩
 .refine concat_meets ⟨_,ho,rfl⟩ ⟨_,ho2,rfl⟩ noFill_tuple_add seq_tuple_add Pj QM (J9 _ _)
   (tuple_addW2 t b vs.toArray ws.toArray n n2 dd dd2 sl sl2 (by simpa using hv) (by simpa using hw) (by rw[fG,fG];exact hsz)) ⟨ho,ho2,?_⟩
  rw[e];exact h2 hw
def bw(n d:Nat):Option Int->Nat
 |none=>d
 |some v=>if v<0 then(v+(n:Int)).toNat else min v.toNat n
def rG(n d:Nat):bw n d none=d:=rfl
def oZ(n d k:Nat):bw n d (some (k:Int))=min k n:=by
 show(if(k:Int)<0 then((k:Int)+(n:Int)).toNat else min (k:Int).toNat n)=min k n;rw[if_neg (by omega),fW]
def ahR(n d:Nat)(hd:d<=n)(o:Option Int):bw n d o<=n:=by
 cases o with
 |none=>exact hd
 |some v=>
  show(if v<0 then(v+(n:Int)).toNat else min v.toNat n)<=n;by_cases hv:v<0
  .rw[if_pos hv];omega
  .rw[if_neg hv];exact Rv _ _
def Wa(v:Int)(n d:Nat):(if v<0 then max (v+(n:Int)) 0 else min v (n:Int))=((bw n d (some v):Nat):Int):=by
 show(if v<0 then max (v+(n:Int)) 0 else min v (n:Int))=(((if v<0 then(v+(n:Int)).toNat else min v.toNat n):Nat):Int);by_cases hv:v<0
 .simp only[if_pos hv];omega
 .simp only[if_neg hv];omega
def ai8(lo hi:Option Int)(n:Nat):Builtin.Slice.sliceAdjust lo hi 1 (n:Int)=(((bw n 0 lo:Nat):Int),((bw n n hi:Nat):Int)):=by
 have h1:¬((1:Int)<0):=by omega
 unfold Builtin.Slice.sliceAdjust;simp only[h1,if_false];refine Prod.ext ?_ ?_
 .cases lo with
  |none=>rfl
  |some v=>exact Wa v n 0
 .cases hi with
  |none=>rfl
  |some v=>exact Wa v n n
def aiV(i j:Nat):Builtin.Slice.slicePlaces (i:Int) (j:Int) 1=j-i:=by
 unfold Builtin.Slice.slicePlaces;have h1:(1:Int)>0:=by omega
 simp only[h1,if_true,Int.ediv_one];split<;>omega
def V3{v:Value}{o:Option Int}{Q:Option Int->Shared->Prop}(p:IsPart v o)(h:Q o s):wpAny (model prog w) A (Builtin.Slice.slicePartIndex v) Q E s:=by
 cases p with
 |none=>exact slicePart_none h
 |int i t=>exact slicePart_int h
def adI{sl:Addr}{vl vu:Value}{lo hi:Option Int}{n:Nat}{Q:Int×Int×Nat->Shared->Prop}(hs:s.heap.IsSliceOf sl vl vu .none)(pl:IsPart vl lo)(pu:IsPart vu hi)
  (h:Q (((bw n 0 lo:Nat):Int),1,bw n n hi-bw n 0 lo) s):wpAny (model prog w) A (Builtin.Slice.sliceApplied (.ref sl) (pure (n:Int))) Q E s:=by
 obtain⟨os,hos,hcs,hds⟩:=id hs;unfold Builtin.Slice.sliceApplied Builtin.Slice.sliceFields;refine wpAny_bind (wpAny_bind (wpAny_field hos hds (x:=vl) rfl (wpAny_bind (wpAny_field hos hds (x:=vu) rfl (wpAny_bind (wpAny_field hos hds (x:= .none) rfl (wpAny_pure ?_)))))));refine wpAny_bind (slicePart_none ?_);show wpAny _ _ (if((1:Int)==0)=true then _ else _) _ _ s;rw[if_neg (by decide)];refine wpAny_bind (V3 pl (wpAny_bind (V3 pu (wpAny_bind (wpAny_pure ?_)))));show wpAny _ _ (match Builtin.Slice.sliceAdjust lo hi 1 (n:Int)with|(lo,hi)=>pure (lo,(1:Int),Builtin.Slice.slicePlaces lo hi 1)) _ _ s
 rw[ai8 lo hi n];show wpAny _ _ (pure (((bw n 0 lo:Nat):Int),(1:Int),Builtin.Slice.slicePlaces ((bw n 0 lo:Nat):Int) ((bw n n hi:Nat):Int) 1)) _ _ s;rw[aiV];exact wpAny_pure h
def anY(xs:Array Value)(i k:Nat):((List.range k).filterMap λ(m:Nat)=>xs[((i:Int)+(m:Int)*1).toNat]?).toArray=((xs.toList.drop i).take k).toArray:=by
 have e:(λ(m:Nat)=>xs[((i:Int)+(m:Int)*1).toNat]?)=λm=>xs[i+m]?:=by
  funext m
  have:((i:Int)+(m:Int)*1).toNat=i+m:=by omega
  rw[this]
 rw[e];have:=pick_run xs i k;rw[List.filterMap_map]at this;have e2:((λx=>xs[x]?)∘λx=>i+x)=λm=>xs[i+m]?:=rfl;rw[e2]at this;rw[this]
def anP{t sl:Addr}{items:Array Value}{vl vu:Value}{lo hi:Option Int}{Q:Value->Shared->Prop}(ht:IsTup s.heap t items)(hs:s.heap.IsSliceOf sl vl vu .none)(pl:IsPart vl lo)(pu:IsPart vu hi)
  (hw:¬(bw items.size 0 lo=0/\bw items.size items.size hi=items.size))
  (h:Q (.ref s.heap.objs.size) { s with heap:=s.heap.push { cls:= .type "tuple",data:= .seq ((items.toList.drop (bw items.size 0 lo)).take (bw items.size items.size hi-bw items.size 0 lo)).toArray } })
  (hsz:items.size<=sizeLine):wpAny (model prog w) A (getItem (.ref t) (.ref sl)) Q E s:=by
 have EJ:sizeOk (.seq ((items.toList.drop (bw items.size 0 lo)).take (bw items.size items.size hi-bw items.size 0 lo)).toArray):=by
  show((items.toList.drop (bw items.size 0 lo)).take (bw items.size items.size hi-bw items.size 0 lo)).toArray.size<=sizeLine;rw[fG,jl,lJ,Nm];omega
 have hj:bw items.size items.size hi<=items.size:=ahR _ _ (aN _) hi;obtain⟨os,hos,hcs,hds⟩:=id hs;have hTs:s.TypeIs (.ref sl) "slice" := ⟨os,hos,hcs⟩;unfold getItem;try with_reducible refine wpAny_holding ?_
 first|refine wpAny_bind (wpAny_pure ?_)|skip
 refine wpAny_bind (wpAny_sequenceKey ht.typeIs (by decide) ?_);refine wpAny_bind (wpAny_callSpecial?_slot (name:=Str.ofString "__getitem__") ht.typeIs yR
  (wpAny_call_entry yR ht.typeIs entry_tuple_getitem ?_ (args_tuple_getitem _ _)))
 show wpAny _ _ (Builtin.Tuple.tupleItemsOf (.ref t)>>=_) _ _ s;refine wpAny_bind (tupleItemsOf_ ht ?_);refine wpAny_bind (wpAny_typeOf hTs ?_);rw[if_pos (by decide)];refine wpAny_bind (adI hs pl pu ?_);have hno:¬((((bw items.size 0 lo:Nat):Int)==0&&(1:Int)==1&&(bw items.size items.size hi-bw items.size 0 lo)==items.size)=true):=by
  intro q;rw[vp,vp]at q;have q1:((bw items.size 0 lo:Nat):Int)=0:=eq_of_beq q.1.1;have q2:bw items.size items.size hi-bw items.size 0 lo=items.size:=eq_of_beq q.2;exact hw ⟨by omega,by omega⟩
 show wpAny _ _ (if(((bw items.size 0 lo:Nat):Int)==0&&(1:Int)==1&&(bw items.size items.size hi-bw items.size 0 lo)==items.size)=true then _ else _) _ _ s;rw[if_neg hno,anY];first
  |exact wpAny_bind (m:=Builtin.Tuple.tupleExact _) (wpAny_newObj_type (wpAny_pure ⟨_,rfl,wpAny_pure h⟩) EJ)
  |exact wpAny_bind (m:=Builtin.Tuple.tupleExact _) (wpAny_newObj_type (wpAny_bind (wpAny_pure (wpAny_pure ⟨_,rfl,wpAny_pure h⟩))) EJ)
  |exact wpAny_bind (wpAny_bind (m:=Builtin.Tuple.tupleExact _) (wpAny_newObj_type (wpAny_pure (wpAny_pure ⟨_,rfl,wpAny_pure h⟩)) EJ))
  |exact wpAny_bind (wpAny_bind (m:=Builtin.Tuple.tupleExact _) (wpAny_newObj_type (wpAny_pure ⟨_,rfl,wpAny_pure h⟩) EJ))
end
end HT
namespace L2
open PySem PySem.Spec PyProof.Rows
abbrev TO:=St->Hp->(Option Int->Hp->Prop)->Prop
def PO(X:Cx)(e:Option Expr)(t:TO):Prop:=
 ∀(pins:List (Addr×Obj)) (s:Shared) (σ:St) (H:Hp) (Q:Option Int->Hp->Prop),Inv X pins σ H s->t σ H Q->
  wpAny (model X.prog X.w) X.A (evalPart e X.env) (λu s'=>∃o H',Inv X pins σ H' s'/\IsPart u o/\Q o H') X.xe s
def ar5:TO:=λ_ H Q=>Q none H
inductive agi(x:V)(H:Hp)(Q:Option Int->Hp->Prop):Prop|mk (i:Int) (hx:x = .int i) (q:Q (some i) H)
def aqo(t:TE):TO:=λσ H Q=>t σ H λx H1=>agi x H1 Q
def intsAre_of{ns:List Int}:∀{us:List Value},Vals (ns.map V.int) us->IntsAre us ns:=by
 induction ns with
 |nil=>intro us r;rw[List.map_nil]at r;cases r;exact .nil
 |cons n ns ih=>
  intro us r;rw[dz]at r;cases r with
  |cons r1 r2=>
   obtain⟨t,e⟩:=r1;subst e;exact .cons n t (ih r2)
section
variable {X:Cx} {e:Expr} {te:TE} {lo hi:Option Expr} {tl th:TO} {pos p2:Pos}
def wB:PO X none ar5:=by
 intro pins s σ H Q I h;rw[evalPart_none];exact wpAny_pure ⟨none,H,I,.none,h⟩
def sV(h:PE X e te):PO X (some e) (aqo te):=by
 intro pins s σ H Q I hw;rw[evalPart_some];refine bf (h pins s σ H _ I hw) λu s1 ⟨x,H1,I1,r1,q1⟩=>?_;obtain⟨i,rfl,q⟩:=q1;obtain⟨t,rfl⟩:=r1;exact⟨some i,H1,I1,.int i t,q⟩
def oH(X:Cx)(r:V->Option Int->Option Int->Hp->VK->Prop):Prop:=
 ∀(pins:List (Addr×Obj)) (s:Shared) (σ:St) (H:Hp) (x:V) (v vl vu:Value) (lo hi:Option Int) (sl:Addr) (Q:VK),Inv X pins σ H s->RelV x v->s.heap.IsSliceOf sl vl vu .none->IsPart vl lo->IsPart vu hi->r x lo hi H Q->
  ∃T id,typeLookup (.type T) "__getitem__" = pure (some (.builtin id))/\s.TypeIs v T/\wpAny (model X.prog X.w) X.A (getItem v (.ref sl)) (EP X pins σ Q) X.xe s
def oH.or{r r':V->Option Int->Option Int->Hp->VK->Prop}(h:oH X r)(h':oH X r'):oH X (λx lo hi H Q=>r x lo hi H Q∨r' x lo hi H Q):=by
 intro pins s σ H x v vl vu lo hi sl Q I rx hs pl pu q;rcases q with q|q
 .exact h pins s σ H x v vl vu lo hi sl Q I rx hs pl pu q
 .exact h' pins s σ H x v vl vu lo hi sl Q I rx hs pl pu q
def tSl(r:V->Option Int->Option Int->Hp->VK->Prop)(te:TE)(tl th:TO):TE:=λσ H Q=>te σ H λx H1=>tl σ H1 λl H2=>th σ H2 λu H3=>r x l u H3 Q
def vU{r:V->Option Int->Option Int->Hp->VK->Prop}(hr:oH X r)(he:PE X e te)(hl:PO X lo tl)(hu:PO X hi th):PE X (.Subscript e (.Slice lo hi none p2) pos) (tSl r te tl th):=by
 intro pins s σ H Q I h;refine Subscript_ (bf (he pins s σ H _ I h) λv s1 ⟨x,H1,I1,r1,q1⟩=>?_);refine wpAny_Slice (bf (hl pins s1 σ H1 _ I1 q1) λvl s2 ⟨l,H2,I2,pl,q2⟩=>bf (hu pins s2 σ H2 _ I2 q2) λvu s3 ⟨u,H3,I3,pu,q3⟩=>?_);rw[evalPart_none];refine wpAny_pure ?_;have I4:Inv X pins σ H3 { s3 with heap:=s3.heap.push { cls:= .type "slice",data:= .fields #[vl,vu,.none] } }:=I3.kept (t':=s3.toks) λb ob q=>Heap.get?_push_of_some _ q;obtain⟨T,id,hT,ht,hg⟩:=hr pins { s3 with heap:=s3.heap.push { cls:= .type "slice",data:= .fields #[vl,vu,.none] } } σ H3 x v vl vu l u s3.heap.objs.size Q I4 r1 (Heap.IsSliceOf.new ..) pl pu q3;show wpAny (model X.prog X.w) X.A (subscriptTail e (.Slice lo hi none p2) v (.ref s3.heap.objs.size)) (EP X pins σ Q) X.xe { s3 with heap:=s3.heap.push { cls:= .type "slice",data:= .fields #[vl,vu,.none] } };exact tail_any (ops:=[.ref s3.heap.objs.size,v]) ht hT hg (by with_unfolding_all rfl)
def iH(xs:List V)(lo hi:Option Int):List V:=(xs.drop (HT.bw xs.length 0 lo)).take (HT.bw xs.length xs.length hi-HT.bw xs.length 0 lo)
def Zw(xs:List V)(lo hi:Option Int):(iH xs lo hi).length<=xs.length:=by
 unfold iH;rw[jl,lJ];omega
def ah2(K:W.Frag):V->Option Int->Option Int->Hp->VK->Prop:=λx lo hi H Q=>∃a xs,x = .ref a/\aC K H a xs/\
 ¬(HT.bw xs.length 0 lo=0/\HT.bw xs.length xs.length hi=xs.length)/\∀p,H p=none->Q (.ref p) (upd H p (.tup (iH xs lo hi)))
def aoE:oH X (ah2 X.K):=by
 intro pins s σ H x v vl vu lo hi sl Q I rx hs pl pu h;obtain⟨a,xs,rfl,hx,hw,q⟩:=h;cases rx;obtain⟨its,r,ht,hz⟩:=I.tuple hx;have hlen:its.toArray.size=xs.length:=by rw[fG];exact r.length.symm
 refine⟨"tuple",_,yR.lookup,ht.typeIs,?_⟩;refine HT.anP ht hs pl pu (by rw[hlen];exact hw) ?_ (by rw[hlen];exact hz);rw[hlen];refine⟨.ref s.heap.objs.size,_,I.laid (t':=s.toks) (o:= .tup (iH xs lo hi)) (λb ob q=>Heap.get?_push_of_some _ q) (aN _) ?_,rfl,q _ (I.hok.fresh (aN _))⟩;exact⟨iT (Zw xs lo hi) hz,_,(r.drop (HT.bw xs.length 0 lo)).take (HT.bw xs.length xs.length hi-HT.bw xs.length 0 lo),IsTup.new _ _⟩
def agy(K:W.Frag):R2:=λx y H Q=>∃a b xs ys,x = .ref a/\y = .ref b/\aC K H a xs/\aC K H b ys/\xs≠[]/\xs.length+ys.length<=sizeLine/\
 (ys=[]->Q (.ref a) H)/\(ys≠[]->∀p,H p=none->Q (.ref p) (upd H p (.tup (xs++ys))))
def Vals.Jc{xs:List V}{us:List Value}(r:Vals xs us):us=[]↔xs=[]:=by
 cases r with
 |nil=>simp
 |cons _ _=>simp
def amG:cV X (binaryOp .Add) (agy X.K):=by
 intro pins s σ H x y v u Q I rx ry h;obtain⟨a,b,xs,ys,rfl,rfl,ha,hb,hx,hz,q1,q2⟩:=h;cases rx;cases ry;obtain⟨its,r1,p1,_⟩:=I.tuple ha;obtain⟨its2,r2,p2,_⟩:=I.tuple hb;refine HT.ak5 p1 p2 (λz=>hx (r1.Jc.mp z)) (λz=>⟨.ref a,H,I,rfl,q1 (r2.Jc.mp z)⟩) (λz=>?_) (by rw[<-r1.length,<-r2.length];exact hz);refine⟨.ref s.heap.objs.size,_,I.laid (t':=s.toks) (o:= .tup (xs++ys)) (λb ob q=>Heap.get?_push_of_some _ q) (aN _) ?_,rfl,q2 (λw=>z (r2.Jc.mpr w)) _ (I.hok.fresh (aN _))⟩;exact⟨by rw[fJ];exact hz,_,r1.append r2,IsTup.new _ _⟩
end
def qD(n:Nat)(i:Int):Option Nat:=if 0<=i then(if i<n then some i.toNat else none)else if -(n:Int)<=i then some (i+n).toNat else none
def nG{α:Type}(xs:List α)(i:Int):Option α:=(qD xs.length i).bind λj=>xs[j]?
def YJ{n:Nat}{i:Int}{j:Nat}(h:qD n i=some j):seqIndex? i n=some j/\j<n/\-(n:Int)<=i/\i<n:=by
 unfold qD at h;by_cases h0:0<=i
 .rw[if_pos h0]at h;by_cases h1:i<n
  .rw[if_pos h1]at h;have e:i.toNat=j:=ur h;exact⟨by rw[seqIndex_of h0 h1,e],by omega,by omega,h1⟩
  .rw[if_neg h1]at h;cases h
 .rw[if_neg h0]at h;by_cases h1:-(n:Int)<=i
  .rw[if_pos h1]at h;have e:(i+n).toNat=j:=ur h;exact⟨by rw[seqIndex_neg (by omega) h1,e],by omega,h1,by omega⟩
  .rw[if_neg h1]at h;cases h
def TN{α:Type}{xs:List α}{i:Int}{v:α}(h:nG xs i=some v):∃j,seqIndex? i xs.length=some j/\xs[j]?=some v/\j<xs.length/\-(xs.length:Int)<=i/\i<xs.length:=by
 unfold nG at h;cases e:qD xs.length i with
 |none=>rw[e]at h;cases h
 |some j=>
  rw[e]at h;obtain⟨h1,h2,h3,h4⟩:=YJ e;exact⟨j,h1,h,h2,h3,h4⟩
def aaE{α:Type}{xs:List α}{j:Nat}{v:α}(h:xs[j]?=some v):nG xs (j:Int)=some v:=by
 have hj:j<xs.length:=(uT.mp h).1;have e:qD xs.length (j:Int)=some j:=by
  unfold qD;rw[if_pos (by omega),if_pos (by omega)];simp
 unfold nG;rw[e];exact h
def ahn(b:Expr):Prop:=∀o i,subscripted b false o i=operate [o,i] (getItem o i)
def mq(X:Cx)(r:R2):Prop:=
 ∀(value slice:Expr) (pins:List (Addr×Obj)) (s:Shared) (σ:St) (H:Hp) (x y:V) (v u:Value) (Q:VK),Inv X pins σ H s->RelV x v->RelV y u->r x y H Q->
  subscripted slice false v u=operate [v,u] (getItem v u)->wpAny (model X.prog X.w) X.A (subscriptTail value slice v u) (EP X pins σ Q) X.xe s
def MtR(X:Cx)(id:String)(r:V->List V->Hp->VK->Prop):Prop:=
 ∀(pins:List (Addr×Obj)) (s:Shared) (σ:St) (H:Hp) (x:V) (xs:List V) (v:Value) (us:List Value) (Q:VK),Inv X pins σ H s->RelV x v->Vals xs us->r x xs H Q->
  wpAny (model X.prog X.w) X.A (call (.builtin id) (v::us)) (EP X pins σ Q) X.xe s
section
variable {X:Cx} {a b:Expr} {ta tb:TE} {pos:Pos}
def mq.or{r r':R2}(h:mq X r)(h':mq X r'):mq X (λx y H Q=>r x y H Q∨r' x y H Q):=by
 intro value slice pins s σ H x y v u Q I rx ry q hs;rcases q with q|q
 .exact h value slice pins s σ H x y v u Q I rx ry q hs
 .exact h' value slice pins s σ H x y v u Q I rx ry q hs
def aO{r:R2}(hr:mq X r)(ha:PE X a ta)(hb:PE X b tb)(hs:ahn b):PE X (.Subscript a b pos) (Gn r ta tb):=by
 intro pins s σ H Q I h;exact Subscript_ (Kr ha hb I h λv u s2 x y H2 I2 rx ry q=>hr a b pins s2 σ H2 x y v u Q I2 rx ry q (hs _ _))
def ad5(K:W.Frag):R2:=λx y H Q=>∃p xs i v,x = .ref p/\y = .int i/\aq K H p xs/\nG xs i=some v/\Q v H
def YH(K:W.Frag):R2:=λx y H Q=>∃p xs i v,x = .ref p/\y = .int i/\aC K H p xs/\nG xs i=some v/\Q v H
def XF:R2:=λx y H Q=>∃z i c,x = .str z/\y = .int i/\z.length<=sizeLine/\nG z.cps.toList i=some c/\Q (.str ⟨#[c]⟩) H
def aos:mq X (ad5 X.K):=by
 intro value slice pins s σ H x y v u Q I rx ry h hs;obtain⟨p,xs,i,z,rfl,rfl,hq,he,q⟩:=h;cases rx;obtain⟨t,rfl⟩:=ry;obtain⟨its,r,pl,hz⟩:=I.list hq;obtain⟨j,h1,h2,h3,h4,h5⟩:=TN he;obtain⟨w,ew,Bp⟩:=r.get h2;have hl:=r.length;have hn:=DR;have fin:EP X pins σ Q w s:=⟨z,H,I,Bp,q⟩;by_cases h0:0<=i
 .have hj:i.toNat=j:=by
   rw[seqIndex_of h0 h5]at h1;exact ur h1
  exact item_listR pl.isList h0 (by omega) (by rw[hj];simpa using ew) fin hs
 .have hj:(i+(its.toArray.size:Int)).toNat=j:=by
   rw[seqIndex_neg (by omega) h4]at h1;rw[fG,<-hl];exact ur h1
  exact subscriptTail_builtinR (x:=w) pl.isList.typeIs slot_list_getitem.lookup
   (wpAny_getItem_list_neg (Q:=λr s'=>r=w/\EP X pins σ Q r s') pl.isList (by omega) (by rw[fG]<;>omega) (by omega) (by rw[hj];simpa using ew) ⟨rfl,fin⟩) hs
def agJ:mq X (YH X.K):=by
 intro value slice pins s σ H x y v u Q I rx ry h hs;obtain⟨p,xs,i,z,rfl,rfl,hq,he,q⟩:=h;cases rx;obtain⟨t,rfl⟩:=ry;obtain⟨its,r,pl,hz⟩:=I.tuple hq;obtain⟨j,h1,h2,h3,h4,h5⟩:=TN he;obtain⟨w,ew,Bp⟩:=r.get h2;have hl:=r.length;have hn:=DR;have fin:EP X pins σ Q w s:=⟨z,H,I,Bp,q⟩;exact subscriptTail_builtinR (x:=w) pl.typeIs slot_tuple_getitem.lookup
  (getItem_tuple (j:=j) (Q:=λr s'=>r=w/\EP X pins σ Q r s') pl (by omega) (by omega) (by rw[fG,<-hl];exact h1) (by simpa using ew) ⟨rfl,fin⟩) hs
def auk:mq X XF:=by
 intro value slice pins s σ H x y v u Q I rx ry h hs;obtain⟨z,i,c,rfl,rfl,hz,he,q⟩:=h;obtain⟨t,rfl⟩:=rx;obtain⟨t',rfl⟩:=ry;obtain⟨j,h1,h2,h3,h4,h5⟩:=TN he;have hl:z.cps.toList.length=z.length:=by simp[Str.length]
 rw[hl]at h1 h4 h5;have hn:=DR;exact tail_any (typeIs_str s z t) slot_str_getitem.lookup (getItem_str (c:=c) (by
  have e1:decide (i < -(2^63:Int))=false:=decide_eq_false (by omega);have e2:decide (i≥2^63)=false:=decide_eq_false (by omega);rw[e1,e2,Bool.or_false]) (by rw[h1];simpa using h2) ⟨.str ⟨#[c]⟩,H,I.tok _,⟨_,rfl⟩,q⟩) hs
def rIx(K:W.Frag):R2:=λx y H Q=>ad5 K x y H Q∨YH K x y H Q∨XF x y H Q
def ahm:mq X (rIx X.K):=aos.or (agJ.or auk)
def ahz(its:List Value)(n j:Nat)(u:Value):Obj.mapSeq (·.setIfInBounds j u) { cls:= .type "list",data:= .seq its.toArray n }={ cls:= .type "list",data:= .seq (its.set j u).toArray n }:=by
 simp[Obj.mapSeq]
theorem Inv.lst{pins:List (Addr×Obj)}{σ:St}{H:Hp}{s:Shared}{p:Addr}{xs:List V}(I:Inv X pins σ H s)(h:H p=some (.lst xs)):
  ∃(its:List Value) (n:Nat),Vals xs its/\s.heap.get? p=some { cls:= .type "list",data:= .seq its.toArray n }/\xs.length<=sizeLine:=by
 obtain⟨z,its,n,r,e⟩:=I.hok p _ h;exact⟨its,n,r,e,z⟩
def Inv.arX{pins:List (Addr×Obj)}{σ:St}{H:Hp}{s:Shared}{p:Addr}{xs ys:List V}{its its':List Value}{n n':Nat}{f:Obj->Obj}(I:Inv X pins σ H s)(h:H p=some (.lst xs))
  (ho:s.heap.get? p=some { cls:= .type "list",data:= .seq its.toArray n }) (hf:f { cls:= .type "list",data:= .seq its.toArray n }={ cls:= .type "list",data:= .seq its'.toArray n' }) (r:Vals ys its') (hz:ys.length<=sizeLine) (t:Nat):
  Inv X pins σ (upd H p (.lst ys)) { s with heap:=s.heap.update p f,toks:=t }:=by
 have e:(s.heap.update p f).get? p=some { cls:= .type "list",data:= .seq its'.toArray n' }:=by
  rw[Heap.get?_update_self f ho (by rw[hf]<;>rfl),hf]
 refine I.write (x:=p) (e:=p) (by rw[h];trivial) (.inl rfl) (λb u hb q=>(Heap.get?_update_other _ _ (eG hb)).trans q) ⟨_,e⟩ ?_;exact⟨hz,its',n',r,e⟩
inductive SSet(o i v:V)(H:Hp)(Q:Hp->Prop):Prop|mk (p:Addr) (xs:List V) (k:Int) (j:Nat) (ho:o = .ref p) (hi:i = .int k) (hp:H p=some (.lst xs)) (hj:qD xs.length k=some j) (q:Q (upd H p (.lst (xs.set j v))))
def atM:V->V->V->Hp->(Hp->Prop)->Prop:=λo i v H Q=>SSet o i v H Q
def set_list:Xf X atM:=by
 intro pins s σ H o i v ov iv u Q I ro ri rv h;obtain⟨p,xs,k,j,rfl,rfl,hp,hj,q⟩:=h;cases ro;obtain⟨t,rfl⟩:=ri;obtain⟨its,n,r,ho,hz⟩:=I.lst hp;obtain⟨h1,h2,h3,h4⟩:=YJ hj;have hl:=r.length;have hn:=DR;have I':Inv X pins σ (upd H p (.lst (xs.set j v))) { s with heap:=s.heap.update p (Obj.mapSeq (·.setIfInBounds j u)) }:=
  I.arX hp ho (ahz its n j u) (r.set rv j) (by rw[oM];exact hz) s.toks
 by_cases h0:0<=k
 .have hk:k.toNat=j:=by
   rw[seqIndex_of h0 h4]at h1;exact ur h1
  exact W.ki_setAt ho h0 (by omega) (by rw[fG,<-hl];exact h4) (by rw[hk];exact⟨_,I',q⟩)
 .have hk:(k+(its.toArray.size:Int)).toNat=j:=by
   rw[seqIndex_neg (by omega) h3]at h1;rw[fG,<-hl];exact ur h1
  exact W.ki_setBack ho (by omega) (by rw[fG,<-hl];exact h3) (by omega) (by rw[hk];exact⟨_,I',q⟩)
def as7(lo hi:Option Int)(n:Nat):(sliceBounds lo hi none n).1=((HT.bw n 0 lo:Nat):Int)/\(sliceBounds lo hi none n).2.1=((HT.bw n n hi:Nat):Int)/\(sliceBounds lo hi none n).2.2=1:=by
 refine⟨?_,?_,rfl⟩
 .cases lo with
  |none=>simp[sliceBounds,HT.bw]
  |some i=>
   simp only[sliceBounds,HT.bw,Option.getD_none,show(1:Int)>0 by decide,if_true];by_cases h:i<0
   .simp only[h,if_true]<;>omega
   .simp only[h,if_false]<;>omega
 .cases hi with
  |none=>simp[sliceBounds,HT.bw]
  |some i=>
   simp only[sliceBounds,HT.bw,Option.getD_none,show(1:Int)>0 by decide,if_true];by_cases h:i<0
   .simp only[h,if_true]<;>omega
   .simp only[h,if_false]<;>omega
def aiR(its:List Value)(lo hi:Option Int):slicePick its.toArray lo hi none=((its.drop (HT.bw its.length 0 lo)).take (HT.bw its.length its.length hi-HT.bw its.length 0 lo)).toArray:=by
 obtain⟨h1,h2,h3⟩:=as7 lo hi its.toArray.size;unfold slicePick;rw[h1,h2,h3];simp only[sliceRange_one,pick_run,fG]<;>rfl
def anj(K:W.Frag):V->Option Int->Option Int->Hp->VK->Prop:=λx lo hi H Q=>∃a xs,x = .ref a/\aq K H a xs/\∀p,H p=none->Q (.ref p) (upd H p (.lst (iH xs lo hi)))
def aqT:oH X (anj X.K):=by
 intro pins s σ H x v vl vu lo hi sl Q I rx hs pl pu h;obtain⟨a,xs,rfl,hx,q⟩:=h;cases rx;obtain⟨its,r,ht,hz⟩:=I.list hx;have hlen:=r.length;refine⟨"list",_,slot_list_getitem.lookup,ht.isList.typeIs,?_⟩;refine wpAny_getItem_list_slice ht.isList hs pl pu .none (by simp) ?_ (by rw[fG]<;>omega);rw[aiR,<-hlen];refine⟨.ref s.heap.objs.size,_,I.laid (t':=s.toks) (o:= .lst (iH xs lo hi)) (λb ob q=>Heap.get?_push_of_some _ q) (aN _) ?_,rfl,q _ (I.hok.fresh (aN _))⟩;exact⟨iT (Zw xs lo hi) hz,_,0,(r.drop (HT.bw xs.length 0 lo)).take (HT.bw xs.length xs.length hi-HT.bw xs.length 0 lo),Heap.get?_push_size _ rfl⟩
def pG:V->Bool
 |.non=>true
 |.bl _=>true
 |.int _=>true
 |.str _=>true
 |_=>false
def Rq:V->V->Bool
 |.non,.non=>true
 |.bl a,.bl b=>a==b
 |.bl a,.int b=>(if a then 1 else 0)==b
 |.int a,.bl b=>a==(if b then 1 else 0)
 |.int a,.int b=>a==b
 |.str a,.str b=>a==b
 |_,_=>false
def anf{A:Around}{s:Shared}{y x:V}{u v:Value}(ry:RelV y u)(rx:RelV x v)(fy:pG y=true)(fx:pG x=true):SeqAt.EqAt A s u v (Rq y x):=by
 cases y with
 |non=>
  cases ry;cases x with
  |non=>cases rx;exact SeqAt.EqAt.same _
  |bl b=>cases rx;exact SeqAt.EqAt.none_bool b
  |int b=>obtain⟨t,rfl⟩:=rx;exact SeqAt.EqAt.none_int b t
  |str b=>obtain⟨t,rfl⟩:=rx;exact SeqAt.EqAt.none_str b t
  |_=>exact absurd (show false=true from fx) fP
 |bl a=>
  cases ry;cases x with
  |non=>cases rx;exact SeqAt.EqAt.bool_none a
  |bl b=>cases rx;exact SeqAt.EqAt.bool_bool a b
  |int b=>obtain⟨t,rfl⟩:=rx;exact SeqAt.EqAt.bool_int a b t
  |str b=>obtain⟨t,rfl⟩:=rx;exact SeqAt.EqAt.bool_str a b t
  |_=>exact absurd (show false=true from fx) fP
 |int a=>
  obtain⟨t',rfl⟩:=ry;cases x with
  |non=>cases rx;exact SeqAt.EqAt.int_none a t'
  |bl b=>cases rx;exact SeqAt.EqAt.int_bool a t' b
  |int b=>obtain⟨t,rfl⟩:=rx;exact SeqAt.EqAt.int_int a t' b t
  |str b=>obtain⟨t,rfl⟩:=rx;exact SeqAt.EqAt.int_str a t' b t
  |_=>exact absurd (show false=true from fx) fP
 |str a=>
  obtain⟨t',rfl⟩:=ry;cases x with
  |non=>cases rx;exact SeqAt.EqAt.str_none a t'
  |bl b=>cases rx;exact SeqAt.EqAt.str_bool a t' b
  |int b=>obtain⟨t,rfl⟩:=rx;exact SeqAt.EqAt.str_int a t' b t
  |str b=>obtain⟨t,rfl⟩:=rx;exact SeqAt.EqAt.str_str a t' b t
  |_=>exact absurd (show false=true from fx) fP
 |_=>exact absurd (show false=true from fy) fP
def asn:lA X (.type "list") (λxs H Q=>∃p ys,xs=[.ref p]/\(aq X.K H p ys∨aC X.K H p ys)/\∀l,H l=none->Q (.ref l) (upd H l (.lst ys))):=by
 intro pins s σ H xs us Q I r h;obtain⟨p,ys,rfl,hq,q⟩:=h;obtain⟨u,rfl,rx⟩:=vals1 r;cases rx;have fin:∀(its:List Value),Vals ys its->ys.length<=sizeLine->∀(h':Heap) (c':Nat),(∀b o',s.heap.get? b=some o'->h'.get? b=some o')->
   h'.get? s.heap.objs.size=some { cls:= .type "list",dict:=none,data:= .seq its.toArray c',slots:=#[] }->EP X pins σ Q (.ref s.heap.objs.size) { s with heap:=h' }:=λits r' hz h' c' kp e=>
  ⟨.ref s.heap.objs.size,_,I.laid (t':=s.toks) kp (aN _) (show iD X.prog X.w _ h' _ (.lst ys)from⟨hz,its,c',r',e⟩),rfl,q _ (I.hok.fresh (aN _))⟩
 rcases hq with hq|hq
 .obtain⟨its,r',pl,hz⟩:=I.list hq;have hlen:=r'.length;obtain⟨o,ho,hc,n,hd⟩:=pl.isList;exact call_list_seq p (.inl rfl) ho hc hd (λh' c' kp e=>fin its r' hz h' c' kp e) (by simp only[fG]<;>omega)
 .obtain⟨its,r',pl,hz⟩:=I.tuple hq;have hlen:=r'.length;obtain⟨o,ho,hc,n,hd⟩:=pl;exact call_list_seq p (.inr rfl) ho hc hd (λh' c' kp e=>fin its r' hz h' c' kp e) (by simp only[fG]<;>omega)
def agq:lA X (.type "tuple") (λxs H Q=>∃p ys,xs=[.ref p]/\((aq X.K H p ys/\∀l,H l=none->Q (.ref l) (upd H l (.tup ys)))∨(aC X.K H p ys/\Q (.ref p) H))):=by
 intro pins s σ H xs us Q I r h;obtain⟨p,ys,rfl,h⟩:=h;obtain⟨u,rfl,rx⟩:=vals1 r;cases rx;rcases h with⟨hq,q⟩|⟨hq,q⟩
 .obtain⟨its,r',pl,hz⟩:=I.list hq;have hlen:=r'.length;refine call_tuple_list pl.isList (λh' kp=>?_) (by simp only[fG]<;>omega);have I1:Inv X pins σ H { s with heap:=h' }:=I.kept (t':=s.toks) kp;have I2:Inv X pins σ (upd H h'.objs.size (.tup ys)) { s with heap:=h'.push { cls:= .type "tuple",data:= .seq its.toArray } }:=
   I1.laid (t':=s.toks) (λb o e=>Heap.get?_push_of_some _ e) (aN _) (show iD X.prog X.w _ _ _ (.tup ys)from⟨hz,its,r',IsTup.new _ _⟩)
  exact⟨.ref h'.objs.size,_,I2,rfl,q _ (I1.hok.fresh (aN _))⟩
 .obtain⟨its,r',pl,hz⟩:=I.tuple hq;exact call_tuple_same pl ⟨.ref p,H,I,rfl,q⟩
def LN(K:W.Frag)(T:String)(x:V)(H:Hp):Prop:=match x with
 |.str _=>T = "str"
 |.int _=>T = "int"
 |.ref p=>(T = "list" /\ ∃xs,aq K H p xs)∨(T = "tuple" /\ ∃o,K.lookup p=some o/\o.cls = .type "tuple" /\ o.dict=none)∨
   (T = "dict" /\ ((∃kvs,H p=some (.dK kvs))∨∃kvs,H p=some (.dT kvs)))∨(T = "set" /\ ∃S n,H p=some (.set S n))
 |_=>False
def ad6{pins:List (Addr×Obj)}{σ:St}{H:Hp}{s:Shared}{T:String}{x:V}{v:Value}(I:Inv X pins σ H s)(r:RelV x v)(ty:LN X.K T x H):
  s.TypeIs v T/\∀a,v = .ref a->∃ob,s.heap.get? a=some ob/\ob.dict=none:=by
 cases x with
 |str z=>
  obtain⟨t,rfl⟩:=r;cases (show T = "str" from ty);exact⟨typeIs_str s z t,λ_ e=>nomatch e⟩
 |int i=>
  obtain⟨t,rfl⟩:=r;cases (show T = "int" from ty);exact⟨typeIs_int s i t,λ_ e=>nomatch e⟩
 |ref p=>
  cases r;rcases ty with⟨rfl,xs,hq⟩|⟨rfl,o,hk,hc,hd⟩|⟨rfl,hk⟩|⟨rfl,S,n,hk⟩
  .obtain⟨its,_,pl,_⟩:=I.list hq;refine⟨pl.isList.typeIs,λa e=>?_⟩;cases e;obtain⟨o,n,e,c,hd,_⟩:=pl;exact⟨o,e,hd⟩
  .refine⟨⟨o,I.jO p o hk,hc⟩,λa e=>?_⟩;cases e;exact⟨o,I.jO _ o hk,hd⟩
  .have z:∃o,s.heap.get? p=some o/\o.ExactDict:=by
    rcases hk with⟨kvs,hk⟩|⟨kvs,hk⟩
    .obtain⟨_,_,_,_,o,_,_,e,ex,_⟩:=I.hok p _ hk;exact⟨o,e,ex⟩
    .obtain⟨_,_,_,_,o,_,_,e,ex,_⟩:=I.hok p _ hk;exact⟨o,e,ex⟩
   obtain⟨o,e,ex⟩:=z;refine⟨⟨o,e,ex.1⟩,λa e2=>?_⟩;cases e2;exact⟨o,e,ex.2.1⟩
  .obtain⟨o,_,_,_,e,ex,_⟩:=I.hok p _ hk;refine⟨⟨o,e,ex.1⟩,λa e2=>?_⟩;cases e2;exact⟨o,e,ex.2.1⟩
 |_=>exact False.elim ty
def UO(K:W.Frag)(T:String)(r:V->List V->Hp->VK->Prop)(to:TE):TE:=λσ H Q=>to σ H λx H1=>LN K T x H1/\r x [] H1 Q
def RL(K:W.Frag)(T:String)(r:V->List V->Hp->VK->Prop)(to:TE)(t:TA):TE:=λσ H Q=>to σ H λx H1=>LN K T x H1/\t σ H1 λxs H2=>r x xs H2 Q
variable {o e:Expr} {es:List Expr} {to:TE} {t:TA} {name:Str} {apos cpos:Pos} {T id:String} {r:V->List V->Hp->VK->Prop}
def afo(pa:PlainAttrs T)(slot:Slot T name id)(hty:typeOf (.builtin id)=pure (.type "method_descriptor"))(hm:MtR X id r)(ho:PE X o to)
  (hbase:attributeBase o name X.env (eval o X.env)=eval o X.env:=by rfl) (hline:(apos.endLine==cpos.line)=true:=by rfl):PE X (.Call (.Attribute o name apos) [] [] cpos) (UO X.K T r to):=by
 intro pins s σ H Q I h;refine wpAny_Call_method0_late hbase hline (bf (ho pins s σ H _ I h) λv s1 ⟨x,H1,I1,r1,ty,q1⟩=>?_);obtain⟨h1,h2⟩:=ad6 I1 r1 ty;exact⟨T,id,pa,slot,hty,h1,h2,Calls.callWith_builtin rfl (PySem.evalArgs_none (hm pins s1 σ H1 x [] v [] Q I1 r1 .nil q1))⟩
def VZ(pa:PlainAttrs T)(slot:Slot T name id)(hty:typeOf (.builtin id)=pure (.type "method_descriptor"))(hm:MtR X id r)(ho:PE X o to)(ha:PA X (e::es) t)
  (hbase:attributeBase o name X.env (eval o X.env)=eval o X.env:=by rfl)
  (hfew:((backTo cpos (starEach (e::es) X.env)).all (λx=>!x.1)&&(backToKw cpos (keywordEach [] X.env)).all (λx=>x.1.isSome)
   && decide ((e::es).length+([]:List Keyword).length+(if([]:List Keyword).isEmpty then 0 else 1)<30))=true:=by rfl)
  (hline:(apos.endLine==cpos.line)=true:=by rfl) (hs:starEach (e::es) X.env=(false,eval e X.env)::starEach es X.env:=by rfl) (hplain:(backTo cpos (starEach es X.env)).any (·.1)=false:=by rfl):
  PE X (.Call (.Attribute o name apos) (e::es) [] cpos) (RL X.K T r to t):=by
 intro pins s σ H Q I h;refine wpAny_Call_method_late hbase hfew hline rfl (bf (ho pins s σ H _ I h) λv s1 ⟨x,H1,I1,r1,ty,q1⟩=>?_);obtain⟨h1,h2⟩:=ad6 I1 r1 ty;refine⟨T,id,pa,slot,hty,h1,h2,?_⟩;have hA:=ha cpos pins s1 σ H1 _ I1 q1;rw[hs]at hA⊢;refine Calls.callWith_builtin (by show(false||(backTo cpos (starEach es X.env)).any (·.1))=false;rw[hplain]<;>rfl) (Calls.evalArgs_plain ?_);exact bf hA λus s2 ⟨vs,H2,I2,r2,q2⟩=>hm pins s2 σ H2 x vs v us Q I2 r1 r2 q2
end
def MZ(X:Cx)(id:String)(r:V->List V->Hp->VK->Prop):Prop:=
 ∀(pins:List (Addr×Obj)) (s:Shared) (σ:St) (H:Hp) (x:V) (xs:List V) (v:Value) (us:List Value) (Q:VK),Inv X pins σ H s->RelV x v->Vals xs us->r x xs H Q->
  wpAny (model X.prog X.w) X.A (call (.builtin id) (v::us)) (EP X pins σ Q) X.xe s
def Vals.one{x:V}{us:List Value}(h:Vals [x] us):∃u,us=[u]/\RelV x u:=by
 cases h with
 |cons r h=>cases h;exact⟨_,rfl,r⟩
def Vals.two{x y:V}{us:List Value}(h:Vals [x,y] us):∃u v,us=[u,v]/\RelV x u/\RelV y v:=by
 cases h with
 |cons r h=>
  obtain⟨v,rfl,q⟩:=Vals.one h;exact⟨_,_,rfl,r,q⟩
def Vals.zero:∀{us:List Value},Vals [] us->us=[]
 |_,.nil=>rfl
theorem Vals.dropLast{xs:List V}{us:List Value}(h:Vals xs us):Vals xs.dropLast us.dropLast:=by
 induction h with
 |nil=>exact .nil
 |cons r t ih=>
  cases t with
  |nil=>exact .nil
  |cons q t'=>exact .cons r ih
theorem Vals.reverse{xs:List V}{us:List Value}(h:Vals xs us):Vals xs.reverse us.reverse:=by
 induction h with
 |nil=>exact .nil
 |cons r t ih=>rw[List.reverse_cons,List.reverse_cons];exact Vals.append ih (.cons r .nil)
theorem Vals.rep{xs:List V}{us:List Value}(h:Vals xs us):∀k:Nat,Vals (List.replicate k xs).flatten (List.replicate k us).flatten
 |0=> .nil
 |k+1=>by
  rw[Dg,Dg,HN,HN];exact Vals.append h (Vals.rep h k)
def atb{α:Type}(l:List α):l.eraseIdx (l.length-1)=l.dropLast:=by
 induction l with
 |nil=>rfl
 |cons a r ih=>
  cases r with
  |nil=>rfl
  |cons b r=>
   have e:(a::b::r).length-1=((b::r).length-1)+1:=by
    have h1:(a::b::r).length=r.length+2:=rfl;have h2:(b::r).length=r.length+1:=rfl;omega
   rw[e,List.eraseIdx_cons_succ,ih];all_goals rfl
theorem foldl_rep(its:List Value):∀(k:Nat) (acc:List Value),
  List.foldl (λx1 x2=>x1++x2) acc.toArray (List.replicate k its.toArray)=(acc++(List.replicate k its).flatten).toArray
 |0,acc=>by simp
 |k+1,acc=>by
  have e:acc.toArray++its.toArray=(acc++its).toArray:=by simp
  have e2:(acc++its)++(List.replicate k its).flatten=acc++(List.replicate (k+1) its).flatten:=by
   rw[Dg,HN,Gw]
  rw[<-e2,<-foldl_rep its k (acc++its),<-e,Dg,List.foldl_cons]
section
variable {X:Cx} {pins:List (Addr×Obj)} {σ:St} {H:Hp} {s:Shared} {l b:Addr} {xs ys zs:List V}
def Inv.Nt{its its':List Value}{n:Nat}{f:Array Value->Array Value}{t':Nat}(I:Inv X pins σ H s)(hH:H l=some (.lst xs))
  (e:s.heap.get? l=some { cls:= .type "list",data:= .seq its.toArray n }) (hf:f its.toArray=its'.toArray) (hv:Vals ys its') (hz:ys.length<=sizeLine):
  Inv X pins σ (upd H l (.lst ys)) { s with heap:=s.heap.update l (Obj.mapSeq f),toks:=t' }:=by
 have q:=PySem.IsL.update e f;rw[hf]at q;refine I.write (x:=l) (e:=l) (by rw[hH];exact trivial) (.inl rfl) (λb' u hb hu=>(Heap.get?_update_other s.heap (Obj.mapSeq f) (eG hb)).trans hu) ⟨_,q⟩ ?_;exact⟨hz,its',_,hv,q⟩
def Inv.QL{its:List Value}{t':Nat}(I:Inv X pins σ H s)(hv:Vals ys its)(hz:ys.length<=sizeLine):
  Inv X pins σ (upd H s.heap.objs.size (.lst ys)) { s with heap:=s.heap.push { cls:= .type "list",data:= .seq its.toArray },toks:=t' }:=
 I.laid (λ_ _ q=>Heap.get?_push_of_some _ q) (aN _) ⟨hz,its,0,hv,Heap.get?_push_size _ rfl⟩
theorem Inv.fresh(I:Inv X pins σ H s):H s.heap.objs.size=none:=I.hok.fresh (aN _)
def Inv.uN(I:Inv X pins σ H s)(hH:H l=some (.lst xs)):xs.length<=sizeLine/\∃(its:List Value) (n:Nat),Vals xs its/\xs.length=its.length/\s.heap.get? l=some { cls:= .type "list",data:= .seq its.toArray n }:=by
 obtain⟨z,its,n,r,e⟩:=I.hok l _ hH;exact⟨z,its,n,r,r.length,e⟩
def ael{n:Nat}(h:n<=sizeLine):Builtin.List.listTooLong n=false:=by
 unfold Builtin.List.listTooLong;exact decide_eq_false (by omega)
end
section
variable {X:Cx}
inductive arz(x:V)(vs:List V)(H:Hp)(Q:VK):Prop|mk (l:Addr) (xs:List V) (y:V) (hx:x = .ref l) (hv:vs=[y]) (hl:H l=some (.lst xs)) (hz:xs.length<sizeLine) (q:Q .non (upd H l (.lst (xs++[y]))))
def Vt:V->List V->Hp->VK->Prop:=λx vs H Q=>arz x vs H Q
def Wu:MZ X "list.append" Vt:=by
 intro pins s σ H x vs v us Q I rx rv h;obtain⟨l,xs,y,rfl,rfl,hH,hz,q⟩:=h;cases rx;obtain⟨u,rfl,ru⟩:=rv.one;obtain⟨z,its,n,r,hl,e⟩:=I.uN hH;refine call_meets F.slot_list_append ⟨_,e,rfl⟩ F.entry_list_append (F.args_list_append_2 _ _) (PySem.list_append l its.toArray n u (by rw[fG];omega)) ⟨e,?_⟩;refine⟨.non,_,I.Nt (its':=its++[u]) hH e (by simp) (r.append (.cons ru .nil)) ?_,rfl,q⟩;rw[fJ,Mx];omega
def ac9:V->List V->Hp->VK->Prop:=λx vs H Q=>∃l b xs zs,x = .ref l/\vs=[.ref b]/\H l=some (.lst xs)/\H b=some (.lst zs)/\xs.length+zs.length<=sizeLine/\Q .non (upd H l (.lst (xs++zs)))
def agp:MZ X "list.extend" ac9:=by
 intro pins s σ H x vs v us Q I rx rv h;obtain⟨l,b,xs,zs,rfl,rfl,hH,hB,hz,q⟩:=h;cases rx;obtain⟨u,rfl,ru⟩:=rv.one;cases ru;obtain⟨z,its,n,r,hl,e⟩:=I.uN hH;obtain⟨z2,its2,n2,r2,hl2,e2⟩:=I.uN hB;have hsz:its.toArray.size+its2.toArray.size<=sizeLine:=by rw[fG,fG];omega
 have Mg:¬(!its.toArray.isEmpty&&Builtin.List.listTooLong (its.toArray.size+its2.toArray.size))=true:=by
  rw[ael hsz,Bool.and_false];exact fP
 refine call_meets F.slot_list_extend ⟨_,e,rfl⟩ F.entry_list_extend (F.args_list_extend_2 _ _)
  (AutoSeq1.list_extend_list_list_0 l its.toArray n b its2.toArray n2 Mg (by rw[fG];omega) (by omega)) ⟨e,e2,?_⟩
 refine⟨.non,_,I.Nt (its':=its++its2) hH e (by simp) (r.append r2) ?_,rfl,q⟩;rw[fJ];omega
def abG:V->List V->Hp->VK->Prop:=λx vs H Q=>∃l xs y,x = .ref l/\vs=[]/\H l=some (.lst xs)/\xs[xs.length-1]?=some y/\Q y (upd H l (.lst xs.dropLast))
def aso:MZ X "list.pop" abG:=by
 intro pins s σ H x vs v us Q I rx rv h;obtain⟨l,xs,y,rfl,rfl,hH,hy,q⟩:=h;cases rx;have hus:=rv.zero;subst hus;obtain⟨z,its,n,r,hl,e⟩:=I.uN hH;obtain⟨u,hu,ru⟩:=r.get hy;have hy':its.toArray[its.toArray.size-1]?=some u:=by
  show its.toArray[its.length-1]?=some u;rw[<-WX,<-hl];exact hu
 refine call_meets F.slot_list_pop ⟨_,e,rfl⟩ F.entry_list_pop (F.args_list_pop_1 _) (MeetsSeq.list_pop_last l its.toArray n u hy' (by rw[fG];omega)) ⟨e,?_⟩;refine⟨y,_,I.Nt (its':=its.dropLast) hH e ?_ r.dropLast ?_,ru,q⟩
 .show its.toArray.eraseIdxIfInBounds (its.toArray.size-1)=its.dropLast.toArray;rw[fG,List.eraseIdxIfInBounds_toArray,atb]
 .rw[GV];omega
def ape:R2:=λx y H Q=>∃l b xs zs,x = .ref l/\y = .ref b/\H l=some (.lst xs)/\H b=some (.lst zs)/\xs.length+zs.length<=sizeLine/\∀p,H p=none->Q (.ref p) (upd H p (.lst (xs++zs)))
def alg:cV X (binaryOp .Add) ape:=by
 intro pins s σ H x y v u Q I rx ry h;obtain⟨l,b,xs,zs,rfl,rfl,hH,hB,hz,q⟩:=h;cases rx;cases ry;obtain⟨z,its,n,r,hl,e⟩:=I.uN hH;obtain⟨z2,its2,n2,r2,hl2,e2⟩:=I.uN hB;refine PySem.P.add_list e e2 ?_ (by rw[fG,fG];omega);have ea:its.toArray++its2.toArray=(its++its2).toArray:=by simp
 rw[ea];exact⟨.ref _,_,I.QL (t':=s.toks) (r.append r2) (by rw[fJ];omega),rfl,q _ I.fresh⟩
def apj:R2:=λx y H Q=>∃l k xs,x = .ref l/\y = .int k/\H l=some (.lst xs)/\-(2^63)<=k/\k<2^63/\xs.length*k.toNat<=sizeLine/\
 ∀p,H p=none->Q (.ref p) (upd H p (.lst (List.replicate k.toNat xs).flatten))
def len_rep{α:Type}(xs:List α)(k:Nat):(List.replicate k xs).flatten.length=k*xs.length:=by
 induction k with
 |zero=>simp
 |succ k ih=>rw[Dg,HN,fJ,ih,pW,MP]
def amK:cV X (binaryOp .Mult) apj:=by
 intro pins s σ H x y v u Q I rx ry h;obtain⟨l,k,xs,rfl,rfl,hH,h1,h2,hz,q⟩:=h;cases rx;obtain⟨t,rfl⟩:=ry;obtain⟨z,its,n,r,hl,e⟩:=I.uN hH;have hlen:its.toArray.size*k.toNat<=sizeLine:=by rw[fG,<-hl];exact hz
 have hcap:¬its.toArray.size*k.toNat>(2^63-1)/8:=by
  have:(sizeLine:Nat)<=(2^63-1)/8:=by decide
  omega
 have hfit:¬(!Builtin.List.listFitsIndex k)=true:=by
  rw[fitsIndex_both h1 h2];exact fP
 have Mg:¬Builtin.List.listTooLong (its.toArray.size*k.toNat)=true:=by
  rw[ael hlen];exact fP
 have hnew:List.foldl (λx1 x2=>x1++x2) #[] (List.replicate (if its.toArray.isEmpty=true then 0 else k.toNat) its.toArray)=(List.replicate k.toNat its).flatten.toArray:=by
  have f0:∀m:Nat,List.foldl (λx1 x2=>x1++x2) #[] (List.replicate m its.toArray)=(List.replicate m its).flatten.toArray:=λm=>by
   have:=foldl_rep its m [];rw[List.nil_append]at this;exact this
  rw[f0];cases its with
  |nil=>simp
  |cons a r'=>rw[if_neg (by simp)]
 refine wpAny_binaryOp_repeat_ref (T:= "list") (U:= "int") (by decide) ⟨_,e,rfl⟩ (λs'=>typeIs_int s' k t) noFill_list_mul F.fills_int_mul F.slot_int_rmul repeat_list F.slot_int_index.lookup
  (call_meets F.slot_int_rmul (typeIs_int s k t) F.entry_int_rmul (F.args_int_rmul_2 _ _) (int___rmul___int_list k t l its.toArray n)
   ⟨e,rfl,⟨_,e,rfl⟩,call_meets F.slot_list_mul ⟨_,e,rfl⟩ F.entry_list_mul (F.args_list_mul_2 _ _) (AutoListH.list___mul___list_int_3 l its.toArray n k t hfit hcap Mg) ⟨e,?_⟩⟩)
 rw[hnew];exact⟨.ref _,_,I.QL (t':=s.toks) (r.rep k.toNat) (by rw[len_rep,wI];exact hz),rfl,q _ I.fresh⟩
end
section
variable {prog:Program} {w:World} {A:Around} {E:Value->Shared->Prop} {s:Shared}
end
section
variable {X:Cx}
end
section
variable {κ:Type} [DecidableEq κ]
def sJ(kvs:List (κ×V))(k:κ):Option V:=(kvs.find? λkv=>decide (kv.1=k)).map (·.2)
def arn{p:κ×V}{r:List (κ×V)}{k:κ}(e:p.1=k):sJ (p::r) k=some p.2:=by simp[sJ,HW,e]
def alK{p:κ×V}{r:List (κ×V)}{k:κ}(e:¬p.1=k):sJ (p::r) k=sJ r k:=by simp[sJ,HW,e]
def KV.val{kvs:List (κ×V)}{vs:List (κ×Value)}(r:KV kvs vs)(k:κ):rO (sJ kvs k) (valueAt vs k):=by
 unfold KV at r;induction r with
 |nil=>exact True.intro
 |@cons p q ps qs h t ih=>
  obtain⟨h1,h2⟩:=h;by_cases e:p.1=k
  .have e':q.1=k:=h1.symm.trans e;have b:valueAt (q::qs) k=some q.2:=by simp[valueAt,HW,e']
   rw[arn e,b];exact h2
  .have e':¬q.1=k:=λz=>e (h1.trans z);have b:valueAt (q::qs) k=valueAt qs k:=by simp[valueAt,HW,e']
   rw[alK e,b];exact ih
end
section
variable {P:Program} {w:World} {H:Hp} {h:Heap} {a:Addr}
end
section
variable {X:Cx} {pins:List (Addr×Obj)} {σ:St} {H:Hp} {s:Shared} {a:Addr} {y v:V} {u r:Value} {o:Option V} {A:Around} {E:Value->Shared->Prop}
end
section
variable {X:Cx} {pins:List (Addr×Obj)} {σ:St} {H:Hp} {s:Shared} {a:Addr} {kvs:List (Key×V)} {k:Key} {u:Value} {A:Around} {E:Value->Shared->Prop}
end
section
variable {X:Cx} {o i e value:Expr} {pos pos' tpos:Pos} {td ty tv:TE}
end
section
variable {X:Cx} {pos:Pos}
end
section
variable {X:Cx} {pins:List (Addr×Obj)} {σ:St} {H:Hp} {s:Shared} {a:Addr} {y d:V} {u r:Value} {o:Option V} {A:Around} {E:Value->Shared->Prop}
end
section
variable {X:Cx} {o e f:Expr} {apos cpos:Pos} {td ty tx:TE}
end
section
variable {X:Cx} {pins:List (Addr×Obj)} {σ:St} {H:Hp} {s:Shared} {a:Addr} {kvs:List (Key×V)} {A:Around} {E:Value->Shared->Prop}
end
section
variable {X:Cx} {pins:List (Addr×Obj)} {σ:St} {H:Hp} {s:Shared} {a:Addr} {y:V} {u:Value} {A:Around} {E:Value->Shared->Prop}
end
end L2
namespace Wx
open PySem PySem.W PySem.Calls PyProof.Rows
def arL{P:Params}{h:Heap}:∀(ns:List Int) (vs:List Value),WellAll P h vs (ns.map WData.int)->IntsAre vs ns:=by
 intro ns;induction ns with
 |nil=>
  intro vs w;rw[List.map_nil]at w;cases w;exact .nil
 |cons n ns ih=>
  intro vs w;rw[dz]at w;cases w with
  |cons a b=>
   cases a;exact .cons _ _ (ih _ b)
def ajM{l:OpenLaw}{n:Nat}(hn:l.most=some n){P:Params}{h:Heap}{args:List WData}{vals:List Value}
  (hpre:l.row.toRowW.claim.pre args=true) (hwl:WellAll P h vals args):
  ∃a vs ns,vals=[Value.ref a]/\args=[WData.list (ns.map WData.int)]/\h.get? a=some { cls:= .type "list",data:= .seq vs.toArray }/\IntsAre vs ns/\ns.length<=n:=by
 have hsh:WShape.hasAll [] args [.list .int]=true:=(pre_splitW hpre).1;have hc:l.pre.holds [] { args:=args }=true:=(pre_splitW hpre).2;obtain⟨d,r,rfl,h1,h2⟩:=hasAllW_cons hsh;obtain rfl:=hasAllW_nil h2;obtain⟨xs,rfl,h3⟩:=hasW_list h1;obtain⟨ns,rfl⟩:=items_int h3;have hlen:ns.length<=n:=by
  unfold OpenLaw.pre at hc;have h4:(WTm.not (.lt (.lit (.int (n:Int))) (.len (.arg 0)))).holds [] { args:=[.list (ns.map .int)] }=true:=by
   have h4:=(holds_andW hc).1;rw[hn]at h4;exact h4
  have h5:=condW_of h4 (w_not (w_lt w_lit (w_len_list (w_arg rfl))));rw[aG]at h5;refine Nat.le_of_not_lt λq=>?_;have q':(n:Int)<((ns.length:Nat):Int):=by omega
  first
   |(rw[decide_eq_true q']at h5;exact absurd h5 (by decide))
   |(simp at h5;omega)
 cases hwl with
 |cons w1 w2=>
  cases w2;cases w1 with
  |list ho hall=>exact⟨_,_,ns,rfl,rfl,ho,arL ns _ hall,hlen⟩
def ahc(l:OpenLaw)(args:List WData):l.row.toRowW.claim.post args (.bool true) args=true:=
 postW_of (r:=l.row.toRowW) (X:=(true==true))
  (show WShape.has [] (.bool true) .bool=true by first|rfl|decide|simp[WShape.has,WShape.arms,WShape.armsAll])
  (show(WTm.eq .res (.lit (.bool true))).value [] { args:=args,res:=some (.bool true),after:=args }=some (.bool (true==true))from w_eq_bool (w_res rfl) w_lit) rfl
def ajT{l:OpenLaw}{n:Nat}{q:Program}{loose:List Str}{XP:(Str->Option Value)->Heap->Prop}{YP:World->Heap->Prop}{d:DefRec}
  (hn:l.most=some n) (hdf:d.params.defaults=[])
  (call:∀(w:World) (s₀ s₁:Shared) (mg mb:Str->Option Value) (fa:Addr) (o:Obj) (pm cd doc:Value) (a:Addr) (vs:List Value) (ns:List Int),
   Ground q loose [] XP w s₀ mg mb s₁.heap->YP w s₁.heap->
   s₁.heap.get? fa=some o->o.data = .func (docDef d.name d.params d.body d.scope pm cd doc)->s₁.heap.CodeRec cd d.name->mg d.name=some (.ref fa)->
   s₁.heap.get? a=some { cls:= .type "list",data:= .seq vs.toArray }->IntsAre vs ns->ns.length<=n->s₁.gens=#[]->
   codeAny (model l.prog w) callerA (.call (.ref fa) ⟨[.ref a],[]⟩) (λr s'=>r = .ok (.ret (.bool true))/\OldK s₁.heap s'.heap/\s'.os=s₁.os/\AllBare s'.gens) s₁):
  WalkO q loose XP YP l.row.toRowW d [] (λf vs=>PySem.call f vs):=by
 intro w s₀ s₁ mg mb G Y fa o pm cd doc dV kV ho hd hcd hD hmg hg args vals as hpre hlay hrd hwl hlo;obtain rfl:dV = .none:=Dflts.none hD hdf;obtain rfl:kV = .none:=Dflts.noKw hD;obtain⟨a,vs,ns,rfl,rfl,hobj,hints,hlen⟩:=ajM hn hpre hwl;refine enter_call (codeAny_mono (call w s₀ s₁ mg mb fa o pm cd doc a vs ns G Y ho (fd_plain hd) hcd hmg hobj hints hlen hg) λr s' hq=>?_);obtain⟨rfl,h2,h3,h4⟩:=hq;exact⟨.inl ⟨.bool true,.bool true,[],rfl,λ_=>rfl,.bool true,ahc l _,λ_=>⟨List.Pairwise.nil,λ_ hm=>(nomatch hm)⟩⟩,h2,h3,h4⟩
section
variable {prog:Program} {w:World} {A:Around} {E:Value->Shared->Prop} {s:Shared} {K:Frag}
end
end Wx
namespace L2
open PySem PySem.Spec PyProof.Rows
def anu{vs:List Value}{ns:List Int}(h:IntsAre vs ns):Vals (ns.map V.int) vs:=by
 induction h with
 |nil=>exact .nil
 |cons n t h ih=>exact .cons ⟨t,rfl⟩ ih
def Only(H:Hp):Prop:=∀b,H b=none∨∃o xs,H b=some (.jx o (.lst xs))
def asG{P:Program}{w:World}{K:W.Frag}{mg mb:Str->Option Value}{CX:rM}{k:Nat}{fa a:Addr}{fd:FuncData}{x:Str}{sp:Sp}{s₁:Shared}{vs:List Value}{ns:List Int}
  (KX:K.In s₁.heap) (hns:s₁.heap.Ns mainGlobals mg) (hb:s₁.heap.Ns builtinsNs mb) (hbb:∀x:Str,x≠ "__name__" -> mb x=bootBuiltins x) (hlim:s₁.heap.NoLimit) (hdig:s₁.heap.NoDigits) (hg:s₁.gens=#[])
  (ha:s₁.heap.get? a=some { cls:= .type "list",data:= .seq vs.toArray }) (hi:IntsAre vs ns) (hl:ns.length<=sizeLine) (hr:eZ k callerA)
  (F:∀base:Heap,K.In base->base.Ns mainGlobals mg->qJ P w K mg base CX k fa fd [x] sp) (hbind:∀(s:Shared) (u:Value),BindsTo s fd ⟨[u],[]⟩ [(x,u)])
  (hsp:∀H:Hp,Only H->aq K H a (ns.map V.int)->sp [.ref a] H (λv _=>v = .bl true) λ_ _ _=>False)
  (Ke:∀H e s',CX [] H s₁ (λ_ _ _=>False) e s'->False):
  codeAny (model P w) callerA (.call (.ref fa) ⟨[.ref a],[]⟩) (λr s'=>r = .ok (.ret (.bool true))/\OldK s₁.heap s'.heap/\s'.os=s₁.os/\AllBare s'.gens) s₁:=by
 have rv:=anu hi;have lenV:=hi.length;have core:∀H:Hp,Only H->aq K H a (ns.map V.int)->gk P w H s₁.heap->(∀b,H b≠none->b=a)->(H a≠none->K.lookup a=none)->
   codeAny (model P w) callerA (.call (.ref fa) ⟨[.ref a],[]⟩) (λr s'=>r = .ok (.ret (.bool true))/\OldK s₁.heap s'.heap/\s'.os=s₁.os/\AllBare s'.gens) s₁:=by
  intro H hO hS hok hA hK;have ZM:∀{b:Addr} {o:Obj},s₁.heap.get? b=some o->H b=none->(sZ s₁.heap H).get? b=some o:=λe n=>afq e n;have CG:∀{b:Addr} {o:Obj} {es:Array DictEntry} {ep:Nat},s₁.heap.get? b=some o->o.data = .dict es ep->H b=none:=λ{b o es ep} e d=>by
   cases q:H b with
   |none=>rfl
   |some u=>
    have e':b=a:=hA b (by rw[q];simp);subst e';rw[ha]at e;cases e;have d':Data.seq vs.toArray _=Data.dict es ep:=d;cases d'
  have Cv:∀{b:Addr} {m:Str->Option Value},s₁.heap.Ns b m->(sZ s₁.heap H).Ns b m:=λ{b m} ⟨o,es,ep,e,d,r⟩=>⟨o,es,ep,ZM e (CG e d),d,r⟩;have U6:K.In (sZ s₁.heap H):=λb o e=>ZM (KX b o e) (by
   cases q:H b with
   |none=>rfl
   |some u=>
    have e':b=a:=hA b (by rw[q];simp);subst e';rw[hK (by rw[q];simp)]at e;cases e)
  have hM:Mod K mg (sZ s₁.heap H):=⟨U6,Cv hns,⟨mb,Cv hb,hbb⟩,let⟨mc,h1,h2⟩:=hlim;⟨mc,Cv h1,h2⟩,let⟨mc,h1,h2⟩:=hdig;⟨mc,Cv h1,h2⟩⟩;have e0:Jr P w K mg (sZ s₁.heap H) callerA [] s₁ H:=⟨rfl,hM,λb o e=>ak3 e,KP (afV _ _),trivial,λb hb=>absurd (show b∈([]:List Addr)from hb) (by simp),hok,.of_eq hg⟩;refine codeAny_mono ((F _ U6 (Cv hns)).run callerA [] s₁ H ⟨[.ref a],[]⟩ [.ref a] [.ref a] _ _ hr e0 (hbind s₁ (.ref a)) (.cons rfl .nil) (hsp H hO hS)) λr s' h=>?_;cases r with
  |error e=>exact(Ke H e s' h).elim
  |ok fl=>
   cases fl with
   |next=>exact False.elim h
   |brk=>exact False.elim h
   |cont=>exact False.elim h
   |ret u=>
    obtain⟨v,H',os,bare,un,hok',r',q⟩:=h;have q':v = .bl true:=q;subst q';obtain rfl:u=Value.bool true:=r';refine⟨rfl,OldK.of_keep λb o e=>?_,os,bare⟩;cases q:H b with
    |none=>exact un.keep b o e q (by intro z;exact absurd (show b∈([]:List Addr)from z) (by simp)) (by simp)
    |some u=>
     rcases hO b with z|⟨ob,xs,z⟩
     .rw[q]at z;cases z
     .have z2:=un.mZ b ob _ z;obtain⟨e1,_⟩:=hok b _ z;obtain⟨e2,_⟩:=hok' b _ z2;rw[e]at e1;cases e1;exact e2
 cases hk:K.lookup a with
 |some o=>
  have e:=KX a o hk;rw[ha]at e;cases e;refine core (λ_=>none) (λ_=> .inl rfl) (.inr ⟨_,vs.toArray,_,hk,rfl,rfl,rfl,by rw[fG,lenV];exact hl,by simpa using rv⟩) (λb u z=>by have z':(none:Option HO)=some u:=z;cases z') (λb z=>absurd rfl z) λz=>absurd rfl z
 |none=>
  refine core (λb=>if b=a then some (.jx { cls:= .type "list",data:= .seq vs.toArray } (.lst (ns.map V.int)))else none) (λb=>?_) (.inl (.inr ⟨{ cls:= .type "list",data:= .seq vs.toArray },if_pos rfl⟩)) (λb u z=>?_) (λb z=>?_) λ_=>hk
  .by_cases hb:b=a
   .exact .inr ⟨_,_,if_pos hb⟩
   .exact .inl (if_neg hb)
  .by_cases hb:b=a
   .have z':=(if_pos hb).symm.trans z;cases z';subst hb;exact⟨ha,by rw[aG];exact hl,vs,_,rv,ha⟩
   .have z':=(if_neg hb).symm.trans z;cases z'
  .by_cases hb:b=a
   .exact hb
   .exact absurd (if_neg hb) z
def alR{l:W.OpenLaw}{n k:Nat}{q:Program}{loose:List Str}{XP:(Str->Option Value)->Heap->Prop}{YP:World->Heap->Prop}{d:DefRec}{K:Params->W.Frag}{CX:World->rM}{sp:World->Sp}{x:Str}
  (hn:l.most=some n) (hn2:n<=sizeLine) (hdf:d.params.defaults=[]) (hr:eZ k callerA)
  (hY:∀(w:World) (h:Heap),YP w h->(K w.params).In h)
  (F:∀(w:World) (mg:Str->Option Value) (fa:Addr) (h:Heap),(K w.params).In h->h.Ns mainGlobals mg->mg d.name=some (.ref fa)->
   ∃fd:FuncData,(∀(s:Shared) (u:Value),BindsTo s fd ⟨[u],[]⟩ [(x,u)])/\
    ∀base:Heap,(K w.params).In base->base.Ns mainGlobals mg->qJ l.prog w (K w.params) mg base (CX w) k fa fd [x] (sp w))
  (hsp:∀(w:World) (H:Hp) (a:Addr) (ns:List Int),ns.length<=n->Only H->aq (K w.params) H a (ns.map V.int)->sp w [.ref a] H (λv _=>v = .bl true) λ_ _ _=>False)
  (Ke:∀(w:World) (H:Hp) (s:Shared) (e:Value) (s':Shared),CX w [] H s (λ_ _ _=>False) e s'->False):
  W.WalkO q loose XP YP l.row.toRowW d [] (λf vs=>PySem.call f vs):=by
 refine Wx.ajT hn hdf λw s₀ s₁ mg mb fa o pm cd doc a vs ns G Y ho hd hcd hmg hobj hints hlen hg=>?_;have KX:=hY w _ Y;obtain⟨fd,hb,hF⟩:=F w mg fa _ KX G.T.g hmg;exact asG KX G.T.g G.T.b G.T.builtins G.T.nolimit G.T.nodigits hg hobj hints (iT hlen hn2) hr hF hb (λH hO hS=>hsp w H a ns hlen hO hS) λH e s'=>Ke w H s₁ e s'
def qe(s:Stmt):Arguments:=match s with
 |.FunctionDef _ a _ _ _ _ _ _ _ _=>a
 |_=>{ posonlyargs:=[],args:=[],vararg:=none,kwonlyargs:=[],kw_defaults:=[],kwarg:=none,defaults:=[] }
def lD(s:Stmt):List Stmt:=match s with
 |.FunctionDef _ _ b _ _ _ _ _ _ _=>b
 |_=>[]
def aW(s:Stmt):Scope:=match s with
 |.FunctionDef _ _ _ _ _ _ sc _ _ _=>sc
 |_=>{ kind:= .function,names:=[],isGenerator:=false,isCoroutine:=false }
abbrev E0:XK:=λ_ _ _=>False
structure sH(K:W.Frag)(x qual:Str)(st:Stmt)(f:Addr)(fd:FuncData):Prop where
 ex:∃(oc:Value) (od:Option Addr) (kV doc pm:Value) (an:Option Addr) (cdv ct:Value) (osl:Array (Option Value)),
  fd=W.fnOf x qual (qe st) (lD st) (aW st) .none kV doc pm an cdv ct/\K.lookup f=some ⟨oc,od,.func fd,osl⟩/\W.codeIn K cdv qual=true
 kp:W.keepIn K (.ref f)=true
section
variable {P:Program} {w:World} {K:W.Frag} {mg:Str->Option Value} {base:Heap}
def sH.binds{x qual:Str}{st:Stmt}{f:Addr}{fd:FuncData}{ps:List Str}(F:sH K x qual st f fd)
  (h:∀(kV doc pm:Value) (an:Option Addr) (cdv ct:Value) (us:List Value),us.length=ps.length->bindArgs (W.fnOf x qual (qe st) (lD st) (aW st) .none kV doc pm an cdv ct) ⟨us,[]⟩=pure (ps.zip us)):Binds K fd ps []:=by
 obtain⟨oc,od,kV,doc,pm,an,cdv,ct,osl,rfl,lk,hcd⟩:=F.ex;exact .all (h kV doc pm an cdv ct)
def ado{x qual:Str}{st:Stmt}{f:Addr}{oc:Value}{od an:Option Addr}{osl:Array (Option Value)}{kV doc pm cdv ct:Value}(l:K.lookup f=some ⟨oc,od,.func (W.fnOf x qual (qe st) (lD st) (aW st) .none kV doc pm an cdv ct),osl⟩)
  (c:W.codeIn K cdv qual=true) (k:W.keepIn K (.ref f)=true):sH K x qual st f (W.fnOf x qual (qe st) (lD st) (aW st) .none kV doc pm an cdv ct):=⟨⟨oc,od,kV,doc,pm,an,cdv,ct,osl,rfl,l,c⟩,k⟩
end
def eE{n:Nat}(h:n<=1000):n<sizeLine:=n8 h (by decide)
section
variable {X:Cx}
def pv(i:Nat){x:Str}{pos:Pos}(hN:X.N[i]?=some x:=by rfl)(hv:HJ X.env.scope x:=by first|exact Or.inl rfl|exact Or.inr (Or.inl rfl)|exact Or.inr (Or.inr rfl))(hd:(x==("__debug__" : Str))=false:=by decide)
  (hcd:(x==("__classdict__" : Str))=false:=by decide):PE X (.Name x pos) (adq i):=apI hN hv hd hcd
end
def d8{A B:Prop}(h:B):if false=true then A else B:=by
 rw[if_neg fP];exact h
def nq{A B:Prop}(h:A):if true=true then A else B:=by
 rw[if_pos rfl];exact h
def cG{c A B:Prop}[Decidable c](h1:c->A)(h2:¬c->B):if c then A else B:=by
 by_cases h:c
 .rw[if_pos h];exact h1 h
 .rw[if_neg h];exact h2 h
def QF{c A B:Prop}[Decidable c](hc:c)(h:B):if(!decide c)=true then A else B:=by
 rw[decide_eq_true hc];exact d8 h
def Same(H H':Hp):Prop:=∀b o,H b=some o->H' b=some o
def Same.refl(H:Hp):Same H H:=λ_ _ h=>h
def Same.trans{H H1 H2:Hp}(a:Same H H1)(b:Same H1 H2):Same H H2:=λc o h=>b c o (a c o h)
def Same.free{H H':Hp}(e:Same H H'){l:Addr}(h:H' l=Option.none):H l=Option.none:=by
 cases q:H l with
 |none=>rfl
 |some o=>
  rw[e l o q]at h;cases h
def Same.seq{K:W.Frag}{H H':Hp}{a:Addr}{xs:List V}(e:Same H H')(h:aq K H a xs):aq K H' a xs:=by
 rcases h with(h|⟨o,h⟩)|h
 .exact .inl (.inl (e _ _ h))
 .exact .inl (.inr ⟨o,e _ _ h⟩)
 .exact .inr h
section
variable {κ:Type} [DecidableEq κ]
end
def VP{us:List Value}(h:us.length=0):us=[]:=u9 h
def BF{us:List Value}{n:Nat}(h:us.length=n+1):∃a r,us=a::r/\r.length=n:=by
 cases us with
 |nil=>cases h
 |cons a r=>exact⟨a,r,rfl,Nat.succ.inj h⟩
def X3{us:List Value}(h:us.length=1):∃a,us=[a]:=by
 obtain⟨a,r,rfl,k⟩:=BF h;obtain rfl:=VP k;exact⟨a,rfl⟩
def UU{us:List Value}(h:us.length=2):∃a b,us=[a,b]:=by
 obtain⟨a,r,rfl,k⟩:=BF h;obtain⟨b,rfl⟩:=X3 k;exact⟨a,b,rfl⟩
def Zh{us:List Value}(h:us.length=3):∃a b c,us=[a,b,c]:=by
 obtain⟨a,r,rfl,k⟩:=BF h;obtain⟨b,c,rfl⟩:=UU k;exact⟨a,b,c,rfl⟩
def Wh{us:List Value}(h:us.length=4):∃a b c d,us=[a,b,c,d]:=by
 obtain⟨a,r,rfl,k⟩:=BF h;obtain⟨b,c,d,rfl⟩:=Zh k;exact⟨a,b,c,d,rfl⟩
def us5{us:List Value}(h:us.length=5):∃a b c d e,us=[a,b,c,d,e]:=by
 obtain⟨a,r,rfl,k⟩:=BF h;obtain⟨b,c,d,e,rfl⟩:=Wh k;exact⟨a,b,c,d,e,rfl⟩
structure qY(P:Program)(w:World)(outer:List Env)(H:Hp)(s:Shared)(E:XK)(e:Value)(s':Shared):Prop where
 ex:∃(ea C:Addr) (a0:Value) (B:Heap) (H':Hp),e = .ref ea/\s'.os=s.os/\AllBare s'.gens/\Heap.FlyingW B outer ea (.ref C) a0 s'.heap/\gk P w H' B/\Un (frs outer) [] H H' s.heap s'.heap/\
  (∀b o,s.heap.get? b=some o->b∈frs outer∨∃o',B.get? b=some o')/\E (.ref C) none H'
def Wq{P:Program}{w:World}{outer:List Env}{H:Hp}{s s':Shared}{e:Value}(h:qY P w outer H s E0 e s'):False:=by
 obtain⟨_,_,_,_,_,_,_,_,_,_,_,_,q⟩:=h.ex;exact q
def aeY{X:Cx}:Passes (qY X.prog X.w) X E0:=λ_ _ _ _ _ _ _ h=>(Wq h).elim
section
variable {X:Cx} {pins:List (Addr×Obj)} {σ:St} {H:Hp} {s:Shared}
def Inv.Um(I:Inv X pins σ H s){b:Addr}{o:Obj}(e:X.s₀.heap.get? b=some o)(hb:b∉X.fs):b∉frs X.stack:=λz=>by
 rcases cj.mp (I.IB b z)with q|q
 .exact absurd (jd (Heap.lt_size e) I.ok.above) (by rw[<-q];exact jK _)
 .exact hb q
def Jo(I:Inv X pins σ H s){b:Addr}{o:Obj}(e:s.heap.get? b=some o)(hb:b∉frs X.stack):(W.hideAll s.heap (frs X.stack)).get? b=some o:=W.hideAll_get _ e hb
def Inv.ap2(I:Inv X pins σ H s):gk X.prog X.w H (W.hideAll s.heap (frs X.stack)):=λb o e=>
 (I.hok b o e).stay (λc u hc q=>Jo I q λz=>by
  have n:=I.Ni c z;rcases hc with rfl|hc
  .rw[n]at e;cases e
  .rw[n]at hc;cases hc) (λ_ q=>q) λ_ _ q=>q
def Inv.adx(I:Inv X pins σ H s)(hex:X.ex=[]){H':Hp}{h':Heap}(keep:∀b o,s.heap.get? b=some o->H b=none->b∉frs X.stack->h'.get? b=some o)
  (slot:∀b o,s.heap.get? b=some o->H b=none->b∈X.fs->∃sl,h'.get? b=some { o with slots:=sl }) (free:∀b o,s.heap.get? b=some o->H b=none->H' b=none) (there:∀b o,s.heap.get? b=some o->∃o',h'.get? b=some o')
  (tups:∀b xs,H b=some (.tup xs)->H' b=some (.tup xs)) (mZ:∀b o u,H b=some (.jx o u)->H' b=some (.jx o u)) (oJ:∀b ps,H b=some (.sU ps)->∃more,H' b=some (.sU (ps++more))):
  Un (frs X.outer) [] X.H₀ H' X.s₀.heap h':=by
 have nx:∀b:Addr,b∉X.ex:=λb=>by rw[hex];simp
 refine⟨λb o e n hb _=>?_,λb o e n hb _=>?_,λb o e n _=>?_,λb o e _=>?_,λb xs e=>tups b xs (I.base.tups b xs e),λb o u e=>mZ b o u (I.base.mZ b o u e),λb ps e=>?_⟩
 .exact keep b o (I.base.keep b o e n hb (nx b)) (I.base.free b o e n (nx b)) (I.Um e hb)
 .obtain⟨sl,e1⟩:=I.base.slot b o e n hb (nx b);obtain⟨sl',e2⟩:=slot b _ e1 (I.base.free b o e n (nx b)) hb;exact⟨sl',e2⟩
 .obtain⟨o',e1⟩:=I.base.there b o e (nx b);exact free b o' e1 (I.base.free b o e n (nx b))
 .obtain⟨o',e1⟩:=I.base.there b o e (nx b);exact there b o' e1
 .obtain⟨m1,e1⟩:=I.base.oJ b ps e;obtain⟨m2,e2⟩:=oJ b _ e1;exact⟨m1++m2,by rw[e2,Array.append_assoc]⟩
end
abbrev gK(P:Program)(w:World)(K:W.Frag)(mg:Str->Option Value)(base:Heap)(N:List Str)(qual:Str)(scope:Scope)(f:Addr)(cdv:Value)(A:Around)(outer:List Env)(s:Shared)(H:Hp)(E:XK):Cx:=
 Am (qY P w) P w K mg base N qual scope f cdv A outer s H E
section
variable {P:Program} {w:World} {K:W.Frag} {mg:Str->Option Value} {base:Heap} {N:List Str} {qual:Str} {scope:Scope} {f:Addr} {cdv:Value} {A:Around} {outer:List Env} {s₀:Shared} {H₀:Hp} {E:XK}
def aqW{pins:List (Addr×Obj)}{σ:St}{H:Hp}{s:Shared}{h1:Heap}{e C:Addr}{vs:List Value}(I:Inv (gK P w K mg base N qual scope f cdv A outer s₀ H₀ E) pins σ H s)(hx:Heap.MadeExcOf s.heap h1 e (.ref C) vs)(q:E (.ref C) none H):
  (gK P w K mg base N qual scope f cdv A outer s₀ H₀ E).xe (.ref e) { s with heap:=h1 }:=by
 have hin:∀env∈envOfC qual scope s₀.heap.objs.size f cdv::outer,∀a,env.frame=some a->a∈frs (envOfC qual scope s₀.heap.objs.size f cdv::outer):=λenv he a ha=>Ks.mpr ⟨env,he,ha⟩;refine wpAny_leaves_madeW (base:=W.hideAll s.heap (frs (envOfC qual scope s₀.heap.objs.size f cdv::outer))) (h:=s.heap) (L:=s₀.heap.objs.size) I.ok.frames rfl (λb o q=>W.of_hideAll _ q) (W.funFrames_hide I.stack hin) hx λh' t x1 x2 x3 x4=>?_;have up:∀b o,s.heap.get? b=some o->b∈frs (envOfC qual scope s₀.heap.objs.size f cdv::outer)->∃sl,h'.get? b=some { o with slots:=sl }:=λb o e hb=>by
  obtain⟨_,o',ho',hd⟩:=I.stack.mem hb;rw[e]at ho';cases ho';exact x4 b o (hx.keeps b o e) hd
 refine⟨e,C,.ref t,_,H,rfl,I.os,I.bare,x1,I.ap2,I.adx rfl (λb o e _ hb=>x1.1 b o (Jo I e hb)) (λb o e _ hb=>up b o e (dg _ hb)) (λ_ _ _ n=>n) (λb o e=>?_) (λ_ _ z=>z) (λ_ _ _ z=>z) (λb ps z=>⟨#[],by rw[z];simp⟩),λb o e=>?_,q⟩
 .by_cases hb:b∈frs (envOfC qual scope s₀.heap.objs.size f cdv::outer)
  .obtain⟨sl,z⟩:=up b o e hb;exact⟨_,z⟩
  .exact⟨o,x1.1 b o (Jo I e hb)⟩
 .by_cases hb:b∈frs outer
  .exact .inl hb
  .obtain⟨o',e1⟩:=I.base.there b o e (by intro z;cases z);exact .inr ⟨o',Jo I e1 (I.Um e hb)⟩
def agk:Passes (qY P w) (gK P w K mg base N qual scope f cdv A outer s₀ H₀ E) E:=by
 intro pins σ H s e s' I h;obtain⟨ea,C,a0,B,H',rfl,os,bare,fl,hok,un,old,q⟩:=h.ex;refine wpAny_leaves_onW (L:=s₀.heap.objs.size) I.ok.frames rfl fl λh' x1 x2=>?_;have inB:∀b o,s.heap.get? b=some o->b∉frs (envOfC qual scope s₀.heap.objs.size f cdv::outer)->∃o',B.get? b=some o'/\s'.heap.get? b=some o':=λb o e hb=>by
  rcases old b o e with z|⟨o',z⟩
  .exact absurd z hb
  .exact⟨o',z,fl.1 b o' z⟩
 have up:∀b o,s'.heap.get? b=some o->b∈frs (envOfC qual scope s₀.heap.objs.size f cdv::outer)->∃sl,h'.get? b=some { o with slots:=sl }:=λb o e hb=>by
  obtain⟨_,o',ho',hd⟩:=fl.2.2.1.mem hb;rw[e]at ho';cases ho';exact x2 b o e hd
 refine⟨ea,C,a0,B,H',rfl,os.trans I.os,bare,x1,hok,I.adx rfl (λb o e n hb=>?_) (λb o e n hb=>?_) (λb o e n=>un.free b o e n (by simp)) (λb o e=>?_) un.tups un.mZ un.oJ,λb o e=>?_,q⟩
 .obtain⟨o',e1,e2⟩:=inB b o e hb;have e3:=un.keep b o e n hb (by simp);rw[e2]at e3;cases e3;exact x1.1 b _ e1
 .obtain⟨sl,e1⟩:=un.slot b o e n (dg _ hb) (by simp);obtain⟨sl',e2⟩:=up b _ e1 (dg _ hb);exact⟨sl',e2⟩
 .by_cases hb:b∈frs (envOfC qual scope s₀.heap.objs.size f cdv::outer)
  .obtain⟨o',e1⟩:=un.there b o e (by simp);obtain⟨sl,e2⟩:=up b o' e1 hb;exact⟨_,e2⟩
  .obtain⟨o',e1,_⟩:=inB b o e hb;exact⟨o',x1.1 b o' e1⟩
 .by_cases hb:b∈frs outer
  .exact .inl hb
  .obtain⟨o',e1⟩:=I.base.there b o e (by intro z;cases z);obtain⟨o2,e2,_⟩:=inB b o' e1 (I.Um e hb);exact .inr ⟨o2,e2⟩
end
def ajt(C:Addr)(E:XK)(t:TA):TS:=λ_ σ H=>t σ H λvs H1=>vs.length<=sizeLine/\E (.ref C) none H1
structure Gx(mg:Str->Option Value)(base:Heap)(x:Str)(C:Addr):Prop where
 ex:∃bm newId,OwnCls x C bm newId mg base/\∃(Bn inN:String) (bmN:List Value) (B nid initId:String),ExcBaseFacts Bn newId inN bmN/\bm.contains (.type Bn)=true/\ExcBaseFacts B nid initId bm
def XR{P:Program}{w:World}{K:W.Frag}{mg:Str->Option Value}{base:Heap}{N:List Str}{qual:Str}{scope:Scope}{f:Addr}{cdv:Value}{A:Around}{outer:List Env}{s₀:Shared}{H₀:Hp}{E:XK}
  {x:Str} {C:Addr} {np cpos pos:Pos} {e:Expr} {es:List Expr} {t:TA} (O:Gx mg base x C) (hg:Gl (gK P w K mg base N qual scope f cdv A outer s₀ H₀ E) x) (ha:PA (gK P w K mg base N qual scope f cdv A outer s₀ H₀ E) (e::es) t)
  (hdb:(x==("__debug__" : Str))=false:=by decide)
  (he:starEach (e::es) (gK P w K mg base N qual scope f cdv A outer s₀ H₀ E).env=(false,eval e (gK P w K mg base N qual scope f cdv A outer s₀ H₀ E).env)::starEach es (gK P w K mg base N qual scope f cdv A outer s₀ H₀ E).env:=by rfl)
  (hpl:(backTo cpos (starEach es (gK P w K mg base N qual scope f cdv A outer s₀ H₀ E).env)).any (·.1)=false:=by rfl):
  PS (gK P w K mg base N qual scope f cdv A outer s₀ H₀ E) (.Raise (some (.Call (.Name x np) (e::es) [] cpos)) none pos) (ajt C E t):=by
 intro pins s σ H D I h;obtain⟨bm,newId,O,Bn,inN,bmN,B,nid,initId,Fn,hBn,FB⟩:=O.ex;obtain⟨tl,Nn,nm,q,bs,hdct,sn,sub,ab,col,dd,k0,k1,k2,k3,k5,mN,hC,hN,hni,T⟩:=O.obj;refine wpAny_Raise_call_subU (C:=C) (nm:=nm) (q:=q) (N:=Nn) (bs:=bs) (bm:=tl) (hdct:=hdct) (sn:=sn) (sub:=sub) (ab:=ab) (col:=col) (dd:=dd) (k0:=k0) (k1:=k1) (k2:=k2) (k3:=k3) (k5:=k5)
  Fn hBn FB (mN:=mN) (T.hasType FB.hasBase) (I.ok.hd rfl) (by rw[he];show(false||(backTo cpos (starEach es (gK P w K mg base N qual scope f cdv A outer s₀ H₀ E).env)).any (·.1))=false;rw[hpl];rfl) hni (Ko I hg O.bound ⟨rfl,?_⟩ hdb)
 have h2:=ha cpos pins s σ H _ I h;rw[he]at h2⊢;refine Calls.evalArgs_plain (wpAny_mono h2 (λus s2 ⟨vs,H2,I2,r,z,q⟩=>⟨rfl,by rw[<-r.length];exact z,I2.bk _ _ hC,hN.keeps I2.bk,T.keeps I2.bk,λh' e hm=>aqW I2 hm q⟩) λ_ _ y=>y)
def sH.okF{P:Program}{w:World}{K:W.Frag}{mg:Str->Option Value}{base:Heap}{x qual:Str}{st:Stmt}{f:Addr}{fd:FuncData}{N ps:List Str}{k:Nat}{sp:Sp}(F:sH K x qual st f fd)(S:bD N ps (aW st))(len:∀vs H Q E,sp vs H Q E->vs.length=ps.length)
  (hbody:∀(cdv:Value) (A:Around) (outer:List Env) (s:Shared) (H:Hp) (vs:List V) (Q:VK) (E:XK),eZ k (A.deeper (envOfC qual (aW st) s.heap.objs.size f cdv))->sp vs H Q E->
   ∃t,jM (gK P w K mg base N qual (aW st) f cdv A outer s H E) (lD st) t/\t { nx:=λ_ H'=>Q .non H',rt:=Q } (start N vs) H):qJ P w K mg base (qY P w) (k+1) f fd ps sp:=by
 obtain⟨oc,od,kV,doc,pm,an,cdv,ct,osl,rfl,lk,hcd⟩:=F.ex;exact ath lk hcd S len λA outer s H vs Q E hr hsp=>hbody cdv A outer s H vs Q E hr hsp
def sH.okN{P:Program}{w:World}{K:W.Frag}{mg:Str->Option Value}{base:Heap}{x qual:Str}{st:Stmt}{f:Addr}{fd:FuncData}{N ps:List Str}{k:Nat}{sp:Sp}(F:sH K x qual st f fd)(S:bD N ps (aW st))(len:∀vs H Q E,sp vs H Q E->vs.length=ps.length)
  (hbody:∀(cdv:Value) (A:Around) (outer:List Env) (s:Shared) (H:Hp) (vs:List V) (Q:VK) (E:XK),eZ k (A.deeper (envOfC qual (aW st) s.heap.objs.size f cdv))->sp vs H Q E->
   ∃t,jM (gK P w K mg base N qual (aW st) f cdv A outer s H E).B7 (lD st) t/\t { nx:=λ_ H'=>Q .non H',rt:=Q } (start N vs) H):qJ P w K mg base (qY P w) (k+1) f fd ps sp:=
 F.okF S len λcdv A outer s H vs Q E hr h=>let⟨t,a,b⟩:=hbody cdv A outer s H vs Q E hr h;⟨t,a.B7,b⟩
section
variable {X:Cx}
def cV.imp{f:Value->Value->Sem Value}{r r':R2}(h:cV X f r)(i:∀x y H Q,r' x y H Q->r x y H Q):cV X f r':=λpins s σ H x y v u Q I rx ry q=>h pins s σ H x y v u Q I rx ry (i _ _ _ _ q)
def mq.imp{r r':R2}(h:mq X r)(i:∀x y H Q,r' x y H Q->r x y H Q):mq X r':=λvalue slice pins s σ H x y v u Q I rx ry q hs=>h value slice pins s σ H x y v u Q I rx ry (i _ _ _ _ q) hs
def Zz{x:Str}{i:Int}{pos:Pos}(hg:Gl X x)(hm:∃t,X.mg x=some (.int i t))(hd:(x==("__debug__" : Str))=false:=by decide):PE X (.Name x pos) (tC (.int i)):=by
 obtain⟨t,e⟩:=hm;exact ais hg e ⟨t,rfl⟩ hd
def Ym{x:Str}{n:String}{pos:Pos}(hg:Gl X x)(hm:X.mg x=none)(hv:bootBuiltins x=some (.type n))(hn:x≠ "__name__" := by decide)(hd:(x==("__debug__" : Str))=false:=by decide):PE X (.Name x pos) (tC (.ty n)):=
 agl hg hm hv (v:= .ty n) rfl hn hd
structure bI(P:Program)(w:World)(K:W.Frag)(mg:Str->Option Value)(base:Heap)(x:Str)(k:Nat)(ps:List Str)(sp:Sp):Prop where
 ex:∃(g:Addr) (gd:FuncData),mg x=some (.ref g)/\W.keepIn K (.ref g)=true/\Binds K gd ps []/\qJ P w K mg base (qY P w) k g gd ps sp
def aL{x:Str}{k k':Nat}{ps:List Str}{sp:Sp}{p pos:Pos}{e:Expr}{es:List Expr}{t:TA}(C:bI X.prog X.w X.K X.mg X.base x k ps sp)(hr:eZ k' X.A)(hg:Gl X x)(ha:PA X (e::es) t)
  (hk:k<=k':=by decide) (hd:(x==("__debug__" : Str))=false:=by decide)
  (he:starEach (e::es) X.env=(false,eval e X.env)::starEach es X.env:=by rfl) (hpl:(backTo pos (starEach es X.env)).any (·.1)=false:=by rfl):PE X (.Call (.Name x p) (e::es) [] pos) (Uc sp [] E0 t):=by
 obtain⟨g,gd,hm,hkp,hb,F⟩:=C.ex;exact aay F (hr.mono hk) hg hm hkp hb .nil aeY ha hd he hpl
def Nb{P:Program}{w:World}{K:W.Frag}{mg:Str->Option Value}{base:Heap}{N:List Str}{qual:Str}{scope:Scope}{f:Addr}{cdv:Value}{A:Around}{outer:List Env}{s₀:Shared}{H₀:Hp}{E:XK}
  {x:Str} {k k':Nat} {ps:List Str} {sp:Sp} {p pos:Pos} {e:Expr} {es:List Expr} {t:TA} (C:bI P w K mg base x k ps sp) (hr:eZ k' (gK P w K mg base N qual scope f cdv A outer s₀ H₀ E).A) (hg:Gl (gK P w K mg base N qual scope f cdv A outer s₀ H₀ E) x)
  (ha:PA (gK P w K mg base N qual scope f cdv A outer s₀ H₀ E) (e::es) t) (hk:k<=k':=by decide) (hd:(x==("__debug__" : Str))=false:=by decide)
  (he:starEach (e::es) (gK P w K mg base N qual scope f cdv A outer s₀ H₀ E).env=(false,eval e (gK P w K mg base N qual scope f cdv A outer s₀ H₀ E).env)::starEach es (gK P w K mg base N qual scope f cdv A outer s₀ H₀ E).env:=by rfl)
  (hpl:(backTo pos (starEach es (gK P w K mg base N qual scope f cdv A outer s₀ H₀ E).env)).any (·.1)=false:=by rfl):
  PE (gK P w K mg base N qual scope f cdv A outer s₀ H₀ E) (.Call (.Name x p) (e::es) [] pos) (Uc sp [] E t):=by
 obtain⟨g,gd,hm,hkp,hb,F⟩:=C.ex;exact aay (X:=gK P w K mg base N qual scope f cdv A outer s₀ H₀ E) F (hr.mono hk) hg hm hkp hb .nil agk ha hd he hpl
def ajX{prog:Program}{w:World}{A:Around}{E:Value->Shared->Prop}{s:Shared}{t b:Addr}{vs ws:List Value}{Q:Value->Shared->Prop}(ht:IsTup s.heap t vs.toArray)(hb:IsTup s.heap b ws.toArray)(hv:vs=[])
  (h1:Q (.ref b) s):wpAny (model prog w) A (binaryOp .Add (.ref t) (.ref b)) Q E s:=by
 obtain⟨⟨cls,dd,data,sl⟩,ho,hc,n,hd⟩:=id ht;obtain⟨⟨cls2,dd2,data2,sl2⟩,ho2,hc2,n2,hd2⟩:=id hb;simp only at hc hd hc2 hd2;subst hc hd hc2 hd2;exact concat_meets ⟨_,ho,rfl⟩ ⟨_,ho2,rfl⟩ noFill_tuple_add seq_tuple_add Pj QM (J9 _ _)
   (tuple_addW0 t b vs.toArray ws.toArray n n2 dd dd2 sl sl2 (by simp[hv])) ⟨ho,ho2,h1⟩
def apt(K:W.Frag):R2:=λx y H Q=>∃a b ys,x = .ref a/\y = .ref b/\aC K H a []/\aC K H b ys/\Q (.ref b) H
def akD:cV X (binaryOp .Add) (apt X.K):=by
 intro pins s σ H x y v u Q I rx ry h;obtain⟨a,b,ys,rfl,rfl,ha,hb,q⟩:=h;cases rx;cases ry;obtain⟨its,r1,p1,_⟩:=I.tuple ha;obtain⟨its2,r2,p2,_⟩:=I.tuple hb;exact ajX p1 p2 (r1.Jc.mpr rfl) ⟨.ref b,H,I,rfl,q⟩
def QH(K:W.Frag):R2:=λx y H Q=>match x,y with
 |.int i,.int j=>Q (.int (i+j)) H
 |.str i,.str j=>i.length+j.length<=sizeLine/\Q (.str (i++j)) H
 |.ref a,.ref b=>(∃xs ys,H a=some (.lst xs)/\H b=some (.lst ys)/\xs.length+ys.length<=sizeLine/\∀p,H p=none->Q (.ref p) (upd H p (.lst (xs++ys))))∨
   (∃xs ys,aC K H a xs/\aC K H b ys/\xs.length+ys.length<=sizeLine/\(xs=[]->Q (.ref b) H)/\(xs≠[]->ys=[]->Q (.ref a) H)/\(xs≠[]->ys≠[]->∀p,H p=none->Q (.ref p) (upd H p (.tup (xs++ys)))))
 |_,_=>False
def v_add:cV X (binaryOp .Add) (QH X.K):=by
 refine((ajQ.or aqQ).or (alg.or (amG.or akD))).imp λx y H Q h=>?_;unfold QH at h;split at h
 .exact .inl (.inl ⟨_,_,rfl,rfl,h⟩)
 .exact .inl (.inr ⟨_,_,rfl,rfl,h⟩)
 .rcases h with⟨xs,ys,h1,h2,h3,h4⟩|⟨xs,ys,h1,h2,h3,h4,h5,h6⟩
  .exact .inr (.inl ⟨_,_,xs,ys,rfl,rfl,h1,h2,h3,h4⟩)
  .by_cases hx:xs=[]
   .subst hx;exact .inr (.inr (.inr ⟨_,_,ys,rfl,rfl,h1,h2,h4 rfl⟩))
   .exact .inr (.inr (.inl ⟨_,_,xs,ys,rfl,rfl,h1,h2,hx,h3,h5 hx,h6 hx⟩))
 .exact h.elim
def ab2:R2:=λx y H Q=>match x,y with
 |.int i,.int j=>IntMulOk i j/\Q (.int (i*j)) H
 |.ref l,.int k=>∃xs,H l=some (.lst xs)/\-(2^63)<=k/\k<2^63/\xs.length*k.toNat<=sizeLine/\∀p,H p=none->Q (.ref p) (upd H p (.lst (List.replicate k.toNat xs).flatten))
 |_,_=>False
def agN:cV X (binaryOp .Mult) (rI IntMulOk λi j=> .int (i*j)):=zF λ_ _ _ _ _ _ _ hc q=>mul_int q hc
def v_mul:cV X (binaryOp .Mult) ab2:=by
 refine(agN.or amK).imp λx y H Q h=>?_;unfold ab2 at h;split at h
 .exact .inl ⟨_,_,rfl,rfl,h.1,h.2⟩
 .obtain⟨xs,h1,h2,h3,h4,h5⟩:=h;exact .inr ⟨_,_,xs,rfl,rfl,h1,h2,h3,h4,h5⟩
 .exact h.elim
inductive SIx(K:W.Frag)(p:Addr)(i:Int)(H:Hp)(Q:VK):Prop|mk (xs:List V) (v:V) (hs:aq K H p xs∨aC K H p xs) (ha:nG xs i=some v) (q:Q v H)
def TX(K:W.Frag):R2:=λx y H Q=>match x,y with
 |.ref p,.int i=>SIx K p i H Q
 |.str z,.int i=>∃c,z.length<=sizeLine/\nG z.cps.toList i=some c/\Q (.str ⟨#[c]⟩) H
 |_,_=>False
def aio:mq X (TX X.K):=by
 refine ahm.imp λx y H Q h=>?_;unfold TX at h;split at h
 .obtain⟨xs,v,h1|h1,h2,h3⟩:=h
  .exact .inl ⟨_,xs,_,v,rfl,rfl,h1,h2,h3⟩
  .exact .inr (.inl ⟨_,xs,_,v,rfl,rfl,h1,h2,h3⟩)
 .obtain⟨c,h1,h2,h3⟩:=h;exact .inr (.inr ⟨_,_,c,rfl,rfl,h1,h2,h3⟩)
 .exact h.elim
def wF(H:Hp):V->Option String
 |.non=>some "NoneType"
 |.bl _=>some "bool"
 |.int _=>some "int"
 |.str _=>some "str"
 |.ref a=>match H a with
  |some (.lst _)=>some "list"
  |some (.jx _ (.lst _))=>some "list"
  |some (.tup _)=>some "tuple"
  |some (.dK _)=>some "dict"
  |_=>none
 |_=>none
def subB(t c:String):Bool:=t==c||(t== "bool" && c== "int")
def apu{K:W.Frag}{t c:String}(ht:t∈["NoneType","bool","int","str","list","tuple","dict"])(hc:c∈["int","bool","tuple","list","str","dict"]):W.kitOne K (.type t) (.type c)=some (subB t c):=by
 simp only[cj,gR,or_false]at ht hc;rcases ht with rfl|rfl|rfl|rfl|rfl|rfl|rfl<;>rcases hc with rfl|rfl|rfl|rfl|rfl|rfl<;>kernel_rfl
def alB{K:W.Frag}{H:Hp}{x:V}{t:String}(h:wF H x=some t):nD K H x (.type t)/\t∈["NoneType","bool","int","str","list","tuple","dict"]:=by
 unfold wF at h;split at h
 .cases h;exact⟨.non,by simp⟩
 .cases h;exact⟨.bl _,by simp⟩
 .cases h;exact⟨.int _,by simp⟩
 .cases h;exact⟨.str _,by simp⟩
 .split at h
  .rename_i e;cases h;exact⟨.lst e,by simp⟩
  .rename_i e;cases h;exact⟨.jx e,by simp⟩
  .rename_i e;cases h;exact⟨.tup e,by simp⟩
  .rename_i e;cases h;exact⟨.dK e,by simp⟩
  .cases h
 .cases h
def Wb:lA X (.builtin "isinstance") (λxs H Q=>∃x c t,xs=[x,.ty c]/\wF H x=some t/\c∈["int","bool","tuple","list","str","dict"]/\Q (.bl (subB t c)) H):=by
 intro pins s σ H xs us Q I r h;obtain⟨x,c,t,rfl,ht,hc,q⟩:=h;obtain⟨u,v,rfl,ru,rv⟩:=r.two;cases rv;obtain⟨ty,hm⟩:=alB (K:=X.K) ht;exact ahX I ru ty (apu hm hc) λtk=>⟨.bl _,H,I.tok tk,rfl,q⟩
theorem abX:∀{bs:List Bool} {us:List Value},Vals (bs.map V.bl) us->us=bs.map Value.bool
 |[],_,.nil=>rfl
 |b::bs,_,.cons r t=>by
  have e:=abX (bs:=bs) t;cases (show _=Value.bool b from r);rw[e];rfl
def af7{s:Shared}{h':Heap}{o:Obj}(hk:∀b x,b∉[s.heap.objs.size]->(s.heap.push o).get? b=some x->h'.get? b=some x):∀b x,s.heap.get? b=some x->h'.get? b=some x:=
 λb x e=>hk b x (λhm=>by rw[cP.mp hm]at e;exact jK _ (Heap.lt_size e)) (Heap.get?_push_of_some _ e)
def v_sum(hc:X.calm=true):lA X (.builtin "sum") (λxs H Q=>∃(l:Addr) (ns:List Int),xs=[.ref l]/\aq X.K H l (ns.map V.int)/\Q (.int ns.sum) H):=by
 intro pins s σ H xs us Q I r h;obtain⟨l,ns,rfl,hl,q⟩:=h;obtain⟨u,rfl,ru⟩:=r.one;cases ru;obtain⟨its,rv,pl,hz⟩:=I.list hl;have hi:=intsAre_of rv;obtain⟨xs,hx⟩:=hi.allInts.items;have hl':s.heap.IsList l (intItems xs):=hx▸pl.isList;refine sum_intListG (I.ok.hd hc) hl' λh' tk t' hk=>?_;have e1:ns=xs.toList.map (·.1):=by
  rw[<-nums_intItems,<-hx];exact(show numsOf its.toArray.toList=ns from hi.numsOf).symm
 have e2:preSum (numAt xs) xs.size=ns.sum:=by
  rw[preSum_eq,pO (by simp),e1]
 rw[e2];exact⟨.int _,H,I.kept hk,⟨_,rfl⟩,q⟩
def acU(K:W.Frag)(tl:TE):TI:=λσ H R=>tl σ H λx H1=>∃a,x = .ref a/\(((∃xs,aq K H1 a xs)/\R (lB K a) H1)∨((∃xs,aC K H1 a xs)/\R (Ht K a) H1))
def anE{tg l:Expr}{tl:TE}(hl:PE X l tl):PI X tg l (acU X.K tl):=by
 intro pins s σ H R I h;refine bf (hl pins s σ H _ I h) λv s1 ⟨x,H1,I1,r1,a,e,q⟩=>?_;subst e;cases r1;rcases q with⟨⟨xs,hq⟩,q⟩|⟨⟨xs,hq⟩,q⟩
 .have hh:PI X tg l (arU X.K λσ' H' Q=>Q (.ref a) H')->True:=λ_=>trivial;obtain⟨its,rv,p,hz⟩:=I1.list hq;refine wpAny_pyIter_list p.isList ?_;refine⟨s1.heap.objs.size,[s1.heap.objs.size],_,_,H1,rfl,I1.kept (t':=s1.toks) λb o e=>Heap.get?_push_of_some _ e,ag3 a _,⟨_,Heap.get?_push_size _ rfl,rfl,rfl⟩,λb hb=>?_,q⟩;have e:b=s1.heap.objs.size:=by simpa using hb
  subst e;exact I1.ou (aN _) (I1.hok.fresh (aN _))
 .obtain⟨its,rv,p,hz⟩:=I1.tuple hq;refine wpAny_pyIter_tuple (show s1.heap.IsTuple a its.toArray from p) ?_;refine⟨s1.heap.objs.size,[s1.heap.objs.size],_,_,H1,rfl,I1.kept (t':=s1.toks) λb o e=>Heap.get?_push_of_some _ e,anG a _,⟨_,Heap.get?_push_size _ rfl,rfl,rfl⟩,λb hb=>?_,q⟩;have e:b=s1.heap.objs.size:=by simpa using hb
  subst e;exact I1.ou (aN _) (I1.hok.fresh (aN _))
end
theorem RB{env:Env}:∀(names:List (Str×NameKind)) (acc:List (Str×Addr)),(∀y∈names,y.2 = .free->∃c,env.cells.lookup y.1=some c)->(∀p∈acc,env.cells.lookup p.1=some p.2)->
 ∃cl,(forIn names acc λ(y:Str×NameKind) (cs:List (Str×Addr))=>match y with|(name,kind)=>if(kind== .free)=true then do let a<-cellOf env name;pure (ForInStep.yield ((name,a)::cs))else pure (ForInStep.yield cs))=(pure cl:Sem _)/\(∀p∈cl,env.cells.lookup p.1=some p.2)/\(∀p∈acc,p∈cl)/\∀y∈names,y.2 = .free->∃c,(y.1,c)∈cl
 |[],acc,_,ha=>⟨acc,rfl,ha,λ_ h=>h,λ_ h=>nomatch h⟩
 |(n,k)::r,acc,hf,ha=>by
  have hr:∀y∈r,y.2 = .free->∃c,env.cells.lookup y.1=some c:=λy hy=>hf y (dg _ hy);by_cases hk:k = .free
  .subst hk;obtain⟨c,hc⟩:=hf (n,.free) cQ rfl;obtain⟨cl,e,h1,h2,h3⟩:=RB r ((n,c)::acc) hr (λp hp=>by
    rcases cj.mp hp with rfl|hp
    .exact hc
    .exact ha p hp)
   refine⟨cl,?_,h1,λp hp=>h2 p (dg _ hp),λy hy hyf=>?_⟩
   .rw[Hu];simp only[beq_self_eq_true,if_true,cellOf,hc,pure_bind];exact e
   .rcases cj.mp hy with rfl|hy
    .exact⟨c,h2 _ cQ⟩
    .exact h3 y hy hyf
  .have hb:(k==NameKind.free)=false:=by simpa using hk
   obtain⟨cl,e,h1,h2,h3⟩:=RB r acc hr ha;refine⟨cl,?_,h1,h2,λy hy hyf=>?_⟩
   .rw[Hu];simp only[hb,Bool.false_eq_true,if_false,pure_bind];exact e
   .rcases cj.mp hy with rfl|hy
    .exact absurd hyf hk
    .exact h3 y hy hyf
def aqh{env:Env}{scope:Scope}(hf:∀y∈scope.names,y.2 = .free->∃c,env.cells.lookup y.1=some c):
  ∃cl,closureFor scope env=pure cl/\(∀x c,cl.lookup x=some c->env.cells.lookup x=some c)/\∀y∈scope.names,y.2 = .free->∃c,cl.lookup y.1=some c:=by
 obtain⟨cl,e,h1,_,h3⟩:=RB (env:=env) scope.names [] hf (λ_ h=>nomatch h);refine⟨cl,?_,λx c h=>h1 (x,c) (vR h),λy hy hyf=>?_⟩
 .unfold closureFor;simp only[bind_pure_comp]at e⊢;rw[e];rfl
 .obtain⟨c,hc⟩:=h3 y hy hyf;cases q:cl.lookup y.1 with
  |some d=>exact⟨d,rfl⟩
  |none=>
   have z:=List.lookup_eq_none_iff.mp q (y.1,c) hc;simp at z
def Kq(sc:Scope)(cl:List (Str×Addr))(C:Addr)(env:Env):Env:=
 { scope:=sc,locals:=C,globals:=env.globals,cells:=cl,qual:=env.qual,func:=none,code:=env.code,frame:=env.frame,builtins:=env.builtins }
def jR(X:Cx)(sc:Scope)(N:List Str)(cl:List (Str×Addr))(C:Addr)(s₀:Shared)(H₀:Hp)(ex:List Addr):Cx:=
 { X with env:=Kq sc cl C X.env,N:=N,s₀:=s₀,H₀:=H₀,outer:=X.stack,ex:=ex,fn:=λ_=>false,pn:=[],xe:=λ_ _=>False }
def cst(ix:List (Option Nat))(σ:St):St:=ix.map λo=>match o with
 |none=>none
 |some i=>match σ[i]? with
  |some v=>v
  |none=>none
def yG(X:Cx)(ifs:List Expr)(t:TT):Prop:=
 ∀(pins:List (Addr×Obj)) (s:Shared) (σ:St) (H:Hp) (Q:Bool->Hp->Prop),Inv X pins σ H s->t σ H Q->
  wpAny (model X.prog X.w) X.A (forIn ifs true λc r=>if r=true then do let ok<-isTrue c X.env (eval c X.env);pure (ForInStep.yield ok)else pure (ForInStep.yield r)) (TP X pins σ Q) X.xe s
def lF:TT:=λ_ H Q=>Q true H
def dW{X:Cx}:yG X [] lF:=λ_ _ _ H _ I h=>wpAny_tests_nil ⟨H,I,h⟩
def Zm{X:Cx}{c:Expr}{t:TT}(h:PT X c t):yG X [c] t:=λpins s σ H Q I q=>wpAny_tests_one (h pins s σ H Q I q)
def arl{prog:Program}{w:World}{A:Around}{R:Result->Shared->Prop}{s:Shared}{elt target iter:Expr}{ifs:List Expr}{scope:Scope}{pos:Pos}{it acc:Value}{env:Env}(I:Nat->Shared->Prop)
  (turn:∀n s,I n s->wpAny (model prog w) A (pyNext it) (λr s₁=>match r with
   |none=>R (.ok .next) s₁
   |some v=>wpAny (model prog w) A (letOwnedTupleGo target it v) (λ_ s₀=>wpAny (model prog w) A (assign target env v) (λ_ s₂=>
     wpAny (model prog w) A (forIn ifs true λc r=>if r=true then do let ok<-isTrue c env (eval c env);pure (ForInStep.yield ok)else pure (ForInStep.yield r)) (λok s₃=>
      if ok=true then wpAny (model prog w) A (eval elt env) (λx s₄=>
       wpAny (model prog w) A (call (.builtin "list.append") [acc,x]) (λ_ s₅=>∃m,m<n/\I m s₅) (λ_ _=>False) s₄) (λ_ _=>False) s₃
      else ∃m,m<n/\I m s₃) (λ_ _=>False) s₂) (λ_ _=>False) s₀) (λ_ _=>False) s₁) (λ_ _=>False) s)
  (n:Nat) (h:I n s):
  codeAny (model prog w) A (.compLoop (.ListComp elt [⟨target,iter,ifs,0⟩] scope pos) 0 it acc env) R s:=by
 refine codeAny_loop rfl I (λn s hI=>?_) n h;show wpAny _ A ((compTurn (.ListComp elt [⟨target,iter,ifs,0⟩] scope pos) 0 it acc env).onRaise (λx=>do noteFrame x env;theTreesLotGoes x)) _ _ s
 refine wpAny_noted ?_;rw[compTurn_list];refine wpAny_bind (wpAny_standAt (wpAny_bind (wpAny_mono (turn n s hI) (λr s₁ h₁=>?_) λ_ _ h'=>h'.elim)));cases r with
 |none=>exact wpAny_pure h₁
 |some v=>
  refine wpAny_bind (wpAny_mono h₁ (λ_ s₀ h₀=>?_) λ_ _ h'=>h'.elim);refine wpAny_bind (wpAny_mono h₀ (λ_ s₂ h₂=>wpAny_bind (wpAny_mono h₂ (λok s₃ h₃=>?_) λ_ _ h'=>h'.elim)) λ_ _ h'=>h'.elim);cases ok with
  |false=>exact wpAny_pure ⟨rfl,h₃⟩
  |true=>
   exact wpAny_bind (wpAny_bind (wpAny_mono h₃ (λx s₄ h₄=>wpAny_bind (wpAny_mono h₄ (λ_ s₅ h₅=>wpAny_pure (wpAny_pure ⟨rfl,h₅⟩)) λ_ _ h'=>h'.elim)) λ_ _ h'=>h'.elim))
structure jL(ix:List (Option Nat))(g:TG)(tc:TT)(te:TE)(σ:St)(Q:VK)(J:It)(H1:Hp):Prop where
 go:∀D,H1 D=none->∃W:Nat->Nat->St->Hp->Prop,(∃m,W 0 m (cst ix σ) (upd H1 D (.lst [])))/\
  ∀i m σ' H',W i m σ' H'->(J.stop i H'/\Q (.ref D) H')∨(J.go i H'/\∀x H2,J.jB i H' x H2->g x σ' H2 λσ3 H3=>tc σ3 H3 λb H4=>
   if b=true then te σ3 H4 λy H5=>∃ys,H5 D=some (.lst ys)/\ys.length<sizeLine/\∃m',m'<m/\W (i+1) m' σ3 (upd H5 D (.lst (ys++[y])))
   else ∃m',m'<m/\W (i+1) m' σ3 H4)
def Kl(ix:List (Option Nat))(wi:TI)(g:TG)(tc:TT)(te:TE):TE:=λσ H Q=>wi σ H λJ H1=>jL ix g tc te σ Q J H1
structure Jt(X:Cx)(scope sc:Scope)(N:List Str)(ix:List (Option Nat)):Prop where
 rel:relabel scope X.env=sc
 kind:scope.kind = .function
 cell:∀y∈scope.names,y.2≠ .cell
 names:∀x∈scope.names,x.2 = .local->scope.names.lookup x.1=some .local
 free:∀y∈scope.names,y.2 = .free->X.env.kindOf y.1=some .cell∨X.env.kindOf y.1=some .free
 len:N.length=ix.length
 ix:∀(j:Nat) (x:Str) (i:Nat),N[j]?=some x->ix[j]?=some (some i)->X.N[i]?=some x/\(x,NameKind.free)∈scope.names/\(sc.names.lookup x=some .cell∨sc.names.lookup x=some .free)
 has:∀x,(sc.names.lookup x=some .cell∨sc.names.lookup x=some .free)->(x,NameKind.free)∈scope.names
def Wk{X:Cx}{tg iter elt:Expr}{ifs:List Expr}{scope sc:Scope}{pos ip:Pos}{wi:TI}{g:TG}{tc:TT}{te:TE}{N:List Str}{ix:List (Option Nat)}(O:Jt X scope sc N ix)(hc:X.calm=true)(hi:PI X tg iter wi)
  (hb:∀cl C s₀ H₀ ex,PG (jR X sc N cl C s₀ H₀ ex) tg g/\yG (jR X sc N cl C s₀ H₀ ex) ifs tc/\PE (jR X sc N cl C s₀ H₀ ex) elt te) (hs:∀x,foldedSetIterable iter X.env x=pure x)
  {use:Option (Value->Sem Unit)} {QQ:Value->Shared->Prop} {pins:List (Addr×Obj)} {s:Shared} {σ:St} {H:Hp} {Q:VK} (I:Inv X pins σ H s) (h:Kl ix wi g tc te σ H Q)
  (fin:∀(D C:Addr) (s6:Shared) (H5:Hp) (m:Str->Option Value),Inv X pins σ H5 s6->s6.heap.Ns C m->oh X pins H5 C->Q (.ref D) H5->compPost (model X.prog X.w) X.A X.xe use QQ (.ref D) C (.ok .next) s6):
  wpAny (model X.prog X.w) X.A (comprehension (.ListComp elt [⟨tg,iter,ifs,0⟩] scope pos) scope X.env ip (newList []) false (eval iter X.env) use) QQ X.xe s:=by
 have hcl:∃cl,closureFor scope X.env=pure cl/\(∀x c,cl.lookup x=some c->X.env.cells.lookup x=some c)/\∀y∈scope.names,y.2 = .free->∃c,cl.lookup y.1=some c:=
  aqh λy hy hf=>I.ok.has y.1 (O.free y hy hf)
 obtain⟨cl,ecl,wU,ZD⟩:=hcl;refine wpAny_comprehension_free (use:=use) rfl hs ecl O.kind O.names (bf (hi pins s σ H _ I h) λv s1 h1=>bf h1 λitv s2 h2=>?_);obtain⟨it,fp,tn,J,H2,e,I2,T,st2,f2,q2⟩:=h2;subst e;obtain⟨W,⟨m0,w0⟩,turn⟩:=q2.go s2.heap.objs.size I2.fresh;refine wpAny_newObj_type ?_;have I3:=I2.QL (its:=[]) (t':=s2.toks) (ys:=[]) .nil (cJ _);generalize eH3:upd H2 s2.heap.objs.size (.lst [])=H3 at I3 w0;have eD:H3 s2.heap.objs.size=some (.lst []):=by rw[<-eH3];exact aA
 have anq:∀b∈fp,b≠s2.heap.objs.size:=λb hb z=>by
  obtain⟨o,ho,_⟩:=T.obj _ _ st2 b hb;exact absurd (Heap.lt_size ho) (by rw[z];exact jK _)
 have st3:tn 0 (s2.heap.push { cls:= .type "list",dict:=none,data:= .seq ([]:List Value).toArray }):=T.keep _ _ _ st2 λb _ o e=>Heap.get?_push_of_some _ e;have f3:∀b∈fp,oh X pins H3 b:=λb hb=>⟨by rw[<-eH3,cC (anq b hb)];exact(f2 b hb).1,(f2 b hb).2⟩;generalize es3:({ s2 with heap:=s2.heap.push { cls:= .type "list",dict:=none,data:= .seq ([]:List Value).toArray },toks:=s2.toks }:Shared)=s3 at I3;have V4:tn 0 s3.heap:=by rw[<-es3];exact st3
 refine wpAny_newFunctionEnv O.cell (λy hy=>nomatch hy) (λh4 ajr afF=>?_) O.kind;have Qs:∀b o,s3.heap.get? b=some o->h4.get? b=some o:=λb o e=>(afF.2 b (kZ (Heap.lt_size e))).trans (Heap.get?_push_of_some _ e);have I4:Inv X pins σ H3 { s3 with heap:=h4,toks:=s3.toks+([]:List (Str×Value)).length }:=I3.kept Qs;have anB:({ newEnv scope s3.heap.objs.size X.env.globals cl X.env.qual none .none (some X.env) builtinsNs with scope:=relabel scope X.env }:Env)=Kq sc cl s3.heap.objs.size X.env:=by rw[O.rel];rfl
 rw[anB];show codeAny _ _ _ (compPost (model X.prog X.w) X.A X.xe use QQ (.ref s2.heap.objs.size) s3.heap.objs.size) _;generalize eC:s3.heap.objs.size=C;generalize WM:({ s3 with heap:=h4,toks:=s3.toks+([]:List (Str×Value)).length }:Shared)=s4 at I4;have Qj:s4.heap=h4:=by rw[<-WM]
 have o4s:s4.os=s3.os:=by rw[<-WM]
 have fC:∀b∈fp,b≠C:=λb hb z=>by
  obtain⟨o,ho,_⟩:=T.obj _ _ V4 b hb;exact absurd (Heap.lt_size ho) (by rw[z,eC];exact jK _)
 have Yd:(jR X sc N cl C s3 H3 fp).Ok:=by
  refine⟨I3.ok.mod,?_,I3.ok.glob,I3.ok.blt,KP eC,λx y c h1 h2=>I3.ok.inj x y c (wU x c h1) (wU y c h2),λx hx=>?_,λx c z _=>(nomatch z),I3.ok.hd,I3.ok.frames,.inl rfl,λb hb=>⟨fC b hb,λx c e=>(f3 b hb).2.2.2.2.1 x c (wU x c e)⟩,
   I3.bs,iT I3.ok.vX I3.sz,λb o e hb=>?_,λb hb z=>?_,I3.stack,I3.Ni⟩
  .show sc.kind = .function;rw[<-O.rel];exact O.kind
  .exact ZD (x,.free) (O.has x hx) rfl
  .rcases(f3 b hb).2.2.2.1 with z|z
   .exact I3.ok.BL b o e z
   .exact absurd (jd (Heap.lt_size e) (iT I3.ok.vX z)) (jK _)
  .rcases cj.mp (I3.IB b z)with z|z
   .exact(f3 b hb).2.1 z
   .exact(f3 b hb).2.2.1 z
 have IC:Inv (jR X sc N cl C s3 H3 fp) [] (cst ix σ) H3 s4:=by
  refine⟨Yd,o4s,I4.bare,?_,?_,λx c e=>I4.cell x c (wU x c e),?_,λx c e=>I4.rB x c (wU x c e),λp hp=>(nomatch hp),I4.hok,?_⟩
  .rw[Qj];exact Un.kept Qs
  .refine⟨_,by rw[Qj,<-eC];exact ajr,λj x v e1 e2 e3=>?_⟩;have e2':(cst ix σ)[j]?=some (some v):=e2;unfold cst at e2';rw[jV]at e2';cases q:ix[j]? with
   |none=>rw[q]at e2';cases e2'
   |some o=>
    rw[q]at e2';cases o with
    |none=>cases e2'
    |some i=>
     obtain⟨hx,hm,hsc⟩:=O.ix j x i e1 q;cases q2:σ[i]? with
     |none=>simp[q2]at e2'
     |some w'=>
      simp[q2]at e2';subst e2';obtain⟨m,hn,hl⟩:=I4.loc;have kf:=O.free (x,.free) hm rfl;have vis:HJ X.env.scope x:=by
       rcases kf with k|k
       .exact .inr (.inl k)
       .exact .inr (.inr k)
      obtain⟨u,r,l⟩:=hl i x v hx q2 vis;refine⟨u,r,?_⟩;rcases l with⟨k,_⟩|⟨_,c,e,z⟩
      .rcases kf with k'|k'
       .rw[k]at k';cases k'
       .rw[k]at k';cases k'
      .obtain⟨c',e'⟩:=ZD (x,.free) hm rfl;have:=wU x c' e';rw[e]at this;cases this;exact .inr ⟨hsc,c,e',z⟩
  .rw[<-eC];exact I3.fresh
  .show(cst ix σ).length=N.length;rw[O.len];simp[cst]
 have UN:tn 0 s4.heap:=T.keep _ _ _ V4 λb _ o e=>by rw[Qj];exact Qs b o e
 have stat:∀{H':Hp},(∀b∈fp,H' b=none)->∀b∈fp,oh (jR X sc N cl C s3 H3 fp) [] H' b:=λhn b hb=>
  ⟨hn b hb,fC b hb,Yd.Dl b hb,.inl hb,λx c e=>(f3 b hb).2.2.2.2.1 x c (wU x c e),λp hp=>(nomatch hp)⟩
 obtain⟨hg,ht,he⟩:=hb cl C s3 H3 fp;have loop:codeAny (model X.prog X.w) X.A (.compLoop (.ListComp elt [⟨tg,iter,ifs,0⟩] scope pos) 0 (.ref it) (.ref s2.heap.objs.size) (Kq sc cl C X.env))
   (compPost (model X.prog X.w) X.A X.xe use QQ (.ref s2.heap.objs.size) C) s4:=by
  refine arl (λn s'=>∃i σ' H',Inv (jR X sc N cl C s3 H3 fp) [] σ' H' s'/\tn i s'.heap/\(∀b∈fp,H' b=none)/\W i n σ' H') ?_ m0 ⟨0,cst ix σ,H3,IC,UN,λb hb=>(f3 b hb).1,w0⟩;rintro n s5 ⟨i,σ5,H5,I5,zQ,JG,w5⟩;rcases turn i n σ5 H5 w5 with⟨stop,qn⟩|⟨go,step⟩
  .refine bf (T.done (jR X sc N cl C s3 H3 fp) rfl rfl rfl hc i [] s5 σ5 H5 (λ_ _=>False) I5 (stat JG) zQ stop) λr s6 ⟨hr,I6⟩=>?_;subst hr;obtain⟨m,hn,_⟩:=id I6.loc;have I7:Inv X pins σ H5 s6:=I3.an0 (ch:=fp) I6.os I6.base I6.hok I6.bare λb hb=>⟨(f3 b hb).2.2.2.1,(f3 b hb).2.1,(f3 b hb).2.2.2.2.1,(f3 b hb).2.2.2.2.2⟩;exact fin _ C s6 H5 m I7 hn (I3.ou (KP eC) I6.free) qn
  .refine bf (T.item (jR X sc N cl C s3 H3 fp) rfl rfl rfl hc i [] s5 σ5 H5 (λ_ _=>False) I5 (stat JG) zQ go) λr s6 ⟨u,hr,h6⟩=>?_;subst hr;refine bf h6 λ_ s7 ⟨x,H7,I7,r7,y7,PV,fr7⟩=>?_;have I7':=I7.pinned (stat fr7) (T.obj _ _ PV);have again:∀{σ9:St} {H9:Hp} {s9:Shared} {m':Nat},Inv (jR X sc N cl C s3 H3 fp) ([]++CW fp s7.heap) σ9 H9 s9->m'<n->W (i+1) m' σ9 H9->
     ∃m,m<n/\∃i σ' H',Inv (jR X sc N cl C s3 H3 fp) [] σ' H' s9/\tn i s9.heap/\(∀b∈fp,H' b=none)/\W i m σ' H':=λ{σ9 H9 s9 m'} I9 hm w9=>by
    refine⟨m',hm,i+1,σ9,H9,I9.Cw,T.keep _ _ _ PV λb hb o e=>(I9.pin (b,o) (nZ _ (nZ _ (CD hb e)))).1,λb hb=>?_,w9⟩;obtain⟨o,e,d⟩:=T.obj _ _ PV b hb;exact(I9.pin (b,o) (nZ _ (nZ _ (CD hb e)))).2.1
   refine bf (hg _ s7 σ5 H7 x u _ I7' r7 (step x H7 y7)) λ_ s8 ⟨σ8,H8,I8,q8⟩=>?_;refine bf (ht _ s8 σ8 H8 _ I8 q8) λb s9 ⟨H9,I9,q9⟩=>?_;cases b with
   |false=>
    rw[if_neg fP]at q9;obtain⟨m',hm,w9⟩:=q9;rw[if_neg fP];exact again I9 hm w9
   |true=>
    rw[if_pos rfl]at q9;rw[if_pos rfl];refine bf (he _ s9 σ8 H9 _ I9 q9) λy s10 ⟨yv,rm,I10,r10,ys,e10,FT,m',hm,w10⟩=>?_;refine bf (Wu _ s10 σ8 rm (.ref s2.heap.objs.size) [yv] (.ref s2.heap.objs.size) [y] (λ_ H'=>W (i+1) m' σ8 H') I10 rfl (.cons r10 .nil) ⟨_,ys,yv,rfl,rfl,e10,FT,w10⟩) λ_ s11 ⟨_,JV,I11,_,w11⟩=>?_;exact again I11 hm w11
 exact codeAny_compStart_list loop (T.self _ _ _ _ _ UN loop)
def fY{X:Cx}{tg iter elt:Expr}{ifs:List Expr}{scope sc:Scope}{pos:Pos}{wi:TI}{g:TG}{tc:TT}{te:TE}{N:List Str}{ix:List (Option Nat)}(O:Jt X scope sc N ix)(hc:X.calm=true)(hi:PI X tg iter wi)
  (hb:∀cl C s₀ H₀ ex,PG (jR X sc N cl C s₀ H₀ ex) tg g/\yG (jR X sc N cl C s₀ H₀ ex) ifs tc/\PE (jR X sc N cl C s₀ H₀ ex) elt te)
  (hs:∀x,foldedSetIterable iter X.env x=pure x:=by intro _;rfl):PE X (.ListComp elt [⟨tg,iter,ifs,0⟩] scope pos) (Kl ix wi g tc te):=by
 intro pins s σ H Q I h;rw[eval_ListComp];exact Wk (use:=none) (QQ:=EP X pins σ Q) O hc hi hb hs I h λD C s6 H5 m I7 hn f q=>⟨m,hn,λh' hs'=>⟨.ref D,H5,I7.turned (it:=C) (t':=s6.toks) (λb o hb e=>(hs'.2 b hb).trans e) f.1 f.2.1 f.2.2.2.1 f.2.2.2.2.1 f.2.2.2.2.2,rfl,q⟩⟩
def pH{X:Cx}{i:Nat}{y:Str}{py spos:Pos}{tg iter elt:Expr}{ifs:List Expr}{scope sc:Scope}{pos:Pos}{wi:TI}{g:TG}{tc:TT}{te:TE}{N:List Str}{ix:List (Option Nat)}(hN:X.N.Nodup)(hi':X.N[i]?=some y)(hx:Loc X.env.scope y)
  (O:Jt X scope sc N ix) (hc:X.calm=true) (hi:PI X tg iter wi)
  (hb:∀cl C s₀ H₀ ex,PG (jR X sc N cl C s₀ H₀ ex) tg g/\yG (jR X sc N cl C s₀ H₀ ex) ifs tc/\PE (jR X sc N cl C s₀ H₀ ex) elt te)
  (hs:∀x,foldedSetIterable iter X.env x=pure x:=by intro _;rfl) (hsw:swapsWith (.ListComp elt [⟨tg,iter,ifs,0⟩] scope pos) (some (.Name y py)) spos.line X.env=pure true:=by rfl)
  (hf:X.fn y=true∨X.env.scope.names.lookup y=some .local:=by first|exact .inl rfl|exact .inr rfl|assumption):
  PS X (.Assign [.Name y py] (.ListComp elt [⟨tg,iter,ifs,0⟩] scope pos) spos) (Uk (Kl ix wi g tc te) (gU i)):=by
 intro pins s σ H D I h;rw[exec_Assign_Name_used _ _ _ _ hsw];refine wpAny_bind (wpAny_standAt (wpAny_bind ?_));show wpAny _ X.A (do let _<-comprehension (.ListComp elt [⟨tg,iter,ifs,0⟩] scope pos) scope X.env _ (newList []) false (eval iter X.env) (some (assign (.Name y py) X.env))) _ _ s
 refine wpAny_bind (wpAny_mono (Wk (use:=some (assign (.Name y py) X.env)) (QQ:=λ_ s'=>∃σ' H',Inv X pins σ' H' s'/\D.nx σ' H') O hc hi hb hs I h λD1 C s6 H5 m I7 hn f q=>?_) (λ_ s' ⟨σ',H',I',q'⟩=>wpAny_pure (wpAny_pure ⟨σ',H',I',q'⟩)) λ_ _ e=>e);obtain⟨o,es,ep,ho,hc1,hc2⟩:=id hn;have I8:=I7.pinned (fp:=[C]) (λb hb=>by
  have e:b=C:=by simpa using hb
  subst e;exact f) (λb hb=>by
  have e:b=C:=by simpa using hb
  subst e;exact⟨o,ho,λv z=>by first|(rw[hc1.2]at z;cases z)|(rw[hc2.1]at z;cases z)|(rw[hc1]at z;cases z)|(simp_all)⟩)
 show wpAny _ X.A (assign (.Name y py) X.env (.ref D1)) _ _ _;refine wpAny_assign_Name (Bw I8 hN hi' hx (v:= .ref D1) rfl (λs7 I9=>?_) hf);have hC:=(I9.pin (C,o) (nZ _ (nZ _ (CD (by simp) ho)))).1;refine⟨m,⟨o,es,ep,hC,hc1,hc2⟩,λh' hs'=>⟨_,H5,I9.Cw.turned (it:=C) (t':=s7.toks) (λb o hb e=>(hs'.2 b hb).trans e) f.1 f.2.1 f.2.2.2.1 f.2.2.2.2.1 f.2.2.2.2.2,q⟩⟩
mutual
inductive mD(K:W.Frag)(H:Hp):V->PyData->Prop
 |non:mD K H .non .none
 |bl (b:Bool):mD K H (.bl b) (.bool b)
 |int (i:Int):mD K H (.int i) (.int i)
 |str (x:Str):mD K H (.str x) (.str x)
 |lst {a:Addr} {xs:List V} {ds:List PyData}:aq K H a xs->jJ K H xs ds->mD K H (.ref a) (.list ds)
 |tup {a:Addr} {xs:List V} {ds:List PyData}:aC K H a xs->jJ K H xs ds->mD K H (.ref a) (.tuple ds)
inductive jJ(K:W.Frag)(H:Hp):List V->List PyData->Prop
 |nil:jJ K H [] []
 |cons {x:V} {d:PyData} {xs:List V} {ds:List PyData}:mD K H x d->jJ K H xs ds->jJ K H (x::xs) (d::ds)
end
section
variable {X:Cx} {pins:List (Addr×Obj)} {σ:St} {H:Hp} {s:Shared}
mutual
theorem Inv.reads(I:Inv X pins σ H s):∀{x:V} {d:PyData} {u:Value},mD X.K H x d->RelV x u->∃as,Reads s.heap u d as
 |_,_,_,.non,r=>by cases r;exact⟨_,.none⟩
 |_,_,_,.bl b,r=>by cases r;exact⟨_,.bool b⟩
 |_,_,_,.int i,r=>by obtain⟨t,rfl⟩:=r;exact⟨_,.int i t⟩
 |_,_,_,.str x,r=>by obtain⟨t,rfl⟩:=r;exact⟨_,.str x t⟩
 |_,_,_,.lst hq hs,r=>by
  cases r;obtain⟨its,rv,pl,_⟩:=I.list hq;obtain⟨as,ra⟩:=Inv.readsAll I hs rv;obtain⟨o,ho,hc,n,hd⟩:=pl.isList;exact⟨_,.list ho hc hd (by simpa using ra)⟩
 |_,_,_,.tup hq hs,r=>by
  cases r;obtain⟨its,rv,pl,_⟩:=I.tuple hq;obtain⟨as,ra⟩:=Inv.readsAll I hs rv;obtain⟨o,ho,hc,n,hd⟩:=pl;exact⟨_,.tuple ho hc hd (by simpa using ra)⟩
theorem Inv.readsAll(I:Inv X pins σ H s):∀{xs:List V} {ds:List PyData} {us:List Value},jJ X.K H xs ds->Vals xs us->∃as,ReadsAll s.heap us ds as
 |_,_,_,.nil,.nil=>⟨_,.nil⟩
 |_,_,_,.cons h1 h2,.cons r1 r2=>by
  obtain⟨as,a⟩:=Inv.reads I h1 r1;obtain⟨bs,b⟩:=Inv.readsAll I h2 r2;exact⟨_,.cons a b⟩
end
theorem jJ.ints{K:W.Frag}{H:Hp}:∀ns:List Int,jJ K H (ns.map V.int) (ns.map PyData.int)
 |[]=> .nil
 |n::r=> .cons (.int n) (jJ.ints r)
def rF(kb:List (Key×V)):List (Key×V)->Bool
 |[]=>true
 |(k,v)::r=>match sJ kb k with
  |none=>false
  |some y=>Rq v y&&rF kb r
theorem O7{A:Around}{kb:List (Key×V)}{vb:List (Key×Value)}(hb:KV kb vb)(fb:kb.all (λp=>pG p.2)=true):∀{ka:List (Key×V)} {va:List (Key×Value)},KV ka va->ka.all (λp=>pG p.2)=true->
  W.KeqHits A s vb va (rF kb ka)
 |[],_,.nil,_=> .nil
 |(k,v)::r,(k',v')::r',.cons ⟨e,rv⟩ t,f=>by
  cases (show k=k' from e);rw[List.all_cons,vp]at f;have hv:=KV.val hb k;cases q:sJ kb k with
  |none=>
   have hn:valueAt vb k=none:=rO.none_of (by rw[q]at hv;exact hv);have e2:rF kb ((k,v)::r)=false:=by simp[rF,q]
   rw[e2];exact .miss hn
  |some y=>
   rw[q]at hv;obtain⟨u,hu,ru⟩:=rO.some_of hv;have fy:pG y=true:=by
    unfold sJ at q;cases q2:kb.find? (λkv=>decide (kv.1=k))with
    |none=>rw[q2]at q;cases q
    |some p=>
     rw[q2]at q;cases q;exact tK.mp fb p (List.mem_of_find?_eq_some q2)
   have e2:rF kb ((k,v)::r)=(Rq v y&&rF kb r):=by simp[rF,q]
   rw[e2];exact .hit hu (anf rv ru f.1 fy) (O7 hb fb t f.2)
end
section
variable {X:Cx}
def qU(K:W.Frag)(g:Bool->Bool):R2:=λx y H Q=>match x,y with
 |.int i,.int j=>Q (.bl (g (decide (i=j)))) H
 |.bl i,.bl j=>Q (.bl (g (decide (i=j)))) H
 |.str i,.str j=>Q (.bl (g (decide (i=j)))) H
 |.non,.non=>Q (.bl (g true)) H
 |.ref a,.ref b=>(∃d e,mD K H (.ref a) d/\mD K H (.ref b) e/\SeqAt.shaped d=true/\SeqAt.shaped e=true/\Q (.bl (g (PyData.eqv d e))) H)∨
   (∃ka kb,H a=some (.dK ka)/\H b=some (.dK kb)/\ka.all (λp=>pG p.2)=true/\kb.all (λp=>pG p.2)=true/\Q (.bl (g (ka.length==kb.length&&rF kb ka))) H)
 |.non,.ref _=>False
 |.ref _,.non=>False
 |x,y=>Qx x y=true/\Q (.bl (g (decide (x=y)))) H
def aqU{k:Nat}(hr:eZ k X.A):cV X (compareOp .Eq) (λx y H Q=>∃d e,mD X.K H x d/\mD X.K H y e/\SeqAt.shaped d=true/\SeqAt.shaped e=true/\Q (.bl (PyData.eqv d e)) H):=by
 intro pins s σ H x y v u Q I rx ry h;obtain⟨d,e,h1,h2,h3,h4,q⟩:=h;obtain⟨as,ra⟩:=I.reads h1 rx;obtain⟨bs,rb⟩:=I.reads h2 ry;exact eq_dataH ra rb h3 h4 hr.units ⟨.bl _,H,I,rfl,q⟩
def ato{k:Nat}(hr:eZ k X.A):cV X (compareOp .NotEq) (λx y H Q=>∃d e,mD X.K H x d/\mD X.K H y e/\SeqAt.shaped d=true/\SeqAt.shaped e=true/\Q (.bl (!PyData.eqv d e)) H):=by
 intro pins s σ H x y v u Q I rx ry h;obtain⟨d,e,h1,h2,h3,h4,q⟩:=h;obtain⟨as,ra⟩:=I.reads h1 rx;obtain⟨bs,rb⟩:=I.reads h2 ry;exact ne_dataH ra rb h3 h4 hr.units ⟨.bl _,H,I,rfl,q⟩
def ahB{k:Nat}(hr:eZ k X.A):cV X (compareOp .Eq) (λx y H Q=>∃a b ka kb,x = .ref a/\y = .ref b/\H a=some (.dK ka)/\H b=some (.dK kb)/\ka.all (λp=>pG p.2)=true/\kb.all (λp=>pG p.2)=true/\Q (.bl (ka.length==kb.length&&rF kb ka)) H):=by
 intro pins s σ H x y v u Q I rx ry h;obtain⟨a,b,ka,kb,rfl,rfl,h1,h2,h3,h4,q⟩:=h;cases rx;cases ry;obtain⟨_,ea,va,ra,da⟩:ka.length<=sizeLine/\(a==sysModules)=false/\∃vs,KV ka vs/\s.heap.DictOf (AW X.prog X.w) a vs:=I.hok a _ h1;obtain⟨_,eb,vb,rb,db⟩:kb.length<=sizeLine/\(b==sysModules)=false/\∃vs,KV kb vs/\s.heap.DictOf (AW X.prog X.w) b vs:=I.hok b _ h2;refine W.keq_eq ea eb da db hr.ZC (λ_=>O7 rb h4 ra h3) ⟨.bl _,H,I,?_,q⟩;show _=Value.bool _;rw[Paired.length ra,Paired.length rb]
def ani{k:Nat}(hr:eZ k X.A):cV X (compareOp .NotEq) (λx y H Q=>∃a b ka kb,x = .ref a/\y = .ref b/\H a=some (.dK ka)/\H b=some (.dK kb)/\ka.all (λp=>pG p.2)=true/\kb.all (λp=>pG p.2)=true/\Q (.bl (!(ka.length==kb.length&&rF kb ka))) H):=by
 intro pins s σ H x y v u Q I rx ry h;obtain⟨a,b,ka,kb,rfl,rfl,h1,h2,h3,h4,q⟩:=h;cases rx;cases ry;obtain⟨_,ea,va,ra,da⟩:ka.length<=sizeLine/\(a==sysModules)=false/\∃vs,KV ka vs/\s.heap.DictOf (AW X.prog X.w) a vs:=I.hok a _ h1;obtain⟨_,eb,vb,rb,db⟩:kb.length<=sizeLine/\(b==sysModules)=false/\∃vs,KV kb vs/\s.heap.DictOf (AW X.prog X.w) b vs:=I.hok b _ h2;refine W.keq_ne ea eb da db hr.ZC (λ_=>O7 rb h4 ra h3) ⟨.bl _,H,I,?_,q⟩;show _=Value.bool _;rw[Paired.length ra,Paired.length rb]
def aao{i j:Int}:decide (V.int i=V.int j)=decide (i=j):=by simp
def Xp{i j:Bool}:decide (V.bl i=V.bl j)=decide (i=j):=by simp
def aem{i j:Str}:decide (V.str i=V.str j)=decide (i=j):=by simp
def v_eq{k:Nat}(hr:eZ k X.A):cV X (compareOp .Eq) (qU X.K id):=by
 refine(agY.or ((aqU hr).or (ahB hr))).imp λx y H Q h=>?_;unfold qU at h;split at h
 .exact .inl ⟨rfl,by rw[aao];exact h⟩
 .exact .inl ⟨rfl,by rw[Xp];exact h⟩
 .exact .inl ⟨rfl,by rw[aem];exact h⟩
 .exact .inl ⟨rfl,by rw[decide_eq_true rfl];exact h⟩
 .rcases h with⟨d,e,h⟩|⟨ka,kb,h⟩
  .exact .inr (.inl ⟨d,e,h⟩)
  .exact .inr (.inr ⟨_,_,ka,kb,rfl,rfl,h⟩)
 .exact h.elim
 .exact h.elim
 .exact .inl h
def atY{k:Nat}(hr:eZ k X.A):cV X (compareOp .NotEq) (qU X.K not):=by
 refine(aou.or ((ato hr).or (ani hr))).imp λx y H Q h=>?_;unfold qU at h;split at h
 .exact .inl ⟨rfl,by rw[aao];exact h⟩
 .exact .inl ⟨rfl,by rw[Xp];exact h⟩
 .exact .inl ⟨rfl,by rw[aem];exact h⟩
 .exact .inl ⟨rfl,by rw[decide_eq_true rfl];exact h⟩
 .rcases h with⟨d,e,h⟩|⟨ka,kb,h⟩
  .exact .inr (.inl ⟨d,e,h⟩)
  .exact .inr (.inr ⟨_,_,ka,kb,rfl,rfl,h⟩)
 .exact h.elim
 .exact h.elim
 .exact .inl h
end
end L2
namespace PySem.SeqAt
open AutoSeq1 (wpAny_loadPart')
open MeetsSeq MeetsSeq2 MeetsSeq3 SeqRoads2
section
variable {A:Around} {s:Shared}
end
end PySem.SeqAt
namespace L2
open PySem PySem.Spec PyProof.Rows
section
variable {X:Cx}
end
def boot_isinstance:bootBuiltins "isinstance" = some (.builtin "isinstance"):=by decide +kernel
def boot_abs:bootBuiltins "abs" = some (.builtin "abs"):=by decide +kernel
def boot_sum:bootBuiltins "sum" = some (.builtin "sum"):=by decide +kernel
def boot_max:bootBuiltins "max" = some (.builtin "max"):=by decide +kernel
def boot_tuple:bootBuiltins "tuple" = some (.type "tuple"):=by decide +kernel
def boot_list:bootBuiltins "list" = some (.type "list"):=by decide +kernel
structure Fn(K:W.Frag)(mg:Str->Option Value)(x:Str)(st:Stmt)(ps:List Str):Prop where
 ex:∃(f:Addr) (fd:FuncData),sH K x x st f fd/\mg x=some (.ref f)/\Binds K fd ps []
def Fn.cal{P:Program}{w:World}{K:W.Frag}{mg:Str->Option Value}{base:Heap}{x:Str}{st:Stmt}{N ps:List Str}{k:Nat}{sp:Sp}(F:Fn K mg x st ps)(S:bD N ps (aW st))(len:∀vs H Q E,sp vs H Q E->vs.length=ps.length)
  (hbody:∀(f:Addr) (cdv:Value) (A:Around) (outer:List Env) (s:Shared) (H:Hp) (vs:List V) (Q:VK) (E:XK),eZ k (A.deeper (envOfC x (aW st) s.heap.objs.size f cdv))->sp vs H Q E->
   ∃t,jM (gK P w K mg base N x (aW st) f cdv A outer s H E).B7 (lD st) t/\t { nx:=λ_ H'=>Q .non H',rt:=Q } (start N vs) H):bI P w K mg base x (k+1) ps sp:=by
 obtain⟨f,fd,F,m,b⟩:=F.ex;exact⟨f,fd,m,F.kp,b,F.okN S len λcdv A outer s H vs Q E hr h=>hbody f cdv A outer s H vs Q E hr h⟩
def Fn.Ii{P:Program}{w:World}{K:W.Frag}{mg:Str->Option Value}{base:Heap}{x:Str}{st:Stmt}{N ps:List Str}{k:Nat}{sp:Sp}(F:Fn K mg x st ps)(S:bD N ps (aW st))(len:∀vs H Q E,sp vs H Q E->vs.length=ps.length)
  (hbody:∀(f:Addr) (cdv:Value) (A:Around) (outer:List Env) (s:Shared) (H:Hp) (vs:List V) (Q:VK) (E:XK),eZ k (A.deeper (envOfC x (aW st) s.heap.objs.size f cdv))->sp vs H Q E->
   ∃t,jM (gK P w K mg base N x (aW st) f cdv A outer s H E) (lD st) t/\t { nx:=λ_ H'=>Q .non H',rt:=Q } (start N vs) H):bI P w K mg base x (k+1) ps sp:=by
 obtain⟨f,fd,F,m,b⟩:=F.ex;exact⟨f,fd,m,F.kp,b,F.okF S len λcdv A outer s H vs Q E hr h=>hbody f cdv A outer s H vs Q E hr h⟩
def Same.new{H:Hp}{p:Addr}(h:H p=none)(o:HO):Same H (upd H p o):=λb u q=>by rw[cC (ju q h)];exact q
theorem Same.upd{H H':Hp}{p:Addr}(g:Same H H')(h:H p=none)(o:HO):Same H (L2.upd H' p o):=λb u q=>by rw[cC (ju q h)];exact g b u q
def Same.G4{K:W.Frag}{H H':Hp}{a:Addr}{xs:List V}(e:Same H H')(h:aC K H a xs):aC K H' a xs:=by
 rcases h with(h|⟨o,h⟩)|h
 .exact .inl (.inl (e _ _ h))
 .exact .inl (.inr ⟨o,e _ _ h⟩)
 .exact .inr h
def mulL{i j:Int}(h1:-(2^64)<i)(h2:i<2^64):IntMulOk i j:= .of_left (intBits_le_64 h1 h2)
def mulR{i j:Int}(h1:-(2^64)<j)(h2:j<2^64):IntMulOk i j:= .of_right (intBits_le_64 h1 h2)
def cX{N:List Str}(h:decide N.Nodup=true:=by kernel_rfl):N.Nodup:=of_decide_eq_true h
abbrev dH(l:List (Str×NameKind)):Scope:={ kind:= .function,names:=l,isGenerator:=false,isCoroutine:=false }
def dI{X:Cx}{scope sc:Scope}{N:List Str}{ix:List (Option Nat)}(sc':relabel scope X.env=sc:=by kernel_rfl)(kind:scope.kind = .function:=by kernel_rfl)(cell:scope.names.all (λy=>y.2 != .cell)=true:=by kernel_rfl)
  (names:scope.names.all (λx=>x.2 != .local||scope.names.lookup x.1==some .local)=true:=by kernel_rfl)
  (free:scope.names.all (λy=>y.2 != .free||(X.env.scope.names.lookup y.1==some .cell||X.env.scope.names.lookup y.1==some .free))=true:=by kernel_rfl)
  (len:N.length=ix.length:=by kernel_rfl)
  (hix:(N.zip ix).all (λp=>match p.2 with
   |none=>true
   |some i=>X.N[i]?==some p.1&&scope.names.any (λy=>y.1==p.1&&y.2== .free)&&(sc.names.lookup p.1==some .cell||sc.names.lookup p.1==some .free))=true:=by kernel_rfl)
  (has:sc.names.all (λy=>(y.2 != .cell&&y.2 != .free)||scope.names.any (λz=>z.1==y.1&&z.2== .free))=true:=by kernel_rfl):Jt X scope sc N ix:=by
 have mem:∀x:Str,scope.names.any (λy=>y.1==x&&y.2== .free)=true->(x,NameKind.free)∈scope.names:=λx h=>by
  obtain⟨y,hy,e⟩:=tH.mp h;rw[vp]at e;obtain⟨a,b⟩:=y;have e1:a=x:=eq_of_beq e.1;have e2:b = .free:=eq_of_beq e.2;subst e1;subst e2;exact hy
 refine⟨sc',kind,λy hy e=>?_,λx hx e=>?_,λy hy e=>?_,len,λj x i h1 h2=>?_,λx hx=>?_⟩
 .have:=tK.mp cell y hy;rw[e]at this;cases this
 .have:=tK.mp names x hx;rw[e]at this;simpa using this
 .have:=tK.mp free y hy;rw[e]at this;simpa[Env.kindOf]using this
 .have hm:(x,some i)∈N.zip ix:=by
   have:(N.zip ix)[j]?=some (x,some i):=by
    rw[List.getElem?_zip_eq_some];exact⟨h1,h2⟩
   exact jF this
  have:=tK.mp hix _ hm;simp only[vp]at this;obtain⟨⟨a1,a2⟩,a3⟩:=this;refine⟨eq_of_beq a1,mem x a2,?_⟩;rw[Bq]at a3;rcases a3 with z|z
  .exact .inl (eq_of_beq z)
  .exact .inr (eq_of_beq z)
 .have hm:∃k,(x,k)∈sc.names/\(k = .cell∨k = .free):=by
   rcases hx with z|z
   .exact⟨_,vR z,.inl rfl⟩
   .exact⟨_,vR z,.inr rfl⟩
  obtain⟨k,hk,e⟩:=hm;have:=tK.mp has _ hk;rw[Bq]at this;rcases this with z|z
  .rcases e with e|e<;>(subst e;simp at z)
  .exact mem x z
structure bF(K:W.Frag)(x:Str)(st:Stmt):Prop where
 ex:∃(f:Addr) (oc:Value) (od:Option Addr) (kV doc pm:Value) (an:Option Addr) (cdv ct:Value) (sl:Array (Option Value)),W.nsIn K mainGlobals x=some (some (.ref f))/\
  K.lookup f=some ⟨oc,od,.func (W.fnOf x x (qe st) (lD st) (aW st) .none kV doc pm an cdv ct),sl⟩/\W.codeIn K cdv x=true/\W.keepIn K (.ref f)=true
def arN{K:W.Frag}{x:Str}{st:Stmt}{f:Addr}{oc:Value}{od:Option Addr}{kV doc pm:Value}{an:Option Addr}{cdv ct:Value}{sl:Array (Option Value)}(a:W.nsIn K mainGlobals x=some (some (.ref f)))
  (l:K.lookup f=some ⟨oc,od,.func (W.fnOf x x (qe st) (lD st) (aW st) .none kV doc pm an cdv ct),sl⟩) (c:W.codeIn K cdv x=true) (k:W.keepIn K (.ref f)=true):bF K x st:=
 ⟨f,oc,od,kV,doc,pm,an,cdv,ct,sl,a,l,c,k⟩
def bF.fn{K:W.Frag}{h:Heap}{mg:Str->Option Value}{x:Str}{st:Stmt}{ps:List Str}(F:bF K x st)(X:K.In h)(G:h.Ns mainGlobals mg)
  (hb:∀(kV doc pm:Value) (an:Option Addr) (cdv ct:Value) (us:List Value),us.length=ps.length->bindArgs (W.fnOf x x (qe st) (lD st) (aW st) .none kV doc pm an cdv ct) ⟨us,[]⟩=pure (ps.zip us)):Fn K mg x st ps:=by
 obtain⟨f,oc,od,kV,doc,pm,an,cdv,ct,sl,a,l,c,k⟩:=F.ex;have FF:=ado (st:=st) l c k;exact⟨f,_,FF,xV X G a,FF.binds hb⟩
def bF.bR{K:W.Frag}{h:Heap}{mg:Str->Option Value}{x:Str}{st:Stmt}{ps:List Str}(F:bF K x st)(X:K.In h)(G:h.Ns mainGlobals mg)
  (hb:∀(kV doc pm:Value) (an:Option Addr) (cdv ct:Value) (us:List Value),us.length=ps.length->bindArgs (W.fnOf x x (qe st) (lD st) (aW st) .none kV doc pm an cdv ct) ⟨us,[]⟩=pure (ps.zip us):=by
   intro _ _ _ _ _ _ us hl;first
    |(obtain⟨_,rfl⟩:=L2.X3 hl;rfl)
    |(obtain⟨_,_,rfl⟩:=L2.UU hl;rfl)
    |(obtain⟨_,_,_,rfl⟩:=L2.Zh hl;rfl)
    |(obtain⟨_,_,_,_,rfl⟩:=L2.Wh hl;rfl)
    |(obtain rfl:=L2.VP hl;rfl)
    |(obtain⟨_,_,_,_,_,rfl⟩:=L2.us5 hl;rfl)
    |(obtain⟨_,_,_,_,_,_,rfl⟩:=L2.us6 hl;rfl)):Fn K mg x st ps:=F.fn X G hb
def bK{N P:List Str}{sc:Scope}(kind:sc.kind = .function:=by rfl)(co:sc.isCoroutine=false:=by rfl)(gen:sc.isGenerator=false:=by rfl)(nd:N.Nodup:=by decide +kernel)(pre:N.take P.length=P:=by rfl)
  (par:∀x∈P,sc.names.lookup x=some .local∨sc.names.lookup x=some .cell:=by decide +kernel) (RX:∀y∈sc.names,y.2≠ .free:=by decide +kernel):bD N P sc:=⟨kind,co,gen,nd,pre,par,RX⟩
structure uR(J:It)(xs:List V)(H1:Hp):Prop where
 go:∀i H',Same H1 H'->i<xs.length->J.go i H'
 jB:∀i H' x H2,Same H1 H'->J.jB i H' x H2->H2=H'/\(i<xs.length->xs[i]?=some x)
 stop:∀i H',Same H1 H'->xs.length<=i->J.stop i H'
def kY{K:W.Frag}{a:Addr}{xs:List V}{H1:Hp}(hq:aq K H1 a xs):uR (lB K a) xs H1:=
 ⟨λi H' g h=>⟨xs,xs[i],g.seq hq,by simp[h]⟩,λi H' x H2 g y=>⟨y.1,λ_=>y.2 xs (g.seq hq)⟩,λi H' g h=>⟨xs,g.seq hq,h⟩⟩
def PB{K:W.Frag}{a:Addr}{xs:List V}{H1:Hp}(hq:aC K H1 a xs):uR (Ht K a) xs H1:=
 ⟨λi H' g h=>⟨xs,xs[i],g.G4 hq,by simp[h]⟩,λi H' x H2 g y=>⟨y.1,λ_=>y.2 xs (g.G4 hq)⟩,λi H' g h=>⟨xs,g.G4 hq,h⟩⟩
def C4{lo:Int}{n:Nat}{H1:Hp}:uR (rA lo n) ((List.range n).map λi=>V.int (lo+(i:Nat))) H1:=
 ⟨λi H' g h=>show i<n by simpa using h,λi H' x H2 g y=>⟨y.1,λh=>by
  have h':i<n:=by simpa using h
  rw[jV,B5 h',y.2];rfl⟩,λi H' g h=>show n<=i by simpa using h⟩
def vd{J:It}{xs:List V}{ix:List (Option Nat)}{tc:TT}{te:TE}{σ:St}{H1:Hp}{Q:VK}(I:uR J xs H1)(hz:xs.length<=sizeLine){rest:St}(hst:cst ix σ=none::rest)(p:V->Bool)(F:V->V)
  (ht:∀H' x,Same H1 H'->x∈xs->∀k:Bool->Hp->Prop,k (p x) H'->tc (some x::rest) H' k)
  (he:∀H' x,Same H1 H'->x∈xs->p x=true->∀k:VK,k (F x) H'->te (some x::rest) H' k)
  (hQ:∀D,H1 D=none->Q (.ref D) (upd H1 D (.lst ((xs.filter p).map F)))):
  jL ix (gU 0) tc te σ Q J H1:=by
 constructor;intro D hD;refine⟨λi m σ' H'=>m=xs.length-i/\i<=xs.length/\(∃o,σ'=o::rest)/\H'=upd H1 D (.lst (((xs.take i).filter p).map F)),⟨xs.length,by simp,cJ _,⟨none,hst⟩,by simp⟩,?_⟩;rintro i m σ' H' ⟨rfl,hi,⟨o,rfl⟩,rfl⟩;have g:Same H1 (upd H1 D (.lst (((xs.take i).filter p).map F))):=Same.new hD _;by_cases hlt:i<xs.length
 .refine .inr ⟨I.go i _ g hlt,λx H2 y=>?_⟩;obtain⟨rfl,hx⟩:=I.jB i _ x H2 g y;have hx:=hx hlt;have hm:x∈xs:=jF hx;have et:xs.take (i+1)=xs.take i++[x]:=by
   rw[qO,hx];rfl
  show tc (some x::rest) _ _;refine ht _ x g hm _ ?_;cases hp:p x with
  |true=>
   rw[if_pos rfl];refine he _ x g hm hp _ ⟨_,aA,?_,xs.length-(i+1),by omega,rfl,hlt,⟨_,rfl⟩,?_⟩
   .have h1:(((xs.take i).filter p).map F).length<=i:=by
     rw[aG];exact iT (List.length_filter_le _ _) (by rw[jl];omega)
    omega
   .rw[atP,et,Iv,jq];simp[hp]
  |false=>
   rw[if_neg fP];refine⟨xs.length-(i+1),by omega,rfl,hlt,⟨_,rfl⟩,?_⟩;rw[et,Iv];simp[hp]
 .have e:i=xs.length:=by omega
  subst e;refine .inl ⟨I.stop _ _ g (aN _),?_⟩;rw[kE];exact hQ D hD
def um{J:It}{xs:List V}{g:TG}{tb:TS}{D:Ends}{σ:St}{H:Hp}(I:uR J xs H)(Pv:Nat->St->Hp->Prop)(h0:Pv 0 σ H)(hsame:∀i σ' H',Pv i σ' H'->Same H H')
  (hs:∀i x σ' H',xs[i]?=some x->Pv i σ' H'->g x σ' H' λσ2 H2=>tb { D with nx:=Pv (i+1),ct:=Pv (i+1),bk:=D.nx } σ2 H2) (hd:∀σ' H',Pv xs.length σ' H'->D.nx σ' H'):
  ∃W:Nat->Nat->St->Hp->Prop,(∃m,W 0 m σ H)/\∀i m σ H,W i m σ H->
   (J.stop i H/\D.nx σ H)∨(J.go i H/\∃N:St->Hp->Prop,(∀σ' H',N σ' H'->∃m',m'<m/\W (i+1) m' σ' H')/\∀x H',J.jB i H x H'->g x σ H' λσ2 H2=>tb { D with nx:=N,ct:=N,bk:=D.nx } σ2 H2):=by
 refine⟨λi m σ' H'=>m=xs.length-i/\i<=xs.length/\Pv i σ' H',⟨xs.length,by simp,cJ _,h0⟩,?_⟩;rintro i m σ' H' ⟨rfl,hi,p⟩;have gs:=hsame i σ' H' p;by_cases hlt:i<xs.length
 .refine .inr ⟨I.go i _ gs hlt,Pv (i+1),λσ2 H2 p'=>⟨xs.length-(i+1),by omega,rfl,hlt,p'⟩,λx H2 y=>?_⟩;obtain⟨rfl,hx⟩:=I.jB i _ x H2 gs y;exact hs i x σ' _ (hx hlt) p
 .have e:i=xs.length:=by omega
  subst e;exact .inl ⟨I.stop _ _ gs (aN _),hd σ' H' p⟩
structure Bar(t:TE)(σ:St)(H:Hp)(Q:VK):Prop where
 go:t σ H Q
def aj1(t:TE):TE:=λσ H Q=>Bar t σ H Q
def Bar.by{t:TE}{σ:St}{H:Hp}{Q:VK}(R:V->Hp->Prop)(h:∀k:VK,(∀v H1,R v H1->k v H1)->t σ H k)(q:∀v H1,R v H1->Q v H1):Bar t σ H Q:=⟨h Q q⟩
def Vo{X:Cx}{e:Expr}{t:TE}(h:PE X e t):PE X e (aj1 t):=λpins s σ H Q I q=>h pins s σ H Q I q.go
structure qR(t:TS)(D:Ends)(σ:St)(H:Hp):Prop where
 go:t D σ H
def apl(t:TS):TS:=λD σ H=>qR t D σ H
def tV{X:Cx}{st:Stmt}{t:TS}(h:PS X st t):PS X st (apl t):=λpins s σ H D I q=>h pins s σ H D I q.go
theorem qR.by{t:TS}{D:Ends}{σ:St}{H:Hp}(R:St->Hp->Prop)(h:∀N:St->Hp->Prop,(∀σ' H',R σ' H'->N σ' H')->t { D with nx:=N } σ H)(q:∀σ' H',R σ' H'->D.nx σ' H'):qR t D σ H:=by
 constructor;exact h D.nx q
end L2
namespace HT
open PySem PyProof.Rows
section
variable {prog:Program} {w:World} {A:Around} {E:Value->Shared->Prop} {s:Shared}
def aiY{t sl:Addr}{items:Array Value}{vl vu:Value}{lo hi:Option Int}{Q:Value->Shared->Prop}(ht:IsTup s.heap t items)(hs:s.heap.IsSliceOf sl vl vu .none)(pl:IsPart vl lo)(pu:IsPart vu hi)
  (hw:bw items.size 0 lo=0/\bw items.size items.size hi=items.size) (h:Q (.ref t) s):wpAny (model prog w) A (getItem (.ref t) (.ref sl)) Q E s:=by
 obtain⟨os,hos,hcs,hds⟩:=id hs;have hTs:s.TypeIs (.ref sl) "slice" := ⟨os,hos,hcs⟩;unfold getItem;try with_reducible refine wpAny_holding ?_
 first|refine wpAny_bind (wpAny_pure ?_)|skip
 refine wpAny_bind (wpAny_sequenceKey ht.typeIs (by decide) ?_);refine wpAny_bind (wpAny_callSpecial?_slot (name:=Str.ofString "__getitem__") ht.typeIs yR
  (wpAny_call_entry yR ht.typeIs entry_tuple_getitem ?_ (args_tuple_getitem _ _)))
 show wpAny _ _ (Builtin.Tuple.tupleItemsOf (.ref t)>>=_) _ _ s;refine wpAny_bind (tupleItemsOf_ ht ?_);refine wpAny_bind (wpAny_typeOf hTs ?_);rw[if_pos (by decide)];refine wpAny_bind (adI hs pl pu ?_);have hyes:(((bw items.size 0 lo:Nat):Int)==0&&(1:Int)==1&&(bw items.size items.size hi-bw items.size 0 lo)==items.size)=true:=by
  rw[hw.1,hw.2];simp
 show wpAny _ _ (if(((bw items.size 0 lo:Nat):Int)==0&&(1:Int)==1&&(bw items.size items.size hi-bw items.size 0 lo)==items.size)=true then _ else _) _ _ s;rw[if_pos hyes];unfold Builtin.Tuple.tupleIsExact;refine wpAny_bind (wpAny_bind (wpAny_typeOf ht.typeIs (wpAny_pure ?_)));rw[if_pos (by decide)];exact wpAny_bind (wpAny_rule (wpAny_pure ⟨_,rfl,wpAny_pure h⟩))
end
end HT
namespace L2
open PySem PySem.Spec PyProof.Rows
section
variable {X:Cx}
def amR:oH X (λx lo hi H Q=>∃a xs,x = .ref a/\aC X.K H a xs/\(HT.bw xs.length 0 lo=0/\HT.bw xs.length xs.length hi=xs.length)/\Q (.ref a) H):=by
 intro pins s σ H x v vl vu lo hi sl Q I rx hs pl pu h;obtain⟨a,xs,rfl,hx,hw,q⟩:=h;cases rx;obtain⟨its,r,ht,hz⟩:=I.tuple hx;have hlen:its.toArray.size=xs.length:=by rw[fG];exact r.length.symm
 refine⟨"tuple",_,yR.lookup,ht.typeIs,?_⟩;exact HT.aiY ht hs pl pu (by rw[hlen];exact hw) ⟨.ref a,H,I,rfl,q⟩
end
def boot_zip:bootBuiltins "zip" = some (.type "zip"):=by decide +kernel
section
variable {X:Cx} (K:W.Frag)
def oH.imp{r r':V->Option Int->Option Int->Hp->VK->Prop}(h:oH X r)(i:∀x lo hi H Q,r' x lo hi H Q->r x lo hi H Q):oH X r':=λpins s σ H x v vl vu lo hi sl Q I rx hs pl pu q=>h pins s σ H x v vl vu lo hi sl Q I rx hs pl pu (i _ _ _ _ _ q)
def dB(hK:X.K=K:=by rfl):cV X (binaryOp .Add) (QH K):=by subst hK;exact v_add
def aQ(hK:X.K=K:=by rfl):mq X (TX K):=by subst hK;exact aio
def fK{k:Nat}(hr:eZ k X.A)(hK:X.K=K:=by rfl):cV X (compareOp .Eq) (qU K id):=by subst hK;exact v_eq hr
def iU{k:Nat}(hr:eZ k X.A)(hK:X.K=K:=by rfl):cV X (compareOp .NotEq) (qU K not):=by subst hK;exact atY hr
def dO(hK:X.K=K:=by rfl):lA X (.builtin "len") (λxs H Q=>∃x n,xs=[x]/\aci K x H n/\Q (.int n) H):=by subst hK;exact akV
def Mh(hc:X.calm=true)(hK:X.K=K:=by rfl):lA X (.builtin "sum") (λxs H Q=>∃(l:Addr) (ns:List Int),xs=[.ref l]/\aq K H l (ns.map V.int)/\Q (.int ns.sum) H):=by subst hK;exact v_sum hc
def xlist(hK:X.K=K:=by rfl):lA X (.type "list") (λxs H Q=>∃p ys,xs=[.ref p]/\(aq K H p ys∨aC K H p ys)/\∀l,H l=none->Q (.ref l) (upd H l (.lst ys))):=by subst hK;exact asn
def jQ(hK:X.K=K:=by rfl):lA X (.type "tuple") (λxs H Q=>∃p ys,xs=[.ref p]/\((aq K H p ys/\∀l,H l=none->Q (.ref l) (upd H l (.tup ys)))∨(aC K H p ys/\Q (.ref p) H))):=by subst hK;exact agq
def Wj(K:W.Frag):V->Option Int->Option Int->Hp->VK->Prop:=λx lo hi H Q=>match x with
 |.ref a=>(∃xs,aq K H a xs/\∀p,H p=none->Q (.ref p) (upd H p (.lst (iH xs lo hi))))∨
   (∃xs,aC K H a xs/\¬(HT.bw xs.length 0 lo=0/\HT.bw xs.length xs.length hi=xs.length)/\∀p,H p=none->Q (.ref p) (upd H p (.tup (iH xs lo hi))))∨
   (∃xs,aC K H a xs/\(HT.bw xs.length 0 lo=0/\HT.bw xs.length xs.length hi=xs.length)/\Q (.ref a) H)
 |_=>False
def vB(hK:X.K=K:=by rfl):oH X (Wj K):=by
 subst hK;refine(aqT.or (aoE.or amR)).imp λx lo hi H Q h=>?_;unfold Wj at h;split at h
 .rcases h with⟨xs,h⟩|⟨xs,h⟩|⟨xs,h⟩
  .exact .inl ⟨_,xs,rfl,h⟩
  .exact .inr (.inl ⟨_,xs,rfl,h⟩)
  .exact .inr (.inr ⟨_,xs,rfl,h⟩)
 .exact h.elim
def d7{tg l:Expr}{tl:TE}(hl:PE X l tl)(hK:X.K=K:=by rfl):PI X tg l (acU K tl):=by subst hK;exact anE hl
def lK{es:List Expr}{k:Nat}{t:uc}{n:Nat}{pos:Pos}(hc:X.calm=true)(h:yL X es t)(hK:X.K=K:=by rfl)
  (hn:(assignEach es X.env).length=n:=by rfl) (hst:(assignEach es X.env).findIdx? (·.1)=none:=by rfl):PG X (.Tuple es k pos) (yx K n t):=by subst hK;exact amf hc h hn hst
def vC{o e:Expr}{to:TE}{te:TE}{apos cpos:Pos}(ho:PE X o to)(he:PE X e te)(hK:X.K=K:=by rfl)
  (hbase:attributeBase o "append" X.env (eval o X.env)=eval o X.env:=by rfl)
  (hfew:((backTo cpos (starEach [e] X.env)).all (λx=>!x.1)&&(backToKw cpos (keywordEach [] X.env)).all (λx=>x.1.isSome)
   && decide ([e].length+([]:List Keyword).length+(if([]:List Keyword).isEmpty then 0 else 1)<30))=true:=by rfl)
  (hline:(apos.endLine==cpos.line)=true:=by rfl) (hs:starEach [e] X.env=(false,eval e X.env)::starEach [] X.env:=by rfl):
  PE X (.Call (.Attribute o "append" apos) [e] [] cpos) (RL K "list" Vt to (uh te Rr)):=by
 subst hK;exact VZ Oj PySem.F.slot_list_append PySem.F.type_list_append Wu ho (aM he aj hs) hbase hfew hline hs rfl
def aeH{o:Expr}{to:TE}{apos cpos:Pos}(ho:PE X o to)(hK:X.K=K:=by rfl)(hbase:attributeBase o "pop" X.env (eval o X.env)=eval o X.env:=by rfl)(hline:(apos.endLine==cpos.line)=true:=by rfl):
  PE X (.Call (.Attribute o "pop" apos) [] [] cpos) (UO K "list" abG to):=by
 subst hK;exact afo Oj PySem.F.slot_list_pop PySem.F.type_list_pop aso ho hbase hline
def as4{o e:Expr}{to:TE}{te:TE}{apos cpos:Pos}(ho:PE X o to)(he:PE X e te)(hK:X.K=K:=by rfl)
  (hbase:attributeBase o "extend" X.env (eval o X.env)=eval o X.env:=by rfl)
  (hfew:((backTo cpos (starEach [e] X.env)).all (λx=>!x.1)&&(backToKw cpos (keywordEach [] X.env)).all (λx=>x.1.isSome)
   && decide ([e].length+([]:List Keyword).length+(if([]:List Keyword).isEmpty then 0 else 1)<30))=true:=by rfl)
  (hline:(apos.endLine==cpos.line)=true:=by rfl) (hs:starEach [e] X.env=(false,eval e X.env)::starEach [] X.env:=by rfl):
  PE X (.Call (.Attribute o "extend" apos) [e] [] cpos) (RL K "list" ac9 to (uh te Rr)):=by
 subst hK;exact VZ Oj PySem.F.slot_list_extend PySem.F.type_list_extend agp ho (aM he aj hs) hbase hfew hline hs rfl
end
section
variable {X:Cx} {es:List Expr} {te:TE} {t:TA}
def bU{c:Const}{j}{p:Pos}(h:PE X (.Constant c j p) te)(hr:PA X es t):PA X ((.Constant c j p)::es) (uh te t):=aM h hr rfl
def ao{x:Str}{p:Pos}(h:PE X (.Name x p) te)(hr:PA X es t):PA X ((.Name x p)::es) (uh te t):=aM h hr rfl
def W3{as:List Expr}{p:Pos}(h:PE X (.List as p) te)(hr:PA X es t):PA X ((.List as p)::es) (uh te t):=aM h hr rfl
def WW{as:List Expr}{j}{p:Pos}(h:PE X (.Tuple as j p) te)(hr:PA X es t):PA X ((.Tuple as j p)::es) (uh te t):=aM h hr rfl
def dX{a:Expr}{o:Operator}{b:Expr}{p:Pos}(h:PE X (.BinOp a o b p) te)(hr:PA X es t):PA X ((.BinOp a o b p)::es) (uh te t):=aM h hr rfl
def xO{o:UnaryOp}{a:Expr}{p:Pos}(h:PE X (.UnaryOp o a p) te)(hr:PA X es t):PA X ((.UnaryOp o a p)::es) (uh te t):=aM h hr rfl
end
section
variable {X:Cx} {pins:List (Addr×Obj)} {σ:St} {H:Hp} {s:Shared}
end
structure ExI(K:W.Frag)(C:Addr):Prop where
 ga:W.findIn K (.ref C) "__getattribute__" = some (some (.builtin "BaseException.__getattribute__"))
 gt:W.findIn K (.ref C) "__getattr__" = some none
 cl:W.findIn K (.ref C) "__class__" = some (some (.builtin "object.__class__"))
 mb:W.mroIn K C (.type "BaseException")=some true
 mo:W.mroIn K C (.type "object")=some true
 is:(W.clsIn K C).isSome=true
section
variable {prog:Program} {w:World} {A:Around} {E:Value->Shared->Prop} {h:Heap} {g:Array GenState} {d:Drawn} {t:Nat} {os:OsState} {a C:Addr} {o:Obj} {K:W.Frag}
end
def Zj{K:W.Frag}{h:Heap}{mg:Str->Option Value}{x:Str}{C:Addr}{newId inN Bn:String}{bmN:List Value}(X:K.In h)(G:h.Ns mainGlobals mg)(e:W.nsIn K mainGlobals x=some (some (.ref C)))
  (q:W.excIn K C [.type "ValueError",.type "Exception",.type "BaseException",.type "object"] newId=true) (Fn:ExcBaseFacts Bn newId inN bmN)
  (hBn:[Value.type "ValueError",.type "Exception",.type "BaseException",.type "object"].contains (.type Bn)=true):Gx mg h x C:=by
 refine⟨_,newId,⟨xV X G e,?_⟩,Bn,inN,bmN,_,_,_,Fn,hBn,TQ⟩;unfold W.excIn at q;split at q
 .rename_i dd cd sl ho
  split at q
  .rename_i C' bm k0 k1 k2 k3 n k5 hm hs
   simp only[vp,beq_iff_eq,Bool.not_eq_true']at q;obtain⟨⟨⟨⟨⟨rfl,rfl⟩,hdel⟩,ht⟩,hok⟩,hni⟩:=q;obtain⟨nm,bs,mro,ns,qn,hdc,sn,sub,ab,col,del⟩:=cd;dsimp only at hm hdel hok hni;subst hm;subst hdel;have hsl:sl=#[k0,k1,k2,k3,some (.builtin n),k5]:=by
    obtain⟨l⟩:=sl;simp only at hs;rw[hs]
   subst hsl;exact⟨bm,ns,nm,qn,bs,hdc,sn,sub,ab,col,dd,k0,k1,k2,k3,k5,_,X _ _ ho,.of_isNs (W.isNs_of_in X hok),W.nsMap_none_of_in X hok hni,W.tail_of_in X ht⟩
  .cases q
 .cases q
section
variable {X:Cx} {a:Expr} {ta:TE}
end
end L2
namespace L2
open PySem
theorem DC:∀ns:List Int,PyData.canLayAll0 (ns.map PyData.int)=true
 |[]=>rfl
 |n::r=>by
  have:=DC r;simp[PyData.canLayAll0,PyData.canLay0,this]
theorem Cy:∀ns:List Int,PyData.depthAll (ns.map PyData.int)<=1
 |[]=>by simp[PyData.depthAll]
 |n::r=>by
  have:=Cy r;simp[PyData.depthAll,PyData.depth];omega
def abJ(ns:List Int):SeqAt.shaped (.list (ns.map .int))=true:=by
 have h1:=DC ns;have h2:=Cy ns;simp only[SeqAt.shaped,PyData.canLay0,PyData.depth,h1,Ir];exact decide_eq_true (by omega)
def XO(ns:List Int):SeqAt.shaped (.tuple (ns.map .int))=true:=by
 have h1:=DC ns;have h2:=Cy ns;simp only[SeqAt.shaped,PyData.canLay0,PyData.depth,h1,Ir];exact decide_eq_true (by omega)
def Ux(ns ms:List Int):PyData.eqv (.list (ns.map .int)) (.list (ms.map .int))=decide (ns=ms):=by
 rw[PyData.eqv];exact W.ked_eqvAll ns ms
def VD(ns ms:List Int):PyData.eqv (.tuple (ns.map .int)) (.tuple (ms.map .int))=decide (ns=ms):=by
 rw[PyData.eqv];exact W.ked_eqvAll ns ms
def FJ{K:W.Frag}{g:Bool->Bool}{H:Hp}{a b:Addr}{ns ms:List Int}{Q:VK}(ha:aq K H a (ns.map V.int))(hb:aq K H b (ms.map V.int))(q:Q (.bl (g (decide (ns=ms)))) H):qU K g (.ref a) (.ref b) H Q:=
 .inl ⟨_,_,.lst ha (jJ.ints ns),.lst hb (jJ.ints ms),abJ ns,abJ ms,by rw[Ux];exact q⟩
def wY{K:W.Frag}{g:Bool->Bool}{H:Hp}{a b:Addr}{ns ms:List Int}{Q:VK}(ha:aC K H a (ns.map V.int))(hb:aC K H b (ms.map V.int))(q:Q (.bl (g (decide (ns=ms)))) H):qU K g (.ref a) (.ref b) H Q:=
 .inl ⟨_,_,.tup ha (jJ.ints ns),.tup hb (jJ.ints ms),XO ns,XO ms,by rw[VD];exact q⟩
end L2
set_option maxHeartbeats 4000000
namespace L2
open PySem PySem.Spec PyProof.Rows
def iG(t:Bool)(h:Heap)(it l:Addr)(i:Nat):Prop:=∃o,h.get? it=some o/\o.cls = .type (if t then "tuple_iterator" else "list_iterator")/\o.data = .fields #[.ref l,.int i 0]
def iQ(t:Bool)(h:Heap)(l:Addr)(items:Array Value):Prop:=∃o,h.get? l=some o/\o.cls = .type (if t then "tuple" else "list")/\∃n,o.data = .seq items n
def iG.at{t:Bool}{h h':Heap}{it l:Addr}{i:Nat}(x:iG t h it l i)(e:∀o,h.get? it=some o->h'.get? it=some o):iG t h' it l i:=let⟨o,ho,r⟩:=x;⟨o,e o ho,r⟩
def iQ.at{t:Bool}{h h':Heap}{l:Addr}{xs:Array Value}(x:iQ t h l xs)(e:∀o,h.get? l=some o->h'.get? l=some o):iQ t h' l xs:=let⟨o,ho,r⟩:=x;⟨o,e o ho,r⟩
section
variable {prog:Program} {w:World} {A:Around} {E:Value->Shared->Prop} {s:Shared}
def Fp{t:Bool}{it l:Addr}{i:Nat}{items:Array Value}{x:Value}{Q:Value->Shared->Prop}(h1:iG t s.heap it l i)(h2:iQ t s.heap l items)(hx:items[i]?=some x)
  (k:∀h',iG t h' it l (i+1)->Heap.SameBut it s.heap h'->Q x { s with heap:=h' }):wpAny (model prog w) A (Builtin.SmallTypes.nextOf (.ref it)) Q E s:=by
 cases t with
 |false=>exact wpAny_nextOf_list_item h1 h2 hx k
 |true=>
  obtain⟨o,ho,hc,hd⟩:=id h1;obtain⟨ol,hol,_,nl,hdl⟩:=id h2;have ty:s.TypeIs (.ref it) "tuple_iterator" := ⟨o,ho,hc⟩;unfold Builtin.SmallTypes.nextOf;refine wpAny_bind (wpAny_callSpecial?_slot (name:=Str.ofString "__next__") ty GY (wpAny_call_entry GY ty WH ?_ (adR _)));show wpAny _ _ (field (.ref it) 0>>=_) _ _ s;refine wpAny_bind (wpAny_field ho hd (x:=Value.ref l) rfl ?_);show wpAny _ _ (if(Value.ref l==Value.none)=true then _ else _) _ _ s;rw[if_neg (show ¬((Value.ref l==Value.none)=true)fromλq=>fP q)];refine wpAny_bind (wpAny_field ho hd (x:=Value.int i 0) rfl ?_);refine wpAny_bind (wpAny_seqItems hol hdl (Q:=_) ?_);simp only[hx,fW];refine wpAny_bind (wpAny_setField ho hd (by simp) (wpAny_pure ⟨x,rfl,wpAny_pure (k _ ⟨_,Heap.get?_update_self _ ho (Obj.isFreed_of_fields (Obj.data_mapFields hd _)),?_,?_⟩ (Heap.SameBut.update ..))⟩))
  .exact(Obj.cls_mapFields ..).trans hc
  .rw[Obj.data_mapFields hd];simp[rawInt]
def Sw{t:Bool}{it l:Addr}{i:Nat}{items:Array Value}{Q:Value->Shared->Prop}(hh:A.handled=none)(h1:iG t s.heap it l i)(h2:iQ t s.heap l items)(hx:items[i]?=none)
  (k:∀h' e,Heap.ExtBut it s.heap h'->(∃o,h'.get? e=some o/\o.cls = .type "StopIteration")->E (.ref e) { s with heap:=h' }):wpAny (model prog w) A (Builtin.SmallTypes.nextOf (.ref it)) Q E s:=by
 cases t with
 |false=>exact wpAny_nextOf_list_end hh h1 h2 hx k
 |true=>
  obtain⟨o,ho,hc,hd⟩:=id h1;obtain⟨ol,hol,_,nl,hdl⟩:=id h2;have ty:s.TypeIs (.ref it) "tuple_iterator" := ⟨o,ho,hc⟩;unfold Builtin.SmallTypes.nextOf;refine wpAny_bind (wpAny_callSpecial?_slot (name:=Str.ofString "__next__") ty GY (wpAny_call_entry GY ty WH ?_ (adR _)));show wpAny _ _ (field (.ref it) 0>>=_) _ _ s;refine wpAny_bind (wpAny_field ho hd (x:=Value.ref l) rfl ?_);show wpAny _ _ (if(Value.ref l==Value.none)=true then _ else _) _ _ s;rw[if_neg (show ¬((Value.ref l==Value.none)=true)fromλq=>fP q)];refine wpAny_bind (wpAny_field ho hd (x:=Value.int i 0) rfl ?_);refine wpAny_bind (wpAny_seqItems hol hdl (Q:=_) ?_);simp only[hx,fW];refine wpAny_bind (wpAny_rule (wpAny_bind (wpAny_setField ho hd (by simp) (Q:=_) ?_)));show wpAny _ _ (newExc (.type "StopIteration") []>>=_) _ _ _;refine wpAny_bind ?_;simp only[newTuple,newExc];refine wpAny_bind (wpAny_newObj_type (Q:=_) ?_ (by size_fits));refine wpAny_bind (m:=firstArgMember _ _) (wpAny_of_eq (a:=Value.none) (by first|rfl|(simp only[firstArgMember];done)) ?_)
  refine wpAny_newObj_type (Q:=_) ?_ (by size_fits);simp only[raiseNew];refine wpAny_bind (wpAny_handled (Q:=_) ?_);first|rw[hh]|rw[show A.in1.handled=Option.none from hh]
  refine wpAny_bind (wpAny_pure (wpAny_throw (k _ _ (((Heap.SameBut.update ..).extBut.push _).push _) ⟨_,Heap.get?_push_size _ rfl,rfl⟩)))
structure Apart(z TI TO i1 i2 l1 l2:Addr):Prop where
 own:[z,TI,TO,i1,i2].Nodup
 au0:l1∉[z,TI,TO,i1,i2]
 auY:l2∉[z,TI,TO,i1,i2]
def Apart.ne{z TI TO i1 i2 l1 l2:Addr}(D:Apart z TI TO i1 i2 l1 l2):
  (TI≠z/\TO≠z/\i1≠z/\i2≠z)/\(TI≠TO/\TI≠i1/\TI≠i2)/\(TO≠i1/\TO≠i2/\i1≠i2)/\(l1≠z/\l1≠TO/\l1≠i1/\l1≠i2)/\(l2≠z/\l2≠TO/\l2≠i1/\l2≠i2):=by
 obtain⟨a,b,c⟩:=D;simp only[qx,cj,gR,or_false,not_or,List.nodup_nil,and_true,not_false_eq_true]at a b c;obtain⟨⟨a1,a2,a3,a4⟩,⟨a5,a6,a7⟩,⟨a8,a9⟩,a10⟩:=a;exact⟨⟨eG a1,eG a2,eG a3,eG a4⟩,⟨a5,a6,a7⟩,⟨a8,a9,a10⟩,⟨b.1,b.2.2.1,b.2.2.2.1,b.2.2.2.2⟩,⟨c.1,c.2.2.1,c.2.2.2.1,c.2.2.2.2⟩⟩
def aqS{t1 t2:Bool}{z TI TO i1 i2 l1 l2:Addr}{k1 k2:Nat}{xs ys:Array Value}{x y a b:Value}{Q:Value->Shared->Prop}(D:Apart z TI TO i1 i2 l1 l2)
  (hz:IsZip s.heap z TI TO .none) (hI:IsPair s.heap TI (.ref i1) (.ref i2)) (hO:IsPair s.heap TO a b)
  (h1:iG t1 s.heap i1 l1 k1) (h2:iG t2 s.heap i2 l2 k2) (q1:iQ t1 s.heap l1 xs) (q2:iQ t2 s.heap l2 ys) (hx:xs[k1]?=some x) (hy:ys[k2]?=some y)
  (k:∀h',IsZip h' z TI TO (rawInt s.heap.objs.size)->IsPair h' TO x y->iG t1 h' i1 l1 (k1+1)->iG t2 h' i2 l2 (k2+1)->IsPair h' s.heap.objs.size x y->
   (∀c o,c∉[z,TO,i1,i2]->s.heap.get? c=some o->h'.get? c=some o)->Q (.ref s.heap.objs.size) { s with heap:=h' }):
  wpAny (model prog w) A (Builtin.«zip.__next__» ⟨[.ref z],[]⟩) (λfin s'=>∃v,fin = .done (.ret v)/\Q v s') E s:=by
 obtain⟨⟨BZ,uf,qG,uX⟩,⟨Rx,LY,Ur⟩,⟨Ce,Ca,Js⟩,⟨Ia,ajy,e11,e12⟩,⟨QV,Ma,LX,e22⟩⟩:=D.ne;show wpAny _ _ (field (.ref z) 2>>=_) _ _ _;refine wpAny_bind (wpAny_field hz rfl (x:=Value.bool false) rfl ?_);show wpAny _ _ (field (.ref z) 3>>=_) _ _ _;refine wpAny_bind (wpAny_field hz rfl (x:=Value.ref TI) rfl ?_);refine wpAny_bind (wpAny_seqItems hI rfl (Q:=_) ?_);show wpAny _ _ (Builtin.SmallTypes.ownedTupleIsFree (.ref z)>>=_) _ _ _;refine wpAny_bind ?_;unfold Builtin.SmallTypes.ownedTupleIsFree;refine wpAny_bind (wpAny_field hz rfl (x:=Value.none) rfl (wpAny_pure (Q:=_) ?_));simp only[if_true];refine wpAny_bind (wpAny_rule (Q:=_) ?_);refine wpAny_bind (wpAny_field hz rfl (x:=Value.ref TO) rfl ?_);refine wpAny_bind (wpAny_setField_rec hz (by simp) λg1 z1 m1=>?_);replace z1:IsZip g1 z TI TO .ellipsis:=z1;refine wpAny_bind ?_;simp only[Hu,List.forIn_nil,List.zipIdx_cons,List.zipIdx_nil];refine wpAny_bind (wpAny_bind (wpAny_onRaise (Q:=_) ?_));show wpAny _ _ (Builtin.SmallTypes.nextOf (.ref i1)>>=_) _ _ _;refine wpAny_bind (Fp (h1.at λo e=>m1.extBut _ _ qG e) (q1.at λo e=>m1.extBut _ _ Ia e) hx λg2 n2 m2=>wpAny_pure (Q:=_) ?_);have O2:IsPair g2 TO a b:=m2.extBut _ _ Ce (m1.extBut _ _ uf hO);refine wpAny_bind (wpAny_seqItems O2 rfl (Q:=_) ?_);refine wpAny_bind (wpAny_updateSeq_pair O2 λg3 O3 m3=>?_);replace O3:IsPair g3 TO x b:=O3;refine wpAny_bind (wpAny_letGo (wpAny_pure (Q:=_) ?_));refine wpAny_bind (wpAny_bind (wpAny_onRaise (Q:=_) ?_));show wpAny _ _ (Builtin.SmallTypes.nextOf (.ref i2)>>=_) _ _ _;refine wpAny_bind (Fp (h2.at λo e=>m3.extBut _ _ (eG Ca) (m2.extBut _ _ (eG Js) (m1.extBut _ _ uX e))) (q2.at λo e=>m3.extBut _ _ Ma (m2.extBut _ _ LX (m1.extBut _ _ QV e))) hy λg4 n4 m4=>wpAny_pure (Q:=_) ?_);have O4:IsPair g4 TO x b:=m4.extBut _ _ Ca O3;refine wpAny_bind (wpAny_seqItems O4 rfl (Q:=_) ?_);refine wpAny_bind (wpAny_updateSeq_pair O4 λg5 O5 m5=>?_);replace O5:IsPair g5 TO x y:=O5;refine wpAny_bind (wpAny_letGo (wpAny_pure (wpAny_pure (Q:=_) ?_)));refine wpAny_bind (wpAny_seqItems O5 rfl (Q:=_) ?_);refine wpAny_bind (wpAny_newTuple (Q:=_) ?_);have sz:g5.objs.size=s.heap.objs.size:=by rw[m5.1,m4.1,m3.1,m2.1,m1.1]
 have Z5:IsZip g5 z TI TO .ellipsis:=m5.extBut _ _ (eG uf) (m4.extBut _ _ (eG uX) (m3.extBut _ _ (eG uf) (m2.extBut _ _ (eG qG) z1)));have N1:iG t1 g5 i1 l1 (k1+1):=n2.at λo e=>m5.extBut _ _ (eG Ce) (m4.extBut _ _ Js (m3.extBut _ _ (eG Ce) e));have N2:iG t2 g5 i2 l2 (k2+1):=n4.at λo e=>m5.extBut _ _ (eG Ca) e;have K5:∀c o,c∉[z,TO,i1,i2]->s.heap.get? c=some o->g5.get? c=some o:=λc o hc e=>by
  simp only[cj,gR,or_false,not_or]at hc;obtain⟨c1,c2,c3,c4⟩:=hc;exact m5.extBut _ _ c2 (m4.extBut _ _ c4 (m3.extBut _ _ c2 (m2.extBut _ _ c3 (m1.extBut _ _ c1 e))))
 have zl:z<g5.objs.size:=Heap.lt_size Z5;show wpAny _ _ (Builtin.SmallTypes.ownedTupleHandOut (.ref z) (.ref g5.objs.size)>>=_) _ _ _;refine wpAny_bind ?_;unfold Builtin.SmallTypes.ownedTupleHandOut;have Z6:IsZip (g5.push { cls:= .type "tuple",data:= .seq #[x,y] }) z TI TO .ellipsis:=Heap.get?_push_of_some _ Z5;refine wpAny_bind (wpAny_setField_rec Z6 (by simp) λg7 Z7 m7=>?_);replace Z7:IsZip g7 z TI TO (rawInt g5.objs.size):=Z7;refine wpAny_setField_rec Z7 (by simp) λg8 Z8 m8=>?_;replace Z8:IsZip g8 z TI TO (rawInt g5.objs.size):=Z8;have up:∀c o,c≠z->g5.get? c=some o->g8.get? c=some o:=λc o c1 e=>m8.extBut _ _ c1 (m7.extBut _ _ c1 (Heap.get?_push_of_some _ e));have T8:IsPair g8 g5.objs.size x y:=m8.extBut _ _ (Ja zl) (m7.extBut _ _ (Ja zl) (Heap.get?_push_size _ rfl));rw[sz]at Z8 T8;refine wpAny_pure ⟨_,rfl,?_⟩;show Q (.ref g5.objs.size) _;rw[sz];exact k g8 Z8 (up _ _ uf O5) (N1.at λo e=>up _ o qG e) (N2.at λo e=>up _ o uX e) T8 λc o hc e=>up c o (λq=>hc (by simp[q])) (K5 c o hc e)
def aoF{t1 t2:Bool}{z TI TO i1 i2 l1 l2:Addr}{k1 k2:Nat}{xs ys:Array Value}{a b:Value}{Q:Fin->Shared->Prop}(hh:A.handled=none)(D:Apart z TI TO i1 i2 l1 l2)
  (hz:IsZip s.heap z TI TO .none) (hI:IsPair s.heap TI (.ref i1) (.ref i2)) (hO:IsPair s.heap TO a b)
  (h1:iG t1 s.heap i1 l1 k1) (h2:iG t2 s.heap i2 l2 k2) (q1:iQ t1 s.heap l1 xs) (q2:iQ t2 s.heap l2 ys) (he:ys[k2]?=none∨xs[k1]?=none)
  (k:∀h' e,(∀c o,c∉[z,TO,i1,i2]->s.heap.get? c=some o->h'.get? c=some o)->(∃o,h'.get? e=some o/\o.cls = .type "StopIteration")->E (.ref e) { s with heap:=h' }):
  wpAny (model prog w) A (Builtin.«zip.__next__» ⟨[.ref z],[]⟩) Q E s:=by
 obtain⟨⟨BZ,uf,qG,uX⟩,⟨Rx,LY,Ur⟩,⟨Ce,Ca,Js⟩,⟨Ia,ajy,e11,e12⟩,⟨QV,Ma,LX,e22⟩⟩:=D.ne;have far:∀{c:Addr},c∉[z,TO,i1,i2]->c≠z/\c≠TO/\c≠i1/\c≠i2:=λhc=>by simpa only[cj,gR,or_false,not_or]using hc
 show wpAny _ _ (field (.ref z) 2>>=_) _ _ _;refine wpAny_bind (wpAny_field hz rfl (x:=Value.bool false) rfl ?_);show wpAny _ _ (field (.ref z) 3>>=_) _ _ _;refine wpAny_bind (wpAny_field hz rfl (x:=Value.ref TI) rfl ?_);refine wpAny_bind (wpAny_seqItems hI rfl (Q:=_) ?_);show wpAny _ _ (Builtin.SmallTypes.ownedTupleIsFree (.ref z)>>=_) _ _ _;refine wpAny_bind ?_;unfold Builtin.SmallTypes.ownedTupleIsFree;refine wpAny_bind (wpAny_field hz rfl (x:=Value.none) rfl (wpAny_pure (Q:=_) ?_));simp only[if_true];refine wpAny_bind (wpAny_rule (Q:=_) ?_);refine wpAny_bind (wpAny_field hz rfl (x:=Value.ref TO) rfl ?_);refine wpAny_bind (wpAny_setField_rec hz (by simp) λg1 z1 m1=>?_);replace z1:IsZip g1 z TI TO .ellipsis:=z1;refine wpAny_bind ?_;simp only[Hu,List.forIn_nil,List.zipIdx_cons,List.zipIdx_nil];refine wpAny_bind (wpAny_bind (wpAny_onRaise (Q:=_) ?_));show wpAny _ _ (Builtin.SmallTypes.nextOf (.ref i1)>>=_) _ _ _;cases hx:xs[k1]? with
 |none=>
  refine wpAny_bind (Sw hh (h1.at λo e=>m1.extBut _ _ qG e) (q1.at λo e=>m1.extBut _ _ Ia e) hx λg2 e m2 ⟨u,hu,cu⟩=>?_);have z2:IsZip g2 z TI TO .ellipsis:=m2 _ _ (eG qG) z1;have ez:e≠z:=λq=>by subst q;rw[z2]at hu;cases hu;simp at cu
  exact wpAny_setField_rec z2 (by simp) λg3 _ m3=>k g3 e (λc o hc q=>let⟨c1,_,c3,_⟩:=far hc;m3.extBut _ _ c1 (m2 _ _ c3 (m1.extBut _ _ c1 q))) ⟨u,m3.extBut _ _ ez hu,cu⟩
 |some x=>
  have hy:ys[k2]?=none:=he.elim id λq=>by rw[hx]at q;cases q
  refine wpAny_bind (Fp (h1.at λo e=>m1.extBut _ _ qG e) (q1.at λo e=>m1.extBut _ _ Ia e) hx λg2 n2 m2=>wpAny_pure (Q:=_) ?_);have O2:IsPair g2 TO a b:=m2.extBut _ _ Ce (m1.extBut _ _ uf hO);refine wpAny_bind (wpAny_seqItems O2 rfl (Q:=_) ?_);refine wpAny_bind (wpAny_updateSeq_pair O2 λg3 O3 m3=>?_);refine wpAny_bind (wpAny_letGo (wpAny_pure (Q:=_) ?_));refine wpAny_bind (wpAny_bind (wpAny_onRaise (Q:=_) ?_));show wpAny _ _ (Builtin.SmallTypes.nextOf (.ref i2)>>=_) _ _ _;refine wpAny_bind (Sw hh (h2.at λo e=>m3.extBut _ _ (eG Ca) (m2.extBut _ _ (eG Js) (m1.extBut _ _ uX e))) (q2.at λo e=>m3.extBut _ _ Ma (m2.extBut _ _ LX (m1.extBut _ _ QV e))) hy λg4 e m4 ⟨u,hu,cu⟩=>?_);have z4:IsZip g4 z TI TO .ellipsis:=m4 _ _ (eG uX) (m3.extBut _ _ (eG uf) (m2.extBut _ _ (eG qG) z1));have ez:e≠z:=λq=>by subst q;rw[z4]at hu;cases hu;simp at cu
  exact wpAny_setField_rec z4 (by simp) λg5 _ m5=>k g5 e (λc o hc q=>let⟨c1,c2,c3,c4⟩:=far hc;m5.extBut _ _ c1 (m4 _ _ c4 (m3.extBut _ _ c2 (m2.extBut _ _ c3 (m1.extBut _ _ c1 q))))) ⟨u,m5.extBut _ _ ez hu,cu⟩
structure Bh(t1 t2:Bool)(z TI TO i1 i2 l1 l2:Addr)(i:Nat)(h:Heap)(f0:Value):Prop where
 zz:IsZip h z TI TO f0
 ti:IsPair h TI (.ref i1) (.ref i2)
 to:∃a b,IsPair h TO a b
 w1:iG t1 h i1 l1 i
 w2:iG t2 h i2 l2 i
def ai7{t1 t2:Bool}{z TI TO i1 i2 l1 l2:Addr}{i:Nat}{xs ys:Array Value}{x y:Value}{Q:Option Value->Shared->Prop}(D:Apart z TI TO i1 i2 l1 l2)(Z:Bh t1 t2 z TI TO i1 i2 l1 l2 i s.heap .none)
  (q1:iQ t1 s.heap l1 xs) (q2:iQ t2 s.heap l2 ys) (hx:xs[i]?=some x) (hy:ys[i]?=some y)
  (k:∀h',Bh t1 t2 z TI TO i1 i2 l1 l2 (i+1) h' (rawInt s.heap.objs.size)->IsPair h' s.heap.objs.size x y->(∀c o,c∉[z,TO,i1,i2]->s.heap.get? c=some o->h'.get? c=some o)->Q (some (.ref s.heap.objs.size)) { s with heap:=h' }):
  wpAny (model prog w) A (pyNext (.ref z)) Q E s:=by
 obtain⟨zz,ti,⟨a,b,to⟩,w1,w2⟩:=Z;have ty:s.TypeIs (.ref z) "zip" := ⟨_,zz,rfl⟩;obtain⟨⟨BZ,_,_,_⟩,⟨Rx,LY,Ur⟩,_⟩:=D.ne;unfold pyNext;refine wpAny_bind (wpAny_attempt (wpAny_callSpecial?_slot (name:=Str.ofString "__next__") ty Fj (wpAny_call_entry Fj ty F.entry_zip_next ?_ (F.args_zip_next_1 _))));exact aqS D zz ti to w1 w2 q1 q2 hx hy λh' b1 b2 b3 b4 b5 b6=>wpAny_pure (k h' ⟨b1,b6 _ _ (by simp[BZ,Rx,LY,Ur]) ti,⟨_,_,b2⟩,b3,b4⟩ b5 b6)
def amL{t1 t2:Bool}{z TI TO i1 i2 l1 l2:Addr}{i:Nat}{xs ys:Array Value}{Q:Option Value->Shared->Prop}(hh:A.handled=none)(D:Apart z TI TO i1 i2 l1 l2)(Z:Bh t1 t2 z TI TO i1 i2 l1 l2 i s.heap .none)
  (q1:iQ t1 s.heap l1 xs) (q2:iQ t2 s.heap l2 ys) (he:ys[i]?=none∨xs[i]?=none)
  (k:∀h',(∀c o,c∉[z,TO,i1,i2]->s.heap.get? c=some o->h'.get? c=some o)->Q none { s with heap:=h' }):wpAny (model prog w) A (pyNext (.ref z)) Q E s:=by
 obtain⟨zz,ti,⟨a,b,to⟩,w1,w2⟩:=Z;have ty:s.TypeIs (.ref z) "zip" := ⟨_,zz,rfl⟩;unfold pyNext;refine wpAny_bind (wpAny_attempt (wpAny_callSpecial?_slot (name:=Str.ofString "__next__") ty Fj (wpAny_call_entry Fj ty F.entry_zip_next ?_ (F.args_zip_next_1 _))));refine aoF hh D zz ti to w1 w2 q1 q2 he λh' e b1 ⟨u,hu,cu⟩=>?_;exact wpAny_bind (wpAny_isInstance (T:= "StopIteration") (b:=true) ⟨u,hu,cu⟩ isSubtype_stop (wpAny_pure (k _ b1)))
abbrev zA(t1:Bool)(h:Heap)(l1:Addr):Heap:=h.push { cls:= .type (if t1 then "tuple_iterator" else "list_iterator"),data:= .fields #[.ref l1,.int 0 0] }
abbrev zB(t1 t2:Bool)(h:Heap)(l1 l2:Addr):Heap:=zA t2 (zA t1 h l1) l2
abbrev zC(t1 t2:Bool)(h:Heap)(l1 l2:Addr):Heap:=(zB t1 t2 h l1 l2).push { cls:= .type "tuple",data:= .seq #[.ref h.objs.size,.ref (zA t1 h l1).objs.size] }
abbrev zD(t1 t2:Bool)(h:Heap)(l1 l2:Addr):Heap:=(zC t1 t2 h l1 l2).push { cls:= .type "tuple",data:= .seq #[.none,.none] }
abbrev zE(t1 t2:Bool)(h:Heap)(l1 l2:Addr):Heap:=(zD t1 t2 h l1 l2).push { cls:= .type "zip",data:= .fields #[.none,.bool false,.bool false,.ref (zB t1 t2 h l1 l2).objs.size,.ref (zC t1 t2 h l1 l2).objs.size] }
def ahN(l1 l2:Addr)(xs ys:Array Value):
  Meets (Builtin.«zip.__new__» ⟨[.type "zip",.ref l1,.ref l2],[]⟩) (λ_ R s=>s.heap.IsList l1 xs/\s.heap.IsList l2 ys/\
   R (.ok (.ret (.ref (zD false false s.heap l1 l2).objs.size))) { s with heap:=zE false false s.heap l1 l2 }):=
 .of_wp λprog w A R s h=>by
  obtain⟨hp,g,d,tk,os⟩:=s;obtain⟨m1,m2,h⟩:=h;have sub:=sub_zip;have c1:Heap.IsList (Shared.heap ⟨hp,g,d,tk,os⟩) l1 xs:=m1;have c2:Heap.IsList (Shared.heap ⟨hp.push { cls:= .type "list_iterator",data:= .fields #[.ref l1,.int 0 0] },g,d,tk,os⟩) l2 ys:=by
   obtain⟨o,ho,r⟩:=m2;exact⟨o,Heap.get?_push_of_some _ ho,r⟩
  wp_walk using wpAny_pyIter_list c1,wpAny_pyIter_list c2
  exact⟨_,rfl,h⟩
def an1(l1 l2:Addr)(xs ys:Array Value):
  Meets (Builtin.«zip.__new__» ⟨[.type "zip",.ref l1,.ref l2],[]⟩) (λ_ R s=>s.heap.IsList l1 xs/\s.heap.IsTuple l2 ys/\
   R (.ok (.ret (.ref (zD false true s.heap l1 l2).objs.size))) { s with heap:=zE false true s.heap l1 l2 }):=
 .of_wp λprog w A R s h=>by
  obtain⟨hp,g,d,tk,os⟩:=s;obtain⟨m1,m2,h⟩:=h;have sub:=sub_zip;have c1:Heap.IsList (Shared.heap ⟨hp,g,d,tk,os⟩) l1 xs:=m1;have c2:Heap.IsTuple (Shared.heap ⟨hp.push { cls:= .type "list_iterator",data:= .fields #[.ref l1,.int 0 0] },g,d,tk,os⟩) l2 ys:=by
   obtain⟨o,ho,r⟩:=m2;exact⟨o,Heap.get?_push_of_some _ ho,r⟩
  wp_walk using wpAny_pyIter_list c1,wpAny_pyIter_tuple c2
  exact⟨_,rfl,h⟩
def aoA(l1 l2:Addr)(xs ys:Array Value):
  Meets (Builtin.«zip.__new__» ⟨[.type "zip",.ref l1,.ref l2],[]⟩) (λ_ R s=>s.heap.IsTuple l1 xs/\s.heap.IsList l2 ys/\
   R (.ok (.ret (.ref (zD true false s.heap l1 l2).objs.size))) { s with heap:=zE true false s.heap l1 l2 }):=
 .of_wp λprog w A R s h=>by
  obtain⟨hp,g,d,tk,os⟩:=s;obtain⟨m1,m2,h⟩:=h;have sub:=sub_zip;have c1:Heap.IsTuple (Shared.heap ⟨hp,g,d,tk,os⟩) l1 xs:=m1;have c2:Heap.IsList (Shared.heap ⟨hp.push { cls:= .type "tuple_iterator",data:= .fields #[.ref l1,.int 0 0] },g,d,tk,os⟩) l2 ys:=by
   obtain⟨o,ho,r⟩:=m2;exact⟨o,Heap.get?_push_of_some _ ho,r⟩
  wp_walk using wpAny_pyIter_tuple c1,wpAny_pyIter_list c2
  exact⟨_,rfl,h⟩
def aqn(l1 l2:Addr)(xs ys:Array Value):
  Meets (Builtin.«zip.__new__» ⟨[.type "zip",.ref l1,.ref l2],[]⟩) (λ_ R s=>s.heap.IsTuple l1 xs/\s.heap.IsTuple l2 ys/\
   R (.ok (.ret (.ref (zD true true s.heap l1 l2).objs.size))) { s with heap:=zE true true s.heap l1 l2 }):=
 .of_wp λprog w A R s h=>by
  obtain⟨hp,g,d,tk,os⟩:=s;obtain⟨m1,m2,h⟩:=h;have sub:=sub_zip;have c1:Heap.IsTuple (Shared.heap ⟨hp,g,d,tk,os⟩) l1 xs:=m1;have c2:Heap.IsTuple (Shared.heap ⟨hp.push { cls:= .type "tuple_iterator",data:= .fields #[.ref l1,.int 0 0] },g,d,tk,os⟩) l2 ys:=by
   obtain⟨o,ho,r⟩:=m2;exact⟨o,Heap.get?_push_of_some _ ho,r⟩
  wp_walk using wpAny_pyIter_tuple c1,wpAny_pyIter_tuple c2
  exact⟨_,rfl,h⟩
def agG(t1 t2:Bool)(l1 l2:Addr)(xs ys:Array Value):
  Meets (Builtin.«zip.__new__» ⟨[.type "zip",.ref l1,.ref l2],[]⟩) (λ_ R s=>iQ t1 s.heap l1 xs/\iQ t2 s.heap l2 ys/\
   R (.ok (.ret (.ref (zD t1 t2 s.heap l1 l2).objs.size))) { s with heap:=zE t1 t2 s.heap l1 l2 }):=
 match t1,t2 with
 |false,false=>ahN l1 l2 xs ys
 |false,true=>an1 l1 l2 xs ys
 |true,false=>aoA l1 l2 xs ys
 |true,true=>aqn l1 l2 xs ys
def atq{t1 t2:Bool}{l1 l2:Addr}{xs ys:Array Value}{Q:Value->Shared->Prop}(m1:iQ t1 s.heap l1 xs)(m2:iQ t2 s.heap l2 ys)
  (k:∀h',Bh t1 t2 (s.heap.objs.size+4) (s.heap.objs.size+2) (s.heap.objs.size+3) s.heap.objs.size (s.heap.objs.size+1) l1 l2 0 h' .none->
   (∀c o,s.heap.get? c=some o->h'.get? c=some o)->Q (.ref (s.heap.objs.size+4)) { s with heap:=h' }):
  wpAny (model prog w) A (call (.type "zip") [.ref l1,.ref l2]) Q E s:=by
 refine callType_new F.called_zip (by decide) (F.typeCall_zip_2 _ _) (F.newCall_zip_2 _ _) (λobj=>F.args_object_init_3 obj _ _) F.entry_zip_new (agG t1 t2 l1 l2 xs ys) ⟨m1,m2,?_⟩;have y1:(zA t1 s.heap l1).objs.size=s.heap.objs.size+1:=Heap.size_push ..;have y2:(zB t1 t2 s.heap l1 l2).objs.size=s.heap.objs.size+2:=by rw[Heap.size_push,y1]
 have y3:(zC t1 t2 s.heap l1 l2).objs.size=s.heap.objs.size+3:=by rw[Heap.size_push,y2]
 have y4:(zD t1 t2 s.heap l1 l2).objs.size=s.heap.objs.size+4:=by rw[Heap.size_push,y3]
 have up:∀{h:Heap} {o1:Obj} {c:Addr} {o:Obj},h.get? c=some o->(h.push o1).get? c=some o:=λe=>Heap.get?_push_of_some _ e;have o5:(zE t1 t2 s.heap l1 l2).get? (zD t1 t2 s.heap l1 l2).objs.size=some _:=Heap.get?_push_size _ rfl;have o4:(zE t1 t2 s.heap l1 l2).get? (zC t1 t2 s.heap l1 l2).objs.size=some _:=up (Heap.get?_push_size _ rfl);have o3:(zE t1 t2 s.heap l1 l2).get? (zB t1 t2 s.heap l1 l2).objs.size=some _:=up (up (Heap.get?_push_size _ rfl));have o2:(zE t1 t2 s.heap l1 l2).get? (zA t1 s.heap l1).objs.size=some _:=up (up (up (Heap.get?_push_size _ rfl)));have o1:(zE t1 t2 s.heap l1 l2).get? s.heap.objs.size=some _:=up (up (up (up (Heap.get?_push_size _ rfl))));show _/\_;rw[y2,y3,y4]at o5;rw[y3]at o4;rw[y1,y2]at o3;rw[y1]at o2;rw[y4];exact⟨⟨_,o5,rfl⟩,k _ ⟨o5,o3,⟨_,_,o4⟩,⟨_,o1,rfl,rfl⟩,⟨_,o2,rfl,rfl⟩⟩ λc o e=>up (up (up (up (up e))))⟩
end
section
variable {X:Cx} {pins:List (Addr×Obj)} {σ:St} {H:Hp} {s:Shared} {h':Heap}
def Inv.GX{t':Nat}{ch:List Addr}(I:Inv X pins σ H s)(hf:∀b∈ch,oh X pins H b)(k:∀b o,b∉ch->s.heap.get? b=some o->h'.get? b=some o):Inv X pins σ H { s with heap:=h',toks:=t' }:=by
 have far:∀b u,H b=some u->b∉ch:=λb u e z=>by rw[(hf b z).1]at e;cases e
 refine I.step (g':=s.gens) (d':=s.drawn) (ch:=ch) (λb hb=>?_) (λb o _ _ hc e _=>k b o hc e) (λb o _ _ hc e _=>⟨o.slots,k b o hc e⟩) (λ_ _ _ _ n=>n)
  (λb o hc e=>⟨o,k b o hc e⟩) (λ_ _ e=>e) (λ_ _ _ e=>e) (λb ps e=>⟨#[],by rw[e];simp⟩) (λm hm=>?_) (λb u e=>?_) I.bare
 .obtain⟨_,f1,_,f3,f4,f5⟩:=hf b hb;exact⟨f3,f1,f4,f5⟩
 .obtain⟨o,es,ep,ho,r⟩:=hm;exact⟨o,es,ep,k _ o (λz=>(hf _ z).2.1 rfl) ho,r⟩
 .refine(I.hok b u e).stay (λc v hc q=>k c v ?_ q) (λ_ q=>q) λ_ _ q=>q;rcases hc with z|z
  .rw[z];exact far b u e
  .exact far c _ z
def Inv.adopt{p:Addr}{o:HO}(I:Inv X pins σ H s)(f:oh X pins H p)(new:iD X.prog X.w (upd H p o) s.heap p o):Inv X pins σ (upd H p o) s:=by
 obtain⟨f0,f1,_,f3,f4,f5⟩:=f;refine I.step (g':=s.gens) (d':=s.drawn) (t':=s.toks) (h':=s.heap) (ch:=[p]) (λb hb=>?_) (λb o _ _ hc e _=>e) (λb o _ _ hc e _=>⟨o.slots,e⟩) (λb _ hc _ n=>?_)
  (λb o hc e=>⟨o,e⟩) (λb xs e=>?_) (λb xs _ e=>?_) (λb ps e=>⟨#[],?_⟩) (λm hm=>hm) (λb u e=>?_) I.bare
 .have e:b=p:=by simpa using hb
  subst e;exact⟨f3,f1,f4,f5⟩
 .rw[cC λz=>hc (by simp[z])];exact n
 .rw[cC (ju e f0)];exact e
 .rw[cC (ju e f0)];exact e
 .rw[cC (ju e f0),e];simp
 .by_cases hb:b=p
  .subst hb;rw[aA]at e;cases e;exact new
  .rw[cC hb]at e;exact(I.hok b u e).stay (λc v _ q=>q) (λc q=>by rw[cC (ju q f0)];exact q) λc xs q=>by rw[cC (ju q f0)];exact q
def iK(K:W.Frag)(t:Bool)(H:Hp)(a:Addr)(xs:List V):Prop:=match t with
 |true=>aC K H a xs
 |false=>aq K H a xs
def Inv.ji{t:Bool}{a:Addr}{xs:List V}(I:Inv X pins σ H s)(q:iK X.K t H a xs):∃its:List Value,Vals xs its/\iQ t s.heap a its.toArray/\xs.length<=sizeLine:=by
 cases t with
 |false=>obtain⟨its,r,p,z⟩:=I.list q;exact⟨its,r,p.isList,z⟩
 |true=>obtain⟨its,r,p,z⟩:=I.tuple q;exact⟨its,r,p,z⟩
def Inv.Qe{t:Bool}{a:Addr}{xs ys:List V}(I:Inv X pins σ H s)(q:iK X.K t H a xs)(q':iK X.K t H a ys):xs=ys:=by
 cases t with
 |false=>exact I.K4 q q'
 |true=>exact I.aa0 q q'
def Same.ji{K:W.Frag}{t:Bool}{H H':Hp}{a:Addr}{xs:List V}(g:Same H H')(q:iK K t H a xs):iK K t H' a xs:=by
 cases t with
 |false=>exact g.seq q
 |true=>exact g.G4 q
def Us(K:W.Frag)(t1 t2:Bool)(a b:Addr):It:=
 ⟨λi H=>∃xs ys x y,iK K t1 H a xs/\iK K t2 H b ys/\xs[i]?=some x/\ys[i]?=some y,
 λi H v H'=>∃p x y,v = .ref p/\H p=none/\H'=upd H p (.tup [x,y])/\(∀xs,iK K t1 H a xs->xs[i]?=some x)/\∀ys,iK K t2 H b ys->ys[i]?=some y,
 λi H=>∃xs ys,iK K t1 H a xs/\iK K t2 H b ys/\(ys.length<=i∨xs.length<=i)⟩
def ahi{P:Program}{w:World}{K:W.Frag}{es:List Expr}{x1:Nat}{pos:Pos}{t1 t2:Bool}{z TI TO i1 i2 a b:Addr}(D:Apart z TI TO i1 i2 a b):
  Turn P w K (.Tuple es x1 pos) (Us K t1 t2 a b) [z,TI,TO,i1,i2] z (λi h=>Bh t1 t2 z TI TO i1 i2 a b i h .none) where
 mem:=by simp
 obj:=λi h Z c hc=>by
  obtain⟨zz,ti,⟨u,v,to⟩,⟨o1,h1,_,d1⟩,⟨o2,h2,_,d2⟩⟩:=Z;simp only[cj,gR,or_false]at hc;rcases hc with rfl|rfl|rfl|rfl|rfl
  .exact⟨_,zz,λv q=>by cases q⟩
  .exact⟨_,ti,λv q=>by cases q⟩
  .exact⟨_,to,λv q=>by cases q⟩
  .exact⟨_,h1,λv q=>by rw[d1]at q;cases q⟩
  .exact⟨_,h2,λv q=>by rw[d2]at q;cases q⟩
 keep:=λi h h' Z k=>by
  obtain⟨zz,ti,⟨u,v,to⟩,w1,w2⟩:=Z;exact⟨k _ (by simp) _ zz,k _ (by simp) _ ti,⟨u,v,k _ (by simp) _ to⟩,w1.at λo e=>k _ (by simp) o e,w2.at λo e=>k _ (by simp) o e⟩
 item:=by
  intro X hP hw hK hc i pins s σ H E I hf Z hg;subst hP hw hK;obtain⟨xs,ys,x,y,hq1,hq2,hx,hy⟩:=hg;obtain⟨Xz,r1,p1,_⟩:=I.ji hq1;obtain⟨its2,r2,p2,_⟩:=I.ji hq2;obtain⟨u1,hu1,ru1⟩:=r1.get hx;obtain⟨u2,hu2,ru2⟩:=r2.get hy;refine ai7 D Z p1 p2 (x:=u1) (y:=u2) (by simpa using hu1) (by simpa using hu2) λg Z1 T1 k1=>⟨_,rfl,?_⟩;have zl:z≠s.heap.objs.size:=kZ (Heap.lt_size Z.zz);obtain⟨zz,ti,⟨v1,v2,to⟩,w1,w2⟩:=Z1;obtain⟨⟨BZ,uf,qG,uX⟩,_⟩:=D.ne;refine wpAny_letOwnedTupleGo_zip zz λg' zz' m'=>?_;have T2:IsPair g' s.heap.objs.size u1 u2:=m'.extBut _ _ (eG zl) T1;have I1:Inv X pins σ H { s with heap:=g' }:=I.GX (t':=s.toks) (ch:=[z,TI,TO,i1,i2]) hf λc o hc e=>
   m'.extBut _ _ (λq=>hc (by simp[q])) (k1 c o (λq=>hc (by
    simp only[cj,gR,or_false]at q⊢;rcases q with q|q|q|q<;>simp[q])) e)
  have I2:Inv X pins σ (upd H s.heap.objs.size (.tup [x,y])) { s with heap:=g' }:=I1.adopt (I.ou (aN _) I.fresh)
   ⟨by simp[sizeLine],[u1,u2],.cons ru1 (.cons ru2 .nil),⟨_,T2,rfl,_,rfl⟩⟩
  refine⟨.ref s.heap.objs.size,_,I2,rfl,⟨_,x,y,rfl,I.fresh,rfl,λxs' q=>by rw[I.Qe q hq1];exact hx,λys' q=>by rw[I.Qe q hq2];exact hy⟩,
   ⟨zz',m'.extBut _ _ BZ ti,⟨v1,v2,m'.extBut _ _ uf to⟩,w1.at λo e=>m'.extBut _ _ qG e,w2.at λo e=>m'.extBut _ _ uX e⟩,λc hc=>?_⟩
  rw[cC]
  .exact(hf c hc).1
  .intro q;obtain⟨o,ho,_⟩:∃o,s.heap.get? c=some o/\True:=by
    obtain⟨zz,ti,⟨u,v,to⟩,⟨o1,h1,_,d1⟩,⟨o2,h2,_,d2⟩⟩:=Z;simp only[cj,gR,or_false]at hc;rcases hc with rfl|rfl|rfl|rfl|rfl
    .exact⟨_,zz,trivial⟩
    .exact⟨_,ti,trivial⟩
    .exact⟨_,to,trivial⟩
    .exact⟨_,h1,trivial⟩
    .exact⟨_,h2,trivial⟩
   exact absurd (Heap.lt_size ho) (by rw[q];exact jK _)
 done:=by
  intro X hP hw hK hc i pins s σ H E I hf Z hg;subst hP hw hK;obtain⟨xs,ys,hq1,hq2,hend⟩:=hg;obtain⟨Xz,r1,p1,_⟩:=I.ji hq1;obtain⟨its2,r2,p2,_⟩:=I.ji hq2;have n1:=r1.length;have n2:=r2.length;refine amL (I.ok.hd hc) D Z p1 p2 (hend.imp (λq=>by simp;omega) (λq=>by simp;omega)) λg k1=>⟨rfl,I.GX (t':=s.toks) (ch:=[z,TI,TO,i1,i2]) hf λc o hc e=>k1 c o (λq=>hc (by
    simp only[cj,gR,or_false]at q⊢;rcases q with q|q|q|q<;>simp[q])) e⟩
 self:=λ_ _ _ _ _ Z h=>wpAny_pyIter_zip Z.zz h
def amd(K:W.Frag)(ta:TA):TI:=λσ H R=>ta σ H λvs H1=>∃t1 t2 a b xs ys,vs=[.ref a,.ref b]/\iK K t1 H1 a xs/\iK K t2 H1 b ys/\R (Us K t1 t2 a b) H1
def afP(K:W.Frag){e1 e2:Expr}{es:List Expr}{x1:Nat}{pos':Pos}{ta:TA}{p pos:Pos}(hg:Gl X "zip")(hm:X.mg "zip" = none)(ha:PA X [e1,e2] ta)(hK:X.K=K:=by rfl)
  (hs:starEach [e1,e2] X.env=[(false,eval e1 X.env),(false,eval e2 X.env)]:=by rfl) (hs2:starEach [e2] X.env=[(false,eval e2 X.env)]:=by rfl):
  PI X (.Tuple es x1 pos') (.Call (.Name "zip" p) [e1,e2] [] pos) (amd K ta):=by
 subst hK;intro pins s σ H R I h;refine Call_ (qg I hg hm boot_zip (uE (bf (ha pos pins s σ H _ I h) λus s1 ⟨vs,H1,I1,r1,q1⟩=>?_) (by rw[hs,hs2]) (by rw[hs2];rfl)));obtain⟨t1,t2,a,b,xs,ys,e,hq1,hq2,q⟩:=q1;subst e;cases r1 with
 |cons r rr=>
  cases rr with
  |cons r' rr=>
   cases rr;cases r;cases r';obtain⟨Xz,v1,p1,_⟩:=I1.ji hq1;obtain⟨its2,v2,p2,_⟩:=I1.ji hq2;refine atq p1 p2 λh' Z k=>?_;have I2:Inv X pins σ H1 { s1 with heap:=h' }:=I1.kept (t':=s1.toks) k;have lt1:a<s1.heap.objs.size:=by obtain⟨o,ho,_⟩:=p1;exact Heap.lt_size ho
   have Wf:b<s1.heap.objs.size:=by obtain⟨o,ho,_⟩:=p2;exact Heap.lt_size ho
   have D:Apart (s1.heap.objs.size+4) (s1.heap.objs.size+2) (s1.heap.objs.size+3) s1.heap.objs.size (s1.heap.objs.size+1) a b:=by
    have bad:∀{c:Addr} (n:Nat),c<s1.heap.objs.size->c≠s1.heap.objs.size+n:=λn h q=>absurd (jd h (yX _ n)) (by rw[q];exact jK _);exact⟨by simp,by simp[bad _ lt1,show a≠s1.heap.objs.size from bad 0 lt1],by simp[bad _ Wf,show b≠s1.heap.objs.size from bad 0 Wf]⟩
   refine wpAny_pyIter_zip Z.zz ⟨_,_,_,_,H1,rfl,I2,ahi D,Z,λc hc=>?_,q⟩;have hc':s1.heap.objs.size<=c:=by
    simp only[cj,gR,or_false]at hc;rcases hc with rfl|rfl|rfl|rfl|rfl
    .exact yX _ _
    .exact yX _ _
    .exact yX _ _
    .exact aN _
    .exact yX _ _
   exact I1.ou hc' (I1.hok.fresh hc')
def aod{K:W.Frag}{t1 t2:Bool}{a b:Addr}{xs ys:List V}{ix:List (Option Nat)}{te:TE}{σ:St}{H1:Hp}{Q:VK}(q1:iK K t1 H1 a xs)(q2:iK K t2 H1 b ys)(hz:xs.length<=sizeLine){rest:St}(hst:cst ix σ=none::none::rest)(F:V->V->V)
  (he:∀(H':Hp) (i:Nat) (x y:V),Same H1 H'->xs[i]?=some x->ys[i]?=some y->∀k:VK,k (F x y) H'->te (some x::some y::rest) H' k)
  (hQ:∀D H',H1 D=none->Same H1 H'->H' D=some (.lst (List.zipWith F xs ys))->Q (.ref D) H'):
  jL ix (yx K 2 (su (gU 0) (su (gU 1) Dc))) lF te σ Q (Us K t1 t2 a b) H1:=by
 constructor;intro D hD;refine⟨λi m σ' H'=>m=xs.length-i/\i<=min xs.length ys.length/\(∃o o',σ'=o::o'::rest)/\Same H1 H'/\H' D=some (.lst ((List.zipWith F xs ys).take i)),⟨xs.length,by simp,cJ _,⟨none,none,hst⟩,Same.new hD _,by rw[aA];simp⟩,?_⟩;rintro i m σ' H' ⟨rfl,hi,⟨o,o',rfl⟩,g,hl⟩;by_cases hlt:i<xs.length/\i<ys.length
 .have hx:xs[i]?=some xs[i]:=eY hlt.1;have hy:ys[i]?=some ys[i]:=eY hlt.2;refine .inr ⟨⟨xs,ys,_,_,g.ji q1,g.ji q2,hx,hy⟩,?_⟩;rintro v H2 ⟨p,x,y,rfl,hp,rfl,y1,y2⟩;have ex:=y1 xs (g.ji q1);have ey:=y2 ys (g.ji q2);have g2:Same H' (upd H' p (.tup [x,y])):=Same.new hp _;have pD:D≠p:=λq=>by rw[q,hp]at hl;cases hl
  refine⟨p,[x,y],rfl,.inl (.inl aA),rfl,x,[y],rfl,y,[],rfl,rfl,?_⟩;change te (some x::some y::rest) (upd H' p (.tup [x,y])) _;refine he _ i x y (g.trans g2) ex ey _ ⟨_,g2 _ _ hl,?_,xs.length-(i+1),by omega,rfl,by omega,⟨_,_,rfl⟩,?_,?_⟩
  .rw[jl];omega
  .exact Same.upd (g.trans g2) hD _
  .rw[aA,qO];have e:(List.zipWith F xs ys)[i]?=some (F x y):=by rw[U5,ex,ey]
   rw[e];rfl
 .refine .inl ⟨⟨xs,ys,g.ji q1,g.ji q2,by omega⟩,hQ D H' hD g ?_⟩;rw[hl,pO];rw[aaC];omega
end
def aoB:bootBuiltins "enumerate" = some (.type "enumerate"):=by decide +kernel
section
variable {prog:Program} {w:World} {A:Around} {E:Value->Shared->Prop} {s:Shared}
def ahQ{t:Bool}{e it l:Addr}{i:Nat}{items:Array Value}{x old:Value}{Q:Option Value->Shared->Prop}(he:IsEnum s.heap e it i old)(h1:iG t s.heap it l i)(h2:iQ t s.heap l items)(hx:items[i]?=some x)(hne:e≠it)
  (k:∀h',IsEnumOut h' e it ((i:Int)+1) x s.heap.objs.size->iG t h' it l (i+1)->h'.get? s.heap.objs.size=some { cls:= .type "tuple",data:= .seq #[.int i s.toks,x] }->
   (∀b o,b∉[e,it]->s.heap.get? b=some o->h'.get? b=some o)->Q (some (.ref s.heap.objs.size)) { s with heap:=h',toks:=s.toks+1 }):wpAny (model prog w) A (pyNext (.ref e)) Q E s:=by
 have ty:s.TypeIs (.ref e) "enumerate" := ⟨_,he,rfl⟩;unfold pyNext;refine wpAny_bind (wpAny_attempt (wpAny_callSpecial?_slot (name:=Str.ofString "__next__") ty JY (wpAny_call_entry JY ty F.entry_enumerate_next ?_ (F.args_enumerate_next_1 _))));obtain⟨hp,g,d,tk,os⟩:=s;have el:e<hp.objs.size:=Heap.lt_size he;show wpAny _ _ (field (.ref e) 2>>=_) _ _ _;refine wpAny_bind (wpAny_field he rfl (x:=Value.ref it) rfl ?_);refine wpAny_bind (Fp h1 h2 hx λg1 n1 m1=>?_);replace m1:Heap.SameBut it hp g1:=m1;have e1:IsEnum g1 e it i old:=m1.extBut _ _ hne he;show wpAny _ _ (field (.ref e) 3>>=_) _ _ ⟨g1,g,d,tk,os⟩;refine wpAny_bind (wpAny_field e1 rfl (x:=rawInt i) rfl ?_);show wpAny _ _ (field (.ref e) 4>>=_) _ _ ⟨g1,g,d,tk,os⟩;refine wpAny_bind (wpAny_field e1 rfl (x:=Value.none) rfl ?_);show wpAny _ _ (mkInt i>>=_) _ _ ⟨g1,g,d,tk,os⟩;refine wpAny_bind (wpAny_mkInt (Q:=_) ?_);show wpAny _ _ (setField (.ref e) 3 (rawInt ((i:Int)+1))>>=_) _ _ ⟨g1,g,d,tk+1,os⟩;refine wpAny_bind (wpAny_setField_rec e1 (by simp) λg2 e2 m2=>?_);replace m2:Heap.SameBut e g1 g2:=m2;replace e2:IsEnum g2 e it ((i:Int)+1) old:=e2;show wpAny _ _ (setField (.ref e) 4 .none>>=_) _ _ ⟨g2,g,d,tk+1,os⟩;refine wpAny_bind (wpAny_setField_rec e2 (by simp) λg3 e3 m3=>?_);replace m3:Heap.SameBut e g2 g3:=m3;replace e3:IsEnum g3 e it ((i:Int)+1) old:=e3;show wpAny _ _ (newTuple [.int i tk,x]>>=_) _ _ ⟨g3,g,d,tk+1,os⟩;refine wpAny_bind (wpAny_newTuple (Q:=_) ?_);have sz:g3.objs.size=hp.objs.size:=by rw[m3.1,m2.1,m1.1]
 have e4:IsEnum (g3.push { cls:= .type "tuple",data:= .seq #[.int i tk,x] }) e it ((i:Int)+1) old:=Heap.get?_push_of_some _ e3;have t4:(g3.push { cls:= .type "tuple",data:= .seq #[.int i tk,x] }).get? hp.objs.size=some { cls:= .type "tuple",data:= .seq #[.int i tk,x] }:=by rw[<-sz];exact Heap.get?_push_size _ rfl
 have Ze:∀b o,b≠e->b≠it->hp.get? b=some o->(g3.push { cls:= .type "tuple",data:= .seq #[.int i tk,x] }).get? b=some o:=λb o c1 c2 q=>Heap.get?_push_of_some _ (m3.extBut _ _ c1 (m2.extBut _ _ c1 (m1.extBut _ _ c2 q)));have n4:iG t (g3.push { cls:= .type "tuple",data:= .seq #[.int i tk,x] }) it l (i+1):=n1.at λo q=>Heap.get?_push_of_some _ (m3.extBut _ _ (eG hne) (m2.extBut _ _ (eG hne) q));rw[sz];generalize g3.push { cls:= .type "tuple",data:= .seq #[.int i tk,x] }=g4 at e4 t4 Ze n4;show wpAny _ _ (Builtin.SmallTypes.ownedTupleIsFree (.ref e)>>=_) _ _ ⟨g4,g,d,tk+1,os⟩;refine wpAny_bind ?_;unfold Builtin.SmallTypes.ownedTupleIsFree;refine wpAny_bind (wpAny_field e4 rfl (x:=Value.none) rfl (wpAny_pure (Q:=_) ?_));simp only[if_true];refine wpAny_bind (wpAny_rule (Q:=_) ?_);refine wpAny_bind (wpAny_field e4 rfl (x:=old) rfl ?_);refine wpAny_bind (wpAny_setField_rec e4 (by simp) λg5 e5 m5=>?_);replace m5:Heap.SameBut e g4 g5:=m5;replace e5:IsEnum g5 e it ((i:Int)+1) x:=e5;show wpAny _ _ (Builtin.SmallTypes.ownedTupleHandOut (.ref e) (.ref hp.objs.size)>>=_) _ _ ⟨g5,g,d,tk+1,os⟩;refine wpAny_bind ?_;unfold Builtin.SmallTypes.ownedTupleHandOut;refine wpAny_bind (wpAny_setField_rec e5 (by simp) λg6 e6 m6=>?_);replace m6:Heap.SameBut e g5 g6:=m6;replace e6:IsEnumOut g6 e it ((i:Int)+1) x hp.objs.size:=e6;refine wpAny_setField_rec e6 (by simp) λg7 e7 m7=>?_;replace m7:Heap.SameBut e g6 g7:=m7;replace e7:IsEnumOut g7 e it ((i:Int)+1) x hp.objs.size:=e7;have up:∀b o,b≠e->g4.get? b=some o->g7.get? b=some o:=λb o c1 q=>m7.extBut _ _ c1 (m6.extBut _ _ c1 (m5.extBut _ _ c1 q));refine wpAny_bind (wpAny_letGo (wpAny_pure ⟨_,rfl,wpAny_pure (k g7 e7 (n4.at λo q=>up _ o (eG hne) q) (up _ _ (Ja el) t4) λb o hb q=>?_)⟩));simp only[cj,gR,or_false,not_or]at hb;exact up b o hb.1 (Ze b o hb.1 hb.2 q)
def al7{t:Bool}{e it l:Addr}{i:Nat}{items:Array Value}{old:Value}{Q:Option Value->Shared->Prop}(hh:A.handled=none)(he:IsEnum s.heap e it i old)(h1:iG t s.heap it l i)(h2:iQ t s.heap l items)(hx:items[i]?=none)
  (k:∀h',(∀b o,b∉[e,it]->s.heap.get? b=some o->h'.get? b=some o)->Q none { s with heap:=h' }):wpAny (model prog w) A (pyNext (.ref e)) Q E s:=by
 have ty:s.TypeIs (.ref e) "enumerate" := ⟨_,he,rfl⟩;unfold pyNext;refine wpAny_bind (wpAny_attempt (wpAny_callSpecial?_slot (name:=Str.ofString "__next__") ty JY (wpAny_call_entry JY ty F.entry_enumerate_next ?_ (F.args_enumerate_next_1 _))));show wpAny _ _ (field (.ref e) 2>>=_) _ _ _;refine wpAny_bind (wpAny_field he rfl (x:=Value.ref it) rfl ?_);refine wpAny_bind (Sw hh h1 h2 hx λh' x m ⟨u,hu,cu⟩=>?_);refine wpAny_bind (wpAny_isInstance (T:= "StopIteration") (b:=true) ⟨u,hu,cu⟩ isSubtype_stop (wpAny_pure (k _ λb o hb q=>m b o (λz=>hb (by simp[z])) q)))
abbrev eA(t:Bool)(h:Heap)(l:Addr):Heap:=h.push { cls:= .type (if t then "tuple_iterator" else "list_iterator"),data:= .fields #[.ref l,.int 0 0] }
abbrev eB(t:Bool)(h:Heap)(l:Addr):Heap:=(eA t h l).push { cls:= .type "enumerate",data:= .fields #[.none,.bool false,.ref h.objs.size,rawInt 0,.none,.none] }
set_option maxRecDepth 100000 in
def aq1(l:Addr)(items:Array Value)(n:Nat)(dct:Option Addr)(sl:Array (Option Value)):
  Meets (Builtin.«enumerate.__new__» ⟨[.type "enumerate",.ref l],[]⟩) (λ_ R s=>s.heap.get? l=some { cls:= .type "tuple",dict:=dct,data:= .seq items n,slots:=sl }/\
   R (.ok (.ret (.ref (eA true s.heap l).objs.size))) { s with heap:=eB true s.heap l }):=
 .of_wp λprog w A R s h=>by
  obtain⟨hp,g,d,tk,os⟩:=s;obtain⟨hl,h⟩:=h;have hsub:=sub_enumerate;have hL:Heap.IsTuple (Shared.heap ⟨hp,g,d,tk,os⟩) l items:=⟨_,hl,rfl,n,rfl⟩
  wp_walk using AutoSeq1.wpAny_loadPart' hl
  refine wpAny_stack_any λst=>wpAny_pure ?_;split
  .rename_i c _ _ _ _ _
   cases (c==Value.type "enumerate")
   .wp_walk using AutoSeq1.wpAny_loadPart' hl,wpAny_pyIter_tuple hL
    exact⟨_,rfl,h⟩
   .wp_walk using AutoSeq1.wpAny_loadPart' hl,wpAny_pyIter_tuple hL
    exact⟨_,rfl,h⟩
  .wp_walk using AutoSeq1.wpAny_loadPart' hl,wpAny_pyIter_tuple hL
   exact⟨_,rfl,h⟩
def anJ(t:Bool)(l:Addr)(items:Array Value)(n:Nat)(dct:Option Addr)(sl:Array (Option Value)):
  Meets (Builtin.«enumerate.__new__» ⟨[.type "enumerate",.ref l],[]⟩) (λ_ R s=>s.heap.get? l=some { cls:= .type (if t then "tuple" else "list"),dict:=dct,data:= .seq items n,slots:=sl }/\
   R (.ok (.ret (.ref (eA t s.heap l).objs.size))) { s with heap:=eB t s.heap l }):=
 match t with
 |false=>meets_enumerate_newL l items n dct sl
 |true=>aq1 l items n dct sl
def arH{t:Bool}{l:Addr}{items:Array Value}{Q:Value->Shared->Prop}(m:iQ t s.heap l items)
  (k:∀h',IsEnum h' (s.heap.objs.size+1) s.heap.objs.size 0 .none->iG t h' s.heap.objs.size l 0->(∀c o,s.heap.get? c=some o->h'.get? c=some o)->Q (.ref (s.heap.objs.size+1)) { s with heap:=h' }):
  wpAny (model prog w) A (call (.type "enumerate") [.ref l]) Q E s:=by
 obtain⟨⟨c,dct,dt,sl⟩,hl,hc,n,hd⟩:=m;replace hc:c = .type (if t then "tuple" else "list"):=hc;replace hd:dt = .seq items n:=hd;subst hc hd;refine callType_new F.called_enumerate (by decide) (F.typeCall_enumerate_1 _) (F.newCall_enumerate_1 _) (λobj=>F.args_object_init_2 obj _) F.entry_enumerate_new (anJ t l items n dct sl) ⟨hl,?_⟩;have y1:(eA t s.heap l).objs.size=s.heap.objs.size+1:=Heap.size_push ..;have o2:(eB t s.heap l).get? (eA t s.heap l).objs.size=some _:=Heap.get?_push_size _ rfl;have o1:(eB t s.heap l).get? s.heap.objs.size=some _:=Heap.get?_push_of_some _ (Heap.get?_push_size _ rfl);show _/\_;rw[y1]at o2⊢;exact⟨⟨_,o2,rfl⟩,k _ o2 ⟨_,o1,rfl,rfl⟩ λc o q=>Heap.get?_push_of_some _ (Heap.get?_push_of_some _ q)⟩
end
section
variable {X:Cx} {pins:List (Addr×Obj)} {σ:St} {H:Hp} {s:Shared} {h':Heap}
structure EAt(t:Bool)(e it l:Addr)(i:Nat)(h:Heap):Prop where
 ee:∃old,IsEnum h e it (i:Int) old
 w1:iG t h it l i
def Ite(K:W.Frag)(t:Bool)(a:Addr):It:=
 ⟨λi H=>∃xs x,iK K t H a xs/\xs[i]?=some x,
 λi H v H'=>∃p x,v = .ref p/\H p=none/\H'=upd H p (.tup [.int (i:Int),x])/\∀xs,iK K t H a xs->xs[i]?=some x,
 λi H=>∃xs,iK K t H a xs/\xs.length<=i⟩
def apE{P:Program}{w:World}{K:W.Frag}{es:List Expr}{x1:Nat}{pos:Pos}{t:Bool}{e it a:Addr}(hne:e≠it):
  Turn P w K (.Tuple es x1 pos) (Ite K t a) [e,it] e (λi h=>EAt t e it a i h) where
 mem:=by simp
 obj:=λi h Z c hc=>by
  obtain⟨⟨old,ee⟩,⟨o1,h1,_,d1⟩⟩:=Z;simp only[cj,gR,or_false]at hc;rcases hc with rfl|rfl
  .exact⟨_,ee,λv q=>by cases q⟩
  .exact⟨_,h1,λv q=>by rw[d1]at q;cases q⟩
 keep:=λi h h' Z k=>by
  obtain⟨⟨old,ee⟩,w1⟩:=Z;exact⟨⟨old,k _ (by simp) _ ee⟩,w1.at λo q=>k _ (by simp) o q⟩
 item:=by
  intro X hP hw hK hc i pins s σ H E I hf Z hg;subst hP hw hK;obtain⟨xs,x,hq,hx⟩:=hg;obtain⟨its,r,p,_⟩:=I.ji hq;obtain⟨u,hu,ru⟩:=r.get hx;obtain⟨⟨old,ee⟩,w1⟩:=Z;refine ahQ ee w1 p (x:=u) (by simpa using hu) hne λg e1 n1 t1 k1=>⟨_,rfl,?_⟩;have el:e≠s.heap.objs.size:=kZ (Heap.lt_size ee);refine wpAny_letOwnedTupleGo_enum e1 λg' e2 m'=>?_;have t2:g'.get? s.heap.objs.size=some { cls:= .type "tuple",data:= .seq #[.int i s.toks,u] }:=m'.extBut _ _ (eG el) t1;have I1:Inv X pins σ H { s with heap:=g',toks:=s.toks+1 }:=I.GX (t':=s.toks+1) (ch:=[e,it]) hf λc o hc q=>m'.extBut _ _ (λz=>hc (by simp[z])) (k1 c o hc q);have I2:Inv X pins σ (upd H s.heap.objs.size (.tup [.int (i:Int),x])) { s with heap:=g',toks:=s.toks+1 }:=I1.adopt (I.ou (aN _) I.fresh)
   ⟨by simp[sizeLine],[.int i s.toks,u],.cons ⟨_,rfl⟩ (.cons ru .nil),⟨_,t2,rfl,_,rfl⟩⟩
  refine⟨.ref s.heap.objs.size,_,I2,rfl,⟨_,x,rfl,I.fresh,rfl,λxs' q=>by rw[I.Qe q hq];exact hx⟩,⟨⟨_,e2⟩,n1.at λo q=>m'.extBut _ _ (eG hne) q⟩,λc hc=>?_⟩;rw[cC]
  .exact(hf c hc).1
  .intro q;obtain⟨o,ho⟩:∃o,s.heap.get? c=some o:=by
    obtain⟨o1,h1,_,d1⟩:=w1;simp only[cj,gR,or_false]at hc;rcases hc with rfl|rfl
    .exact⟨_,ee⟩
    .exact⟨_,h1⟩
   exact absurd (Heap.lt_size ho) (by rw[q];exact jK _)
 done:=by
  intro X hP hw hK hc i pins s σ H E I hf Z hg;subst hP hw hK;obtain⟨xs,hq,hend⟩:=hg;obtain⟨its,r,p,_⟩:=I.ji hq;have n1:=r.length;obtain⟨⟨old,ee⟩,w1⟩:=Z;exact al7 (I.ok.hd hc) ee w1 p (by simp;omega) λg k1=>⟨rfl,I.GX (t':=s.toks) (ch:=[e,it]) hf λc o hc q=>k1 c o hc q⟩
 self:=λ_ _ _ _ _ Z h=>by
  obtain⟨⟨old,ee⟩,_⟩:=Z;exact wpAny_pyIter_enum ee h
def arY(K:W.Frag)(ta:TA):TI:=λσ H R=>ta σ H λvs H1=>∃t a xs,vs=[.ref a]/\iK K t H1 a xs/\R (Ite K t a) H1
def Dd(K:W.Frag){e1:Expr}{es:List Expr}{x1:Nat}{pos':Pos}{ta:TA}{p pos:Pos}(hg:Gl X "enumerate")(hm:X.mg "enumerate" = none)(ha:PA X [e1] ta)(hK:X.K=K:=by rfl)
  (hs:starEach [e1] X.env=[(false,eval e1 X.env)]:=by rfl):PI X (.Tuple es x1 pos') (.Call (.Name "enumerate" p) [e1] [] pos) (arY K ta):=by
 subst hK;intro pins s σ H R I h;refine Call_ (qg I hg hm aoB (uE (bf (ha pos pins s σ H _ I h) λus s1 ⟨vs,H1,I1,r1,q1⟩=>?_) hs rfl));obtain⟨t,a,xs,e,hq,q⟩:=q1;subst e;cases r1 with
 |cons r rr=>
  cases rr;cases r;obtain⟨its,v1,p1,_⟩:=I1.ji hq;refine arH p1 λh' ee w1 k=>?_;have I2:Inv X pins σ H1 { s1 with heap:=h' }:=I1.kept (t':=s1.toks) k;refine wpAny_pyIter_enum ee ⟨_,_,_,_,H1,rfl,I2,apE (Nat.succ_ne_self _),⟨⟨_,ee⟩,w1⟩,λc hc=>?_,q⟩;have hc':s1.heap.objs.size<=c:=by
   simp only[cj,gR,or_false]at hc;rcases hc with rfl|rfl
   .exact yX _ _
   .exact aN _
  exact I1.ou hc' (I1.hok.fresh hc')
def Y0{K:W.Frag}{t:Bool}{a:Addr}{xs:List V}{ix:List (Option Nat)}{te:TE}{σ:St}{H1:Hp}{Q:VK}(q1:iK K t H1 a xs)(hz:xs.length<=sizeLine){rest:St}(hst:cst ix σ=none::none::rest)(F:Nat->V->V)
  (he:∀(H':Hp) (i:Nat) (x:V),Same H1 H'->xs[i]?=some x->∀k:VK,(∀H2,Same H' H2->k (F i x) H2)->te (some (.int (i:Int))::some x::rest) H' k)
  (hQ:∀D H',H1 D=none->Same H1 H'->H' D=some (.lst (xs.mapIdx F))->Q (.ref D) H'):
  jL ix (yx K 2 (su (gU 0) (su (gU 1) Dc))) lF te σ Q (Ite K t a) H1:=by
 constructor;intro D hD;refine⟨λi m σ' H'=>m=xs.length-i/\i<=xs.length/\(∃o o',σ'=o::o'::rest)/\Same H1 H'/\H' D=some (.lst ((xs.mapIdx F).take i)),⟨xs.length,by simp,cJ _,⟨none,none,hst⟩,Same.new hD _,by rw[aA];simp⟩,?_⟩;rintro i m σ' H' ⟨rfl,hi,⟨o,o',rfl⟩,g,hl⟩;by_cases hlt:i<xs.length
 .have hx:xs[i]?=some xs[i]:=eY hlt;refine .inr ⟨⟨xs,_,g.ji q1,hx⟩,?_⟩;rintro v H2 ⟨p,x,rfl,hp,rfl,y1⟩;have ex:=y1 xs (g.ji q1);have g2:Same H' (upd H' p (.tup [.int (i:Int),x])):=Same.new hp _;refine⟨p,[.int (i:Int),x],rfl,.inl (.inl aA),rfl,_,[x],rfl,x,[],rfl,rfl,?_⟩;change te (some (.int (i:Int))::some x::rest) (upd H' p (.tup [.int (i:Int),x])) _;refine he _ i x (g.trans g2) ex _ λH3 g3=>⟨_,g3 _ _ (g2 _ _ hl),?_,xs.length-(i+1),by omega,rfl,by omega,⟨_,_,rfl⟩,?_,?_⟩
  .rw[jl,List.length_mapIdx];omega
  .exact Same.upd ((g.trans g2).trans g3) hD _
  .rw[aA,qO];have e:(xs.mapIdx F)[i]?=some (F i x):=by rw[ady,ex];rfl
   rw[e];rfl
 .refine .inl ⟨⟨xs,g.ji q1,by omega⟩,hQ D H' hD g ?_⟩;rw[hl,pO];rw[List.length_mapIdx];omega
def R0{K:W.Frag}{t:Bool}{a:Addr}{xs:List V}{g:TG}{tb:TS}{D:Ends}{σ:St}{H:Hp}(Pv:Nat->St->Hp->Prop)(h0:Pv 0 σ H)(Il:∀i σ' H',Pv i σ' H'->iK K t H' a xs)
  (hs:∀(i:Nat) (x:V) (σ':St) (H':Hp) (p:Addr),xs[i]?=some x->Pv i σ' H'->H' p=none->g (.ref p) σ' (upd H' p (.tup [.int (i:Int),x])) λσ2 H2=>tb { D with nx:=Pv (i+1),ct:=Pv (i+1),bk:=D.nx } σ2 H2)
  (hd:∀σ' H',Pv xs.length σ' H'->D.nx σ' H'):
  ∃W:Nat->Nat->St->Hp->Prop,(∃m,W 0 m σ H)/\∀i m σ H,W i m σ H->
   ((Ite K t a).stop i H/\D.nx σ H)∨((Ite K t a).go i H/\∃N:St->Hp->Prop,(∀σ' H',N σ' H'->∃m',m'<m/\W (i+1) m' σ' H')/\∀x H',(Ite K t a).jB i H x H'->g x σ H' λσ2 H2=>tb { D with nx:=N,ct:=N,bk:=D.nx } σ2 H2):=by
 refine⟨λi m σ' H'=>m=xs.length-i/\i<=xs.length/\Pv i σ' H',⟨xs.length,by simp,cJ _,h0⟩,?_⟩;rintro i m σ' H' ⟨rfl,hi,pv⟩;have q1:=Il i σ' H' pv;by_cases hlt:i<xs.length
 .have hx:xs[i]?=some xs[i]:=eY hlt;refine .inr ⟨⟨xs,_,q1,hx⟩,Pv (i+1),λσ2 H2 p'=>⟨xs.length-(i+1),by omega,rfl,by omega,p'⟩,?_⟩;rintro v H2 ⟨p,x,rfl,hp,rfl,y1⟩;exact hs i x σ' H' p (y1 xs q1) pv hp
 .have e:i=xs.length:=by omega
  refine .inl ⟨⟨xs,q1,by omega⟩,hd σ' H' ?_⟩;rw[<-e];exact pv
end
def yM(lo:Int)(n:Nat):It:=⟨λi _=>i<n,λi H x H'=>H'=H/\x = .int (lo-i),λi _=>n<=i⟩
def xT{P:Program}{w:World}{K:W.Frag}{tg:Expr}(it:Addr)(lo:Int)(n:Nat):Turn P w K tg (yM lo n) [it] it (λi h=>IsRangeIter h it (lo+(i:Nat)*(-1)) ((n:Int)-(i:Nat)) (-1)) where
 mem:=by simp
 obj:=λi h st b hb=>by
  have e:b=it:=by simpa using hb
  subst e;exact⟨_,st,λv z=>by
   have z':Data.fields _=Data.cell v:=z;cases z'⟩
 keep:=λi h h' st k=>k it (by simp) _ st
 item:=by
  intro X hP hw hK hc i pins s σ H E I hf st hg;subst hP hw hK;obtain⟨f0,f1,f2,f3,f4,f5⟩:=hf it (by simp);have W:=Walks.range (prog:=X.prog) (w:=X.w) (I.ok.hd hc) it lo (-1) n;refine W.item i s _ _ hg st λv h' tk hv st' kk=>?_;obtain⟨t,rfl⟩:=hv;have I1:Inv X pins σ H { s with heap:=h',toks:=tk }:=I.turned (λb o hb e=>kk b o (by simpa using hb) e) f0 f1 f3 f4 f5;refine⟨_,rfl,BD (s:={ s with heap:=h',toks:=tk }) (n:= "range_iterator") st' rfl rfl (by decide) ⟨.int (lo-i),H,I1,⟨t,?_⟩,⟨rfl,rfl⟩,st',λb hb=>(hf b hb).1⟩⟩;rw[Int.mul_neg_one];rfl
 done:=by
  intro X hP hw hK hc i pins s σ H E I hf st hg;subst hP hw hK;obtain⟨f0,f1,f2,f3,f4,f5⟩:=hf it (by simp);exact wpAny_pyNext_range_end (I.ok.hd hc) st (by have:n<=i:=hg;omega) λh' eb=>⟨rfl,I.turned (t':=s.toks) (λb o hb e=>eb b o hb e) f0 f1 f3 f4 f5⟩
 self:=λ_ _ _ _ _ st h=>wpAny_pyIter_rangeiter st h
def rangeSize_down(a b:Int):Builtin.Range.rangeSize a b (-1)=if b<a then a-b else 0:=by
 unfold Builtin.Range.rangeSize;simp only[show ¬(-1:Int)>0 by decide,if_false,BJ,Int.ediv_one];split<;>omega
def small_down{a b:Int}(ha:-(2^62)<=a)(ha':a<2^62)(hb:-(2^62)<=b)(hb':b<2^62):Builtin.Range.small a b (-1)=true:=by
 unfold Builtin.Range.small;rw[rangeSize_down];simp only[Builtin.Range.rangeFitsLong,vp,Bq,decide_eq_true_eq,beq_iff_eq,show ¬(-1:Int)>0 by decide,if_false];split<;>omega
section
variable {X:Cx} {tg:Expr}
def akh{pins:List (Addr×Obj)}{σ:St}{H:Hp}{s:Shared}{R:It->Hp->Prop}{E:Value->Shared->Prop}{lo hi:Int}{t u v:Tok}{tk:Nat}(I:Inv X pins σ H s)(h1:-(2^62)<=lo)(h2:lo<2^62)(h3:-(2^62)<=hi)(h4:hi<2^62)
  (q:R (yM lo (lo-hi).toNat) H):wpAny (model X.prog X.w) X.A (pyIter (.ref s.heap.objs.size)) (PY X pins σ tg R) E { s with heap:=s.heap.push { cls:= .type "range",data:= .fields #[.int lo t,.int hi u,.int (-1) v] },toks:=tk }:=by
 refine wpAny_pyIter_range (IsRange.new ..) (small_down h1 h2 h3 h4) ?_;have I1:Inv X pins σ H { s with heap:=s.heap.push { cls:= .type "range",data:= .fields #[.int lo t,.int hi u,.int (-1) v] },toks:=tk }:=I.kept λb o e=>Heap.get?_push_of_some _ e;refine⟨(s.heap.push { cls:= .type "range",data:= .fields #[.int lo t,.int hi u,.int (-1) v] }).objs.size,[(s.heap.push { cls:= .type "range",data:= .fields #[.int lo t,.int hi u,.int (-1) v] }).objs.size],_,_,H,rfl,
  I1.kept (t':=tk) λb o e=>Heap.get?_push_of_some _ e,xT _ lo (lo-hi).toNat,?_,λb hb=>?_,q⟩
 .have e1:lo+((0:Nat):Int)*(-1)=lo:=by simp
  have e2:(((lo-hi).toNat:Nat):Int)-((0:Nat):Int)=Builtin.Range.rangeSize lo hi (-1):=by rw[rangeSize_down];split<;>omega
  show IsRangeIter _ _ (lo+((0:Nat):Int)*(-1)) ((((lo-hi).toNat:Nat):Int)-((0:Nat):Int)) (-1);rw[e1,e2];exact Heap.get?_push_size _ rfl
 .have e:b=(s.heap.push { cls:= .type "range",data:= .fields #[.int lo t,.int hi u,.int (-1) v] }).objs.size:=by simpa using hb
  subst e;exact I1.ou (aN _) (I1.hok.fresh (aN _))
def asC(ta:TA):TI:=λσ H R=>ta σ H λvs H1=>∃i j:Int,vs=[.int i,.int j,.int (-1)]/\(-(2^62)<=i/\i<2^62/\-(2^62)<=j/\j<2^62)/\R (yM i (i-j).toNat) H1
def ajf{a b c:Expr}{ta:TA}{p pos:Pos}(hg:Gl X "range")(hm:X.mg "range" = none)(ha:PA X [a,b,c] ta)(hs:starEach [a,b,c] X.env=(false,eval a X.env)::starEach [b,c] X.env:=by rfl)(hs2:(backTo pos (starEach [b,c] X.env)).any (·.1)=false:=by rfl):
  PI X tg (.Call (.Name "range" p) [a,b,c] [] pos) (asC ta):=by
 intro pins s σ H R I h;refine Call_ (qg I hg hm boot_range (uE (bf (ha pos pins s σ H _ I h) λus s1 ⟨vs,H1,I1,r1,q1⟩=>?_) hs hs2));obtain⟨i,j,e,⟨q1,q2,q3,q4⟩,q⟩:=q1;subst e;cases r1 with
 |cons r rr=>
  cases rr with
  |cons r' rr=>
   cases rr with
   |cons r'' rr=>
    cases rr;obtain⟨t,rfl⟩:=r;obtain⟨t',rfl⟩:=r';obtain⟨t'',rfl⟩:=r'';exact call_range_3 (by decide) (akh (tk:=s1.toks) I1 q1 q2 q3 q4 q) (.inl (adY (by omega)))
end
def ai2{lo:Int}{n:Nat}{g:TG}{tb:TS}{D:Ends}{σ:St}{H:Hp}(Pv:Nat->St->Hp->Prop)(h0:Pv 0 σ H)
  (hs:∀i σ H,i<n->Pv i σ H->g (.int (lo-i)) σ H λσ2 H2=>tb { D with nx:=Pv (i+1),ct:=Pv (i+1),bk:=D.nx } σ2 H2) (hd:∀σ H,Pv n σ H->D.nx σ H):
  ∃W:Nat->Nat->St->Hp->Prop,(∃m,W 0 m σ H)/\∀i m σ H,W i m σ H->
   ((yM lo n).stop i H/\D.nx σ H)∨((yM lo n).go i H/\∃N:St->Hp->Prop,(∀σ' H',N σ' H'->∃m',m'<m/\W (i+1) m' σ' H')/\∀x H',(yM lo n).jB i H x H'->g x σ H' λσ2 H2=>tb { D with nx:=N,ct:=N,bk:=D.nx } σ2 H2):=by
 refine⟨λi m σ H=>m=n-i/\i<=n/\Pv i σ H,⟨n,by simp,cJ _,h0⟩,?_⟩;rintro i m σ H ⟨rfl,hi,p⟩;by_cases hlt:i<n
 .refine .inr ⟨hlt,Pv (i+1),λσ' H' p'=>⟨n-(i+1),by omega,rfl,hlt,p'⟩,λx H' y=>?_⟩;obtain⟨e,y⟩:=y;subst e y;exact hs i σ _ hlt p
 .have e:i=n:=by omega
  subst e;exact .inl ⟨aN _,hd σ H p⟩
section
variable {X:Cx}
end
def yD{X:Cx}:cV X (binaryOp .FloorDiv) (rI (λ_ j=>j≠0/\j.natAbs.log2<9000) λi j=> .int (i.fdiv j)):=zF λ_ _ _ _ _ _ _ hc q=>floordiv_int hc.1 q (.inl (PyProof.noPylong_of_log2 hc.2))
section
variable {X:Cx}
end
section
variable {X:Cx}
def boot_any:bootBuiltins "any" = some (.builtin "any"):=by decide +kernel
def v_any(hc:X.calm=true):lA X (.builtin "any") (λxs H Q=>∃(l:Addr) (bs:List Bool),xs=[.ref l]/\aq X.K H l (bs.map V.bl)/\Q (.bl (bs.any id)) H):=by
 intro pins s σ H xs us Q I r h;obtain⟨l,bs,rfl,hl,q⟩:=h;obtain⟨u,rfl,ru⟩:=r.one;cases ru;obtain⟨its,rv,pl,hz⟩:=I.list hl;have eb:=abX rv;subst eb;have hl':=pl.isList;have hlt:l<s.heap.objs.size:=by obtain⟨_,e,_⟩:=hl';exact Heap.lt_size e
 refine call_any_walk (wpAny_pyIter_list hl' ?_);refine⟨s.heap.objs.size,[s.heap.objs.size,l],[s.heap.objs.size],(bs.map Value.bool).toArray.size,_,_,λi=>(bs[i]?).getD false,rfl,Walks.list (A:=X.A.in1) (I.ok.hd hc) _ l (kZ hlt) (bs.map Value.bool).toArray,
  ⟨⟨_,Heap.get?_push_size _ rfl,rfl,rfl⟩,hl'.push _⟩,λi v s' Q' E' hP hQ=>?_,λh' tk hk=>?_⟩
 .have hP':(bs.map Value.bool)[i]?=some v:=by simpa using hP
  rw[jV]at hP';cases e:bs[i]? with
  |none=>rw[e]at hP';cases hP'
  |some b=>
   rw[e]at hP';cases hP';dsimp only at hQ;rw[e]at hQ;exact wpAny_truthy_bool hQ
 .have e2:((List.range (bs.map Value.bool).toArray.size).any λi=>(bs[i]?).getD false)=bs.any id:=by
   rw[fG,aG];rw[Cm,tH,tH];constructor
   .rintro⟨i,hi,e⟩;have hi':=kW.mp hi;rw[eY hi']at e;exact⟨_,DW hi',e⟩
   .rintro⟨x,hx,e⟩;obtain⟨i,hi,e'⟩:=jG.mp hx;exact⟨i,kW.mpr hi,by rw[eY hi,e'];exact e⟩
  have fin:EP X pins σ Q (.bool (bs.any id)) { s with heap:=h',toks:=tk }:=⟨.bl _,H,I.kept (af7 hk),rfl,q⟩;first|(rw[e2];exact fin)|(simpa[e2]using fin)
def Pk(K:W.Frag)(hc:X.calm=true)(hK:X.K=K:=by rfl):lA X (.builtin "any") (λxs H Q=>∃(l:Addr) (bs:List Bool),xs=[.ref l]/\aq K H l (bs.map V.bl)/\Q (.bl (bs.any id)) H):=by subst hK;exact v_any hc
end
def ajF:typeLookup (.type "list_reverseiterator") "__len__" = pure none:=by rw[typeLookup_type,builtinLookup_eq_fast];kernel_rfl
def akY:typeLookup (.type "list_reverseiterator") "__length_hint__" = pure (some (.builtin "list_reverseiterator.__length_hint__")):=by rw[typeLookup_type,builtinLookup_eq_fast];kernel_rfl
def abp:bootBuiltins "reversed" = some (.type "reversed"):=by decide +kernel
section
variable {X:Cx} {pins:List (Addr×Obj)} {σ:St} {H:Hp} {s:Shared} {h':Heap}
def Inv.at4{p:Addr}{o:HO}(I:Inv X pins σ H s)(f:oh X pins H p)(new:iD X.prog X.w (upd H p o) s.heap p o):Inv X pins σ (upd H p o) s:=by
 obtain⟨f0,f1,_,f3,f4,f5⟩:=f;refine I.step (g':=s.gens) (d':=s.drawn) (t':=s.toks) (h':=s.heap) (ch:=[p]) (λb hb=>?_) (λb o _ _ hc e _=>e) (λb o _ _ hc e _=>⟨o.slots,e⟩) (λb _ hc _ n=>?_)
  (λb o hc e=>⟨o,e⟩) (λb xs e=>?_) (λb xs _ e=>?_) (λb ps e=>⟨#[],?_⟩) (λm hm=>hm) (λb u e=>?_) I.bare
 .have e:b=p:=by simpa using hb
  subst e;exact⟨f3,f1,f4,f5⟩
 .rw[cC λz=>hc (by simp[z])];exact n
 .rw[cC (ju e f0)];exact e
 .rw[cC (ju e f0)];exact e
 .rw[cC (ju e f0),e];simp
 .by_cases hb:b=p
  .subst hb;rw[aA]at e;cases e;exact new
  .rw[cC hb]at e;exact(I.hok b u e).stay (λc v _ q=>q) (λc q=>by rw[cC (ju q f0)];exact q) λc xs q=>by rw[cC (ju q f0)];exact q
end
def vV(n i:Nat):Int:=if i<n then((n-1-i:Nat):Int)else -1
def Lr(K:W.Frag)(a:Addr)(n:Nat):It:=
 ⟨λi H=>∃xs x,aq K H a xs/\i<n/\xs[n-1-i]?=some x,λi H x H'=>H'=H/\∀xs,aq K H a xs->xs[n-1-i]?=some x,λi _=>n<=i⟩
def arD{P:Program}{w:World}{K:W.Frag}{tg:Expr}(a it:Addr)(n:Nat):Turn P w K tg (Lr K a n) [it] it (λi h=>h.IsRevIter it a (vV n i)) where
 mem:=by simp
 obj:=λi h st b hb=>by
  have e:b=it:=by simpa using hb
  subst e;obtain⟨o,e,c,d⟩:=st;exact⟨o,e,λv z=>by rw[d]at z;cases z⟩
 keep:=λi h h' st k=>st.at λo e=>k it (by simp) o e
 item:=by
  intro X hP hw hK hc i pins s σ H E I hf st hg;subst hP hw hK;obtain⟨xs,x,hq,hi,hx⟩:=hg;obtain⟨its,rv,p,hz⟩:=I.list hq;obtain⟨u,hu,ru⟩:=rv.get hx;obtain⟨f0,f1,f2,f3,f4,f5⟩:=hf it (by simp);have e:vV n i=((n-1-i:Nat):Int):=if_pos hi;rw[e]at st;refine wpAny_pyNext_rev_item st p.isList (x:=u) (by simpa using hu) λh' st' sb=>?_;have e2:((n-1-i:Nat):Int)-1=vV n (i+1):=by unfold vV;split<;>omega
  rw[e2]at st';have I1:Inv X pins σ H { s with heap:=h' }:=I.turned (t':=s.toks) (λb o hb e=>(sb.2 b hb).trans e) f0 f1 f3 f4 f5;obtain⟨o,e,c,d⟩:=id st';exact⟨u,rfl,BD (s:={ s with heap:=h' }) e c d (by decide) ⟨x,H,I1,ru,⟨rfl,λys hy=>by rw[I.K4 hy hq];exact hx⟩,st',λb hb=>(hf b hb).1⟩⟩
 done:=by
  intro X hP hw hK hc i pins s σ H E I hf st hg;subst hP hw hK;have hg:n<=i:=hg;obtain⟨f0,f1,f2,f3,f4,f5⟩:=hf it (by simp);have e:vV n i=-1:=if_neg (by omega);rw[e]at st;exact wpAny_pyNext_rev_end (I.ok.hd hc) st λh' eb=>⟨rfl,I.turned (t':=s.toks) (λb o hb e=>eb b o hb e) f0 f1 f3 f4 f5⟩
 self:=λ_ _ _ _ _ st h=>wpAny_pyIter_revIter st h
section
variable {X:Cx}
def aqV(K:W.Frag)(ta:TA):TI:=λσ H R=>ta σ H λvs H1=>∃a xs,vs=[.ref a]/\aq K H1 a xs/\R (Lr K a xs.length) H1
def ag7(K:W.Frag){tg e1:Expr}{ta:TA}{p pos:Pos}(hg:Gl X "reversed")(hm:X.mg "reversed" = none)(ha:PA X [e1] ta)(hK:X.K=K:=by rfl)
  (hs:starEach [e1] X.env=[(false,eval e1 X.env)]:=by rfl):PI X tg (.Call (.Name "reversed" p) [e1] [] pos) (aqV K ta):=by
 subst hK;intro pins s σ H R I h;refine Call_ (qg I hg hm abp (uE (bf (ha pos pins s σ H _ I h) λus s1 ⟨vs,H1,I1,r1,q1⟩=>?_) hs rfl));obtain⟨a,xs,e,hq,q⟩:=q1;subst e;cases r1 with
 |cons r rr=>
  cases rr;cases r;obtain⟨its,rv,p1,_⟩:=I1.list hq;have hl:=rv.length;refine call_reversed_list p1.isList ?_;have st:(s1.heap.push (revObj a ((its.toArray.size:Int)-1))).IsRevIter s1.heap.objs.size a (vV xs.length 0):=⟨_,Heap.get?_push_size _ rfl,rfl,by
   show Data.fields #[.ref a,rawInt ((its.toArray.size:Int)-1)]=_;have e:(its.toArray.size:Int)-1=vV xs.length 0:=by unfold vV;simp;split<;>omega
   rw[e]⟩
  have I2:Inv X pins σ H1 { s1 with heap:=s1.heap.push (revObj a ((its.toArray.size:Int)-1)) }:=I1.kept (t':=s1.toks) λb o e=>Heap.get?_push_of_some _ e;refine wpAny_pyIter_revIter (s:={ s1 with heap:=s1.heap.push (revObj a ((its.toArray.size:Int)-1)) }) st ⟨_,[s1.heap.objs.size],_,_,H1,rfl,I2,arD a _ _,st,λc hc=>?_,q⟩;have e:c=s1.heap.objs.size:=by simpa using hc
  subst e;exact I1.ou (aN _) (I1.hok.fresh (aN _))
def asd{K:W.Frag}{a:Addr}{xs:List V}{H1:Hp}(h:aq K H1 a xs):uR (Lr K a xs.length) xs.reverse H1:=by
 refine⟨λi H' g hi=>?_,λi H' x H2 g y=>⟨y.1,λhi=>?_⟩,λi H' g hi=>?_⟩
 .rw[qQ]at hi;exact⟨xs,xs[xs.length-1-i]'(by omega),g.seq h,hi,eY (by omega)⟩
 .rw[qQ]at hi;rw[U8 hi];exact y.2 xs (g.seq h)
 .rw[qQ]at hi;exact hi
end
section
variable {prog:Program} {w:World} {A:Around} {E:Value->Shared->Prop} {s:Shared} {I:Addr} {fp wr:List Addr} {G:Array GenState->Array GenState->Prop} {n:Nat} {P:Nat->Value->Prop} {St:Nat->Shared->Prop} {R:Result->Shared->Prop}
def ana(W:WalksS prog w A.in1 I fp wr G n P St)(hT:∀i s,St i s->s.TypeIs (.ref I) "list_reverseiterator")(S:Addr)(c0:Nat)(hst:St 0 s)(hSf:S∉fp)(hI:I∈fp)
  (hS:s.heap.get? S=some { cls:= .type "list",data:= .seq #[] c0 })
  (hR:∀s' acc' c',Moved (S::wr) G s s'->s'.heap.get? S=some { cls:= .type "list",dict:=none,data:= .seq acc' c',slots:=#[] }->ItemsOf P acc' n->R (.ok (.ret .none)) s') (hn:n<=sizeLine):
  wpAny (model prog w) A.in1 (Builtin.List.listExtendWith (.ref S) (.ref I) .none)
   (λfin s'=>match fin with | .done f=>R (.ok f) s' | .again c'=>c'.quiet=true/\codeAny (model prog w) A c' R s') (λe s'=>R (.error e) s') s:=by
 have hSI:S≠I:=λe=>hSf (e▸hI);have h1:Builtin.List.listSameRef (.ref S) (.ref I)=false:=by simp[Builtin.List.listSameRef,hSI]
 unfold Builtin.List.listExtendWith;refine wpAny_bind (wpAny_typeOf (hT 0 _ hst) ?_);rw[if_neg (by rw[h1];decide)];refine wpAny_bind (W.self 0 _ _ _ hst ?_);refine wpAny_bind (wpAny_holding ?_);unfold Builtin.List.listLengthHint;refine wpAny_bind (wpAny_specialOf (hT 0 _ hst) ajF ?_);show wpAny _ A.in1 (specialOf (Value.ref I) (Str.ofString "__length_hint__")>>=_) _ _ _;refine wpAny_bind (wpAny_specialOf (hT 0 _ hst) akY ?_)
 (generalize hid:("list_reverseiterator.__length_hint__" : String)=id0;(fail_if_success (clear hid id0));wp_delta;rw[show splitId id0=some ("list_reverseiterator","__length_hint__")from by subst hid;decide +kernel];subst hid)
 refine wpAny_bind (wpAny_isInstance (b:=true) (hT 0 _ hst) (by rw[isSubtype_type];kernel_rfl) ?_);refine wpAny_pure ?_;rw[if_neg (by decide)];exact wpAny_pure ⟨plainId_quiet F.plain_extend_loop _,codeAny_extend_loopS W hn _ hSf _ n 0 _ _ _ rfl (cJ _) hst hS (ItemsOf.nil P) λs' acc' c' hm hS' hacc=>hR s' acc' c' hm hS' hacc⟩
def aro(W:WalksS prog w A.in1 I fp wr G n P St)(hT:∀i s,St i s->s.TypeIs (.ref I) "list_reverseiterator")(S:Addr)(hst:St 0 s)(hSf:S∉fp)(hI:I∈fp)
  (hS:s.heap.get? S=some { cls:= .type "list",data:= .seq #[] })
  (hR:∀s' acc' c',Moved (S::wr) G s s'->s'.heap.get? S=some { cls:= .type "list",dict:=none,data:= .seq acc' c',slots:=#[] }->ItemsOf P acc' n->R (.ok (.ret .none)) s') (hn:n<=sizeLine):
  wpAny (model prog w) A.in1 (Builtin.«list.__init__» ⟨[.ref S,.ref I],[]⟩)
   (λfin s'=>match fin with | .done f=>R (.ok f) s' | .again c'=>c'.quiet=true/\codeAny (model prog w) A c' R s') (λe s'=>R (.error e) s') s:=by
 show wpAny _ A.in1 (Builtin.List.listItems (.ref S)>>=λold=>Builtin.List.listUpdate (.ref S) (λ_=>#[])>>=λ_=>letGo old.toList.reverse>>=λ_=>Builtin.List.listExtendWith (.ref S) (.ref I) .none) _ _ s;refine wpAny_bind ?_;unfold Builtin.List.listItems;refine wpAny_bind (wpAny_seqItems hS rfl (wpAny_pure ?_));refine wpAny_bind (wpAny_updateSeq hS rfl ?_);have hS2:=Heap.get?_update_self (Obj.mapSeq (λ_=>(#[]:Array Value))) hS rfl;have oth:∀b o,b≠S->s.heap.get? b=some o->(s.heap.update S (Obj.mapSeq (λ_=>(#[]:Array Value)))).get? b=some o:=
  λb o hb e=>(Heap.get?_update_other _ _ (eG hb)).trans e
 refine wpAny_bind (wpAny_letGo ?_);refine ana W hT S _ (W.frame 0 s _ s.toks hst (aN _) λb hb o e=>oth b o (λh=>hSf (h▸hb)) e) hSf hI hS2 (λs' acc' c' hm hS' hacc=>?_) hn;exact hR s' acc' c' (Moved.trans W.gtrans ((Moved.refl W.grefl).then_heap (aN _) λb o hb e=>oth b o (λh=>hb (h▸cQ)) e) hm) hS' hacc
def apy{Q:Value->Shared->Prop}(W:WalksS prog w A.in1.in1 I fp wr G n P St)(hT:∀i s,St i s->s.TypeIs (.ref I) "list_reverseiterator")(hst:St 0 s)(hfp:∀b∈fp,b<s.heap.objs.size)(hI:I∈fp)
  (hQ:∀s' acc' c',Moved (s.heap.objs.size::wr) G { s with heap:=s.heap.push { cls:= .type "list",data:= .seq #[] } } s'->
   s'.heap.get? s.heap.objs.size=some { cls:= .type "list",dict:=none,data:= .seq acc' c',slots:=#[] }->ItemsOf P acc' n->Q (.ref s.heap.objs.size) s') (hn:n<=sizeLine):
  wpAny (model prog w) A (call (.type "list") [.ref I]) Q E s:=by
 have hSf:s.heap.objs.size∉fp:=λhm=>jK _ (hfp _ hm);refine callType_codes (Q₁:=λobj s₁=>obj = .ref s.heap.objs.size/\s₁={ s with heap:=s.heap.push { cls:= .type "list",data:= .seq #[] } }) F.called_list (F.typeCall_list_1 _) F.entry_list_init
  (code_list_new _ ⟨rfl,rfl⟩) λobj s₁ h₁=>?_
 obtain⟨rfl,rfl⟩:=h₁;have hS:(s.heap.push { cls:= .type "list",data:= .seq #[] }).get? s.heap.objs.size=some { cls:= .type "list",data:= .seq #[] }:=Heap.get?_push_size _ rfl;refine⟨⟨_,hS,rfl⟩,F.args_list_init_2 _ _,aro W hT _ (W.frame 0 s _ s.toks hst (aN _) λb _ o e=>Heap.get?_push_of_some _ e) hSf hI hS (λs' acc' c' hm hS' hacc=>?_) hn⟩;exact⟨rfl,hQ s' acc' c' hm hS' hacc⟩
end
section
variable {X:Cx}
def atX(te:TA):TE:=λσ H Q=>te σ H λvs H1=>∃(l:Addr) (xs:List V),vs=[.ref l]/\H1 l=some (.lst xs)/\∀l',H1 l'=none->Q (.ref l') (upd H1 l' (.lst xs.reverse))
def afy{a:Expr}{ta:TA}{p p2 pos pos2:Pos}(hc:X.calm=true)(hg:Gl X "list")(hm:X.mg "list" = none)(hg2:Gl X "reversed")(hm2:X.mg "reversed" = none)(ha:PA X [a] ta)
  (hs2:starEach [a] X.env=[(false,eval a X.env)]:=by rfl)
  (hs:starEach [.Call (.Name "reversed" p2) [a] [] pos2] X.env=[(false,eval (.Call (.Name "reversed" p2) [a] [] pos2) X.env)]:=by rfl):
  PE X (.Call (.Name "list" p) [.Call (.Name "reversed" p2) [a] [] pos2] [] pos) (atX ta):=by
 intro pins s σ H Q I h;refine wpAny_Call_Name_kw (qg I hg hm boot_list ?_ (by decide) (by decide));refine uE ?_ hs rfl;rw[hs];show wpAny _ _ (spliced ((false,eval (.Call (.Name "reversed" p2) [a] [] pos2) X.env)::backTo pos [])) _ _ s;refine Calls.spliced_cons ?_;refine Call_ (qg I hg2 hm2 abp (uE (bf (ha pos2 pins s σ H _ I h) λus s1 ⟨vs,H1,I1,r1,q1⟩=>?_) hs2 rfl));obtain⟨l,xs,e,hl,q⟩:=q1;subst e;cases r1 with
 |cons r rr=>
  cases rr;cases r;obtain⟨z,its,nn,rv,hlen,eo⟩:=I1.uN hl;have hil:s1.heap.IsList l its.toArray:=⟨_,eo,rfl,_,rfl⟩;refine call_reversed_list hil ?_;refine Calls.spliced_nil ?_;have hln:l≠s1.heap.objs.size:=λe=>absurd (Heap.lt_size eo) (by rw[e];exact jK _);have hh:=I1.ok.hd hc;have hle:its.toArray.size=xs.length:=by have:=rv.length;simp;omega
  have key:(s1.heap.push (revObj l ((its.toArray.size:Int)-1))).IsRevIter s1.heap.objs.size l ((its.toArray.size:Int)-1-((0:Nat):Int)):=⟨_,Heap.get?_push_size _ rfl,rfl,by simp[revObj]⟩;have W:=(Walks.listRev (prog:=X.prog) (w:=X.w) (A:=X.A.in1.in1) hh s1.heap.objs.size l hln its.toArray).toS;have hsz2:(s1.heap.push (revObj l ((its.toArray.size:Int)-1))).objs.size=s1.heap.objs.size+1:=by simp[Heap.push]
  refine apy (s:={ s1 with heap:=s1.heap.push (revObj l ((its.toArray.size:Int)-1)) }) W (λi s' st=>st.2.1.typeIs) ⟨cJ _,key,hil.push _⟩ (λb hb=>?_) (by simp) (λs' acc' c' hm' hS' hacc=>?_) (by rw[hle];exact z)
  .have hb':b=s1.heap.objs.size∨b=l:=by simpa using hb
   have:=Heap.lt_size eo;show b<(s1.heap.push (revObj l ((its.toArray.size:Int)-1))).objs.size;rcases hb' with z|z
   .rw[z,hsz2];exact C6 _
   .rw[z,hsz2];exact Nat.lt_succ_of_lt this
  .have I3:Inv X pins σ H1 { s1 with heap:=s1.heap.push (revObj l ((its.toArray.size:Int)-1)) }:=I1.kept (t':=s1.toks) λb o e=>Heap.get?_push_of_some _ e;obtain⟨f0,f1,f2,f3,f4,f5⟩:=I1.ou (H':=H1) (aN _) I1.fresh;have hfree:H1 (s1.heap.push (revObj l ((its.toArray.size:Int)-1))).objs.size=none:=I3.hok.fresh (aN _);have hfp:=I3.ou (H':=H1) (aN _) hfree;have hv:Vals xs.reverse acc'.toList:=by
    have e:acc'.toList=its.reverse:=by
     obtain⟨h1,h2⟩:=hacc;refine List.ext_getElem? λj=>?_;have hs1:acc'.toList.length=its.length:=by simpa using h1
     by_cases hj:j<its.length
     .have a1:acc'[j]?=some (acc'[j]'(by simpa using(hs1▸hj:j<acc'.toList.length))):=Array.getElem?_eq_getElem _;have a2:=h2 j _ a1;rw[U8 hj,WX,a1,<-a2];simp
     .rw[ud (by omega),ud (by rw[qQ];omega)]
    rw[e];exact rv.reverse
   obtain⟨hp',g',d',t'',o'⟩:=s';have eg:g'=s1.gens:=hm'.gens;have ed:d'=s1.drawn:=hm'.drawn;have eo':o'=s1.os:=hm'.os;subst eg ed eo';have I5:=I3.turned (h':=hp') (it:=s1.heap.objs.size) (t':=t'') (λb o hb e=>hm'.heap b o (by
    have hlt:=Heap.lt_size e;have:b≠(s1.heap.push (revObj l ((its.toArray.size:Int)-1))).objs.size:=kZ hlt;simp only[cj,gR,or_false,not_or];exact⟨this,hb⟩) (Heap.get?_push_of_some _ e)) f0 f1 f3 f4 f5
   refine⟨.ref _,_,I5.at4 (o:= .lst xs.reverse) hfp ?_,rfl,q _ hfree⟩;exact⟨by rw[qQ];exact z,acc'.toList,c',hv,by simpa using hS'⟩
end
end L2
namespace Rm
def tk(b n:Int):Int:=if b=0 then n else n%b
def bh(n:Int):tk 0 n=n:=if_pos rfl
def jN{b:Int}(h:b≠0)(n:Int):tk b n=n%b:=if_neg h
def gq(b n:Int):tk b (tk b n)=tk b n:=by
 unfold tk;split
 .rfl
 .exact nR _ (nA b)
def jP(b x y:Int):tk b (tk b x+y)=tk b (x+y):=by
 unfold tk;split
 .rfl
 .exact Int.emod_add_emod ..
def yc(b x y:Int):tk b (x+tk b y)=tk b (x+y):=by
 rw[oG,jP,oG]
def dF(b x y:Int):tk b (x*tk b y)=tk b (x*y):=by
 unfold tk;split
 .rfl
 .rw[mL,nR _ (nA b),<-mL]
def jA(b x y:Int):tk b (tk b x*y)=tk b (x*y):=by
 rw[bY,dF,bY]
def jE{b x x' y y':Int}(h:tk b x=tk b x')(h':tk b y=tk b y'):tk b (x+y)=tk b (x'+y'):=by
 rw[<-jP,<-yc,h,h',yc,jP]
def S(rule:List Int)(f:Nat->Int)(n:Nat):Nat->Int
 |0=>0
 |m+1=>S rule f n m+rule.getD m 0*f (n-1-m)
theorem Lz{rule:List Int}{f g:Nat->Int}{n:Nat}:∀{m:Nat},(∀k,k<m->f (n-1-k)=g (n-1-k))->S rule f n m=S rule g n m
 |0,_=>rfl
 |m+1,h=>by
  unfold S;rw[Lz λk hk=>h k (by omega),h m (by omega)]
theorem getD_map{f:Int->Int}(h0:f 0=0):∀(l:List Int) (k:Nat),(l.map f).getD k 0=f (l.getD k 0)
 |[],k=>by simp[h0]
 |x::r,0=>by simp
 |x::r,k+1=>by
  have:=getD_map h0 r k;simpa using this
def row(b:Int)(rule starts:List Int):Nat->List Int
 |0=>[]
 |n+1=>row b rule starts n++[if n<starts.length then starts.getD n 0 else tk b (S rule (λi=>(row b rule starts n).getD i 0) n rule.length)]
theorem oV(b:Int)(rule starts:List Int):∀n,(row b rule starts n).length=n
 |0=>rfl
 |n+1=>by simp[row,oV b rule starts n]
def at_(b:Int)(rule starts:List Int)(n:Nat):Int:=(row b rule starts (n+1)).getD n 0
theorem Jb(b:Int)(rule starts:List Int):∀{n i:Nat},i<n->(row b rule starts n).getD i 0=at_ b rule starts i
 |n+1,i,h=>by
  by_cases e:i=n
  .subst e;rfl
  .have hi:i<n:=by omega
   have hl:=oV b rule starts n;have:=Jb b rule starts (n:=n) (i:=i) hi;rw[<-this];show(row b rule starts n++_).getD i 0=_;rw[dh,Tf (by omega),<-dh]
def HD(b:Int)(rule starts:List Int)(n:Nat):at_ b rule starts n=if n<starts.length then starts.getD n 0 else tk b (S rule (λi=>(row b rule starts n).getD i 0) n rule.length):=by
 unfold at_;have hl:=oV b rule starts n;show(row b rule starts n++_).getD n 0=_;rw[dh,RT (by omega),hl];simp
def xZ{b:Int}{rule starts:List Int}{n:Nat}(h:n<starts.length):at_ b rule starts n=starts.getD n 0:=by
 rw[HD,if_pos h]
def DG{b:Int}{rule starts:List Int}{n:Nat}(hl:rule.length=starts.length)(h:starts.length<=n):at_ b rule starts n=tk b (S rule (at_ b rule starts) n rule.length):=by
 rw[HD,if_neg (by omega)];congr 1;refine Lz λk hk=>Jb b rule starts (by omega)
theorem Nu(b:Int)(rule starts:List Int):∀n,row b rule starts n=(List.range n).map (at_ b rule starts)
 |0=>rfl
 |n+1=>by
  rw[Rh,jq,<-Nu b rule starts n];show _++[_]=_++[at_ b rule starts n];rw[HD]
def anr(b:Int)(rule starts:List Int)(n:Nat):row b rule starts (n+1)=row b rule starts n++[at_ b rule starts n]:=by
 rw[HD];rfl
def YW{b:Int}{rule starts:List Int}(hl:rule.length=starts.length){g:Nat->Int}(h1:∀i,i<starts.length->g i=starts.getD i 0)
  (h2:∀i,starts.length<=i->g i=tk b (S rule g i rule.length)):∀n,at_ b rule starts n=g n:=by
 intro n;induction n using Nat.strongRecOn with
 |ind n ih=>
  by_cases h:n<starts.length
  .rw[xZ h,h1 n h]
  .rw[DG hl (by omega),h2 n (by omega)];congr 1;exact Lz λk hk=>ih _ (by omega)
theorem R5{b:Int}{rule starts:List Int}:∀{n:Nat},n<=starts.length->row b rule starts n=starts.take n
 |0,_=>by simp[row]
 |n+1,h=>by
  rw[anr,R5 (by omega),xZ (by omega),qO,dh,eY (by omega)];rfl
def Bd(n:Nat)(x:Int):Prop:=x.natAbs<2^n
def Bd.mono{m n:Nat}{x:Int}(h:Bd m x)(hmn:m<=n):Bd n x:=jd h (uU (by decide) hmn)
def Bd.mul{m n:Nat}{x y:Int}(h:Bd m x)(h':Bd n y):Bd (m+n) (x*y):=by
 unfold Bd at *;rw[mU,Nat.pow_add];exact Nat.mul_lt_mul'' h h'
def Bd.add{n:Nat}{x y:Int}(h:Bd n x)(h':Bd n y):Bd (n+1) (x+y):=by
 unfold Bd at *;have:=Int.natAbs_add_le x y;rw[zZ];omega
def Bd.zero(n:Nat):Bd n 0:=SX (by decide)
def Bd.of{n:Nat}{x:Int}(h1:-(2^n)<x)(h2:x<2^n):Bd n x:=by
 unfold Bd;have e:((2^n:Nat):Int)=(2:Int)^n:=by simp
 omega
def Bd.emod{n:Nat}{x b:Int}(hb:0<b)(h:Bd n b):Bd n (x%b):=by
 unfold Bd at *;have:=qC x (show b≠0 by omega);have:=rz x hb;omega
theorem Bd.S{rule:List Int}{f:Nat->Int}{n a c:Nat}(hr:∀k,Bd a (rule.getD k 0)):∀m:Nat,(∀k,k<m->Bd c (f (n-1-k)))->Bd (a+c+m) (Rm.S rule f n m)
 |0,_=>Bd.zero _
 |m+1,h=>by
  unfold Rm.S;refine Bd.add (n:=a+c+m) (Bd.S hr m λk hk=>h k (by omega)) (((hr m).mul (h m (by omega))).mono (by omega))
def ae4(l:List Int)(k:Nat):l.getD k 0=0∨l.getD k 0∈l:=by
 by_cases h:k<l.length
 .right;rw[dh,eY h];exact DW h
 .left;rw[dh,ud (by omega)];rfl
theorem Bd.getD{l:List Int}{n:Nat}(h:∀x∈l,Bd n x)(k:Nat):Bd n (l.getD k 0):=by
 rcases ae4 l k with e|e
 .rw[e];exact .zero n
 .exact h _ e
def rK{b x:Int}{n:Nat}(hb:0<=b)(hb':Bd n b)(h:Bd n x):Bd n (tk b x):=by
 unfold tk;split
 .exact h
 .exact Bd.emod (by omega) hb'
def abj{b:Int}{rule starts:List Int}{a c:Nat}(hl:rule.length=starts.length)(hb:0<=b)(hb':Bd c b)(hr:∀x∈rule,Bd a x)(hs:∀x∈starts,Bd c x):
  ∀n,Bd (c+n*(a+rule.length)) (at_ b rule starts n):=by
 intro n;induction n using Nat.strongRecOn with
 |ind n ih=>
  by_cases h:n<starts.length
  .rw[xZ h];exact(Bd.getD hs n).mono (by omega)
  .rw[DG hl (by omega)];by_cases h0:rule.length=0
   .rw[h0];exact rK hb (hb'.mono (by omega)) (.zero _)
   .have hn:0<n:=by omega
    have q:=Bd.S (rule:=rule) (f:=at_ b rule starts) (n:=n) (a:=a) (c:=c+(n-1)*(a+rule.length)) (λk=>Bd.getD hr k) rule.length λk hk=>by
     refine(ih (n-1-k) (by omega)).mono ?_;have:(n-1-k)*(a+rule.length)<=(n-1)*(a+rule.length):=lW _ (by omega);omega
    have e:n*(a+rule.length)=(n-1)*(a+rule.length)+(a+rule.length):=by
     obtain⟨m,rfl⟩:∃m,n=m+1:=⟨n-1,by omega⟩;rw[dY,pW]
    exact rK hb (hb'.mono (by omega)) (q.mono (by omega))
end Rm
namespace Om
def ni:List Nat:=[2,3,5,7,11,13,17,19,23,29,31,37,41,43,47,53,59,61,67,71,73,79,83,89,97,101,103,107,109,113,127,131,137,139,149,151,157,163,167,173,179,181,191,193,197,199,211,223,227,229,233,239,241,251,257,263,269,271,277,281,283,293,307,311,313,317,331,337,347,349,353,359,367,373,379,383,389,397,401,409,419,421,431,433,439,443,449,457,461,463,467,479,487,491,499,503,509,521,523,541,547,557,563,569,571,577,587,593,599,601,607,613,617,619,631,641,643,647,653,659,661,673,677,683,691,701,709,719,727,733,739,743,751,757,761,769,773,787,797,809,811,821,823,827,829,839,853,857,859,863,877,881,883,887,907,911,919,929,937,941,947,953,967,971,977,983,991,997]
def Hz(p:Nat):Nat->Bool
 |0=>true
 |a+1=>(Nat.beq a 0||Nat.beq ((Nat.pow a (p-1))%p) 1)&&Hz p a
set_option maxRecDepth 100000 in
def asf:(ni.all λp=>Hz p p)=true:=by decide +kernel
theorem Xb{p:Nat}:∀{n:Nat},Hz p n=true->∀a,a<n->a≠0->a^(p-1)%p=1
 |n+1,h,a,ha,h0=>by
  unfold Hz at h;rw[vp]at h;by_cases e:a=n
  .subst e;have h1:=h.1;rw[Bq]at h1;rcases h1 with h1|h1
   .exact absurd (Rg h1) h0
   .exact Rg h1
  .exact Xb h.2 a (by omega) h0
def ah3{p a:Nat}(hp:p∈ni)(h0:a≠0)(h:a<p):a^(p-1)%p=1:=
 Xb (tK.mp asf p hp) a h h0
def Dq{p a:Int}{P:Nat}(hP:p=(P:Int))(hp:P∈ni)(h0:0<a)(h:a<p):a^(P-1)%p=1:=by
 obtain⟨n,rfl⟩:∃n:Nat,a=(n:Int):=⟨a.toNat,by omega⟩;subst hP;have:=ah3 hp (a:=n) (by omega) (by omega);have e:((n:Int)^(P-1))=((n^(P-1):Nat):Int):=by simp
 rw[e,<-Ge,this];rfl
def mod_mul{x y x' y' p:Int}(h:x%p=x'%p)(h':y%p=y'%p):(x*y)%p=(x'*y')%p:=by
 rw[mL,h,h',<-mL]
theorem Mr{x x' p:Int}(h:x%p=x'%p):∀n:Nat,(x^n)%p=(x'^n)%p
 |0=>by simp
 |n+1=>by rw[gZ,gZ];exact mod_mul (Mr h n) h
def Keeps(p a:Int)(e:Nat)(power square:Int)(left:Nat):Prop:=(power*square^left)%p=(a^e)%p
def aoJ(p a:Int)(e:Nat):Keeps p a e 1 a e:=by unfold Keeps;rw[gM]
theorem Pr(x:Int):∀n:Nat,(x*x)^n=x^(2*n)
 |0=>by simp
 |n+1=>by
  rw[gZ,Pr x n,show 2*(n+1)=2*n+1+1 by omega,gZ,gZ,bN]
def ajk{p a:Int}{e:Nat}{power square:Int}{left:Nat}(h:Keeps p a e power square left)(ho:left%2=1):Keeps p a e (power*square%p) (square*square%p) (left/2):=by
 unfold Keeps at *;have h1:(power*square%p)%p=(power*square)%p:=nR _ (nA p);have h2:=Mr (p:=p) (x:=square*square%p) (x':=square*square) (nR _ (nA p)) (left/2);rw[mod_mul h1 h2,<-h,Pr,bN];have e2:left=2*(left/2)+1:=by omega
 conv=>rhs;rw[e2,gZ]
 rw[bY square]
def aiM{p a:Int}{e:Nat}{power square:Int}{left:Nat}(h:Keeps p a e power square left)(ho:¬left%2=1):Keeps p a e power (square*square%p) (left/2):=by
 unfold Keeps at *;have h2:=Mr (p:=p) (x:=square*square%p) (x':=square*square) (nR _ (nA p)) (left/2);rw[mod_mul rfl h2,<-h,Pr];have e2:left=2*(left/2):=by omega
 conv=>rhs;rw[e2]
def alm{p a:Int}{e:Nat}{power square:Int}(h:Keeps p a e power square 0):power%p=a^e%p:=by
 unfold Keeps at h
 rwa [oB,iI]at h
end Om
namespace Pm
open Rm
def sm:Nat->(Nat->Int)->Int
 |0,_=>0
 |n+1,f=>sm n f+f n
theorem aP{f g:Nat->Int}:∀{n:Nat},(∀k,k<n->f k=g k)->sm n f=sm n g
 |0,_=>rfl
 |n+1,h=>by rw[sm,sm,aP λk hk=>h k (by omega),h n (by omega)]
theorem vP:∀n:Nat,sm n (λ_=>0)=0
 |0=>rfl
 |n+1=>by rw[sm,vP n];rfl
def jo{f:Nat->Int}{n:Nat}(h:∀k,k<n->f k=0):sm n f=0:=by rw[aP h,vP]
theorem nW(f:Nat->Int):∀n:Nat,sm (n+1) f=f 0+sm n (λi=>f (i+1))
 |0=>by simp[sm]
 |n+1=>by
  rw[sm,nW f n,sm,Gi]
theorem iy(f g:Nat->Int):∀n:Nat,sm n (λk=>f k+g k)=sm n f+sm n g
 |0=>rfl
 |n+1=>by rw[sm,sm,sm,iy f g n];omega
theorem dj(c:Int)(f:Nat->Int):∀n:Nat,sm n (λk=>c*f k)=c*sm n f
 |0=>by simp[sm]
 |n+1=>by rw[sm,sm,dj c f n,iW]
theorem nH{f:Nat->Int}{m:Nat}:∀{n:Nat},m<=n->(∀k,m<=k->k<n->f k=0)->sm n f=sm m f
 |0,h,_=>by rw[show m=0 by omega]
 |n+1,h,h0=>by
  by_cases e:m=n+1
  .rw[e]
  .rw[sm,nH (n:=n) (by omega) (λk h1 h2=>h0 k h1 (by omega)),h0 n (by omega) (by omega),cU]
def tk0(b:Int):tk b 0=0:=by unfold tk;split<;>simp
theorem iz{b:Int}{f g:Nat->Int}:∀{n:Nat},(∀k,k<n->tk b (f k)=tk b (g k))->tk b (sm n f)=tk b (sm n g)
 |0,_=>rfl
 |n+1,h=>by
  rw[sm,sm];exact jE (iz λk hk=>h k (by omega)) (h n (by omega))
theorem abK(f:Nat->Int):∀n:Nat,((List.range n).map f).sum=sm n f
 |0=>rfl
 |n+1=>by rw[Rh,jq,J7,abK f n];simp[sm]
def cv:(Nat->Int)->(Nat->Int)->Nat->Int
 |f,g,0=>f 0*g 0
 |f,g,k+1=>f 0*g (k+1)+cv (λi=>f (i+1)) g k
theorem fV:∀(f g:Nat->Int) (k:Nat),cv f g k=sm (k+1) (λj=>f j*g (k-j))
 |f,g,0=>by simp[cv,sm]
 |f,g,k+1=>by
  rw[cv,fV _ g k,nW (λj=>f j*g (k+1-j))];refine congrArg (_ + ·) (aP λj hj=>?_);rw[show k+1-(j+1)=k-j by omega]
theorem RJ:∀(f g:Nat->Int) (k:Nat),cv f g (k+1)=cv f (λi=>g (i+1)) k+f (k+1)*g 0
 |f,g,0=>rfl
 |f,g,k+1=>by
  rw[cv,RJ (λi=>f (i+1)) g k,cv,Gi]
theorem jz:∀(f g:Nat->Int) (k:Nat),cv f g k=cv g f k
 |f,g,0=>bY _ _
 |f,g,k+1=>by
  rw[cv,RJ,jz (λi=>f (i+1)) g k,oG,bY]
def ql{f f' g g':Nat->Int}{k:Nat}(h:∀i,i<=k->f i=f' i)(h':∀i,i<=k->g i=g' i):cv f g k=cv f' g' k:=by
 rw[fV,fV];exact aP λj hj=>by rw[h j (by omega),h' _ (by omega)]
def ig{b:Int}{f f' g g':Nat->Int}{k:Nat}(h:∀i,i<=k->tk b (f i)=tk b (f' i))(h':∀i,i<=k->tk b (g i)=tk b (g' i)):tk b (cv f g k)=tk b (cv f' g' k):=by
 rw[fV,fV];exact iz λj hj=>by rw[<-jA,<-dF,h j (by omega),h' _ (by omega),dF,jA]
def lZ(f f' g:Nat->Int)(k:Nat):cv (λi=>f i+f' i) g k=cv f g k+cv f' g k:=by
 rw[fV,fV,fV,<-iy];exact aP λj _=>rE ..
def Qq(f g g':Nat->Int)(k:Nat):cv f (λi=>g i+g' i) k=cv f g k+cv f g' k:=by
 rw[jz,lZ,jz,jz g']
def nT(c:Int)(f g:Nat->Int)(k:Nat):cv (λi=>c*f i) g k=c*cv f g k:=by
 rw[fV,fV,<-dj];exact aP λj _=>bN ..
theorem gG:∀(f g h:Nat->Int) (k:Nat),cv (cv f g) h k=cv f (cv g h) k
 |f,g,h,0=>by simp[cv,bN]
 |f,g,h,k+1=>by
  have e:(λi=>cv f g (i+1))=λi=>f 0*(λi=>g (i+1)) i+cv (λi=>f (i+1)) g i:=rfl;rw[cv,e,lZ (λi=>f 0*(λi=>g (i+1)) i),nT,gG (λi=>f (i+1)) g h k,cv,cv,cv];rw[iW,bN];omega
def jY{f g:Nat->Int}{k:Nat}(h:∀i,i<=k->f i=0∨g (k-i)=0):cv f g k=0:=by
 rw[fV];exact jo λj hj=>by rcases h j (by omega)with e|e<;>rw[e]<;>simp
def co(p:List Int)(k:Nat):Int:=p.getD k 0
def fL(k:Nat):co [] k=0:=by simp[co]
def fH(x:Int)(r:List Int):co (x::r) 0=x:=by simp[co]
def jf(x:Int)(r:List Int)(k:Nat):co (x::r) (k+1)=co r k:=by simp[co]
def aY{p:List Int}{k:Nat}(h:p.length<=k):co p k=0:=by
 rw[co,dh,ud h];rfl
def iV{p:List Int}{k:Nat}(h:k<p.length):co p k=p[k]:=by
 rw[co,dh,eY h];rfl
def pN{p:List Int}{k:Nat}(h:k<p.length):co p k∈p:=by rw[iV h];exact DW h
def aH(n:Nat)(f:Nat->Int):List Int:=(List.range n).map f
def bG(n:Nat)(f:Nat->Int):(aH n f).length=n:=by simp[aH]
def dw(n:Nat)(f:Nat->Int)(k:Nat):co (aH n f) k=if k<n then f k else 0:=by
 by_cases h:k<n
 .rw[if_pos h,co,aH,dh,jV,B5 h];rfl
 .rw[if_neg h,aY (by rw[bG];omega)]
def Rk(n:Nat)(f:Nat->Int):aH (n+1) f=aH n f++[f n]:=by
 rw[aH,Rh,jq];rfl
def Tq(p:List Int):aH p.length (co p)=p:=by
 apply Nz (by rw[bG]);intro i h1 h2;simp only[aH,QN,List.getElem_range];exact iV h2
def qK{p q:List Int}(hl:p.length=q.length)(h:∀k,co p k=co q k):p=q:=by
 rw[<-Tq p,<-Tq q,hl];exact wj λk _=>h k
def yF(p:List Int)(i:Nat)(x:Int)(k:Nat)(hi:i<p.length):co (p.set i x) k=if k=i then x else co p k:=by
 unfold co;rw[dh,List.getElem?_set,dh];by_cases e:i=k
 .subst e;simp[hi]
 .rw[if_neg e,if_neg (λz=>e z.symm)]
def lV{f:Int->Int}(h:f 0=0)(p:List Int)(k:Nat):co (p.map f) k=f (co p k):=getD_map h p k
def mK(p q:List Int)(k:Nat):co (p++q) k=if k<p.length then co p k else co q (k-p.length):=by
 unfold co;by_cases h:k<p.length
 .rw[if_pos h,dh,Tf h,<-dh]
 .rw[if_neg h,dh,RT (by omega),<-dh]
def trim:List Int->List Int
 |[]=>[]
 |x::r=>if x=0/\trim r=[]then[]else x::trim r
theorem nO:∀(p:List Int) (k:Nat),co (trim p) k=co p k
 |[],k=>rfl
 |x::r,k=>by
  rw[trim];have ih:=nO r;by_cases h:x=0/\trim r=[]
  .rw[if_pos h];rw[h.2]at ih;cases k with
   |zero=>rw[fL,fH,h.1]
   |succ k=>rw[jf,<-ih k,fL,fL]
  .rw[if_neg h];cases k with
   |zero=>rw[fH,fH]
   |succ k=>rw[jf,jf,ih k]
def Gh{p:List Int}:trim p=[]↔∀k,co p k=0:=by
 constructor
 .intro h k;rw[<-nO,h,fL]
 .intro h;induction p with
  |nil=>rfl
  |cons x r ih=>
   rw[trim,if_pos ⟨by have:=h 0;rwa [fH]at this,ih λk=>by have:=h (k+1);rwa [jf]at this⟩]
theorem zp:∀{p q:List Int},(∀k,co p k=co q k)->trim p=trim q
 |[],q,h=>by rw[show trim q=[]from Gh.mpr λk=>by rw[<-h k,fL]];rfl
 |x::r,[],h=>by rw[show trim (x::r)=[]from Gh.mpr λk=>by rw[h k,fL]];rfl
 |x::r,y::s,h=>by
  have e1:=h 0;rw[fH,fH]at e1;have e2:trim r=trim s:=zp λk=>by have:=h (k+1);rwa [jf,jf]at this
  rw[trim,trim,e1,e2]
def K6(p:List Int):trim (trim p)=trim p:=zp (nO p)
theorem uF:∀p:List Int,(trim p).length<=p.length
 |[]=>aN _
 |x::r=>by
  have:=uF r;rw[trim];split
  .simp
  .simp;omega
theorem LC:∀{p:List Int} {n:Nat},(∀k,n<=k->co p k=0)->(trim p).length<=n
 |[],n,_=>cJ _
 |x::r,0,h=>by rw[Gh.mpr λk=>h k (cJ _)];exact aN 0
 |x::r,n+1,h=>by
  have:=LC (p:=r) (n:=n) λk hk=>by have:=h (k+1) (by omega);rwa [jf]at this
  rw[trim];split
  .simp
  .simp;omega
def YG(p:List Int):trim (p++[0])=trim p:=zp λk=>by
 rw[mK];by_cases h:k<p.length
 .rw[if_pos h]
 .rw[if_neg h,aY (p:=p) (by omega)];cases k-p.length with
  |zero=>rfl
  |succ j=>rw[jf,fL]
theorem M6:∀(p:List Int) {x:Int},x≠0->trim (p++[x])=p++[x]
 |[],x,h=>by simp[trim,h]
 |y::r,x,h=>by
  show trim (y::(r++[x]))=_;rw[trim,M6 r h,if_neg (by simp)];rfl
def KC{p:List Int}{x:Int}(h:x∈trim p):x∈p:=by
 induction p with
 |nil=>exact h
 |cons y r ih=>
  rw[trim]at h;split at h
  .cases h
  .rcases cj.mp h with rfl|h
   .exact cQ
   .exact dg _ (ih h)
structure Py(b:Int)(p:List Int):Prop where
 tr:trim p=p
 nu:∀x∈p,tk b x=x
theorem Py.co{b:Int}{p:List Int}(h:Py b p)(k:Nat):tk b (co p k)=co p k:=by
 by_cases hk:k<p.length
 .exact h.nu _ (pN hk)
 .rw[aY (by omega),tk0]
def Py.ext{b:Int}{p q:List Int}(h:Py b p)(h':Py b q)(e:∀k,tk b (Pm.co p k)=tk b (Pm.co q k)):p=q:=by
 rw[<-h.tr,<-h'.tr];exact zp λk=>by rw[<-h.co k,<-h'.co k];exact e k
def Py.of{b:Int}{p:List Int}(h:∀x∈p,tk b x=x):Py b (trim p):=⟨K6 p,λx hx=>h x (KC hx)⟩
def Py.nil(b:Int):Py b []:=⟨rfl,λ_ h=>nomatch h⟩
def nF{n:Nat}{f:Nat->Int}{x:Int}(h:x∈aH n f):∃k,k<n/\x=f k:=by
 obtain⟨k,hk,e⟩:=cM.mp h;exact⟨k,kW.mp hk,e.symm⟩
theorem Py.aH(b:Int)(n:Nat)(f:Nat->Int):Py b (trim (Pm.aH n λk=>tk b (f k))):=Py.of λx hx=>by
 obtain⟨k,_,rfl⟩:=nF hx;exact gq ..
def add(b:Int)(p q:List Int):List Int:=trim (aH (max p.length q.length) λk=>tk b (co p k+co q k))
def mul(b:Int)(p q:List Int):List Int:=trim (aH (p.length+q.length) λk=>tk b (cv (co p) (co q) k))
def Fl(b:Int)(p q:List Int):Py b (add b p q):=Py.aH ..
def pA(b:Int)(p q:List Int):Py b (mul b p q):=Py.aH ..
def xg(b:Int)(p q:List Int)(k:Nat):co (add b p q) k=tk b (co p k+co q k):=by
 rw[add,nO,dw];split
 .rfl
 .rw[aY (p:=p) (by omega),aY (p:=q) (by omega),cU,tk0]
def jX(b:Int)(p q:List Int)(k:Nat):co (mul b p q) k=tk b (cv (co p) (co q) k):=by
 rw[mul,nO,dw];split
 .rfl
 .rw[jY,tk0];intro i hi;by_cases h:i<p.length
  .exact .inr (aY (by omega))
  .exact .inl (aY (by omega))
theorem add_comm(b:Int)(p q:List Int):add b p q=add b q p:=(Fl ..).ext (Fl ..) λk=>by rw[xg,xg,oG]
def mul_comm(b:Int)(p q:List Int):mul b p q=mul b q p:=(pA ..).ext (pA ..) λk=>by rw[jX,jX,jz]
def mul_one{b:Int}{p:List Int}(h:Py b p):mul b p [1]=p:=(pA ..).ext h λk=>by
 rw[jX,gq];congr 1;rw[jz,fV,nH (m:=1) (by omega) λj h1 _=>by
  rw[show co [1] j=0 from aY (by simpa using h1),fU]]
 simp[sm,fH]
def nil_add{b:Int}{p:List Int}(h:Py b p):add b [] p=p:=(Fl ..).ext h λk=>by
 rw[xg,fL,gC,gq]
def W(f g:Nat->Int)(i k c:Nat):Int:=sm i (λj=>if j<=c then f j*g (c-j)else 0)+(if i<=c/\c-i<k then f i*g (c-i)else 0)
def afw(f g:Nat->Int)(c:Nat):W f g 0 0 c=0:=by simp[W,sm]
def alk{f g:Nat->Int}{i k c:Nat}:W f g i (k+1) c=W f g i k c+(if c=i+k then f i*g k else 0):=by
 unfold W;by_cases h:c=i+k
 .rw[if_pos h,if_pos (by omega),if_neg (by omega),show c-i=k by omega];omega
 .rw[if_neg h];by_cases h2:i<=c/\c-i<k
  .rw[if_pos h2,if_pos (by omega)];omega
  .rw[if_neg h2,if_neg (by omega)];omega
def ail{f g:Nat->Int}{i n c:Nat}(hg:∀k,n<=k->g k=0):W f g i n c=W f g (i+1) 0 c:=by
 unfold W;rw[sm,if_neg (show ¬(i+1<=c/\c-(i+1)<0)by omega)];by_cases h:i<=c
 .rw[if_pos h];by_cases h2:c-i<n
  .rw[if_pos ⟨h,h2⟩];omega
  .rw[if_neg (by omega),hg _ (by omega),aR];omega
 .rw[if_neg (by omega),if_neg h];omega
def abl{f g:Nat->Int}{m c:Nat}(hf:∀k,m<=k->f k=0):W f g m 0 c=cv f g c:=by
 unfold W;rw[if_neg (by omega),cU,fV];by_cases h:m<=c+1
 .rw[nH (n:=c+1) h λk h1 _=>by rw[hf k h1,fU]];exact aP λj hj=>if_pos (by omega)
 .rw[nH (m:=c+1) (n:=m) (by omega) λk h1 _=>if_neg (by omega)];exact aP λj hj=>if_pos (by omega)
end Pm
namespace Pm
open Rm
theorem Ef(F:Nat->Nat->Int)(m:Nat):∀n:Nat,sm m (λk=>sm n (λj=>F k j))=sm n (λj=>sm m (λk=>F k j))
 |0=>by simp only[sm];exact vP m
 |n+1=>by
  simp only[sm];rw[iy,Ef F m n]
theorem tE(rule:List Int)(f:Nat->Int)(n:Nat):∀m:Nat,S rule f n m=sm m (λk=>co rule k*f (n-1-k))
 |0=>rfl
 |m+1=>by rw[S,sm,tE rule f n m];rfl
def ks(p:List Int)(a:Nat->Int)(n:Nat):Int:=sm p.length (λk=>co p k*a (n+k))
def ajS{b:Int}{rule p:List Int}{a:Nat->Int}(ha:∀n,rule.length<=n->tk b (a n)=tk b (S rule a n rule.length)){n:Nat}(hn:rule.length<=n):
  tk b (ks p a n)=tk b (S rule (ks p a) n rule.length):=by
 have e1:tk b (ks p a n)=tk b (sm p.length (λk=>co p k*sm rule.length (λj=>co rule j*a (n+k-1-j)))):=by
  refine iz λk _=>?_;rw[<-dF,ha (n+k) (by omega),dF,tE]
 rw[e1,tE];congr 1;have e2:(λk=>co p k*sm rule.length (λj=>co rule j*a (n+k-1-j)))=λk=>sm rule.length (λj=>co rule j*(co p k*a (n+k-1-j))):=by
  funext k
  rw[<-dj];exact aP λj _=>gj ..
 rw[e2,Ef];refine aP λj hj=>?_;rw[dj];congr 1;refine aP λk _=>?_;rw[show n-1-j+k=n+k-1-j by omega]
def Tv{b:Int}{rule p:List Int}{a:Nat->Int}(ha:∀n,rule.length<=n->tk b (a n)=tk b (S rule a n rule.length))(h0:∀n,n<rule.length->tk b (ks p a n)=0):
  ∀n,tk b (ks p a n)=0:=by
 intro n;induction n using Nat.strongRecOn with
 |ind n ih=>
  by_cases h:n<rule.length
  .exact h0 n h
  .rw[ajS ha (by omega),tE];have:tk b (sm rule.length λk=>co rule k*ks p a (n-1-k))=tk b (sm rule.length λ_=>0):=iz λk hk=>by
    rw[<-dF,ih (n-1-k) (by omega),aR]
   rw[this,vP,tk0]
def aU(b:Int)(c:List Int):List Int:=aH c.length (λk=>tk b (0-co c (c.length-1-k)))++[1]
def fR(b:Int)(p:List Int):List Int:=aH (p.length-1) (λk=>tk b (0-co p (p.length-1-1-k)))
def kj(b:Int)(c:List Int):(aU b c).length=c.length+1:=by simp[aU,bG]
def Yk(b x:Int):tk b (0-tk b (0-x))=tk b x:=by
 have h:tk b (tk b (0-x)+(0-tk b (0-x)))=tk b ((0-x)+(0-tk b (0-x))):=jP ..;have e1:tk b (0-x)+(0-tk b (0-x))=0:=by omega
 rw[e1]at h;have h2:tk b (tk b (0-tk b (0-x))+(0-x))=tk b 0:=by rw[jP,oG];exact h.symm
 have h3:tk b (tk b (0-tk b (0-x)))=tk b x:=by
  have:=jE h2 (rfl:tk b x=tk b x);rw[show tk b (0-tk b (0-x))+(0-x)+x=tk b (0-tk b (0-x))by omega,gC]at this;exact this
 rwa [gq]at h3
def ad1{b:Int}{rule starts:List Int}(hl:rule.length=starts.length):∀n,rule.length<=n->tk b (at_ b rule starts n)=tk b (S rule (at_ b rule starts) n rule.length):=λn hn=>by
 rw[DG hl (by omega),gq]
theorem Br{f:Nat->Int}{c:Nat}:∀n:Nat,(∀k,k<n->Bd c (f k))->Bd (c+n) (sm n f)
 |0,_=>Bd.zero _
 |n+1,h=>by
  rw[sm];exact Bd.add (n:=c+n) (Br n λk hk=>h k (by omega)) ((h n (by omega)).mono (by omega))
def jm{p:List Int}{u:Nat}(h:∀x∈p,Bd u x)(k:Nat):Bd u (co p k):=Bd.getD h k
def Vs{b:Int}{c:List Int}{u:Nat}(hb:0<=b)(hb1:b<1000)(hu:10<=u)(h:∀x∈c,Bd u x):∀x∈aU b c,Bd u x:=by
 intro x hx;rcases eV.mp hx with hx|hx
 .obtain⟨k,_,rfl⟩:=nF hx;refine rK hb ((Bd.of (n:=10) (by omega) (by omega)).mono (by omega)) ?_;have:=jm h (c.length-1-k);unfold Bd at this⊢;rw[oA,CJ];exact this
 .rw[cP.mp hx];exact(Bd.of (n:=10) (by decide) (by decide)).mono hu
end Pm
namespace Pm
open Rm
theorem mO(x:Int)(j:Nat):∀n:Nat,sm n (λi=>if i=j then x else 0)=if j<n then x else 0
 |0=>by simp[sm]
 |n+1=>by
  rw[sm,mO x j n];by_cases h:n=j
  .rw[if_pos h,if_neg (by omega),if_pos (by omega)];omega
  .rw[if_neg h];by_cases h2:j<n
   .rw[if_pos h2,if_pos (by omega)];omega
   .rw[if_neg h2,if_neg (by omega)];omega
def mz{b x y:Int}:tk b (x-y)=0↔tk b x=tk b y:=by
 constructor
 .intro h;have:=jE (b:=b) (x:=x-y) (x':=0) (y:=y) (y':=y) (by rw[h,tk0]) rfl
  rwa [show x-y+y=x by omega,gC]at this
 .intro h;have:=jE (b:=b) (x:=x) (x':=y) (y:=-y) (y':=-y) h rfl;rw[show x + -y=x-y by omega,show y + -y=0 by omega,tk0]at this;exact this
def Bu(f:Int)(s:Nat)(g:Nat->Int)(k:Nat):cv (λi=>if i=s then f else 0) g k=if s<=k then f*g (k-s)else 0:=by
 rw[fV];have e:sm (k+1) (λj=>(if j=s then f else 0)*g (k-j))=sm (k+1) (λj=>if j=s then f*g (k-s)else 0):=aP λj _=>by
  by_cases h:j=s
  .rw[if_pos h,if_pos h,h]
  .rw[if_neg h,if_neg h,fU]
 rw[e,mO];by_cases h:s<=k
 .rw[if_pos h,if_pos (by omega)]
 .rw[if_neg h,if_neg (by omega)]
structure Mon(m:List Int):Prop where
 pos:0<m.length
 one:co m (m.length-1)=1
structure Div(b:Int)(p m q r:List Int):Prop where
 qy:Py b q
 ry:Py b r
 short:r.length<m.length
 eq:∀k,tk b (cv (co q) (co m) k+co r k)=tk b (co p k)
def Div.uniq{b:Int}{p m q r q' r':List Int}(hm:Mon m)(h:Div b p m q r)(h':Div b p m q' r'):q=q'/\r=r':=by
 have hp:=hm.pos;have e1:∀k,tk b (cv (λi=>co q i-co q' i) (co m) k+(co r k-co r' k))=0:=by
  intro k;have e2:cv (λi=>co q i-co q' i) (co m) k=cv (co q) (co m) k-cv (co q') (co m) k:=by
   have:=lZ (co q) (λi=>-1*co q' i) (co m) k;rw[nT]at this;have e3:(λi=>co q i + -1*co q' i)=λi=>co q i-co q' i:=by funext i;omega
   rw[e3]at this;omega
  rw[e2,show cv (co q) (co m) k-cv (co q') (co m) k+(co r k-co r' k)=(cv (co q) (co m) k+co r k)-(cv (co q') (co m) k+co r' k)by omega,mz,h.eq,h'.eq]
 have e4:∀d j,q.length+q'.length<=j+d->tk b (co q j-co q' j)=0:=by
  intro d;induction d with
  |zero=>intro j hj;rw[aY (by omega),aY (by omega)];exact tk0 b
  |succ d ih=>
   intro j hj;have e5:=e1 (j+(m.length-1));have hs:=h.short;have hs':=h'.short;rw[aY (p:=r) (by omega),aY (p:=r') (by omega),wD,cU,fV]at e5;rw[<-e5];have e6:tk b (sm (j+(m.length-1)+1) λi=>(co q i-co q' i)*co m (j+(m.length-1)-i))=tk b (sm (j+(m.length-1)+1) λi=>if i=j then co q j-co q' j else 0):=iz λi hi=>by
    by_cases c:i=j
    .rw[if_pos c,c,show j+(m.length-1)-j=m.length-1 by omega,hm.one,iI]
    .rw[if_neg c];by_cases c2:i<j
     .rw[aY (p:=m) (by omega),aR]
     .rw[<-jA,ih i (by omega),fU]
   rw[e6,mO,if_pos (by omega)]
 have eq:q=q':=h.qy.ext h'.qy λk=>mz.mp (e4 (q.length+q'.length) k (by omega));refine⟨eq,h.ry.ext h'.ry λk=>?_⟩;have e7:=e1 k;rw[eq]at e7;have e8:(λi=>co q' i-co q' i)=λ_=>0:=by funext i;omega
 rw[e8,jY (λ_ _=> .inl rfl),gC]at e7;exact mz.mp e7
def Div.back{b:Int}{p m q r:List Int}(hp:Py b p)(h:Div b p m q r):add b (mul b q m) r=p:=(Fl ..).ext hp λk=>by
 rw[xg,jX,gq,jP];exact h.eq k
structure qw(b:Int)(p m:List Int)(s:Nat)(o l:List Int):Prop where
 eq:∀k,tk b (cv (co o) (co m) k+co l k)=tk b (co p k)
 zero:∀k,s+(m.length-1)<=k->co l k=0
 low:∀k,k<s->co o k=0
 ol:o.length=p.length-(m.length-1)
 ll:l.length=p.length
 on:∀k,tk b (co o k)=co o k
 ln:∀k,tk b (co l k)=co l k
def qw.start{b:Int}{p m:List Int}(hp:∀k,tk b (co p k)=co p k):qw b p m (p.length-(m.length-1)) (aH (p.length-(m.length-1)) λ_=>0) p:=by
 have z:∀k,co (aH (p.length-(m.length-1)) λ_=>0) k=0:=λk=>by rw[dw];split<;>rfl
 exact⟨λk=>by rw[jY λi _=> .inl (z i),gC],λk hk=>aY (by omega),λk _=>z k,bG _ _,rfl,λk=>by rw[z,tk0],hp⟩
def lf(b f:Int)(s t:Nat)(l m:List Int)(k:Nat):Int:=if s<=k/\k<s+t then tk b (co l k-f*co m (k-s))else co l k
def ajj(b f:Int)(s:Nat)(l m:List Int)(k:Nat):lf b f s 0 l m k=co l k:=if_neg (by omega)
def akB(b f:Int)(s t:Nat)(l m:List Int)(k:Nat):lf b f s (t+1) l m k=if k=s+t then tk b (lf b f s t l m k-f*co m t)else lf b f s t l m k:=by
 unfold lf;by_cases h:k=s+t
 .rw[if_pos h,if_pos (by omega),if_neg (by omega),show k-s=t by omega]
 .rw[if_neg h];by_cases h2:s<=k/\k<s+t
  .rw[if_pos h2,if_pos (by omega)]
  .rw[if_neg h2,if_neg (by omega)]
def agW{b f:Int}{s:Nat}{l m:List Int}(hl:∀k,tk b (co l k)=co l k)(k:Nat):lf b f s m.length l m k=tk b (co l k-(if s<=k then f*co m (k-s)else 0)):=by
 unfold lf;by_cases h:s<=k
 .rw[if_pos h];by_cases h2:k<s+m.length
  .rw[if_pos ⟨h,h2⟩]
  .rw[if_neg (by omega),aY (p:=m) (by omega),aR,wD,hl]
 .rw[if_neg (by omega),if_neg h,wD,hl]
def qw.step{b:Int}{p m o l l':List Int}{s:Nat}(hm:Mon m)(h:qw b p m (s+1) o l)(hs:s<p.length-(m.length-1))(hl:l'.length=l.length)(e:∀k,co l' k=lf b (co l (s+(m.length-1))) s m.length l m k):
  qw b p m s (o.set s (co l (s+(m.length-1)))) l':=by
 have hp:=hm.pos;have ho:=h.ol;have eo:co (o.set s (co l (s+(m.length-1))))=λk=>co o k+(if k=s then co l (s+(m.length-1))else 0):=by
  funext k
  rw[yF _ _ _ _ (by omega)];by_cases c:k=s
  .rw[if_pos c,if_pos c,c,h.low s (by omega),gC]
  .rw[if_neg c,if_neg c,cU]
 have el:∀k,co l' k=tk b (co l k-(if s<=k then co l (s+(m.length-1))*co m (k-s)else 0)):=λk=>by rw[e,agW h.ln]
 refine⟨λk=>?_,λk hk=>?_,λk hk=>?_,by rw[oM,ho],by rw[hl,h.ll],λk=>?_,λk=>by rw[el,gq]⟩
 .rw[eo,lZ (co o),Bu,el,yc,<-h.eq k];congr 1;omega
 .rw[el,if_pos (by omega)];by_cases c:k=s+(m.length-1)
  .rw[c,show s+(m.length-1)-s=m.length-1 by omega,hm.one,iI,Jm,tk0]
  .rw[h.zero k (by omega),aY (p:=m) (by omega),aR,wD,tk0]
 .rw[eo];simp only;rw[h.low k (by omega),if_neg (by omega),cU]
 .rw[yF _ _ _ _ (by omega)];split
  .exact h.ln _
  .exact h.on _
def qw.stop{b:Int}{p m o l:List Int}(hm:Mon m)(h:qw b p m 0 o l):Div b p m (trim o) (trim l):=by
 have hp:=hm.pos;have y:∀{x:List Int},(∀k,tk b (co x k)=co x k)->Py b (trim x):=λhx=>Py.of λz hz=>by
  obtain⟨k,hk,e⟩:=jG.mp hz;rw[<-e,<-iV hk];exact hx k
 refine⟨y h.on,y h.ln,?_,λk=>?_⟩
 .have:=LC (p:=l) (n:=m.length-1) λk hk=>h.zero k (by omega);omega
 .rw[nO,<-h.eq k];congr 2;exact ql (λi _=>nO _ _) (λ_ _=>rfl)
end Pm
namespace Pm
open Rm
theorem ZP(g:Nat->Int)(j:Nat):∀m:Nat,sm (j+m) (λk=>if j<=k then g (k-j)else 0)=sm m g
 |0=>by
  rw[Tn];exact jo λk hk=>if_neg (by omega)
 |m+1=>by
  rw[<-Nat.add_assoc,sm,sm,ZP g j m,if_pos (by omega),C7]
def vH(p:List Int)(a:Nat->Int)(n:Nat){N:Nat}(h:p.length<=N):sm N (λk=>co p k*a (n+k))=ks p a n:=
 nH h λk h1 _=>by rw[aY h1,fU]
def acD{b:Int}{p q:List Int}{a:Nat->Int}(h:∀k,tk b (co p k)=tk b (co q k))(n:Nat):tk b (ks p a n)=tk b (ks q a n):=by
 rw[<-vH p a n (Nat.le_max_left p.length q.length),<-vH q a n (Nat.le_max_right p.length q.length)];exact iz λk _=>by rw[<-jA,h k,jA]
def akP{b:Int}(p q:List Int)(a:Nat->Int)(n:Nat):tk b (ks (add b p q) a n)=tk b (ks p a n+ks q a n):=by
 have hl:(add b p q).length<=max p.length q.length:=by
  have:=uF (aH (max p.length q.length) λk=>tk b (co p k+co q k))
  rwa [bG]at this
 rw[<-vH _ a n hl,<-vH p a n (Nat.le_max_left p.length q.length),<-vH q a n (Nat.le_max_right p.length q.length),<-iy];exact iz λk _=>by rw[xg,jA,rE]
def Zc{b:Int}(p q:List Int)(a:Nat->Int)(n:Nat):tk b (ks (mul b p q) a n)=tk b (ks p (ks q a) n):=by
 have hl:(mul b p q).length<=p.length+q.length:=by
  have:=uF (aH (p.length+q.length) λk=>tk b (cv (co p) (co q) k))
  rwa [bG]at this
 rw[<-vH _ a n hl];have e1:tk b (sm (p.length+q.length) λk=>co (mul b p q) k*a (n+k))=tk b (sm (p.length+q.length) λk=>sm p.length λj=>co p j*(if j<=k then co q (k-j)*a (n+k)else 0)):=iz λk _=>by
  rw[jX,jA,<-abl (m:=p.length) λj hj=>aY hj,W,if_neg (by omega),cU,bY,<-dj];congr 1;refine aP λj _=>?_;by_cases h:j<=k
  .rw[if_pos h,if_pos h,bY,bN]
  .rw[if_neg h,if_neg h,aR,aR]
 rw[e1,Ef];congr 1;refine aP λj hj=>?_;rw[dj];congr 1;have e2:(λk=>if j<=k then co q (k-j)*a (n+k)else 0)=λk=>if j<=k then(λi=>co q i*a (n+j+i)) (k-j)else 0:=by
  funext k
  by_cases h:j<=k
  .rw[if_pos h,if_pos h];show _=co q (k-j)*a (n+j+(k-j));rw[show n+j+(k-j)=n+k by omega]
  .rw[if_neg h,if_neg h]
 rw[e2,show p.length+q.length=j+(p.length-j+q.length)by omega];refine(ZP (λi=>co q i*a (n+j+i)) j _).trans ?_;exact vH q a (n+j) (by omega)
def ao4{b:Int}{p:List Int}{a:Nat->Int}(h:∀n,tk b (a n)=0)(n:Nat):tk b (ks p a n)=0:=by
 have:tk b (ks p a n)=tk b (sm p.length λ_=>0):=iz λk _=>by rw[<-dF,h,aR]
 rw[this,vP,tk0]
def Kp(b:Int)(p:List Int)(a:Nat->Int):Prop:=∀n,tk b (ks p a n)=0
def Kp.afm{b:Int}{q:List Int}{a:Nat->Int}(h:Kp b q a)(p:List Int):Kp b (mul b p q) a:=λn=>by rw[Zc];exact ao4 h n
def Kp.congr{b:Int}{p q:List Int}{a:Nat->Int}(e:∀k,tk b (co p k)=tk b (co q k))(h:Kp b p a):Kp b q a:=λn=>by rw[<-acD e];exact h n
theorem Kp.aU{b:Int}{rule:List Int}{a:Nat->Int}(ha:∀n,rule.length<=n->tk b (a n)=tk b (S rule a n rule.length)):Kp b (aU b rule) a:=λn=>by
 unfold ks;rw[kj,sm];have e1:co (Pm.aU b rule) rule.length=1:=by
  rw[Pm.aU,mK,bG,if_neg (by omega),qT];rfl
 have e2:tk b (sm rule.length λk=>co (Pm.aU b rule) k*a (n+k))=tk b (sm rule.length λk=>-1*(co rule (rule.length-1-k)*a (n+k))):=iz λk hk=>by
  rw[Pm.aU,mK,bG,if_pos hk,dw,if_pos hk,jA,oA,iY,zR]
 have e3:S rule a (n+rule.length) rule.length=sm rule.length λk=>co rule (rule.length-1-k)*a (n+k):=by
  rw[tE];have rev:∀(m:Nat) (f:Nat->Int),sm m f=sm m λk=>f (m-1-k):=by
   intro m;induction m with
   |zero=>intro f;rfl
   |succ m ih=>
    intro f;rw[nW,sm,ih λi=>f (i+1),oG];have:m+1-1-m=0:=by omega
    rw[this];congr 1;exact aP λk hk=>by rw[show m-1-k+1=m+1-1-k by omega]
  rw[rev];exact aP λk hk=>by rw[show n+rule.length-1-(rule.length-1-k)=n+k by omega]
 rw[e1,gM,<-jP,e2,jP,dj,<-e3,<-yc,ha (n+rule.length) (by omega),yc,zR,Int.add_left_neg,tk0]
def Div.kp{b:Int}{p m q r:List Int}{a:Nat->Int}(h:Div b p m q r)(hm:Kp b m a):Kp b p a↔Kp b r a:=by
 have e:∀n,tk b (ks p a n)=tk b (ks r a n):=λn=>by
  have e1:∀k,tk b (co (Pm.add b (mul b q m) r) k)=tk b (co p k):=λk=>by rw[xg,jX,gq,jP];exact h.eq k
  rw[<-acD e1,akP,<-jP,hm.afm q n,gC]
 exact⟨λz n=>by rw[<-e];exact z n,λz n=>by rw[e];exact z n⟩
def dU(b:Int)(p q x:List Int):Prop:=∃u v,∀k,tk b (co x k)=tk b (cv (co u) (co p) k+cv (co v) (co q) k)
def ak2(p q:List Int)(k:Nat):co (add 0 p q) k=co p k+co q k:=by rw[xg,bh]
def JN(p q:List Int)(k:Nat):co (mul 0 p q) k=cv (co p) (co q) k:=by rw[jX,bh]
def dU.left(b:Int)(p q:List Int):dU b p q p:=⟨[1],[],λk=>by
 rw[jY (f:=co []) λi _=> .inl (fL _),cU,fV,nH (m:=1) (by omega) λj h1 _=>by rw[show co [1] j=0 from aY (by simpa using h1),fU]];simp[sm,fH]⟩
def dU.swap{b:Int}{p q x:List Int}(h:dU b p q x):dU b q p x:=by
 obtain⟨u,v,e⟩:=h;exact⟨v,u,λk=>by rw[e,oG]⟩
def dU.trans{b:Int}{p q g s x:List Int}(hg:dU b p q g)(hs:dU b p q s)(h:dU b g s x):dU b p q x:=by
 obtain⟨a,c,eg⟩:=hg;obtain⟨a',c',es⟩:=hs;obtain⟨u,v,e⟩:=h;refine⟨add 0 (mul 0 u a) (mul 0 v a'),add 0 (mul 0 u c) (mul 0 v c'),λk=>?_⟩;have e1:tk b (cv (co u) (co g) k)=tk b (cv (co u) (λi=>cv (co a) (co p) i+cv (co c) (co q) i) k):=ig (λ_ _=>rfl) λi _=>eg i;have e2:tk b (cv (co v) (co s) k)=tk b (cv (co v) (λi=>cv (co a') (co p) i+cv (co c') (co q) i) k):=ig (λ_ _=>rfl) λi _=>es i;rw[e,jE e1 e2];congr 1;have f1:∀y z:List Int,co (add 0 (mul 0 u y) (mul 0 v z))=λi=>cv (co u) (co y) i+cv (co v) (co z) i:=λy z=>by
  funext i;rw[ak2,JN,JN]
 rw[f1,f1,lZ (cv (co u) (co a)),lZ (cv (co u) (co c)),Qq,Qq,gG,gG,gG,gG];omega
def Div.in1{b:Int}{p m q r:List Int}(h:Div b p m q r):dU b m r p:=by
 refine⟨q,[1],λk=>?_⟩;obtain⟨u,v,e⟩:=dU.left b r [];rw[<-h.eq k];have:cv (co [1]) (co r) k=co r k:=by
  rw[fV,nH (m:=1) (by omega) λj h1 _=>by rw[show co [1] j=0 from aY (by simpa using h1),fU]];simp[sm,fH]
 rw[this]
def Div.in2{b:Int}{p m q r:List Int}(h:Div b p m q r):dU b p m r:=by
 refine⟨[1],q.map (-1 * ·),λk=>?_⟩;have e1:cv (co [1]) (co p) k=co p k:=by
  rw[fV,nH (m:=1) (by omega) λj h1 _=>by rw[show co [1] j=0 from aY (by simpa using h1),fU]];simp[sm,fH]
 have e2:co (q.map (-1 * ·))=λi=>-1*co q i:=by funext i;rw[lV (by simp)]
 rw[e1,e2,nT];have:=jE (h.eq k) (rfl:tk b (-1*cv (co q) (co m) k)=tk b (-1*cv (co q) (co m) k));rw[<-this];congr 1;omega
structure Gcd(b:Int)(p q g:List Int):Prop where
 py:Py b g
 mon:Mon g
 sum:dU b p q g
 one:dU b g [] p
 two:dU b g [] q
def dU.dv{b:Int}{g p:List Int}(h:dU b g [] p):∃u,∀k,tk b (co p k)=tk b (cv (co u) (co g) k):=by
 obtain⟨u,v,e⟩:=h;exact⟨u,λk=>by rw[e,jY (g:=co []) λi _=> .inr (fL _),cU]⟩
end Pm
namespace Pm
open Rm
def OG{p:List Int}(h:p≠[]):p=p.dropLast++[co p (p.length-1)]:=by
 have hp:0<p.length:=vW.mpr h
 conv=>lhs;rw[<-List.dropLast_concat_getLast h]
 congr 2;rw[iV (by omega),List.getLast_eq_getElem]
def vq{p:List Int}(h:p≠[])(h0:co p (p.length-1)≠0):trim p=p:=by
 have e:=OG h;rw[e,M6 _ h0]
def pQ{p:List Int}(h:p≠[])(ht:trim p=p):co p (p.length-1)≠0:=by
 intro z;have e:=OG h;rw[z]at e;have e2:trim p=trim p.dropLast:=by
  conv=>lhs;rw[e]
  exact YG _
 have:=uF p.dropLast;rw[<-e2,ht,GV]at this;have hp:0<p.length:=vW.mpr h;omega
structure u6(b:Int)(p m:List Int):Prop where
 py:Py b m
 len:m.length=p.length
 mon:p≠[]->Mon m
 to:∃c,∀k,tk b (co m k)=tk b (c*co p k)
 of:∃c,∀k,tk b (co p k)=tk b (c*co m k)
def dU.scale{b:Int}{p m:List Int}(h:∃c,∀k,tk b (co m k)=tk b (c*co p k))(q:List Int):dU b p q m:=by
 obtain⟨c,e⟩:=h;refine⟨[c],[],λk=>?_⟩;rw[jY (f:=co []) λi _=> .inl (fL _),cU,e,fV,nH (m:=1) (by omega) λj h1 _=>by rw[show co [c] j=0 from aY (by simpa using h1),fU]];simp[sm,fH]
theorem u6.nil(b:Int):u6 b [] []:=⟨Py.nil b,rfl,λh=>absurd rfl h,⟨0,λk=>by rw[fL,fU]⟩,⟨0,λk=>by rw[fL,fU]⟩⟩
def rW(P:Nat)(p:List Int):List Int:=p.map λx=>x*(co p (p.length-1))^(P-2)%(P:Int)
structure tG(b:Int)(p q g s:List Int):Prop where
 gy:Py b g
 sy:Py b s
 gm:g≠[]->Mon g
 XD:s≠[]->Mon s
 some:s=[]->g≠[]
 gi:dU b p q g
 si:dU b p q s
 pi:dU b g s p
 qi:dU b g s q
def tG.start{b:Int}{p q g s:List Int}(hg:u6 b p g)(hs:u6 b q s)(h:q=[]->p≠[]):tG b p q g s:=by
 have lg:=hg.len;have ls:=hs.len;have pn:g≠[]->p≠[]:=λz e=>z (u9 (by rw[lg,e];rfl));have qn:s≠[]->q≠[]:=λz e=>z (u9 (by rw[ls,e];rfl));refine⟨hg.py,hs.py,λz=>hg.mon (pn z),λz=>hs.mon (qn z),λz e=>?_,dU.scale hg.to q,(dU.scale hs.to p).swap,dU.scale hg.of s,(dU.scale hs.of g).swap⟩;have q0:q=[]:=u9 (by rw[<-ls,z];rfl);exact h q0 (u9 (by rw[<-lg,e];rfl))
def tG.step{b:Int}{p q g s o l m:List Int}(h:tG b p q g s)(hs:s≠[])(d:Div b g s o l)(hm:u6 b l m):tG b p q s m:=by
 have lm:=hm.len;have ln:m≠[]->l≠[]:=λz e=>z (u9 (by rw[lm,e];rfl));have li:dU b p q l:=h.gi.trans h.si d.in2;have gs:dU b s m g:=(dU.left b s m).trans (dU.scale hm.of s).swap d.in1;refine⟨h.sy,hm.py,h.XD,λz=>hm.mon (ln z),λ_=>hs,h.si,li.trans li (dU.scale hm.to l),?_,?_⟩
 .exact gs.trans (dU.left b s m) h.pi
 .exact gs.trans (dU.left b s m) h.qi
def tG.stop{b:Int}{p q g s:List Int}(h:tG b p q g s)(hs:s=[]):Gcd b p q g:=by
 subst hs;exact⟨h.gy,h.gm (h.some rfl),h.gi,h.pi,h.qi⟩
end Pm
namespace Pm
open Rm
def Ul{p:List Int}{k:Nat}(h:co p k≠0):k<p.length:=by
 by_cases c:k<p.length
 .exact c
 .exact absurd (aY (by omega)) h
def adz{b:Int}(hb:tk b 1=1){p q:List Int}(hp:Mon p)(hq:Mon q):Mon (mul b p q)/\(mul b p q).length=p.length+q.length-1:=by
 have h1:=hp.pos;have h2:=hq.pos;have e:co (mul b p q) (p.length+q.length-2)=1:=by
  rw[jX,fV];have:sm (p.length+q.length-2+1) (λj=>co p j*co q (p.length+q.length-2-j))=sm (p.length+q.length-2+1) (λj=>if j=p.length-1 then 1 else 0):=aP λj hj=>by
   by_cases c:j=p.length-1
   .rw[if_pos c,c,hp.one,show p.length+q.length-2-(p.length-1)=q.length-1 by omega,hq.one];rfl
   .rw[if_neg c];by_cases c2:j<p.length-1
    .rw[aY (p:=q) (by omega),aR]
    .rw[aY (p:=p) (by omega),fU]
  rw[this,mO,if_pos (by omega),hb]
 have l1:=Ul (p:=mul b p q) (k:=p.length+q.length-2) (by rw[e];decide);have l2:(mul b p q).length<=p.length+q.length-1:=by
  refine LC λk hk=>?_;rw[dw];split
  .rw[jY λi hi=>?_,tk0];by_cases c:i<p.length
   .exact .inr (aY (by omega))
   .exact .inl (aY (by omega))
  .rfl
 have l3:(mul b p q).length=p.length+q.length-1:=by omega
 exact⟨⟨by omega,by rw[l3,show p.length+q.length-1-1=p.length+q.length-2 by omega];exact e⟩,l3⟩
def uH(b:Int)(c:List Int):Mon (aU b c):=⟨by rw[kj];omega,by
 rw[kj,aU,mK,bG,if_neg (by omega),show c.length+1-1-c.length=0 by omega];rfl⟩
def rZ(b:Int)(p:List Int):(fR b p).length=p.length-1:=by rw[fR,bG]
def G9{b:Int}{w:List Int}(hw:∀k,tk b (co w k)=co w k)(hm:Mon w):aU b (fR b w)=w:=by
 have hp:=hm.pos;refine qK (by rw[kj,rZ];omega) λk=>?_;rw[aU,mK,bG,rZ];by_cases h:k<w.length-1
 .rw[if_pos h,dw,if_pos h,fR,dw,if_pos (by omega),Yk,show w.length-1-1-(w.length-1-1-k)=k by omega,hw]
 .rw[if_neg h];by_cases c:k=w.length-1
  .rw[c,qT,hm.one];rfl
  .rw[aY (p:=w) (by omega),aY];simp;omega
def asN{b:Int}{rule:List Int}{a:Nat->Int}(n:Nat):tk b (ks (aU b rule) a n)=tk b (a (n+rule.length)-S rule a (n+rule.length) rule.length):=by
 unfold ks;rw[kj,sm];have e1:co (aU b rule) rule.length=1:=by
  rw[aU,mK,bG,if_neg (by omega),qT];rfl
 have e2:tk b (sm rule.length λk=>co (aU b rule) k*a (n+k))=tk b (sm rule.length λk=>-1*(co rule (rule.length-1-k)*a (n+k))):=iz λk hk=>by
  rw[aU,mK,bG,if_pos hk,dw,if_pos hk,jA,oA,iY,zR]
 have e3:S rule a (n+rule.length) rule.length=sm rule.length λk=>co rule (rule.length-1-k)*a (n+k):=by
  rw[tE];have rev:∀(m:Nat) (f:Nat->Int),sm m f=sm m λk=>f (m-1-k):=by
   intro m;induction m with
   |zero=>intro f;rfl
   |succ m ih=>
    intro f;rw[nW,sm,ih λi=>f (i+1),oG];have:m+1-1-m=0:=by omega
    rw[this];congr 1;exact aP λk hk=>by rw[show m-1-k+1=m+1-1-k by omega]
  rw[rev];exact aP λk hk=>by rw[show n+rule.length-1-(rule.length-1-k)=n+k by omega]
 rw[e1,gM,<-jP,e2,jP,dj,<-e3];congr 1;omega
def Kp.rec{b:Int}{rule:List Int}{a:Nat->Int}(h:Kp b (Pm.aU b rule) a):∀n,rule.length<=n->tk b (a n)=tk b (S rule a n rule.length):=λn hn=>by
 have:=h (n-rule.length);rw[asN,show n-rule.length+rule.length=n by omega]at this;exact mz.mp this
def anS{b:Int}{w:List Int}{a:Nat->Int}(hw:∀k,tk b (co w k)=co w k)(hm:Mon w)(hk:Kp b w a)(ha:∀n,tk b (a n)=a n){starts:List Int}(hl:starts.length=w.length-1)(hs:∀i,i<starts.length->starts.getD i 0=a i)(n:Nat):
  at_ b (fR b w) starts n=a n:=by
 have lr:=rZ b w;rw[<-G9 hw hm]at hk;refine YW (by omega) (g:=a) (λi hi=>(hs i hi).symm) (λi hi=>?_) n;rw[<-ha i];exact hk.rec i (by omega)
end Pm
namespace Dm
open Pm
def sg(m:Nat):Int:=if m%2=0 then 1 else -1
def yO(m:Nat):sg (m+1)=-sg m:=by
 unfold sg;by_cases h:m%2=0
 .rw[if_pos h,if_neg (by omega)]
 .rw[if_neg h,if_pos (by omega)];rfl
def IX(m n:Nat):sg (m+n)=sg m*sg n:=by
 induction n with
 |zero=>simp[sg]
 |succ n ih=>rw[<-Nat.add_assoc,yO,yO,ih,oF]
def K1(m:Nat):sg m*sg m=1:=by
 unfold sg;split<;>rfl
def sk(c k:Nat):Nat:=if k<c then k else k+1
def at6(c k:Nat):sk c k≠c:=by unfold sk;split<;>omega
def det:Nat->(Nat->Nat->Int)->Int
 |0,_=>1
 |n+1,f=>sm (n+1) λc=>sg (n+c)*f n c*det n λi k=>f i (sk c k)
theorem jr:∀{n:Nat} {f g:Nat->Nat->Int},(∀i k,i<n->k<n->f i k=g i k)->det n f=det n g
 |0,_,_,_=>rfl
 |n+1,f,g,h=>by
  unfold det;refine aP λc hc=>?_;rw[h n c (by omega) hc,jr λi k hi hk=>h i (sk c k) (by omega) (by unfold sk;split<;>omega)]
def cH(f:Nat->Nat->Int)(j:Nat)(u:Nat->Int):Nat->Nat->Int:=λi k=>if k=j then u i else f i k
def fD(f:Nat->Nat->Int)(j:Nat)(u:Nat->Int):Nat->Nat->Int:=λi k=>if i=j then u k else f i k
def mY(f:Nat->Nat->Int)(j:Nat)(u:Nat->Int)(i:Nat):cH f j u i j=u i:=if_pos rfl
def nK{f:Nat->Nat->Int}{j k:Nat}{u:Nat->Int}{i:Nat}(h:k≠j):cH f j u i k=f i k:=if_neg h
def ahJ{c j:Nat}(h:c≠j):∃j',sk c j'=j/\(∀k,sk c k=j->k=j'):=by
 refine⟨if j<c then j else j-1,?_,λk hk=>?_⟩
 .unfold sk;split<;>(try split)<;>omega
 .unfold sk at hk;split at hk<;>split<;>omega
def agj{n c j:Nat}(f:Nat->Nat->Int)(u:Nat->Int)(h:c≠j)(hc:c<n+1)(hj:j<n+1):∃j',j'<n/\∀u,(λi k=>cH f j u i (sk c k))=cH (λi k=>f i (sk c k)) j' u:=by
 obtain⟨j',e1,e2⟩:=ahJ h;refine⟨j',?_,λu=>?_⟩
 .unfold sk at e1;split at e1<;>omega
 .funext i k
  unfold cH;by_cases z:k=j'
  .rw[if_pos z,if_pos (by rw[z,e1])]
  .rw[if_neg z,if_neg λw=>z (e2 k w)]
theorem uM:∀{n:Nat} (f:Nat->Nat->Int) {j:Nat} (_:j<n) (a:Int) (u v:Nat->Int),det n (cH f j λi=>a*u i+v i)=a*det n (cH f j u)+det n (cH f j v)
 |0,_,_,h,_,_,_=>absurd h (mF _)
 |n+1,f,j,hj,a,u,v=>by
  unfold det;rw[<-dj,<-iy];refine aP λc hc=>?_;by_cases e:c=j
  .subst e;have m:∀w,(λi k=>cH f c w i (sk c k))=λi k=>f i (sk c k):=λw=>by funext i k;exact nK (at6 c k)
   rw[m,m,m,mY,mY,mY];rw[iW,rE];congr 1;rw[show sg (n+c)*(a*u n)=a*(sg (n+c)*u n)from gj ..,bN a]
  .obtain⟨j',hj',m⟩:=agj f u e hc hj;rw[m,m,m,uM _ hj',nK e,nK e,nK e,iW];congr 1;exact gj ..
theorem FQ:∀{n:Nat} {f:Nat->Nat->Int} {j:Nat},j+1<n->(∀i,i<n->f i j=f i (j+1))->det n f=0
 |0,_,_,h,_=>absurd h (mF _)
 |n+1,f,j,hj,h=>by
  unfold det;have e:sm (n+1) (λc=>sg (n+c)*f n c*det n λi k=>f i (sk c k))=sm (n+1) (λc=>(if c=j then sg (n+j)*f n j*det n (λi k=>f i (sk j k))else 0)+(if c=j+1 then -(sg (n+j)*f n j*det n (λi k=>f i (sk j k)))else 0)):=aP λc hc=>by
   by_cases e1:c=j
   .rw[if_pos e1,if_neg (by omega),e1,cU]
   .by_cases e2:c=j+1
    .rw[if_neg e1,if_pos e2,e2,gC,<-h n (by omega),show n+(j+1)=n+j+1 by omega,yO];have:det n (λi k=>f i (sk (j+1) k))=det n (λi k=>f i (sk j k)):=jr λi k hi hk=>by
      by_cases z:k=j
      .subst z;rw[show sk (k+1) k=k by unfold sk;rw[if_pos (by omega)],show sk k k=k+1 by unfold sk;rw[if_neg (by omega)],h i (by omega)]
      .rw[show sk (j+1) k=sk j k by unfold sk;split<;>split<;>omega]
     rw[this,iY,iY]
    .rw[if_neg e1,if_neg e2,cU];have:det n (λi k=>f i (sk c k))=0:=by
      by_cases z:j+1<c
      .exact FQ (j:=j) (by omega) λi hi=>by rw[show sk c j=j by unfold sk;rw[if_pos (by omega)],show sk c (j+1)=j+1 by unfold sk;rw[if_pos (by omega)]];exact h i (by omega)
      .exact FQ (j:=j-1) (by omega) λi hi=>by rw[show sk c (j-1)=j by unfold sk;rw[if_neg (by omega)];omega,show sk c (j-1+1)=j+1 by unfold sk;rw[if_neg (by omega)];omega];exact h i (by omega)
     rw[this,aR]
  rw[e,iy];have s1:∀(x:Int) (t N:Nat),t<N->sm N (λc=>if c=t then x else 0)=x:=λx t N ht=>by rw[mO,if_pos ht]
  rw[s1 _ _ _ (by omega),s1 _ _ _ hj];omega
def sw(j i:Nat):Nat:=if i=j then j+1 else if i=j+1 then j else i
def zU(f:Nat->Nat->Int)(j:Nat):cH f j (λi=>f i j)=f:=by
 funext i k;unfold cH;split
 .rename_i h;rw[h]
 .rfl
def apm{n:Nat}(f:Nat->Nat->Int){j:Nat}(hj:j+1<n):det n (λi k=>f i (sw j k))=-det n f:=by
 let D:=λ(x y:Nat->Int)=>det n (cH (cH f j x) (j+1) y)
 have z:∀x,D x x=0:=λx=>FQ hj λi _=>by
  rw[nK (by omega),mY,mY]
 have l2:∀x y y',D x (λi=>1*y i+y' i)=1*D x y+D x y':=λx y y'=>uM _ hj 1 y y';have cm:∀x y,cH (cH f j x) (j+1) y=cH (cH f (j+1) y) j x:=λx y=>by
  funext i k;unfold cH;split<;>(try split)<;>first|rfl|omega
 have l1:∀x x' y,D (λi=>1*x i+x' i) y=1*D x y+D x' y:=λx x' y=>by
  show det n _=1*det n _+det n _;rw[cm,cm,cm];exact uM _ (by omega) 1 x x'
 have a:=z λi=>1*f i j+f i (j+1);rw[l1,l2,l2,z,z]at a;have e1:D (λi=>f i j) (λi=>f i (j+1))=det n f:=by
  show det n _=_;rw[zU f j,zU]
 have e2:D (λi=>f i (j+1)) (λi=>f i j)=det n (λi k=>f i (sw j k)):=jr λi k _ _=>by
  unfold cH sw;by_cases c1:k=j+1
  .rw[if_pos c1,if_neg (by omega),if_pos c1]
  .rw[if_neg c1];by_cases c2:k=j
   .rw[if_pos c2,if_pos c2]
   .rw[if_neg c2,if_neg c2,if_neg c1]
 rw[e1,e2]at a;omega
def mv(h m k:Nat):Nat:=if k<h then k else if k<m then k+1 else if k=m then h else k
def Wz{h m:Nat}(hm:h<m)(k:Nat):mv h m k=sw h (mv (h+1) m k):=by
 unfold mv sw
 repeat' split
 all_goals omega
theorem Pg{n:Nat}:∀(d:Nat) (f:Nat->Nat->Int) {h m:Nat},m=h+d->m<n->det n (λi k=>f i (mv h m k))=sg d*det n f
 |0,f,h,m,e,hm=>by
  have:det n (λi k=>f i (mv h m k))=det n f:=jr λi k _ _=>by
   rw[show mv h m k=k by unfold mv;split<;>(try split)<;>(try split)<;>omega]
  rw[this];simp[sg]
 |d+1,f,h,m,e,hm=>by
  have e1:(λi k=>f i (mv h m k))=λi k=>(λi k=>f i (sw h k)) i (mv (h+1) m k):=by
   funext i k;rw[Wz (by omega)]
  rw[e1,Pg d (λi k=>f i (sw h k)) (by omega) hm,apm f (by omega),yO,oF,iY]
def sO{n:Nat}{f:Nat->Nat->Int}{a b:Nat}(hab:a<b)(hb:b<n)(h:∀i,i<n->f i a=f i b):det n f=0:=by
 have e:=Pg (n:=n) (b-1-a) f (h:=a) (m:=b-1) (by omega) (by omega);have z:det n (λi k=>f i (mv a (b-1) k))=0:=FQ (j:=b-1) (by omega) λi hi=>by
  rw[show mv a (b-1) (b-1)=a by unfold mv;rw[if_neg (by omega),if_neg (by omega),if_pos rfl],show mv a (b-1) (b-1+1)=b by unfold mv;rw[if_neg (by omega),if_neg (by omega),if_neg (by omega)];omega];exact h i hi
 rw[z]at e;have s:=K1 (b-1-a);have:sg (b-1-a)*(sg (b-1-a)*det n f)=det n f:=by rw[<-bN,s,gM]
 rw[<-e,aR]at this;exact this.symm
theorem DV:∀{n:Nat} (f:Nat->Nat->Int) {j:Nat} (_:j<n) (a:Int) (u v:Nat->Int),det n (fD f j λi=>a*u i+v i)=a*det n (fD f j u)+det n (fD f j v)
 |0,_,_,h,_,_,_=>absurd h (mF _)
 |n+1,f,j,hj,a,u,v=>by
  unfold det;rw[<-dj,<-iy];refine aP λc hc=>?_;by_cases e:j=n
  .subst e;have m:∀w,det j (λi k=>fD f j w i (sk c k))=det j (λi k=>f i (sk c k)):=λw=>jr λi k hi _=>if_neg (by omega);rw[m,m,m];show sg (j+c)*(if j=j then _ else _)*_=a*(sg (j+c)*(if j=j then _ else _)*_)+sg (j+c)*(if j=j then _ else _)*_;rw[if_pos rfl,if_pos rfl,if_pos rfl,iW,rE];congr 1;rw[show sg (j+c)*(a*u c)=a*(sg (j+c)*u c)from gj ..,bN a]
  .have m:∀w:Nat->Int,(λi k=>fD f j w i (sk c k))=fD (λi k=>f i (sk c k)) j λk=>w (sk c k):=λw=>by funext i k;rfl
   have r:∀w:Nat->Int,fD f j w n c=f n c:=λw=>if_neg (λz=>e z.symm);rw[m,m,m,r,r,r,DV (λi k=>f i (sk c k)) (by omega) a (λk=>u (sk c k)) (λk=>v (sk c k)),iW];congr 1;exact gj ..
theorem tri(T:Nat->Nat->Int):∀N:Nat,sm (N+1) (λc=>sm N (λc'=>T c c'))=sm (N+1) (λb=>sm b (λa=>T b a+T a (b-1)))
 |0=>by simp[sm]
 |N+1=>by
  have ih:=tri T N;rw[sm,show(λc=>sm (N+1) λc'=>T c c')=λc=>sm N (λc'=>T c c')+T c N from rfl,iy,ih]
  conv=>rhs;rw[sm]
  rw[iy,dY];have e:(λc'=>T (N+1) c')=T (N+1):=rfl;rw[e];omega
def ahA{a b:Nat}(h:a<b)(k:Nat):sk b (sk a k)=sk a (sk (b-1) k):=by
 unfold sk
 repeat' split
 all_goals omega
theorem LK:∀{n:Nat} {f:Nat->Nat->Int} {j:Nat},j+1<n->(∀k,k<n->f j k=f (j+1) k)->det n f=0
 |0,_,_,h,_=>absurd h (mF _)
 |1,_,_,h,_=>absurd h (by omega)
 |n+2,f,j,hj,h=>by
  by_cases e:j=n
  .subst e;have e1:det (j+2) f=sm (j+1+1) λc=>sm (j+1) λc'=>sg (j+1+c)*f (j+1) c*(sg (j+c')*f j (sk c c')*det j λi k=>f i (sk c (sk c' k))):=by
    show sm (j+1+1) _=_;refine aP λc _=>?_;rw[show det (j+1) (λi k=>f i (sk c k))=sm (j+1) λc'=>sg (j+c')*f j (sk c c')*det j λi k=>f i (sk c (sk c' k))from rfl,<-dj]
   rw[e1,tri];refine jo λb hb=>jo λa ha=>?_;have f1:sk b a=a:=by unfold sk;rw[if_pos ha]
   have f2:sk a (b-1)=b:=by unfold sk;rw[if_neg (by omega)];omega
   have f3:(λi k=>f i (sk b (sk a k)))=λi k=>f i (sk a (sk (b-1) k)):=by funext i k;rw[ahA ha]
   rw[f1,f2,f3,<-h b (by omega),<-h a (by omega)];have s1:sg (j+1+b)*sg (j+a)=-(sg (j+1+a)*sg (j+(b-1))):=by
    rw[<-IX,<-IX,<-yO];unfold sg;rw[show(j+1+b+(j+a))%2=(j+1+a+(j+(b-1))+1)%2 by omega]
   generalize det j (λi k=>f i (sk a (sk (b-1) k)))=M;have t1:sg (j+1+b)*f j b*(sg (j+a)*f j a*M)=(sg (j+1+b)*sg (j+a))*(f j b*f j a*M):=by
    simp only[bN,gj]
   have t2:sg (j+1+a)*f j a*(sg (j+(b-1))*f j b*M)=(sg (j+1+a)*sg (j+(b-1)))*(f j b*f j a*M):=by
    simp only[bN,gj]
   rw[t1,t2,s1,iY];omega
  .unfold det;refine jo λc hc=>?_;rw[LK (n:=n+1) (j:=j) (by omega) λk hk=>h (sk c k) (by unfold sk;split<;>omega),aR]
def Jw(f:Nat->Nat->Int)(j:Nat):fD f j (f j)=f:=by
 funext i k;unfold fD;split
 .rename_i h;rw[h]
 .rfl
def agc{n:Nat}(f:Nat->Nat->Int){j:Nat}(hj:j+1<n):det n (λi k=>f (sw j i) k)=-det n f:=by
 let D:=λ(x y:Nat->Int)=>det n (fD (fD f j x) (j+1) y)
 have z:∀x,D x x=0:=λx=>LK hj λk _=>by
  show(if j=j+1 then x k else if j=j then x k else f j k)=(if j+1=j+1 then x k else _);rw[if_neg (by omega),if_pos rfl,if_pos rfl]
 have l2:∀x y y',D x (λi=>1*y i+y' i)=1*D x y+D x y':=λx y y'=>DV _ hj 1 y y';have cm:∀x y,fD (fD f j x) (j+1) y=fD (fD f (j+1) y) j x:=λx y=>by
  funext i k;unfold fD;split<;>(try split)<;>first|rfl|omega
 have l1:∀x x' y,D (λi=>1*x i+x' i) y=1*D x y+D x' y:=λx x' y=>by
  show det n _=1*det n _+det n _;rw[cm,cm,cm];exact DV _ (by omega) 1 x x'
 have a:=z λi=>1*f j i+f (j+1) i;rw[l1,l2,l2,z,z]at a;have e1:D (λi=>f j i) (λi=>f (j+1) i)=det n f:=by
  show det n _=_;rw[Jw f j,Jw]
 have e2:D (λi=>f (j+1) i) (λi=>f j i)=det n (λi k=>f (sw j i) k):=jr λi k _ _=>by
  unfold fD sw;by_cases c1:i=j+1
  .rw[if_pos c1,if_neg (by omega),if_pos c1]
  .rw[if_neg c1];by_cases c2:i=j
   .rw[if_pos c2,if_pos c2]
   .rw[if_neg c2,if_neg c2,if_neg c1]
 rw[e1,e2]at a;omega
theorem Te{n:Nat}:∀(d:Nat) (f:Nat->Nat->Int) {h m:Nat},m=h+d->m<n->det n (λi k=>f (mv h m i) k)=sg d*det n f
 |0,f,h,m,e,hm=>by
  have:det n (λi k=>f (mv h m i) k)=det n f:=jr λi k _ _=>by
   rw[show mv h m i=i by unfold mv;split<;>(try split)<;>(try split)<;>omega]
  rw[this];simp[sg]
 |d+1,f,h,m,e,hm=>by
  have e1:(λi k=>f (mv h m i) k)=λi k=>(λi k=>f (sw h i) k) (mv (h+1) m i) k:=by
   funext i k;rw[Wz (by omega)]
  rw[e1,Te d (λi k=>f (sw h i) k) (by omega) hm,agc f (by omega),yO,oF,iY]
def aaK{n:Nat}{f:Nat->Nat->Int}{a b:Nat}(hab:a<b)(hb:b<n)(h:∀k,k<n->f a k=f b k):det n f=0:=by
 have e:=Te (n:=n) (b-1-a) f (h:=a) (m:=b-1) (by omega) (by omega);have z:det n (λi k=>f (mv a (b-1) i) k)=0:=LK (j:=b-1) (by omega) λk hk=>by
  rw[show mv a (b-1) (b-1)=a by unfold mv;rw[if_neg (by omega),if_neg (by omega),if_pos rfl],show mv a (b-1) (b-1+1)=b by unfold mv;rw[if_neg (by omega),if_neg (by omega),if_neg (by omega)];omega];exact h k hk
 rw[z]at e;have s:=K1 (b-1-a);have:sg (b-1-a)*(sg (b-1-a)*det n f)=det n f:=by rw[<-bN,s,gM]
 rw[<-e,aR]at this;exact this.symm
def agK(n:Nat)(f:Nat->Nat->Int):det (n+1) f=sm (n+1) λc=>sg c*f 0 c*det n λi k=>f (i+1) (sk c k):=by
 have e:=Te (n:=n+1) n f (h:=0) (m:=n) (by omega) (by omega);have e1:det (n+1) (λi k=>f (mv 0 n i) k)=sg n*sm (n+1) λc=>sg c*f 0 c*det n λi k=>f (i+1) (sk c k):=by
  rw[<-dj];show sm (n+1) _=_;refine aP λc _=>?_;have m:det n (λi k=>f (mv 0 n i) (sk c k))=det n λi k=>f (i+1) (sk c k):=jr λi k hi _=>by
   rw[show mv 0 n i=i+1 by unfold mv;rw[if_neg (by omega),if_pos hi]]
  have z0:mv 0 n n=0:=by unfold mv;rw[if_neg (by omega),if_neg (by omega),if_pos rfl]
  show sg (n+c)*f (mv 0 n n) c*det n (λi k=>f (mv 0 n i) (sk c k))=_;rw[m,z0,IX];simp only[bN]
 have s:=K1 n;have:sg n*(sg n*det (n+1) f)=det (n+1) f:=by rw[<-bN,s,gM]
 rw[<-e,e1,<-bN,s,gM]at this;exact this.symm
def ZQ{n:Nat}(f:Nat->Nat->Int){a b:Nat}(hab:a<b)(hb:b<n):det n (fD (fD f a (f b)) b λk=>-1*f a k+0)=det n f:=by
 let D:=λ(x y:Nat->Int)=>det n (fD (fD f a x) b y)
 have z:∀x,D x x=0:=λx=>aaK hab hb λk _=>by
  show(if a=b then x k else if a=a then x k else f a k)=(if b=b then x k else _);rw[if_neg (by omega),if_pos rfl,if_pos rfl]
 have l2:∀(c:Int) x y y',D x (λi=>c*y i+y' i)=c*D x y+D x y':=λc x y y'=>DV _ hb c y y';have cm:∀x y,fD (fD f a x) b y=fD (fD f b y) a x:=λx y=>by
  funext i k;unfold fD;split<;>(try split)<;>first|rfl|omega
 have l1:∀x x' y,D (λi=>1*x i+x' i) y=1*D x y+D x' y:=λx x' y=>by
  show det n _=1*det n _+det n _;rw[cm,cm,cm];exact DV _ (by omega) 1 x x'
 have q:=z λi=>1*f a i+f b i;rw[l1,l2,l2,z,z]at q;have e1:D (f a) (f b)=det n f:=by
  show det n _=_;rw[Jw f a,Jw]
 have e3:D (f b) (λk=>-1*f a k+0)=-1*D (f b) (f a)+D (f b) (λ_=>0):=l2 (-1) (f b) (f a) (λ_=>0);have e4:D (f b) (λ_=>0)=0:=by
  have:=l2 0 (f b) (λ_=>0) (λ_=>0);have e5:=l2 (-1) (f b) (λ_=>0) (λ_=>0);simp only[aR,cU]at e5;omega
 show D (f b) (λk=>-1*f a k+0)=_;rw[e3,e4];have e6:D (λi=>f a i) (λi=>f b i)=det n f:=e1;have e7:D (λi=>f b i) (λi=>f a i)=D (f b) (f a):=rfl;rw[e6,e7]at q;omega
end Dm
namespace Dm
open Pm
def Bs{n:Nat}(f:Nat->Nat->Int){j:Nat}(hj:j<n):det n (cH f j λ_=>0)=0:=by
 have e:=uM f hj (-1) (λ_=>0) (λ_=>0);simp only[aR,cU]at e;omega
theorem Eh{n:Nat}(f:Nat->Nat->Int){j:Nat}(hj:j<n)(x:Nat->Int)(u:Nat->Nat->Int):∀m:Nat,det n (cH f j λi=>sm m λh=>x h*u h i)=sm m λh=>x h*det n (cH f j (u h))
 |0=>Bs f hj
 |m+1=>by
  rw[sm,<-Eh f hj x u m];have e:=uM f hj (x m) (u m) (λi=>sm m λh=>x h*u h i);rw[oG,<-e];congr 2
  funext i
  rw[sm,oG]
def arq{n:Nat}{f:Nat->Nat->Int}{x:Nat->Int}(h:∀i,i<n->sm n (λk=>f i k*x k)=0){j:Nat}(hj:j<n):x j*det n f=0:=by
 have e1:det n (cH f j λi=>sm n λk=>x k*f i k)=0:=by
  rw[<-Bs f hj];refine jr λi k hi _=>?_;unfold cH;split
  .rw[<-h i hi];exact aP λk _=>bY ..
  .rfl
 rw[Eh f hj x (λk i=>f i k)]at e1;have e2:sm n (λk=>x k*det n (cH f j λi=>f i k))=sm n (λk=>if k=j then x j*det n f else 0):=aP λk hk=>by
  by_cases c:k=j
  .rw[if_pos c,c,zU]
  .rw[if_neg c];have z:det n (cH f j λi=>f i k)=0:=by
    rcases GK c with l|l
    .exact sO l hj λi _=>by rw[mY,nK (by omega)]
    .exact sO l hk λi _=>by rw[mY,nK (by omega)]
   rw[z,aR]
 rw[e2,mO,if_pos hj]at e1;exact e1
def Bk(A:Nat->Nat->Int)(hd:Nat->Nat):Nat->Nat->Int:=λi h=>A i (hd h)
def dt(A:Nat->Nat->Int)(hd:Nat->Nat)(r:Nat):Int:=det r (Bk A hd)
def cr(A:Nat->Nat->Int)(hd:Nat->Nat)(r h k:Nat):Int:=det r (cH (Bk A hd) h λi=>A i k)
def bd(A:Nat->Nat->Int)(hd:Nat->Nat)(r i k:Nat):Int:=det (r+1) λi' k'=>A (if i'=r then i else i') (if k'=r then k else hd k')
def tO(A:Nat->Nat->Int)(hd:Nat->Nat)(r i k:Nat):bd A hd r i k=A i k*dt A hd r-sm r λh=>A i (hd h)*cr A hd r h k:=by
 unfold bd;rw[det,sm];have e1:sg (r+r)*A (if r=r then i else r) (if r=r then k else hd r)*det r (λi' k'=>A (if i'=r then i else i') (if sk r k'=r then k else hd (sk r k')))=A i k*dt A hd r:=by
  rw[if_pos rfl,if_pos rfl,show sg (r+r)=1 by unfold sg;rw[if_pos (by omega)],gM];congr 1;exact jr λi' k' hi hk=>by
   rw[if_neg (by omega),show sk r k'=k' by unfold sk;rw[if_pos hk],if_neg (by omega)];rfl
 rw[e1];have e2:sm r (λc=>sg (r+c)*A (if r=r then i else r) (if c=r then k else hd c)*det r (λi' k'=>A (if i'=r then i else i') (if sk c k'=r then k else hd (sk c k'))))=sm r λh=>-1*(A i (hd h)*cr A hd r h k):=aP λc hc=>by
  rw[if_pos rfl,if_neg (by omega)];have m:det r (λi' k'=>A (if i'=r then i else i') (if sk c k'=r then k else hd (sk c k')))=sg (r-1-c)*cr A hd r c k:=by
   rw[cr,<-Pg (n:=r) (r-1-c) (cH (Bk A hd) c λi=>A i k) (h:=c) (m:=r-1) (by omega) (by omega)];refine jr λi' k' hi hk=>?_;rw[if_neg (by omega)];unfold sk mv cH Bk;by_cases c1:k'<c
   .rw[if_pos c1,if_pos c1,if_neg (by omega),if_neg (by omega)]
   .rw[if_neg c1,if_neg c1];by_cases c2:k'<r-1
    .rw[if_pos c2,if_neg (by omega),if_neg (by omega)]
    .rw[if_neg c2,if_pos (show k'+1=r by omega),if_pos (show k'=r-1 by omega),if_pos rfl]
  rw[m];have s:sg (r+c)*sg (r-1-c)=-1:=by
   rw[<-IX];unfold sg;rw[if_neg (by omega)]
  have t:sg (r+c)*A i (hd c)*(sg (r-1-c)*cr A hd r c k)=(sg (r+c)*sg (r-1-c))*(A i (hd c)*cr A hd r c k):=by simp only[bN,gj]
  rw[t,s]
 rw[e2,dj];omega
def KY{A:Nat->Nat->Int}{hd:Nat->Nat}{r i:Nat}(k:Nat)(h:i<r):bd A hd r i k=0:=aaK h (C6 r) λk' _=>by
 rw[if_neg (by omega),if_pos rfl]
def adt{A:Nat->Nat->Int}{hd:Nat->Nat}{r i:Nat}(k:Nat)(h:i<r):sm r (λh=>A i (hd h)*cr A hd r h k)=A i k*dt A hd r:=by
 have:=tO A hd r i k;rw[KY k h]at this;omega
def J1(A:Nat->Nat->Int)(hd:Nat->Nat)(r i k:Nat):sm r (λh=>A i (hd h)*cr A hd r h k)=A i k*dt A hd r-bd A hd r i k:=by
 have:=tO A hd r i k;omega
def more(hd:Nat->Nat)(r c:Nat):Nat->Nat:=λh=>if h=r then c else hd h
def Ig(A:Nat->Nat->Int)(hd:Nat->Nat)(r c:Nat):dt A (more hd r c) (r+1)=bd A hd r r c:=jr λi k _ _=>by
 unfold Bk more;by_cases h:i=r
 .rw[if_pos h,h]
 .rw[if_neg h]
def XY(A:Nat->Nat->Int)(hd:Nat->Nat)(r c k:Nat):cr A (more hd r c) (r+1) r k=bd A hd r r k:=jr λi k' _ _=>by
 unfold cH Bk more;by_cases h:i=r
 .rw[if_pos h,h];by_cases h2:k'=r
  .rw[if_pos h2,if_pos h2]
  .rw[if_neg h2,if_neg h2,if_neg h2]
 .rw[if_neg h];by_cases h2:k'=r
  .rw[if_pos h2,if_pos h2]
  .rw[if_neg h2,if_neg h2,if_neg h2]
def acP(A:Nat->Nat->Int)(hd:Nat->Nat)(r c i k:Nat):
  sm r (λh=>A i (hd h)*(bd A hd r r c*cr A hd r h k-cr A hd r h c*bd A hd r r k))+A i c*(dt A hd r*bd A hd r r k)=bd A hd r r c*(A i k*dt A hd r-bd A hd r i k)+bd A hd r r k*bd A hd r i c:=by
 have e1:sm r (λh=>A i (hd h)*(bd A hd r r c*cr A hd r h k-cr A hd r h c*bd A hd r r k))=bd A hd r r c*sm r (λh=>A i (hd h)*cr A hd r h k) + -(bd A hd r r k)*sm r (λh=>A i (hd h)*cr A hd r h c):=by
  rw[<-dj,<-dj,<-iy];refine aP λh _=>?_;rw[gY,iY,gj,<-bN (A i (hd h)),bY (A i (hd h)*cr A hd r h c)];omega
 rw[e1,J1,J1,gY (-bd A hd r r k),iY,iY];have e2:A i c*(dt A hd r*bd A hd r r k)=bd A hd r r k*(A i c*dt A hd r):=by simp only[bN,gj,bY]
 rw[e2];omega
def Vq{A:Nat->Nat->Int}{hd:Nat->Nat}{r c:Nat}(hp:bd A hd r r c≠0){h:Nat}(hh:h<r)(k:Nat):dt A hd r*cr A (more hd r c) (r+1) h k=bd A hd r r c*cr A hd r h k-cr A hd r h c*bd A hd r r k:=by
 let x:=λh=>dt A hd r*cr A (more hd r c) (r+1) h k-(if h=r then dt A hd r*bd A hd r r k else bd A hd r r c*cr A hd r h k-cr A hd r h c*bd A hd r r k)
 have key:=arq (n:=r+1) (f:=Bk A (more hd r c)) (x:=x) (λi hi=>?_) (j:=h) (by omega)
 .have e:det (r+1) (Bk A (more hd r c))=bd A hd r r c:=Ig A hd r c;rw[e]at key;rcases kI.mp key with z|z
  .have z':dt A hd r*cr A (more hd r c) (r+1) h k-(if h=r then dt A hd r*bd A hd r r k else bd A hd r r c*cr A hd r h k-cr A hd r h c*bd A hd r r k)=0:=z;rw[if_neg (by omega)]at z';omega
  .exact absurd z hp
 .have e1:sm (r+1) (λh=>Bk A (more hd r c) i h*x h)=dt A hd r*sm (r+1) (λh=>A i (more hd r c h)*cr A (more hd r c) (r+1) h k) + -1*sm (r+1) (λh=>A i (more hd r c h)*(if h=r then dt A hd r*bd A hd r r k else bd A hd r r c*cr A hd r h k-cr A hd r h c*bd A hd r r k)):=by
   rw[<-dj,<-dj,<-iy];refine aP λh _=>?_;show A i (more hd r c h)*(dt A hd r*cr A (more hd r c) (r+1) h k-_)=_;rw[gY,gj];omega
  rw[e1,adt k hi,Ig,sm,if_pos rfl,show more hd r c r=c from if_pos rfl];have e2:sm r (λh=>A i (more hd r c h)*(if h=r then dt A hd r*bd A hd r r k else bd A hd r r c*cr A hd r h k-cr A hd r h c*bd A hd r r k))=sm r (λh=>A i (hd h)*(bd A hd r r c*cr A hd r h k-cr A hd r h c*bd A hd r r k)):=aP λh hh=>by
   rw[if_neg (by omega),show more hd r c h=hd h from if_neg (by omega)]
  rw[e2,acP];have e3:dt A hd r*(A i k*bd A hd r r c)=bd A hd r r c*(A i k*dt A hd r):=by simp only[bN,gj,bY]
  rw[e3,gY];have e4:bd A hd r r c*bd A hd r i k=bd A hd r r k*bd A hd r i c:=by
   by_cases z:i<r
   .rw[KY k z,KY c z,aR,aR]
   .rw[show i=r by omega,bY]
  rw[e4];omega
def agP{A:Nat->Nat->Int}{hd:Nat->Nat}{r c:Nat}(hp:bd A hd r r c≠0)(i k:Nat):dt A hd r*bd A (more hd r c) (r+1) i k=bd A hd r r c*bd A hd r i k-bd A hd r i c*bd A hd r r k:=by
 rw[tO A (more hd r c) (r+1),Ig,gY,<-dj,sm,XY,show more hd r c r=c from if_pos rfl];have e2:sm r (λh=>dt A hd r*(A i (more hd r c h)*cr A (more hd r c) (r+1) h k))=sm r (λh=>A i (hd h)*(bd A hd r r c*cr A hd r h k-cr A hd r h c*bd A hd r r k)):=aP λh hh=>by
  rw[gj,Vq hp hh,show more hd r c h=hd h from if_neg (by omega)]
 have e5:=acP A hd r c i k;rw[e2,show dt A hd r*(A i c*bd A hd r r k)=A i c*(dt A hd r*bd A hd r r k)from gj ..,e5,gY];have e3:dt A hd r*(A i k*bd A hd r r c)=bd A hd r r c*(A i k*dt A hd r):=by simp only[bN,gj,bY]
 rw[e3,bY (bd A hd r i c)];omega
def En(A:Nat->Nat->Int)(hd:Nat->Nat)(r i k:Nat):Int:=if i<r then cr A hd r i k else bd A hd r i k
def ang(A:Nat->Nat->Int)(hd:Nat->Nat)(i k:Nat):En A hd 0 i k=A i k:=by
 unfold En;rw[if_neg (by omega),tO];simp[sm,dt,det]
def Ds{A:Nat->Nat->Int}{hd:Nat->Nat}{r c:Nat}(hp:En A hd r r c≠0){i:Nat}(hi:i≠r)(k:Nat):dt A hd r*En A (more hd r c) (r+1) i k=En A hd r r c*En A hd r i k-En A hd r i c*En A hd r r k:=by
 have er:∀k,En A hd r r k=bd A hd r r k:=λk=>if_neg (by omega);rw[er]at hp⊢;rw[er];unfold En;by_cases h:i<r
 .rw[if_pos (by omega),if_pos h,if_pos h];exact Vq hp h k
 .rw[if_neg (by omega),if_neg h,if_neg h];exact agP hp i k
def adX(A:Nat->Nat->Int)(hd:Nat->Nat)(r c k:Nat):En A (more hd r c) (r+1) r k=En A hd r r k:=by
 unfold En;rw[if_pos (by omega),if_neg (by omega)];exact XY A hd r c k
def Pb(A:Nat->Nat->Int)(hd:Nat->Nat)(r c:Nat):dt A (more hd r c) (r+1)=En A hd r r c:=by
 rw[Ig];exact(if_neg (by omega)).symm
def Nk(A:Nat->Nat->Int)(hd:Nat->Nat):dt A hd 0=1:=rfl
def akU{A:Nat->Nat->Int}{hd:Nat->Nat}{r i h:Nat}(hh:h<r):En A hd r i (hd h)=if i=h then dt A hd r else 0:=by
 unfold En;by_cases c:i<r
 .rw[if_pos c];by_cases e:i=h
  .rw[if_pos e,e];show det r (cH (Bk A hd) h λi=>Bk A hd i h)=_;rw[zU];rfl
  .rw[if_neg e];show det r (cH (Bk A hd) i λi'=>A i' (hd h))=0;rcases GK e with l|l
   .exact sO l hh λi' _=>by rw[mY,nK (by omega)];rfl
   .exact sO l c λi' _=>by rw[mY,nK (by omega)];rfl
 .rw[if_neg c,if_neg (by omega)];exact sO (a:=h) (b:=r) hh (C6 r) λi' _=>by rw[if_neg (show ¬h=r by omega),if_pos (show r=r from rfl)]
def WL(A:Nat->Nat->Int)(hd:Nat->Nat)(r i k:Nat):A i k*dt A hd r=sm r (λh=>A i (hd h)*En A hd r h k)+(if i<r then 0 else En A hd r i k):=by
 have e:sm r (λh=>A i (hd h)*En A hd r h k)=sm r (λh=>A i (hd h)*cr A hd r h k):=aP λh hh=>by
  unfold En;rw[if_pos hh]
 rw[e];by_cases c:i<r
 .rw[if_pos c,adt k c,cU]
 .rw[if_neg c,J1];unfold En;rw[if_neg c];omega
def ahh{A:Nat->Nat->Int}{hd:Nat->Nat}{n r c:Nat}{p:Int}(hc:c<n)(hn:∀h,h<r->hd h<n/\hd h≠c)(hz:∀i,r<=i->i<n->∃e,En A hd r i c=p*e):∃e,dt A hd r*det n A=p*e:=by
 have hz':∀i,i<n->∃e,(if i<r then 0 else En A hd r i c)=p*e:=λi hi=>by
  by_cases z:i<r
  .exact⟨0,by rw[if_pos z,aR]⟩
  .obtain⟨e,he⟩:=hz i (by omega) hi;exact⟨e,by rw[if_neg z,he]⟩
 let y:=λi=>if h:i<n then Classical.choose (hz' i h)else 0
 have hy:∀i,i<n->(if i<r then 0 else En A hd r i c)=p*y i:=λi hi=>by
  show _=p*(if h:i<n then Classical.choose (hz' i h)else 0);rw[dif_pos hi];exact Classical.choose_spec (hz' i hi)
 refine⟨det n (cH A c y),?_⟩;have e1:dt A hd r*det n A=det n (cH A c λi=>dt A hd r*A i c+0):=by
  have:=uM A hc (dt A hd r) (λi=>A i c) (λ_=>0);rw[zU,Bs A hc,cU]at this;exact this.symm
 have e2:det n (cH A c λi=>dt A hd r*A i c+0)=det n (cH A c λi=>p*y i+sm r λh=>En A hd r h c*A i (hd h)):=jr λi k hi _=>by
  unfold cH;split
  .have:=WL A hd r i c;rw[hy i hi]at this;have e3:sm r (λh=>A i (hd h)*En A hd r h c)=sm r (λh=>En A hd r h c*A i (hd h)):=aP λh _=>bY ..;rw[e3]at this;show dt A hd r*A i c+0=p*y i+sm r λh=>En A hd r h c*A i (hd h);rw[bY (dt A hd r),this];omega
  .rfl
 rw[e1,e2,uM A hc p y,Eh A hc (λh=>En A hd r h c) (λh i=>A i (hd h))];have e4:sm r (λh=>En A hd r h c*det n (cH A c λi=>A i (hd h)))=0:=jo λh hh=>by
  obtain⟨h1,h2⟩:=hn h hh;have z:det n (cH A c λi=>A i (hd h))=0:=by
   rcases GK h2 with l|l
   .exact sO l hc λi _=>by rw[mY,nK (by omega)]
   .exact sO l h1 λi _=>by rw[mY,nK (by omega)]
  rw[z,aR]
 rw[e4,cU]
end Dm
namespace Dm
open Pm Rm
def Dom(b:Int):Prop:=∀x y,tk b x≠0->tk b (x*y)=0->tk b y=0
def Dom.zero:Dom 0:=λx y hx h=>by
 rw[bh]at *;rcases kI.mp h with z|z
 .exact absurd z hx
 .exact z
def Dom.prime{P:Nat}(hP:P∈Om.ni)(h2:2<=P):Dom (P:Int):=λx y hx h=>by
 have uY:(P:Int)≠0:=by omega
 have jk:∀n,tk (P:Int) n=n%(P:Int):=λn=>jN uY n;rw[jk]at *;have r0:=qC x uY;have r1:=rz x (show(0:Int)<P by omega);have hinv:((x%P)^(P-2)*(x%P))%(P:Int)=1:=by
  rw[<-gZ,show(P-2).succ=P-1 by omega];exact Om.Dq rfl hP (by omega) r1
 have e1:((x%P)^(P-2)*(x*y))%(P:Int)=0:=by rw[mL,h,aR];exact LR _
 have e2:((x%P)^(P-2)*(x*y))%(P:Int)=y%(P:Int):=by
  have e3:((x%P)^(P-2)*x)%(P:Int)=1:=by rw[mL,<-hinv,mL ((x%P)^(P-2)) (x%P),nR _ (nA _)]
  rw[<-bN,mL,e3,gM,nR _ (nA _)]
 rw[<-e2,e1]
def rR{b x:Int}:tk b x=0↔∃e,x=b*e:=by
 unfold tk;split
 .rename_i h
  constructor
  .intro z;exact⟨0,by rw[z,aR]⟩
  .rintro⟨e,he⟩;rw[he,h,fU]
 .constructor
  .intro z;exact⟨x/b,(Int.mul_ediv_cancel' (Av z)).symm⟩
  .rintro⟨e,he⟩;rw[he];exact Int.mul_emod_right b e
def turn(A:Nat->Nat->Int)(a c:Nat):Nat->Nat->Int:=fD (fD A a (A c)) c λk=>-1*A a k+0
inductive uo(n:Nat)(A0:Nat->Nat->Int):(Nat->Nat->Int)->Prop
 |refl:uo n A0 A0
 |step {A:Nat->Nat->Int} {a c:Nat}:uo n A0 A->a<c->c<n->uo n A0 (turn A a c)
theorem uo.det{n:Nat}{A0 A:Nat->Nat->Int}(h:uo n A0 A):Dm.det n A=Dm.det n A0:=by
 induction h with
 |refl=>rfl
 |step _ h1 h2 ih=>rw[<-ih];exact ZQ _ h1 h2
def vO{A:Nat->Nat->Int}{a c i:Nat}(h1:i≠a)(h2:i≠c)(k:Nat):turn A a c i k=A i k:=by
 unfold turn fD;rw[if_neg h2,if_neg h1]
def CB{A:Nat->Nat->Int}{a c:Nat}(h:a≠c)(k:Nat):turn A a c a k=A c k:=by
 unfold turn fD;rw[if_neg h,if_pos rfl]
def xT(A:Nat->Nat->Int)(a c k:Nat):turn A a c c k=-A a k:=by
 unfold turn fD;rw[if_pos rfl];show -1*A a k+0=-A a k;omega
def Jf{A:Nat->Nat->Int}{hd:Nat->Nat}{r a c:Nat}(ha:r<=a)(hc:r<=c):dt (turn A a c) hd r=dt A hd r:=jr λi k hi _=>vO (by omega) (by omega) _
def Vg{A:Nat->Nat->Int}{hd:Nat->Nat}{r a c:Nat}(ha:r<=a)(hc:r<=c)(h k:Nat):cr (turn A a c) hd r h k=cr A hd r h k:=jr λi k' hi _=>by
 show(if k'=h then turn A a c i k else turn A a c i (hd k'))=if k'=h then A i k else A i (hd k');rw[vO (by omega) (by omega),vO (by omega) (by omega)]
def Ea{A:Nat->Nat->Int}{hd:Nat->Nat}{r a c:Nat}(ha:r<=a)(hac:a<c)(i k:Nat):En (turn A a c) hd r i k=if i=a then En A hd r c k else if i=c then -En A hd r a k else En A hd r i k:=by
 have hc:r<=c:=by omega
 unfold En;by_cases h:i<r
 .rw[if_pos h,if_neg (by omega),if_neg (by omega),if_pos h];exact Vg ha hc i k
 .rw[if_neg h,tO,Jf ha hc];have e:∀j,sm r (λh=>turn A a c j (hd h)*cr (turn A a c) hd r h k)=sm r (λh=>turn A a c j (hd h)*cr A hd r h k):=λj=>aP λh _=>by rw[Vg ha hc]
  rw[e];by_cases h1:i=a
  .rw[if_pos h1,if_neg (by omega),tO,h1,CB (by omega)];congr 1;exact aP λh _=>by rw[CB (by omega)]
  .rw[if_neg h1];by_cases h2:i=c
   .rw[if_pos h2,if_neg (by omega),tO,h2,xT];have:sm r (λh=>turn A a c c (hd h)*cr A hd r h k)=-1*sm r (λh=>A a (hd h)*cr A hd r h k):=by
     rw[<-dj];exact aP λh _=>by rw[xT,iY];omega
    rw[this,iY];omega
   .rw[if_neg h2,if_neg h,tO,vO h1 h2];congr 1;exact aP λh _=>by rw[vO h1 h2]
def ln(L:List (List Int))(i:Nat):List Int:=L.getD i []
structure dJ(b:Int)(n W u:Nat)(A0:Nat->Nat->Int)(c:Nat)(A:Nat->Nat->Int)(hd:Nat->Nat)(r:Nat)(L:List (List Int))(last:Int):Prop where
 sw:uo n A0 A
 len:L.length=n
 wd:∀i,i<n->(ln L i).length=W
 en:∀i k,i<n->k<W->co (ln L i) k=tk b (En A hd r i k)
 la:last=tk b (dt A hd r)
 nz:tk b (dt A hd r)≠0
 rn:r<=n
 hc:∀h,h<r->hd h<c
 up:∀h h',h<h'->h'<r->hd h<hd h'
 zero:∀k,k<c->(∀h,h<r->hd h≠k)->∀i,r<=i->i<n->tk b (En A hd r i k)=0
 full:c<=n->(r=c/\∀h,h<r->hd h=h)∨tk b (det n A)=0
 tM:∀i k,Bd u (A i k)
 ge:∀h,h<r->∀k,k<hd h->(∀h',h'<r->hd h'≠k)->tk b (En A hd r h k)=0
def dJ.start{b:Int}{W u:Nat}{L:List (List Int)}(hb:tk b 1=1)(hw:∀i,i<L.length->(ln L i).length=W)(hn:∀i k,tk b (co (ln L i) k)=co (ln L i) k)(hu:∀i k,Bd u (co (ln L i) k)):
  dJ b L.length W u (λi k=>co (ln L i) k) 0 (λi k=>co (ln L i) k) (λ_=>0) 0 L 1:=
 ⟨.refl,rfl,hw,λi k _ _=>by rw[ang,hn],by rw[Nk,hb],by rw[Nk,hb];decide,cJ _,λh hh=>absurd hh (mF _),λ_ _ _ h=>absurd h (mF _),λk hk=>absurd hk (mF _),λ_=> .inl ⟨rfl,λh hh=>absurd hh (mF _)⟩,hu,λh hh=>absurd hh (mF _)⟩
def dJ.skip{b:Int}{n W u:Nat}{A0:Nat->Nat->Int}{c:Nat}{A:Nat->Nat->Int}{hd:Nat->Nat}{r:Nat}{L:List (List Int)}{last:Int}(h:dJ b n W u A0 c A hd r L last)(hD:Dom b)(lX:c<W)
  (hz:∀i,r<=i->i<n->co (ln L i) c=0):dJ b n W u A0 (c+1) A hd r L last:=by
 have hz':∀i,r<=i->i<n->tk b (En A hd r i c)=0:=λi h1 h2=>by rw[<-h.en i c h2 lX];exact hz i h1 h2
 refine⟨h.sw,h.len,h.wd,h.en,h.la,h.nz,h.rn,λk hk=>by have:=h.hc k hk;omega,h.up,λk hk hn i h1 h2=>?_,λhcn=> .inr ?_,h.tM,h.ge⟩
 .by_cases e:k=c
  .rw[e];exact hz' i h1 h2
  .exact h.zero k (by omega) hn i h1 h2
 .obtain⟨e,he⟩:=ahh (A:=A) (hd:=hd) (n:=n) (r:=r) (c:=c) (p:=b) (by omega) (λk hk=>by have:=h.hc k hk;omega) λi h1 h2=>rR.mp (hz' i h1 h2);exact hD _ _ h.nz (rR.mpr ⟨e,he⟩)
def dJ.bring{b:Int}{n W u:Nat}{A0:Nat->Nat->Int}{c:Nat}{A:Nat->Nat->Int}{hd:Nat->Nat}{r:Nat}{L L':List (List Int)}{last:Int}(h:dJ b n W u A0 c A hd r L last){a:Nat}(hra:r<a)(han:a<n)
  (hl:L'.length=n) (e1:ln L' r=ln L a) (e2:ln L' a=(ln L r).map λx=>tk b (0-x)) (e3:∀i,i≠r->i≠a->ln L' i=ln L i):dJ b n W u A0 c (turn A r a) hd r L' last:=by
 have hrn:r<n:=by omega
 refine⟨.step h.sw hra han,hl,λi hi=>?_,λi k hi hk=>?_,by rw[Jf (aN _) (by omega)];exact h.la,by rw[Jf (aN _) (by omega)];exact h.nz,h.rn,h.hc,h.up,λk hk hn i h1 h2=>?_,λhcn=>?_,λi k=>?_,λj hj k hk hn=>by rw[Ea (aN _) hra,if_neg (by omega),if_neg (by omega)];exact h.ge j hj k hk hn⟩
 .by_cases c1:i=r
  .rw[c1,e1];exact h.wd a han
  .by_cases c2:i=a
   .rw[c2,e2,aG];exact h.wd r hrn
   .rw[e3 i c1 c2];exact h.wd i hi
 .rw[Ea (aN _) hra];by_cases c1:i=r
  .rw[if_pos c1,c1,e1];exact h.en a k han hk
  .rw[if_neg c1];by_cases c2:i=a
   .rw[if_pos c2,c2,e2,lV (by simp[tk0]),h.en r k hrn hk];rw[show 0-tk b (En A hd r r k)=-1*tk b (En A hd r r k)by omega,dF];congr 1;omega
   .rw[if_neg c2,e3 i c1 c2];exact h.en i k hi hk
 .rw[Ea (aN _) hra];by_cases c1:i=r
  .rw[if_pos c1];exact h.zero k hk hn a (by omega) han
  .rw[if_neg c1];by_cases c2:i=a
   .rw[if_pos c2];have:=h.zero k hk hn r (aN _) hrn;rw[<-zR,<-dF,this,aR];exact tk0 b
   .rw[if_neg c2];exact h.zero k hk hn i h1 h2
 .have e:det n (turn A r a)=det n A:=ZQ A hra han;rw[e];exact h.full hcn
 .by_cases c2:i=a
  .rw[c2,xT];have:=h.tM r k;unfold Bd at this⊢;rw[CJ];exact this
  .by_cases c1:i=r
   .rw[c1,CB (by omega)];exact h.tM a k
   .rw[vO c1 c2];exact h.tM i k
def dJ.free{b:Int}{n W u:Nat}{A0:Nat->Nat->Int}{c:Nat}{A:Nat->Nat->Int}{hd:Nat->Nat}{r:Nat}{L L':List (List Int)}{last:Int}(h:dJ b n W u A0 c A hd r L last)(hD:Dom b)(lX:c<W)(hrn:r<n)
  (hp:co (ln L r) c≠0) (hl:L'.length=n) (e1:ln L' r=ln L r) (e2:∀i,i<n->i≠r->(ln L' i).length=W/\∀k,k<W->co (ln L' i) k=tk b (co (ln L' i) k)/\tk b (last*co (ln L' i) k)=tk b (co (ln L r) c*co (ln L i) k-co (ln L i) c*co (ln L r) k)):
  dJ b n W u A0 (c+1) A (more hd r c) (r+1) L' (co (ln L r) c):=by
 have hpe:tk b (En A hd r r c)≠0:=by rw[<-h.en r c hrn lX];exact hp
 have hpi:En A hd r r c≠0:=λz=>hpe (by rw[z];exact tk0 b);have hen:∀i k,i<n->k<W->co (ln L' i) k=tk b (En A (more hd r c) (r+1) i k):=λi k hi hk=>by
  by_cases c1:i=r
  .rw[c1,e1,adX];exact h.en r k hrn hk
  .obtain⟨_,q⟩:=e2 i hi c1;obtain⟨q1,q2⟩:=q k hk;have s:=Ds hpi c1 k;have e3:tk b (dt A hd r*co (ln L' i) k)=tk b (dt A hd r*En A (more hd r c) (r+1) i k):=by
    rw[s,<-jA,<-h.la,q2,h.en r c hrn lX,h.en i k hi hk,h.en i c hi lX,h.en r k hrn hk];have t1:tk b (tk b (En A hd r r c)*tk b (En A hd r i k))=tk b (En A hd r r c*En A hd r i k):=by rw[jA,dF]
    have t2:tk b (-1*(tk b (En A hd r i c)*tk b (En A hd r r k)))=tk b (-1*(En A hd r i c*En A hd r r k)):=by rw[<-dF,jA,dF b (En A hd r i c),dF]
    have:=jE t1 t2;rw[show tk b (En A hd r r c)*tk b (En A hd r i k)-tk b (En A hd r i c)*tk b (En A hd r r k)=tk b (En A hd r r c)*tk b (En A hd r i k) + -1*(tk b (En A hd r i c)*tk b (En A hd r r k))by omega,this];congr 1;omega
   have e4:tk b (dt A hd r*(co (ln L' i) k-En A (more hd r c) (r+1) i k))=0:=by
    rw[gY];exact mz.mpr e3
   have e5:=mz.mp (hD _ _ h.nz e4);rw[q1];exact e5
 refine⟨h.sw,hl,λi hi=>?_,hen,?_,?_,by omega,λk hk=>?_,λk k' h1 h2=>?_,λk hk hn i h1 h2=>?_,λhcn=>?_,h.tM,λj hj k hk hn=>?_⟩
 .by_cases c1:i=r
  .rw[c1,e1];exact h.wd r hrn
  .exact(e2 i hi c1).1
 .rw[Pb];exact h.en r c hrn lX
 .rw[Pb];exact hpe
 .unfold more;split
  .omega
  .have:=h.hc k (by omega);omega
 .unfold more;rw[if_neg (by omega)];split
  .exact h.hc k (by omega)
  .exact h.up k k' h1 (by omega)
 ·-- columns without a head stay nought
  by_cases e:k=c
  .exact absurd (show more hd r c r=k by unfold more;rw[if_pos rfl,e]) (hn r (by omega))
  .have hn':∀h',h'<r->hd h'≠k:=λh' hh=>by
    have:=hn h' (by omega);unfold more at this
    rwa [if_neg (by omega)]at this
   have z1:=h.zero k (by omega) hn' i (by omega) h2;have z2:=h.zero k (by omega) hn' r (aN _) hrn;have s:=Ds hpi (show i≠r by omega) k;refine hD _ _ h.nz ?_;rw[s];refine mz.mpr ?_;rw[<-dF,z1,aR,<-dF b (En A hd r i c),z2,aR]
 .rcases h.full (by omega)with⟨f1,f2⟩|f
  .refine .inl ⟨by omega,λk hk=>?_⟩;unfold more;split
   .omega
   .exact f2 k (by omega)
  .exact .inr f
 ·-- ahead of a line's head there is nothing but heads
  have hn':∀h',h'<r->hd h'≠k:=λh' hh=>by
   have:=hn h' (by omega);unfold more at this
   rwa [if_neg (by omega)]at this
  have hkc:k<c:=by
   unfold more at hk;split at hk
   .exact hk
   .have:=h.hc j (by omega);omega
  have z2:=h.zero k hkc hn' r (aN _) hrn;by_cases e:j=r
  .rw[e,adX];exact z2
  .have hk':k<hd j:=by unfold more at hk;rwa [if_neg e]at hk
   have z1:=h.ge j (by omega) k hk' hn';have s:=Ds hpi e k;refine hD _ _ h.nz ?_;rw[s];refine mz.mpr ?_;rw[<-dF,z1,aR,<-dF b (En A hd r j c),z2,aR]
theorem zq{u:Nat}:∀{n:Nat} {f:Nat->Nat->Int},(∀i k,i<n->k<n->Bd u (f i k))->Bd (n*(u+n)+1) (det n f)
 |0,_,_=>by
  show Bd (0*(u+0)+1) 1;rw[Qu];exact Bd.of (by decide) (by decide)
 |n+1,f,h=>by
  unfold det;have e:Bd (u+(n*(u+n)+1)+(n+1)) (sm (n+1) λc=>sg (n+c)*f n c*det n λi k=>f i (sk c k)):=Br _ λc hc=>by
   have b1:=h n c (by omega) hc;have b2:=zq (u:=u) (n:=n) (f:=λi k=>f i (sk c k)) λi k hi hk=>h i (sk c k) (by omega) (by unfold sk;split<;>omega);have b3:=b1.mul b2;unfold Bd at b3⊢;rw[bN,mU];have:(sg (n+c)).natAbs=1:=by unfold sg;split<;>rfl
   rw[this,xJ];exact b3
  refine e.mono ?_;have:(n+1)*(u+(n+1))=n*(u+n)+n+u+(n+1):=by
   rw[pW,show u+(n+1)=u+n+1 by omega,zN n (u+n) 1];omega
  omega
def dJ.Xx{b:Int}{n W u:Nat}{A0:Nat->Nat->Int}{c:Nat}{A:Nat->Nat->Int}{hd:Nat->Nat}{r:Nat}{L:List (List Int)}{last:Int}(h:dJ b n W u A0 c A hd r L last)(i k:Nat):Bd ((r+1)*(u+(r+1))+1) (En A hd r i k):=by
 unfold En;split
 .refine(zq (u:=u) λi' k' _ _=>?_).mono ?_
  .unfold cH Bk;split<;>exact h.tM _ _
  .have:r*(u+r)<=(r+1)*(u+(r+1)):=jh (by omega) (by omega);omega
 .exact zq (u:=u) λi' k' _ _=>h.tM _ _
end Dm
namespace Dm
open Rm Pm
def xG{b x:Int}(h:tk b x=0):tk b (-x)=0:=by
 have:=dF b (-1) x;rw[h,aR,tk0]at this;rw[show -x=-1*x by omega,<-this]
def D7{b x:Int}(y:Int)(h:tk b x=0):tk b (y*x)=0:=by rw[<-dF,h,aR,tk0]
def asw{b x y:Int}(h:tk b x=0)(h':tk b y=0):tk b (x+y)=0:=by rw[<-jP,h,gC,h']
def ab9{b x y:Int}(h:tk b x=0)(h':tk b y=0):tk b (x-y)=0:=by rw[yK];exact asw h (xG h')
def Xy(f:Nat->Int)(n:Nat):sm n (λk=>-f k)=-sm n f:=by
 have e:(λk=>-f k)=λk=>-1*f k:=funext λk=>by omega
 rw[e,dj];omega
def acC(f g:Nat->Int)(n:Nat):sm n (λk=>f k-g k)=sm n f-sm n g:=by
 have e:(λk=>f k-g k)=λk=>f k + -g k:=funext λk=>by omega
 rw[e,iy,Xy];omega
def Z9{b:Int}{f:Nat->Int}{n:Nat}(h:∀k,k<n->tk b (f k)=0):tk b (sm n f)=0:=by
 have:=iz (b:=b) (f:=f) (g:=λ_=>0) (n:=n) λk hk=>by rw[h k hk,tk0]
 rw[this,vP,tk0]
def Rel(b:Int)(n m:Nat)(A:Nat->Nat->Int)(x:Nat->Int):Prop:=∀i,i<n->tk b (sm m λk=>A i k*x k)=0
def Zo(A:Nat->Nat->Int)(x:Nat->Int)(i m:Nat):sm m (λk=>-A i k*x k)=-sm m λk=>A i k*x k:=by
 rw[<-Xy];exact aP λk _=>iY ..
theorem Rel.turn{b:Int}{n m:Nat}{A:Nat->Nat->Int}{x:Nat->Int}{a c:Nat}(hac:a<c)(hc:c<n):Rel b n m A x↔Rel b n m (turn A a c) x:=by
 have ha:a<n:=by omega
 constructor
 .intro h i hi;by_cases c1:i=c
  .rw[c1,aP (g:=λk=>-A a k*x k) λk _=>by rw[xT],Zo];exact xG (h a ha)
  .by_cases c2:i=a
   .rw[c2,aP (g:=λk=>A c k*x k) λk _=>by rw[CB (by omega)]];exact h c hc
   .rw[aP (g:=λk=>A i k*x k) λk _=>by rw[vO c2 c1]];exact h i hi
 .intro h i hi;by_cases c1:i=c
  .have:=h a ha;rw[aP (g:=λk=>A c k*x k) λk _=>by rw[CB (by omega)]]at this;rw[c1];exact this
  .by_cases c2:i=a
   .have:=h c hc;rw[aP (g:=λk=>-A a k*x k) λk _=>by rw[xT],Zo]at this;rw[c2];have:=xG this
    rwa [BJ]at this
   .have:=h i hi;rw[aP (g:=λk=>A i k*x k) λk _=>by rw[vO c2 c1]]at this;exact this
def uo.rel{b:Int}{n m:Nat}{A0 A:Nat->Nat->Int}{x:Nat->Int}(h:uo n A0 A):Rel b n m A0 x↔Rel b n m A x:=by
 induction h with
 |refl=>exact Iff.rfl
 |step _ h1 h2 ih=>exact ih.trans (Rel.turn h1 h2)
theorem aec{b:Int}:∀{n:Nat} {f g:Nat->Nat->Int},(∀i k,i<n->k<n->tk b (f i k)=tk b (g i k))->tk b (det n f)=tk b (det n g)
 |0,_,_,_=>rfl
 |n+1,f,g,h=>by
  unfold det;refine iz λc hc=>?_;have e1:tk b (det n λi k=>f i (sk c k))=tk b (det n λi k=>g i (sk c k)):=aec λi k hi hk=>h i _ (by omega) (by unfold sk;split<;>omega);rw[<-dF,e1,dF,bN,<-dF,<-jA b (f n c),h n c (by omega) hc,jA,dF,bN]
def Rel.en{b:Int}{n m:Nat}{A:Nat->Nat->Int}{x:Nat->Int}(hx:Rel b n m A x)(hd:Nat->Nat){r:Nat}(hr:r<=n):Rel b n m (En A hd r) x:=by
 have low:∀i,i<r->tk b (sm m λk=>cr A hd r i k*x k)=0:=λi hi=>by
  have e:=Eh (n:=r) (Bk A hd) hi x (λk i'=>A i' k) m;have e2:sm m (λk=>cr A hd r i k*x k)=sm m λk=>x k*det r (cH (Bk A hd) i λi'=>A i' k):=aP λk _=>bY ..;rw[e2,<-e,aec (g:=cH (Bk A hd) i λ_=>0) (λi' k' hi' _=>?_),Bs _ hi,tk0];unfold cH;split
  .have:=hx i' (by omega);rw[tk0,<-this];exact congrArg (tk b) (aP λk _=>bY ..)
  .rfl
 intro i hi;by_cases c:i<r
 .rw[aP (g:=λk=>cr A hd r i k*x k) λk _=>by unfold En;rw[if_pos c]];exact low i c
 .have e:sm m (λk=>En A hd r i k*x k)=dt A hd r*sm m (λk=>A i k*x k)-sm r λh=>A i (hd h)*sm m λk=>cr A hd r h k*x k:=by
   rw[<-dj];have e2:sm r (λh=>A i (hd h)*sm m λk=>cr A hd r h k*x k)=sm m λk=>sm r λh=>A i (hd h)*(cr A hd r h k*x k):=by
    rw[Ef];exact aP λh _=>(dj ..).symm
   rw[e2,<-acC];refine aP λk _=>?_;unfold En;rw[if_neg c,tO,mj];congr 1
   .rw[bY (A i k),bN]
   .rw[bY,<-dj];exact aP λh _=>by rw[bY,bN]
  rw[e];exact ab9 (D7 _ (hx i hi)) (Z9 λh hh=>D7 _ (low h hh))
def sI(b:Int)(n m:Nat)(A:Nat->Nat->Int):Prop:=∀x,Rel b n m A x->∀k,k<m->tk b (x k)=0
def NK{A:Nat->Nat->Int}{hd:Nat->Nat}{r m k:Nat}{b:Int}{n:Nat}(hm:∀h,h<r->hd h<m)(hk:k<m)(hz:∀i,r<=i->i<n->tk b (En A hd r i k)=0):
  Rel b n m A λj=>sm r (λh=>if j=hd h then En A hd r h k else 0)-if j=k then dt A hd r else 0:=λi hi=>by
 have e:sm m (λj=>A i j*(sm r (λh=>if j=hd h then En A hd r h k else 0)-if j=k then dt A hd r else 0))=sm r (λh=>A i (hd h)*En A hd r h k)-A i k*dt A hd r:=by
  rw[aP (g:=λj=>sm r (λh=>if j=hd h then A i (hd h)*En A hd r h k else 0)-if j=k then A i k*dt A hd r else 0) λj _=>?_,acC,mO,if_pos hk,Ef]
  .congr 1;exact aP λh hh=>by rw[mO,if_pos (hm h hh)]
  .rw[gY,<-dj];congr 1
   .refine aP λh _=>?_;by_cases c:j=hd h
    .rw[if_pos c,if_pos c,c]
    .rw[if_neg c,if_neg c,aR]
   .by_cases c:j=k
    .rw[if_pos c,if_pos c,c]
    .rw[if_neg c,if_neg c,aR]
 rw[e];have q:=WL A hd r i k;by_cases c:i<r
 .rw[if_pos c,cU]at q;rw[q,Jm,tk0]
 .rw[if_neg c]at q;rw[q,show sm r (λh=>A i (hd h)*En A hd r h k)-(sm r (λh=>A i (hd h)*En A hd r h k)+En A hd r i k)=-En A hd r i k by omega];exact xG (hz i (by omega) hi)
def dJ.aqJ{b:Int}{n W u m:Nat}{A0 A:Nat->Nat->Int}{hd:Nat->Nat}{r:Nat}{L:List (List Int)}{last:Int}(h:dJ b n W u A0 m A hd r L last):∀j,j<r->j<=hd j:=λj=>by
 induction j with
 |zero=>intro _;exact cJ _
 |succ j ih=>
  intro hj;have:=ih (by omega);have:=h.up j (j+1) (by omega) hj;omega
def dJ.ajU{b:Int}{n W u m:Nat}{A0 A:Nat->Nat->Int}{hd:Nat->Nat}{r:Nat}{L:List (List Int)}{last:Int}(h:dJ b n W u A0 m A hd r L last)(MS:∀k,k<m->∃j,j<r/\hd j=k):r=m/\∀k,k<m->hd k=k:=by
 have ge:=h.aqJ;have all:∀k,k<m->k<r/\hd k=k:=λk=>by
  induction k using Nat.strongRecOn with
  |ind k ih=>
   intro hk;obtain⟨j,hj,e⟩:=MS k hk;have g:=ge j hj;by_cases c:j=k
   .rw[<-c];exact⟨hj,by rw[e,c]⟩
   .have:=(ih j (by omega) (by omega)).2;omega
 refine⟨?_,λk hk=>(all k hk).2⟩;by_cases c:r<=m
 .by_cases c2:r=m
  .exact c2
  .have:=(all r (by omega)).1;omega
 .have:=h.hc m (by omega);have:=ge m (by omega);omega
def dJ.anh{b:Int}{n W u m:Nat}{A0 A:Nat->Nat->Int}{hd:Nat->Nat}{r:Nat}{L:List (List Int)}{last:Int}(h:dJ b n W u A0 m A hd r L last)(hI:sI b n m A0):r=m/\∀k,k<m->hd k=k:=by
 refine h.ajU λk hk=>?_;by_cases c:∃j,j<r/\hd j=k
 .exact c
 .exfalso
  have hn:∀j,j<r->hd j≠k:=λj hj e=>c ⟨j,hj,e⟩;have R:=NK (A:=A) (hd:=hd) (r:=r) (m:=m) (k:=k) (b:=b) (n:=n) h.hc hk (h.zero k hk hn);have z:=hI _ (h.sw.rel.mpr R) k hk;rw[if_pos rfl,jo (λj hj=>by rw[if_neg (λe=>hn j hj e.symm)]),oA]at z;have:=xG z;rw[BJ]at this;exact h.nz this
def gO(b:Int)(n m:Nat)(A:Nat->Nat->Int)(x:Nat->Int)(bot:Int):Prop:=∀i,i<n->tk b (sm m λk=>A i k*x k)=tk b (bot*A i m)
def gO.rel{b:Int}{n m:Nat}{A:Nat->Nat->Int}{x:Nat->Int}{bot:Int}:gO b n m A x bot↔Rel b n (m+1) A λk=>if k=m then -bot else x k:=by
 have e:∀i,sm (m+1) (λk=>A i k*if k=m then -bot else x k)=sm m (λk=>A i k*x k)-bot*A i m:=λi=>by
  rw[sm,if_pos rfl,aP (g:=λk=>A i k*x k) λk hk=>by rw[if_neg (by omega)],oF,bY bot];omega
 constructor
 .intro h i hi;show tk b (sm (m+1) λk=>A i k*if k=m then -bot else x k)=0;rw[e];exact mz.mpr (h i hi)
 .intro h i hi;have q:tk b (sm (m+1) λk=>A i k*if k=m then -bot else x k)=0:=h i hi;rw[e]at q;exact mz.mp q
def dJ.sums{b:Int}{n W u m:Nat}{A0 A:Nat->Nat->Int}{hd:Nat->Nat}{r:Nat}{L:List (List Int)}{last:Int}(h:dJ b n W u A0 m A hd r L last){x:Nat->Int}{bot:Int}(hx:gO b n m A0 x bot):gO b n m (En A hd r) x bot:=
 gO.rel.mpr ((h.sw.rel.mp (gO.rel.mp hx)).en hd h.rn)
def dJ.ae2{b:Int}{n W u m:Nat}{A0 A:Nat->Nat->Int}{hd:Nat->Nat}{r:Nat}{L:List (List Int)}{last:Int}(h:dJ b n W u A0 m A hd r L last){x:Nat->Int}{bot:Int}(hD:Dom b)(hb:tk b bot≠0)(hx:gO b n m A0 x bot):
  ∀i,r<=i->i<n->tk b (En A hd r i m)=0:=λi h1 h2=>by
 have q:=h.sums hx i h2;refine hD bot _ hb ?_;rw[<-q];refine Z9 λk hk=>?_;rw[bY];refine D7 _ ?_;by_cases c:∃j,j<r/\hd j=k
 .obtain⟨j,hj,e⟩:=c;rw[<-e,akU hj,if_neg (by omega),tk0]
 .exact h.zero k hk (λj hj e=>c ⟨j,hj,e⟩) i h1 h2
def pZ(b:Int)(L:List (List Int))(ws:List Int):List (List Int):=(List.range L.length).map λi=>(ln L i++[co ws i]).map (tk b)
def xK(b:Int)(L:List (List Int))(ws:List Int):(pZ b L ws).length=L.length:=by rw[pZ,aG,qI]
def BP{b:Int}{L:List (List Int)}{ws:List Int}{i:Nat}(hi:i<L.length):ln (pZ b L ws) i=(ln L i++[co ws i]).map (tk b):=by
 show(pZ b L ws).getD i []=_;rw[pZ,dh,jV,B5 hi];rfl
def aug(b:Int)(L:List (List Int))(ws:List Int):Nat->Nat->Int:=λi k=>co (ln (pZ b L ws) i) k
def agT{b:Int}{L:List (List Int)}{ws:List Int}{i k m:Nat}(hi:i<L.length)(hm:(ln L i).length=m)(hk:k<m):aug b L ws i k=tk b (co (ln L i) k):=by
 unfold aug;rw[BP hi,lV (tk0 b),mK,if_pos (by omega)]
def akO{b:Int}{L:List (List Int)}{ws:List Int}{i m:Nat}(hi:i<L.length)(hm:(ln L i).length=m):aug b L ws i m=tk b (co ws i):=by
 unfold aug;rw[BP hi,lV (tk0 b),mK,if_neg (by omega),hm,qT,fH]
def agL{b:Int}{L:List (List Int)}{ws:List Int}(i k:Nat):tk b (aug b L ws i k)=aug b L ws i k:=by
 unfold aug;by_cases hi:i<L.length
 .rw[BP hi,lV (tk0 b),gq]
 .have e:ln (pZ b L ws) i=[]:=by
   unfold ln;rw[dh,ud (by rw[xK];omega)];rfl
  rw[e,fL,tk0]
def pJ(E:Nat->Int)(hd:Nat->Nat)(wide i:Nat):List Int:=aH wide λk=>sm i λh=>if k=hd h then E h else 0
def yU(E:Nat->Int)(hd:Nat->Nat)(wide i:Nat):(pJ E hd wide i).length=wide:=bG ..
def akk(E:Nat->Int)(hd:Nat->Nat)(wide:Nat):pJ E hd wide 0=aH wide λ_=>0:=rfl
def alA{E:Nat->Int}{hd:Nat->Nat}{wide i:Nat}(hi:hd i<wide)(hu:∀h,h<i->hd h≠hd i):(pJ E hd wide i).set (hd i) (E i)=pJ E hd wide (i+1):=by
 refine qK (by rw[oM,yU,yU]) λk=>?_;rw[yF _ _ _ _ (by rw[yU];exact hi),pJ,pJ,dw,dw];by_cases hk:k<wide
 .rw[if_pos hk,if_pos hk,sm];by_cases c:k=hd i
  .rw[if_pos c,if_pos c,c,jo λh hh=>if_neg λe=>hu h hh e.symm,gC]
  .rw[if_neg c,if_neg c,cU]
 .rw[if_neg hk,if_neg hk,if_neg (by omega)]
end Dm
namespace Pm
open Rm
def Fs(f:Nat->Int)(n:Nat):Prop:=∀k,n<=k->f k=0
theorem Fs.co(p:List Int):Fs (co p) p.length:=λ_ h=>aY h
def Fs.mono{f:Nat->Int}{m n:Nat}(h:Fs f m)(hmn:m<=n):Fs f n:=λk hk=>h k (by omega)
def Fs.add{f g:Nat->Int}{n:Nat}(h:Fs f n)(h':Fs g n):Fs (λk=>f k+g k) n:=λk hk=>by show f k+g k=0;rw[h k hk,h' k hk];rfl
def Fs.mul{f:Nat->Int}{n:Nat}(c:Int)(h:Fs f n):Fs (λk=>c*f k) n:=λk hk=>by show c*f k=0;rw[h k hk,aR]
theorem Fs.cv{f g:Nat->Int}{m n:Nat}(h:Fs f m)(h':Fs g n):Fs (Pm.cv f g) (m+n):=λk hk=>jY λi _=>by
 by_cases c:m<=i
 .exact .inl (h i c)
 .exact .inr (h' _ (by omega))
def Hv{b x:Int}(y:Int)(h:tk b x=0):tk b (y*x)=0:=by rw[<-dF,h,aR,tk0]
def ED{b:Int}{m:List Int}(hm:Mon m){f:Nat->Int}{n:Nat}(hf:Fs f n)(h:∀k,m.length-1<=k->tk b (cv f (co m) k)=0):∀k,tk b (f k)=0:=by
 have q:∀d j,n<=j+d->tk b (f j)=0:=λd=>by
  induction d with
  |zero=>intro j hj;rw[hf j hj,tk0]
  |succ d ih=>
   intro j hj;have e:=h (j+(m.length-1)) (by omega);rw[fV]at e;have e2:tk b (sm (j+(m.length-1)+1) λi=>f i*co m (j+(m.length-1)-i))=tk b (sm (j+(m.length-1)+1) λi=>if i=j then f j else 0):=iz λi hi=>by
    by_cases c:i=j
    .rw[if_pos c,c,C7,hm.one,iI]
    .rw[if_neg c,tk0];by_cases d2:i<j
     .rw[aY (by have:=hm.pos;omega),aR,tk0]
     .rw[bY];exact Hv _ (ih i (by omega))
   rw[e2,mO,if_pos (by omega)]at e;exact e
 exactλk=>q n k (by omega)
def Dv(b:Int)(m:List Int)(f:Nat->Int):Prop:=∃s n,Fs s n/\∀k,tk b (f k)=tk b (cv s (co m) k)
def Dv.congr{b:Int}{m:List Int}{f g:Nat->Int}(e:∀k,tk b (f k)=tk b (g k))(h:Dv b m f):Dv b m g:=by
 obtain⟨s,n,hs,h⟩:=h;exact⟨s,n,hs,λk=>by rw[<-e,h]⟩
def Dv.zero(b:Int)(m:List Int):Dv b m λ_=>0:=⟨λ_=>0,0,λ_ _=>rfl,λk=>by rw[jY λi _=> .inl rfl]⟩
theorem Dv.add{b:Int}{m:List Int}{f g:Nat->Int}(h:Dv b m f)(h':Dv b m g):Dv b m λk=>f k+g k:=by
 obtain⟨s,n,hs,h⟩:=h;obtain⟨s',n',hs',h'⟩:=h';exact⟨λk=>s k+s' k,n+n',(hs.mono (by omega)).add (hs'.mono (by omega)),λk=>by rw[lZ];exact jE (h k) (h' k)⟩
def Dv.smul{b:Int}{m:List Int}{f:Nat->Int}(c:Int)(h:Dv b m f):Dv b m λk=>c*f k:=by
 obtain⟨s,n,hs,h⟩:=h;exact⟨λk=>c*s k,n,hs.mul c,λk=>by rw[nT,<-dF,h,dF]⟩
def Dv.sub{b:Int}{m:List Int}{f g:Nat->Int}(h:Dv b m f)(h':Dv b m g):Dv b m λk=>f k-g k:=
 (h.add (h'.smul (-1))).congr λk=>by rw[show f k + -1*g k=f k-g k by omega]
def Dv.mul{b:Int}{m:List Int}{f g:Nat->Int}{n:Nat}(hg:Fs g n)(h:Dv b m f):Dv b m (cv g f):=by
 obtain⟨s,n',hs,h⟩:=h;exact⟨cv g s,n+n',hg.cv hs,λk=>by rw[gG];exact ig (λi _=>rfl) λi _=>h i⟩
def Dv.self{b:Int}{m:List Int}{g:Nat->Int}{n:Nat}(hg:Fs g n):Dv b m (cv g (co m)):=⟨g,n,hg,λ_=>rfl⟩
def Dv.short{b:Int}{m:List Int}(hm:Mon m){f:Nat->Int}(hf:Fs f (m.length-1))(h:Dv b m f):∀k,tk b (f k)=0:=by
 obtain⟨s,n,hs,h⟩:=h;have z:=ED (b:=b) hm hs λk hk=>by rw[<-h,hf k hk,tk0]
 intro k;rw[h,<-tk0 b,<-jY (f:=λ_=>(0:Int)) (g:=co m) (k:=k) λi _=> .inl rfl];exact ig (λi _=>by rw[z,tk0]) λi _=>rfl
def tp(P:List Int)(a:Nat->Int)(k:Nat):Int:=sm (P.length-1-k) λi=>co P (k+1+i)*a i
def zX(P:List Int)(a:Nat->Int):Fs (tp P a) (P.length-1):=λk hk=>by unfold tp;rw[show P.length-1-k=0 by omega];rfl
def acT{b:Int}{P:List Int}{a a':Nat->Int}(h:∀n,tk b (a n)=tk b (a' n))(k:Nat):tk b (tp P a k)=tk b (tp P a' k):=iz λi _=>by rw[<-dF,h,dF]
def ahT(P:List Int)(c:Int)(a a':Nat->Int)(k:Nat):tp P (λn=>c*a n+a' n) k=c*tp P a k+tp P a' k:=by
 unfold tp;rw[<-dj,<-iy];refine aP λi _=>?_;rw[iW,gj]
def atJ{b:Int}{P:List Int}(hP:0<P.length){a:Nat->Int}(h0:tk b (ks P a 0)=0)(k:Nat):tk b (if k=0 then 0 else tp P a (k-1))=tk b (tp P (λn=>a (n+1)) k+a 0*co P k):=by
 by_cases c:k=0
 .rw[if_pos c,c,tk0,<-h0];refine congrArg (tk b) ?_;unfold ks tp;obtain⟨N,hN⟩:∃N,P.length=N+1:=⟨P.length-1,by omega⟩;rw[hN,nW,dY,sY,oG,bY (co P 0)];congr 1;exact aP λi _=>by rw[Cg,Cg,MP 1 i]
 .rw[if_neg c];by_cases d:k<P.length
  .refine congrArg (tk b) ?_;unfold tp;rw[show P.length-1-(k-1)=(P.length-1-k)+1 by omega,nW,oG];congr 1
   .exact aP λi _=>by rw[show k-1+1+(i+1)=k+1+i by omega]
   .rw[show k-1+1+0=k by omega,bY]
  .rw[zX P a (k-1) (by omega),zX P _ k (by omega),aY (by omega),aR];rfl
def aac(x:Int)(q:List Int)(f:Nat->Int)(k:Nat):cv (co (x::q)) f k=x*f k+(if k=0 then 0 else cv (co q) f (k-1)):=by
 cases k with
 |zero=>rw[cv,fH,if_pos rfl,cU]
 |succ k=>
  rw[cv,fH,if_neg (by omega),dY];congr 1
def ajg(q f:Nat->Int)(k:Nat):(if k=0 then 0 else cv q f (k-1))=cv q (λi=>if i=0 then 0 else f (i-1)) k:=by
 cases k with
 |zero=>rw[if_pos rfl,cv,if_pos rfl,aR]
 |succ k=>rw[if_neg (by omega),dY,RJ,if_pos rfl,aR,cU];rfl
def ajG(x:Int)(q:List Int)(a:Nat->Int)(n:Nat):ks (x::q) a n=x*a n+ks q (λn=>a (n+1)) n:=by
 unfold ks;rw[gP,nW,fH,Tn];congr 1
theorem O6{b:Int}{P:List Int}(hP:0<P.length):∀(q:List Int) {a:Nat->Int},Kp b P a->Dv b P λk=>cv (co q) (tp P a) k-tp P (ks q a) k
 |[],a,_=>(Dv.zero b P).congr λk=>by
  rw[jY λi _=> .inl (fL i)];have:tp P (ks [] a) k=0:=jo λi _=>by show co P (k+1+i)*0=0;exact aR _
  rw[this];rfl
 |x::q,a,h=>by
  have h1:Kp b P λn=>a (n+1):=λn=>by
   have e:ks P (λn=>a (n+1)) n=ks P a (n+1):=aP λk _=>by show _*a (n+k+1)=_*a (n+1+k);rw[show n+k+1=n+1+k by omega]
   rw[e];exact h (n+1)
  have ih:=O6 hP q h1;have d:=Dv.self (b:=b) (m:=P) ((Fs.co q).mul (a 0));refine(ih.add d).congr λk=>?_;have e1:tk b (if k=0 then 0 else cv (co q) (tp P a) (k-1))=tk b (cv (co q) (tp P λn=>a (n+1)) k+a 0*cv (co q) (co P) k):=by
   rw[ajg,<-nT,ig (λi _=>rfl) λi _=>atJ hP (h 0) i,Qq];congr 2;rw[jz,nT,nT,jz]
  have e2:tp P (ks (x::q) a) k=x*tp P a k+tp P (ks q λn=>a (n+1)) k:=by
   rw[<-ahT];unfold tp;exact aP λi _=>by rw[ajG]
  rw[aac,e2,nT];have e3:=jE e1 (rfl:tk b (-(tp P (ks q λn=>a (n+1)) k))=_);rw[show x*tp P a k+(if k=0 then 0 else cv (co q) (tp P a) (k-1))-(x*tp P a k+tp P (ks q λn=>a (n+1)) k)=(if k=0 then 0 else cv (co q) (tp P a) (k-1)) + -(tp P (ks q λn=>a (n+1)) k)by omega,e3];refine congrArg (tk b) ?_;omega
def V2{b:Int}{P:List Int}(hm:Mon P){e:Nat->Int}(h:∀k,tk b (tp P e k)=0):∀n,n<P.length-1->tk b (e n)=0:=λn=>by
 induction n using Nat.strongRecOn with
 |ind n ih=>
  intro hn;have q:=h (P.length-1-1-n);unfold tp at q;rw[show P.length-1-(P.length-1-1-n)=n+1 by omega,sm]at q;have z:tk b (sm n λi=>co P (P.length-1-1-n+1+i)*e i)=0:=by
   have:=iz (b:=b) (n:=n) (f:=λi=>co P (P.length-1-1-n+1+i)*e i) (g:=λ_=>0) λi hi=>by rw[tk0];exact Hv _ (ih i hi (by omega))
   rw[this,vP,tk0]
  rw[<-jP,z,gC,show P.length-1-1-n+1+n=P.length-1 by omega,hm.one,gM]at q;exact q
def atw{b:Int}{rule:List Int}{a:Nat->Int}(ha:∀n,rule.length<=n->tk b (a n)=tk b (S rule a n rule.length))(q:List Int):
  Kp b q a↔Dv b (aU b rule) (cv (co q) (tp (aU b rule) a)):=by
 have hm:=uH b rule;have hK:Kp b (aU b rule) a:=Kp.aU ha;have A:=O6 hm.pos q hK;constructor
 .intro h;have z:Dv b (aU b rule) (tp (aU b rule) (ks q a)):=(Dv.zero b _).congr λk=>by
   have:=acT (b:=b) (P:=aU b rule) (a:=ks q a) (a':=λ_=>0) (λn=>by rw[h n,tk0]) k;rw[this];exact(congrArg (tk b) (show tp (aU b rule) (λ_=>0) k=0 from jo λi _=>aR _)).symm
  exact(A.add z).congr λk=>by rw[Int.sub_add_cancel]
 .intro h;have z:Dv b (aU b rule) (tp (aU b rule) (ks q a)):=(h.sub A).congr λk=>by
   rw[show cv (co q) (tp (aU b rule) a) k-(cv (co q) (tp (aU b rule) a) k-tp (aU b rule) (ks q a) k)=tp (aU b rule) (ks q a) k by omega]
  have n0:=V2 hm (z.short hm (zX _ _));rw[kj,dY]at n0;exact Tv ha n0
structure Ro(b:Int)(p:List Int)(t:Nat->Int)(g:List Int):Prop where
 mon:Mon g
 one:Dv b g (co p)
 two:Dv b g t
 sum:∃(N:Int) (u v:Nat->Int) (n:Nat),tk b N≠0/\Fs u n/\Fs v n/\∀k,tk b (N*co g k)=tk b (cv u (co p) k+cv v t k)
def Sx{b:Int}{m:List Int}(hm:Mon m){p:List Int}(hp:∀k,tk b (co p k)=co p k):∃q r,Div b p m q r:=by
 have go:∀d,d<=p.length-(m.length-1)->∃o l,qw b p m (p.length-(m.length-1)-d) o l:=λd=>by
  induction d with
  |zero=>intro _;exact⟨_,_,qw.start hp⟩
  |succ d ih=>
   intro hd;obtain⟨o,l,I⟩:=ih (by omega);obtain⟨s,hs⟩:∃s,p.length-(m.length-1)-d=s+1:=⟨p.length-(m.length-1)-d-1,by omega⟩;rw[hs]at I;refine⟨o.set s (co l (s+(m.length-1))),aH l.length λk=>lf b (co l (s+(m.length-1))) s m.length l m k,?_⟩;rw[show p.length-(m.length-1)-(d+1)=s by omega];refine I.step hm (by omega) (bG ..) λk=>?_;rw[dw];by_cases c:k<l.length
   .rw[if_pos c]
   .rw[if_neg c];have hl:=I.ll;have hmp:=hm.pos;unfold lf;rw[if_neg (by omega),aY (by omega)]
 obtain⟨o,l,I⟩:=go _ (aN _);rw[qT]at I;exact⟨_,_,I.stop hm⟩
def apA{b:Int}(hD:∀x y,tk b x≠0->tk b (x*y)=0->tk b y=0){L:List Int}(hL:Mon L){N:Int}(hN:tk b N≠0){f:Nat->Int}{n:Nat}(hf:Fs f n)(h:Dv b L λk=>N*f k):Dv b L f:=by
 obtain⟨o,r,D⟩:=Sx (b:=b) hL (p:=aH n λk=>tk b (f k)) λk=>by
  rw[dw];split
  .exact gq ..
  .exact tk0 b
 have ef:∀k,tk b (co (aH n λk=>tk b (f k)) k)=tk b (f k):=λk=>by
  rw[dw];by_cases c:k<n
  .rw[if_pos c,gq]
  .rw[if_neg c,hf k (by omega)]
 have e:∀k,tk b (f k)=tk b (cv (co o) (co L) k+co r k):=λk=>by rw[D.eq,ef]
 have z:Dv b L λk=>N*co r k:=(h.sub ((Dv.self (b:=b) (m:=L) (Fs.co o)).smul N)).congr λk=>by
  rw[show N*f k-N*cv (co o) (co L) k=N*(f k-cv (co o) (co L) k)by rw[gY],<-dF,<-dF b N (co r k)];congr 2;have:=e k;have q:=jE this (rfl:tk b (-cv (co o) (co L) k)=_);rw[show f k-cv (co o) (co L) k=f k + -cv (co o) (co L) k by omega,q];exact congrArg (tk b) (by omega)
 have hr:Fs (λk=>N*co r k) (L.length-1):=((Fs.co r).mono (by have:=D.short;omega)).mul N;have z0:=z.short hL hr;refine⟨co o,o.length,Fs.co o,λk=>?_⟩;rw[e,<-yc,hD N _ hN (z0 k),cU]
def Ro.keeps{b:Int}(hD:∀x y,tk b x≠0->tk b (x*y)=0->tk b y=0){rule:List Int}{a:Nat->Int}(ha:∀n,rule.length<=n->tk b (a n)=tk b (S rule a n rule.length)){g L:List Int}(h:Ro b (aU b rule) (tp (aU b rule) a) g)(hL:Mon L)
  (hP:∀k,tk b (co (aU b rule) k)=tk b (cv (co L) (co g) k)) (q:List Int):Kp b q a↔Dv b L (co q):=by
 rw[atw ha q];generalize aU b rule=P at h hP;obtain⟨t,nt,ht,hT⟩:=h.two;obtain⟨N,u,v,n,hN,hu,hv,hs⟩:=h.sum;generalize tp P a=T at h hT hs;have bez:∀k,tk b ((if k=0 then N else 0)-(cv u (co L) k+cv v t k))=0:=by
  refine ED (b:=b) h.mon (n:=1+(n+L.length)+(n+nt)) (λk hk=>?_) λk _=>?_
  .show(if k=0 then N else 0)-(cv u (co L) k+cv v t k)=0;rw[if_neg (by omega),hu.cv (Fs.co L) k (by omega),hv.cv ht k (by omega)];rfl
  .have e:cv (λk=>(if k=0 then N else 0)-(cv u (co L) k+cv v t k)) (co g) k=N*co g k + -1*(cv u (cv (co L) (co g)) k+cv v (cv t (co g)) k):=by
    rw[<-gG,<-gG,<-lZ,<-nT];have e2:N*co g k=cv (λk=>if k=0 then N else 0) (co g) k:=by rw[Bu,if_pos (cJ _),sY]
    rw[e2,<-lZ];refine ql (λi _=>?_) λi _=>rfl;omega
   rw[e,<-jP,hs,jP];have e3:tk b (cv u (co P) k+cv v T k)=tk b (cv u (cv (co L) (co g)) k+cv v (cv t (co g)) k):=jE (ig (λi _=>rfl) λi _=>hP i) (ig (λi _=>rfl) λi _=>hT i);have e4:=jE e3 (rfl:tk b (-1*(cv u (cv (co L) (co g)) k+cv v (cv t (co g)) k))=_);rw[e4,show ∀x:Int,x + -1*x=0 fromλx=>by omega,tk0]
 constructor
 .rintro⟨s,ns,hs',e⟩;have qt:∀k,tk b (cv (co q) t k-cv s (co L) k)=0:=by
   refine ED (b:=b) h.mon (n:=(q.length+nt)+(ns+L.length)) (λk hk=>?_) λk _=>?_
   .show cv (co q) t k-cv s (co L) k=0;rw[(Fs.co q).cv ht k (by omega),hs'.cv (Fs.co L) k (by omega)];rfl
   .have e1:cv (λk=>cv (co q) t k-cv s (co L) k) (co g) k=cv (co q) (cv t (co g)) k + -1*cv s (cv (co L) (co g)) k:=by
     rw[<-gG,<-gG,<-nT,<-lZ];exact ql (λi _=>by omega) λi _=>rfl
    have e2:tk b (cv (co q) (cv t (co g)) k)=tk b (cv s (cv (co L) (co g)) k):=by
     rw[<-ig (λi _=>rfl) (λi _=>hT i),e,ig (λi _=>rfl) λi _=>hP i]
    have e3:=jE e2 (rfl:tk b (-1*cv s (cv (co L) (co g)) k)=_);rw[e1,e3,show ∀x:Int,x + -1*x=0 fromλx=>by omega,tk0]
  refine apA hD hL hN (Fs.co q) ?_;refine⟨λk=>cv (co q) u k+cv v s k,(q.length+n)+(n+ns),((((Fs.co q).cv hu)).mono (by omega)).add ((hv.cv hs').mono (by omega)),λk=>?_⟩;have e1:tk b (N*co q k)=tk b (cv (λk=>cv u (co L) k+cv v t k) (co q) k):=by
   have e2:N*co q k=cv (λk=>if k=0 then N else 0) (co q) k:=by rw[Bu,if_pos (cJ _),sY]
   rw[e2];exact ig (λi _=>mz.mp (bez i)) λi _=>rfl
  rw[e1,lZ,lZ];refine jE ?_ ?_
  .exact congrArg (tk b) ((jz ..).trans (gG ..).symm)
  .rw[gG,gG];refine ig (λi _=>rfl) λi _=>?_;rw[jz];exact mz.mp (qt i)
 .rintro⟨s,ns,hs',e⟩;refine⟨cv s t,ns+nt,hs'.cv ht,λk=>?_⟩;rw[ig (λi _=>e i) (λi _=>hT i),ig (f:=cv s t) (λi _=>rfl) (λi _=>hP i)];refine congrArg (tk b) ?_;rw[gG,gG];refine ql (λi _=>rfl) λi _=>?_;rw[<-gG,<-gG];exact ql (λj _=>jz ..) λj _=>rfl
end Pm
namespace Om
def cA(p:Nat):Prop:=2<=p/\∀d,d∣p->d=1∨d=p
def cA.cop{p x:Nat}(h:cA p)(hx:¬p∣x):Nat.Coprime p x:=by
 rcases h.2 _ (zf p x)with e|e
 .exact e
 .exact absurd (e▸Az p x) hx
def cA.dvd{p x y:Nat}(h:cA p)(hd:p∣x*y):p∣x∨p∣y:=by
 by_cases c:p∣x
 .exact .inl c
 .exact .inr ((h.cop c).dvd_of_dvd_mul_left hd)
def ch:Nat->Nat->Nat
 |_,0=>1
 |0,_+1=>0
 |n+1,k+1=>ch n k+ch n (k+1)
def Dy(n:Nat):ch n 0=1:=by cases n<;>rfl
theorem A9:∀(n k:Nat),n<k->ch n k=0
 |0,k+1,_=>rfl
 |n+1,k+1,h=>by rw[ch,A9 n k (by omega),A9 n (k+1) (by omega)]
theorem aaQ:∀n,ch n n=1
 |0=>rfl
 |n+1=>by rw[ch,aaQ n,A9 n (n+1) (by omega)]
theorem Em:∀n k:Nat,(k+1)*ch (n+1) (k+1)=(n+1)*ch n k
 |0,0=>rfl
 |0,k+1=>by
  have e:ch (0+1) (k+1+1)=ch 0 (k+1)+ch 0 (k+1+1):=rfl;rw[e,A9 0 (k+1) (by omega),A9 0 (k+1+1) (by omega)];simp
 |n+1,0=>by
  have:=Em n 0;have e:ch (n+1+1) (0+1)=ch (n+1) 0+ch (n+1) (0+1):=rfl;simp only[Dy]at e⊢;rw[e];rw[Dy]at this;omega
 |n+1,k+1=>by
  have h1:=Em n k;have h2:=Em n (k+1);rw[ch,zN];have e1:(k+1+1)*ch (n+1) (k+1)=(n+1)*ch n k+ch (n+1) (k+1):=by rw[pW,h1]
  rw[e1,h2];have e2:ch (n+1) (k+1)=ch n k+ch n (k+1):=rfl;rw[e2,pW (n+1),zN];omega
def cA.dch{p k:Nat}(h:cA p)(h0:0<k)(hk:k<p):p∣ch p k:=by
 obtain⟨n,rfl⟩:∃n,p=n+1:=⟨p-1,by have:=h.1;omega⟩;obtain⟨j,rfl⟩:∃j,k=j+1:=⟨k-1,by omega⟩;have e:=Em n j;rcases h.dvd (x:=j+1) (y:=Om.ch (n+1) (j+1)) (by rw[e];exact Nat.dvd_mul_right ..)with d|d
 .exact absurd (rC (by omega) d) (by omega)
 .exact d
def sN(f:Nat->Nat):Nat->Nat
 |0=>0
 |n+1=>sN f n+f n
theorem ab5{f g:Nat->Nat}:∀{n:Nat},(∀k,k<n->f k=g k)->sN f n=sN g n
 |0,_=>rfl
 |n+1,h=>by rw[sN,sN,ab5 λk hk=>h k (by omega),h n (by omega)]
theorem acf(f g:Nat->Nat):∀n,sN (λk=>f k+g k) n=sN f n+sN g n
 |0=>rfl
 |n+1=>by rw[sN,sN,sN,acf f g n];omega
theorem Wc(c:Nat)(f:Nat->Nat):∀n,sN (λk=>c*f k) n=c*sN f n
 |0=>rfl
 |n+1=>by rw[sN,sN,Wc c f n,zN]
theorem Hs(f:Nat->Nat):∀n,sN f (n+1)=f 0+sN (λk=>f (k+1)) n
 |0=>by rw[sN,sN,sN];omega
 |n+1=>by rw[sN,Hs f n,sN];omega
theorem ZF{p:Nat}{f:Nat->Nat}:∀{n:Nat},(∀k,k<n->p∣f k)->p∣sN f n
 |0,_=>Nat.dvd_zero _
 |n+1,h=>Nat.dvd_add (ZF λk hk=>h k (by omega)) (h n (by omega))
theorem YK(a:Nat):∀n,(a+1)^n=sN (λk=>ch n k*a^k) (n+1)
 |0=>by simp[sN,ch]
 |n+1=>by
  rw[zZ,YK a n,Hs (λk=>ch (n+1) k*a^k) (n+1)];have e1:sN (λk=>ch (n+1) (k+1)*a^(k+1)) (n+1)=sN (λk=>a*(ch n k*a^k)) (n+1)+sN (λk=>ch n (k+1)*a^(k+1)) (n+1):=by
   rw[<-acf];refine ab5 λk _=>?_;rw[ch,Kg,zZ];congr 1;rw[wI a,Nat.mul_assoc]
  have e2:sN (λk=>ch n k*a^k) (n+1)=1+sN (λk=>ch n (k+1)*a^(k+1)) (n+1):=by
   have e3:sN (λk=>ch n k*a^k) (n+1+1)=sN (λk=>ch n k*a^k) (n+1):=by rw[sN,A9 n (n+1) (by omega),Qu,Tn]
   rw[<-e3,Hs];rw[Dy,O8]
  rw[e1,Wc,Dy,O8,zN,Bg,wI];omega
theorem cA.pow{p:Nat}(h:cA p):∀a:Nat,a^p%p=a%p
 |0=>by rw[Nat.zero_pow (by have:=h.1;omega)]
 |a+1=>by
  obtain⟨n,rfl⟩:∃n,p=n+1:=⟨p-1,by have:=h.1;omega⟩;have e:(a+1)^(n+1)=1+sN (λk=>ch (n+1) (k+1)*a^(k+1)) n+a^(n+1):=by
   rw[YK,sN,Hs,Dy,O8,aaQ,xJ,xJ]
  obtain⟨c,hc⟩:(n+1)∣sN (λk=>ch (n+1) (k+1)*a^(k+1)) n:=ZF λk hk=>DM (h.dch (by omega) (by omega)) (Nat.dvd_mul_right ..);rw[e,hc,show 1+(n+1)*c+a^(n+1)=(a^(n+1)+1)+(n+1)*c by omega,aat,Nat.add_mod,cA.pow h a,<-Nat.add_mod]
def cA.atN{p a:Nat}(h:cA p)(h0:a≠0)(ha:a<p):a^(p-1)%p=1:=by
 have hp:=h.1;have e:=h.pow a;obtain⟨n,rfl⟩:∃n,p=n+1:=⟨p-1,by omega⟩;rw[dY];have one:1<=a^n:=SX (by omega);have d:(n+1)∣a*(a^n-1):=by
  have e2:a*(a^n-1)=a^(n+1)-a:=by rw[Nat.mul_sub,Bg,zZ,wI]
  rw[e2];exact aaq (Nat.sub_mod_eq_zero_of_mod_eq e)
 rcases h.dvd d with d|⟨c,hc⟩
 .exact absurd (rC (by omega) d) (by omega)
 .rw[show a^n=1+(n+1)*c by omega,aat];exact Nat.mod_eq_of_lt (by omega)
end Om
namespace Pm
open Rm
def Kf(f:Nat->Int)(n:Nat)(a:Nat->Int):Prop:=∀m,sm n (λk=>f k*a (m+k))=0
def Kf.less{f:Nat->Int}{n m:Nat}{a:Nat->Int}(h:Kf f m a)(hf:Fs f n)(hm:n<=m):Kf f n a:=λi=>by
 rw[<-nH (n:=m) hm λk h1 _=>by rw[hf k h1,fU]];exact h i
def Kf.lin{f g:Nat->Int}{n:Nat}{a:Nat->Int}(c d:Int)(h:Kf f n a)(h':Kf g n a):Kf (λk=>c*f k+d*g k) n a:=λi=>by
 have e:sm n (λk=>(c*f k+d*g k)*a (i+k))=c*sm n (λk=>f k*a (i+k))+d*sm n (λk=>g k*a (i+k)):=by
  rw[<-dj,<-dj,<-iy];exact aP λk _=>by rw[rE,bN,bN]
 rw[e,h i,h' i];simp
def Kf.shift{f:Nat->Int}{n:Nat}{a:Nat->Int}(s:Nat)(h:Kf f n a):Kf (λk=>if s<=k then f (k-s)else 0) (s+n) a:=λi=>by
 have e:∀s,sm (s+n) (λk=>(if s<=k then f (k-s)else 0)*a (i+k))=sm n (λk=>f k*a (i+s+k)):=λs=>by
  induction s generalizing i with
  |zero=>rw[Cg];exact aP λk _=>by rw[if_pos (cJ _)];rfl
  |succ s ih=>
   rw[show s+1+n=(s+n)+1 by omega,nW,if_neg (by omega),fU,gC];rw[show i+(s+1)=(i+1)+s by omega,<-ih (i+1)];refine aP λk _=>?_;rw[show i+(k+1)=i+1+k by omega];by_cases c:s<=k
   .rw[if_pos c,if_pos (by omega),show k+1-(s+1)=k-s by omega]
   .rw[if_neg c,if_neg (by omega)]
 rw[e];exact h _
def Kf.div{f:Nat->Int}{n:Nat}{a:Nat->Int}{c:Int}(hc:c≠0)(h:Kf (λk=>c*f k) n a):Kf f n a:=λi=>by
 have e:=h i;rw[show(λk=>c*f k*a (i+k))=λk=>c*(f k*a (i+k))from funext λk=>bN ..,dj]at e;exact(kI.mp e).resolve_left hc
def Kf.of{p:List Int}{a:Nat->Int}(h:Kp 0 p a):Kf (co p) p.length a:=λi=>by
 have:=h i;rw[bh]at this;exact this
def aie:∀n:Nat,2<=n->∃p,Om.cA p/\p∣n:=λn=>by
 induction n using Nat.strongRecOn with
 |ind n ih=>
  intro hn;by_cases h:∀d,d∣n->d=1∨d=n
  .exact⟨n,⟨hn,h⟩,Nat.dvd_refl n⟩
  .obtain⟨d,hd⟩:=CQ.mp h;obtain⟨hd,hn1⟩:=RW.mp hd;have h0:d≠0:=λe=>by rw[e]at hd;have:=Nat.eq_zero_of_zero_dvd hd;omega
   have hl:=rC (by omega) hd;have h1:d≠1:=λe=>hn1 (.inl e);have h2:d≠n:=λe=>hn1 (.inr e);obtain⟨p,hp,hq⟩:=ih d (by omega) (by omega);exact⟨p,hp,DM hq hd⟩
def least_of{Q:Nat->Prop}(h:∃n,Q n):∃n,Q n/\∀m,Q m->n<=m:=by
 obtain⟨n,hn⟩:=h;induction n using Nat.strongRecOn with
 |ind n ih=>
  by_cases c:∃m,m<n/\Q m
  .obtain⟨m,h1,h2⟩:=c;exact ih m h1 h2
  .exact⟨n,hn,λm hm=>by
    by_cases d:m<n
    .exact absurd ⟨m,d,hm⟩ c
    .omega⟩
def Eb{p:Nat}{x:Int}:(p:Int)∣x↔p∣x.natAbs:=sG
def HB{p:Nat}(hp:Om.cA p){x y:Int}(h:(p:Int)∣x*y):(p:Int)∣x∨(p:Int)∣y:=by
 rw[Eb,mU]at h;rcases hp.dvd h with h|h
 .exact .inl (Eb.mpr h)
 .exact .inr (Eb.mpr h)
theorem abt{d:Int}{f:Nat->Int}:∀{n:Nat},(∀k,k<n->d∣f k)->d∣sm n f
 |0,_=>⟨0,by rw[aR];rfl⟩
 |n+1,h=>rD (abt λk hk=>h k (by omega)) (h n (by omega))
def amy{d:Int}{f:Nat->Int}{n j:Nat}(hj:j<n)(h:d∣sm n f)(ho:∀k,k<n->k≠j->d∣f k):d∣f j:=by
 have e:sm n f=sm n (λk=>if k=j then f j else 0)+sm n (λk=>if k=j then 0 else f k):=by
  rw[<-iy];refine aP λk _=>?_;by_cases c:k=j
  .rw[if_pos c,if_pos c,c,cU]
  .rw[if_neg c,if_neg c,gC]
 rw[mO,if_pos hj]at e;have h2:d∣sm n (λk=>if k=j then 0 else f k):=abt λk hk=>by
  by_cases c:k=j
  .rw[if_pos c];exact⟨0,by rw[aR]⟩
  .rw[if_neg c];exact ho k hk c
 have:f j=sm n f-sm n (λk=>if k=j then 0 else f k):=by omega
 rw[this];exact Int.dvd_sub h h2
def ajL{p:Nat}(hp:Om.cA p){f g:Nat->Int}(h:∀k,(p:Int)∣cv f g k):(∀k,(p:Int)∣f k)∨∀k,(p:Int)∣g k:=by
 by_cases hf:∀k,(p:Int)∣f k
 .exact .inl hf
 by_cases hg:∀k,(p:Int)∣g k
 .exact .inr hg
 obtain⟨i,hi,hi'⟩:=least_of (CQ.mp hf);obtain⟨j,hj,hj'⟩:=least_of (CQ.mp hg);have e:=h (i+j);rw[fV]at e;have t:=amy (j:=i) (by omega) e λk hk hne=>by
  by_cases c:k<i
  .have:(p:Int)∣f k:=uJ λz=>by have:=hi' k z;omega
   exact CP this (Cq ..)
  .have:(p:Int)∣g (i+j-k):=uJ λz=>by have:=hj' _ z;omega
   exact CP this (Int.dvd_mul_left ..)
 rw[C7]at t;rcases HB hp t with t|t
 .exact absurd t hi
 .exact absurd t hj
theorem Fs.top{f:Nat->Int}:∀{n:Nat},Fs f n->(∀k,f k=0)∨∃d,d<n/\f d≠0/\Fs f (d+1)
 |0,h=> .inl λk=>h k (cJ _)
 |n+1,h=>by
  by_cases c:f n=0
  .have h':Fs f n:=λk hk=>by
    by_cases e:k=n
    .rw[e];exact c
    .exact h k (by omega)
   rcases Fs.top h' with z|⟨d,h1,h2,h3⟩
   .exact .inl z
   .exact .inr ⟨d,by omega,h2,h3⟩
  .exact .inr ⟨n,by omega,c,h⟩
structure Lk(a:Nat->Int)(d:Nat)(f:Nat->Int):Prop where
 fs:Fs f (d+1)
 ne:f d≠0
 kf:Kf f (d+1) a
def arp{a f:Nat->Int}{d:Nat}(hf:Lk a d f)(hd:∀e g,Lk a e g->d<=e):∀(n:Nat) (q:Nat->Int),Fs q n->Kf q n a->∃(m:Int) (G:Nat->Int) (N:Nat),m≠0/\Fs G N/\∀k,m*q k=cv G f k:=λn=>by
 induction n using Nat.strongRecOn with
 |ind n ih=>
  intro q hq hk;rcases hq.top with z|⟨e,hen,hne,hfe⟩
  .exact⟨1,λ_=>0,0,by decide,λ_ _=>rfl,λk=>by rw[z k,jY λi _=> .inl rfl];rfl⟩
  .have hke:Kf q (e+1) a:=hk.less hfe (by omega);have hde:=hd e q ⟨hfe,hne,hke⟩;have ks:=hf.kf.shift (e-d);rw[show e-d+(d+1)=e+1 by omega]at ks;have kl:=hke.lin (f d) (-(q e)) ks;have fl:Fs (λk=>f d*q k + -(q e)*(if e-d<=k then f (k-(e-d))else 0)) e:=λk hk=>by
    show f d*q k + -(q e)*(if e-d<=k then f (k-(e-d))else 0)=0;rw[if_pos (by omega)];by_cases c:k=e
    .rw[c,show e-(e-d)=d by omega,iY,bY (q e),Int.add_right_neg]
    .rw[hfe k (by omega),hf.fs (k-(e-d)) (by omega),aR,aR];rfl
   obtain⟨m,G,N,hm,hG,hE⟩:=ih e hen _ fl (kl.less fl (by omega));refine⟨m*f d,λk=>G k+m*q e*(if k=e-d then 1 else 0),N+(e-d+1),Int.mul_ne_zero hm hf.ne,λk hk=>?_,λk=>?_⟩
   .show G k+m*q e*(if k=e-d then 1 else 0)=0;rw[hG k (by omega),if_neg (by omega),aR];rfl
   .rw[lZ,nT,Bu,<-hE k];by_cases c:e-d<=k
    .rw[if_pos c,if_pos c,iW,gM,iY,oF,bN,bN,Int.neg_add_cancel_right]
    .rw[if_neg c,if_neg c,iW];simp[bN]
def aqk{a:Nat->Int}{P:List Int}(hP:Mon P)(hk:Kp 0 P a):∃L,Mon L/\Py 0 L/\Kp 0 L a/\L.length<=P.length/\(∀q,Kp 0 q a->Dv 0 L (co q))/\∀e g,Lk a e g->L.length-1<=e:=by
 have hp:=hP.pos;have p0:Lk a (P.length-1) (co P):=⟨by rw[show P.length-1+1=P.length by omega];exact Fs.co P,by rw[hP.one];decide,by rw[show P.length-1+1=P.length by omega];exact Kf.of hk⟩;obtain⟨d,⟨f0,hf0⟩,hd⟩:=least_of (Q:=λd=>∃f,Lk a d f) ⟨_,_,p0⟩;have hd':∀e g,Lk a e g->d<=e:=λe g h=>hd e ⟨g,h⟩;obtain⟨c,⟨f,hf,hc⟩,hc'⟩:=least_of (Q:=λc=>∃f,Lk a d f/\(f d).natAbs=c) ⟨_,f0,hf0,rfl⟩;obtain⟨m0,G0,N0,hm0,hG0,hE0⟩:=arp hf hd' P.length (co P) (Fs.co P) (Kf.of hk);obtain⟨n,⟨m,G,N,hm,hG,hE,hn⟩,hn'⟩:=least_of (Q:=λn=>∃(m:Int) (G:Nat->Int) (N:Nat),m≠0/\Fs G N/\(∀k,m*co P k=cv G f k)/\m.natAbs=n) ⟨_,m0,G0,N0,hm0,hG0,hE0,rfl⟩;have h1:m.natAbs=1:=by
  by_cases c2:m.natAbs=1
  .exact c2
  .have h0:m.natAbs≠0:=by omega
   obtain⟨p,hp,hd⟩:=aie m.natAbs (by omega);have hpp:=hp.1;have hp0:(p:Int)≠0:=by omega
   obtain⟨m',em⟩:=Eb.mpr hd;have hm':m'≠0:=λz=>hm (by rw[em,z,aR]);rcases ajL hp (f:=G) (g:=f) λk=>by rw[<-hE k,em,bN];exact Cq .. with z|z
   .exfalso
    obtain⟨G',hg⟩:=PJ.mp z;refine absurd (hn' m'.natAbs ⟨m',G',N,hm',λk hk=>?_,λk=>?_,rfl⟩) ?_
    .have:=hg k;rw[hG k hk]at this;exact(kI.mp this.symm).resolve_left hp0
    .refine acJ hp0 ?_;rw[<-nT,<-bN,<-em,hE k];exact ql (λi _=>hg i) λ_ _=>rfl
    .rw[<-hn,em,mU,tX];have:0<m'.natAbs:=by omega
     have:2*m'.natAbs<=p*m'.natAbs:=lW _ hpp;omega
   .exfalso
    obtain⟨f',hg⟩:=PJ.mp z;have e:f=λk=>p*f' k:=funext λk=>hg k;have q:Lk a d f':=⟨λk hk=>by
     have:=hg k;rw[hf.fs k hk]at this;exact(kI.mp this.symm).resolve_left hp0,λz=>hf.ne (by rw[hg d,z,aR]),by
     have:=hf.kf;rw[e]at this;exact this.div hp0⟩
    refine absurd (hc' _ ⟨_,q,rfl⟩) ?_;have e2:=congrArg Int.natAbs (hg d);rw[mU,tX,hc]at e2;have hne:=q.ne;have:0<(f' d).natAbs:=by omega
    have:2*(f' d).natAbs<=p*(f' d).natAbs:=lW _ hpp;rw[e2];show ¬p*(f' d).natAbs<=(f' d).natAbs;omega
 have hu:(f d).natAbs=1:=by
  rcases hG.top with z|⟨e,_,hne,hfe⟩
  .exfalso
   have:=hE (P.length-1);rw[hP.one,iI,jY λi _=> .inl (z i)]at this;exact hm this
  .have t:cv G f (e+d)=G e*f d:=by
    rw[fV,aP (g:=λi=>if i=e then G e*f d else 0) λi _=>by
     by_cases c3:i=e
     .rw[if_pos c3,c3,C7]
     .rw[if_neg c3];by_cases c4:i<e
      .rw[hf.fs _ (by omega),aR]
      .rw[hfe i (by omega),fU],mO,if_pos (by omega)]
   have hx:G e*f d≠0:=Int.mul_ne_zero hne hf.ne;have e1:=hE (e+d);rw[t]at e1;have hl:e+d=P.length-1:=by
    by_cases c3:P.length<=e+d
    .rw[aY c3,aR]at e1;exact absurd e1.symm hx
    .by_cases c4:e+d=P.length-1
     .exact c4
     .exfalso
      have e2:=hE (P.length-1);rw[hP.one,iI,jY λi hi=>by
       by_cases c5:e+1<=i
       .exact .inl (hfe i c5)
       .exact .inr (hf.fs _ (by omega))]at e2
      exact hm e2
   rw[hl,hP.one,iI]at e1;have e3:=congrArg Int.natAbs e1;rw[mU,h1]at e3;exact Nat.eq_one_of_mul_eq_one_left e3.symm
 have hs:f d*f d=1:=by
  rcases Int.natAbs_eq (f d)with h|h<;>rw[h,hu]<;>rfl
 have hLc:∀k,co (aH (d+1) λk=>f d*f k) k=f d*f k:=λk=>by
  rw[dw];by_cases c3:k<d+1
  .rw[if_pos c3]
  .rw[if_neg c3,hf.fs k (by omega),aR]
 have hM:Mon (aH (d+1) λk=>f d*f k):=⟨by rw[bG];omega,by rw[bG,dY,hLc,hs]⟩;have hK:Kp 0 (aH (d+1) λk=>f d*f k) a:=λi=>by
  rw[bh];unfold ks;rw[bG,aP (g:=λk=>f d*(f k*a (i+k))) λk _=>by rw[hLc,bN],dj,hf.kf i,aR]
 refine⟨aH (d+1) λk=>f d*f k,hM,⟨?_,λx _=>bh x⟩,hK,?_,λq hq=>?_,λe g h=>by rw[bG];exact hd' e g h⟩
 .refine vq (λz=>?_) (by rw[hM.one];decide);have:=hM.pos;rw[z]at this;exact absurd this (by decide)
 .rw[bG];have:=hd' _ _ p0;omega
 .obtain⟨o,r,D⟩:=Sx (b:=0) hM (p:=q) λk=>bh _;have kr:=(D.kp hK).mp hq;have rn:r=[]:=by
   by_cases c3:r=[]
   .exact c3
   .exfalso
    have hl:0<r.length:=vW.mpr c3;have hne:=pQ c3 D.ry.tr;have:=hd' (r.length-1) (co r) ⟨by rw[show r.length-1+1=r.length by omega];exact Fs.co r,hne,by rw[show r.length-1+1=r.length by omega];exact Kf.of kr⟩;have hsh:=D.short;rw[bG]at hsh;omega
  refine⟨co o,o.length,Fs.co o,λk=>?_⟩;rw[<-D.eq k,rn,fL,cU]
end Pm
namespace Dm
open Pm Rm
def apW{n:Nat}(f:Nat->Nat->Int)(x:Nat->Int){j:Nat}(hj:j<n):det n (cH f j λi=>sm n λk=>f i k*x k)=x j*det n f:=by
 have e0:(λi=>sm n λk=>f i k*x k)=λi=>sm n λk=>x k*f i k:=funext λi=>aP λk _=>bY ..;rw[e0,Eh f hj x (λk i=>f i k)];have e2:sm n (λk=>x k*det n (cH f j λi=>f i k))=sm n (λk=>if k=j then x j*det n f else 0):=aP λk hk=>by
  by_cases c:k=j
  .rw[if_pos c,c,zU]
  .rw[if_neg c];have z:det n (cH f j λi=>f i k)=0:=by
    rcases GK c with l|l
    .exact sO l hj λi _=>by rw[mY,nK (by omega)]
    .exact sO l hk λi _=>by rw[mY,nK (by omega)]
   rw[z,aR]
 rw[e2,mO,if_pos hj]
def alv{b:Int}{n:Nat}{f:Nat->Nat->Int}{x:Nat->Int}(h:Rel b n n f x){j:Nat}(hj:j<n):tk b (x j*det n f)=0:=by
 have hx:∀i,∃e,i<n->(sm n λk=>f i k*x k)=b*e:=λi=>by
  by_cases c:i<n
  .obtain⟨e,he⟩:=rR.mp (h i c);exact⟨e,λ_=>he⟩
  .exact⟨0,λz=>absurd z c⟩
 obtain⟨e,he⟩:=PJ.mp hx;rw[<-apW f x hj];have e1:det n (cH f j λi=>sm n λk=>f i k*x k)=det n (cH f j λi=>b*e i+0):=jr λi k hi _=>by
  unfold cH;split
  .show(sm n λk=>f i k*x k)=b*e i+0;rw[he i hi,cU]
  .rfl
 rw[e1,uM f hj b e (λ_=>0),Bs f hj,cU];exact rR.mpr ⟨_,rfl⟩
def arJ{b:Int}{n:Nat}{f:Nat->Nat->Int}(hD:Dom b)(h:tk b (det n f)≠0):sI b n n f:=λx hx k hk=>
 hD (det n f) (x k) h (by rw[bY];exact alv hx hk)
structure Cp(b:Int)(n:Nat)(A0:Nat->Nat->Int)(c:Nat)(A:Nat->Nat->Int)(hd:Nat->Nat)(r:Nat):Prop where
 sw:uo n A0 A
 nz:tk b (dt A hd r)≠0
 rn:r<=n
 hc:∀h,h<r->hd h<c
 up:∀h h',h<h'->h'<r->hd h<hd h'
 zero:∀k,k<c->(∀h,h<r->hd h≠k)->∀i,r<=i->i<n->tk b (En A hd r i k)=0
def Cp.bring{b:Int}{n:Nat}{A0:Nat->Nat->Int}{c:Nat}{A:Nat->Nat->Int}{hd:Nat->Nat}{r:Nat}(h:Cp b n A0 c A hd r){a:Nat}(hra:r<a)(han:a<n):Cp b n A0 c (turn A r a) hd r:=
 ⟨.step h.sw hra han,by rw[Jf (aN _) (by omega)];exact h.nz,h.rn,h.hc,h.up,λk hk hn i h1 h2=>by
  rw[Ea (aN _) hra];split
  .exact h.zero k hk hn a (by omega) han
  .split
   .exact xG (h.zero k hk hn r (aN _) (by omega))
   .exact h.zero k hk hn i h1 h2⟩
def Cp.free{b:Int}{n:Nat}{A0:Nat->Nat->Int}{c:Nat}{A:Nat->Nat->Int}{hd:Nat->Nat}{r:Nat}(h:Cp b n A0 c A hd r)(hD:Dom b)(hrn:r<n)(hp:tk b (En A hd r r c)≠0):Cp b n A0 (c+1) A (more hd r c) (r+1):=by
 have hpi:En A hd r r c≠0:=λz=>hp (by rw[z];exact tk0 b);have ml:∀j,j<r->more hd r c j=hd j:=λj hj=>if_neg (by omega);have me:more hd r c r=c:=if_pos rfl;refine⟨h.sw,by rw[Pb];exact hp,by omega,λj hj=>?_,λj j' h1 h2=>?_,λk hk hn i h1 h2=>?_⟩
 .by_cases e:j=r
  .rw[e,me];omega
  .rw[ml j (by omega)];have:=h.hc j (by omega);omega
 .by_cases e:j'=r
  .rw[e,me,ml j (by omega)];exact h.hc j (by omega)
  .rw[ml j' (by omega),ml j (by omega)];exact h.up j j' h1 (by omega)
 .have hkc:k≠c:=λe=>hn r (by omega) (by rw[me,e]);have hn':∀j,j<r->hd j≠k:=λj hj=>by rw[<-ml j hj];exact hn j (by omega)
  refine hD _ _ h.nz ?_;rw[Ds hpi (by omega)];exact ab9 (D7 _ (h.zero k (by omega) hn' i (by omega) h2)) (D7 _ (h.zero k (by omega) hn' r (aN _) hrn))
def Cp.step{b:Int}{n:Nat}{A0:Nat->Nat->Int}{c:Nat}{A:Nat->Nat->Int}{hd:Nat->Nat}{r:Nat}(h:Cp b n A0 c A hd r)(hD:Dom b):∃A hd r,Cp b n A0 (c+1) A hd r:=by
 by_cases z:∀i,r<=i->i<n->tk b (En A hd r i c)=0
 .refine⟨A,hd,r,h.sw,h.nz,h.rn,λj hj=>by have:=h.hc j hj;omega,h.up,λk hk hn i h1 h2=>?_⟩;by_cases e:k=c
  .rw[e];exact z i h1 h2
  .exact h.zero k (by omega) hn i h1 h2
 .obtain⟨i,hi⟩:=CQ.mp z;obtain⟨h1,hi⟩:=RW.mp hi;obtain⟨h2,hi⟩:=RW.mp hi;by_cases e:i=r
  .rw[e]at hi;exact⟨_,_,_,h.free hD (by omega) hi⟩
  .refine⟨_,_,_,(h.bring (a:=i) (by omega) h2).free hD (by omega) ?_⟩;rw[Ea (aN _) (by omega),if_pos rfl];exact hi
theorem Cp.ex{b:Int}(hD:Dom b)(h1:tk b 1≠0)(n:Nat)(A0:Nat->Nat->Int):∀c,∃A hd r,Cp b n A0 c A hd r
 |0=>⟨A0,λ_=>0,0,.refl,by rw[Nk];exact h1,cJ _,λh hh=>absurd hh (mF _),λ_ _ _ h=>absurd h (mF _),λk hk=>absurd hk (mF _)⟩
 |c+1=>by
  obtain⟨A,hd,r,h⟩:=Cp.ex hD h1 n A0 c;exact h.step hD
def aoU{hd:Nat->Nat}{r m:Nat}(hc:∀h,h<r->hd h<m)(up:∀h h',h<h'->h'<r->hd h<hd h')(MS:∀k,k<m->∃j,j<r/\hd j=k):r=m/\∀k,k<m->hd k=k:=by
 have ge:∀j,j<r->j<=hd j:=λj=>by
  induction j with
  |zero=>intro _;exact cJ _
  |succ j ih=>
   intro hj;have:=ih (by omega);have:=up j (j+1) (by omega) hj;omega
 have all:∀k,k<m->k<r/\hd k=k:=λk=>by
  induction k using Nat.strongRecOn with
  |ind k ih=>
   intro hk;obtain⟨j,hj,e⟩:=MS k hk;have g:=ge j hj;by_cases c:j=k
   .rw[<-c];exact⟨hj,by rw[e,c]⟩
   .have:=(ih j (by omega) (by omega)).2;omega
 refine⟨?_,λk hk=>(all k hk).2⟩;by_cases c:r<=m
 .by_cases c2:r=m
  .exact c2
  .have:=(all r (by omega)).1;omega
 .have:=hc m (by omega);have:=ge m (by omega);omega
def aco{b:Int}{n:Nat}{A0:Nat->Nat->Int}(hD:Dom b)(h1:tk b 1≠0)(hI:sI b n n A0):tk b (det n A0)≠0:=by
 obtain⟨A,hd,r,h⟩:=Cp.ex hD h1 n A0 n;have H:=aoU h.hc h.up λk hk=>by
  by_cases c:∃j,j<r/\hd j=k
  .exact c
  .exfalso
   have hn:∀j,j<r->hd j≠k:=λj hj e=>c ⟨j,hj,e⟩;have R:=NK (A:=A) (hd:=hd) (r:=r) (m:=n) (k:=k) (b:=b) (n:=n) h.hc hk (h.zero k hk hn);have z:=hI _ (h.sw.rel.mpr R) k hk;rw[if_pos rfl,jo (λj hj=>by rw[if_neg (λe=>hn j hj e.symm)]),oA]at z;have:=xG z;rw[BJ]at this;exact h.nz this
 obtain⟨e,H⟩:=H;subst e;rw[<-h.sw.det];have:=h.nz;have q:dt A hd r=det r A:=jr λi k _ hk=>by unfold Bk;rw[H k hk]
 rwa [q]at this
end Dm
namespace Dm
open Pm Rm
def hk(a:Nat->Int):Nat->Nat->Int:=λi j=>a (i+j)
def aak(x a:Nat->Int)(l i:Nat):sm l (λk=>hk a i k*x k)=ks (aH l x) a i:=by
 unfold ks;rw[bG];refine aP λk hk'=>?_;rw[dw,if_pos hk',bY];rfl
def aqi{b:Int}(hD:Dom b)(h1:tk b 1≠0){L:List Int}{a:Nat->Int}(hL:Mon L)(hw:∀k,tk b (co L k)=co L k)(hK:Kp b L a)(hm:∀q,Kp b q a->Dv b L (co q)):tk b (det (L.length-1) (hk a))≠0:=by
 refine aco hD h1 λx hx k hk'=>?_;have e:=G9 hw hL;have ha:∀n,(fR b L).length<=n->tk b (a n)=tk b (S (fR b L) a n (fR b L).length):=Kp.rec (by rw[e];exact hK);have hq:Kp b (aH (L.length-1) x) a:=Tv ha λn hn=>by
  rw[rZ]at hn;rw[<-aak];exact hx n hn
 have z:=(hm _ hq).short hL (by have:=Fs.co (aH (L.length-1) x);rwa [bG]at this) k
 rwa [dw,if_pos hk']at z
def asr{b:Int}(hD:Dom b){l:Nat}{a:Nat->Int}(h:tk b (det l (hk a))≠0){q:List Int}(hq:q.length<=l)(hK:Kp b q a):∀k,tk b (co q k)=0:=λk=>by
 have hI:=arJ hD h (co q) λi hi=>by
  rw[aak];have e:ks (aH l (co q)) a i=ks q a i:=by
   rw[<-vH q a i hq];unfold ks;rw[bG];exact aP λk hk'=>by rw[dw,if_pos hk']
  rw[e];exact hK i
 by_cases c:k<l
 .exact hI k c
 .rw[aY (by omega),tk0]
def Dom.pr{p:Nat}(hp:Om.cA p):Dom (p:Int):=λx y hx h=>by
 have h2:=hp.1;obtain⟨e,he⟩:=rR.mp h;rcases HB hp (x:=x) (y:=y) ⟨e,he⟩with⟨z,hz⟩|⟨z,hz⟩
 .exact absurd (rR.mpr ⟨z,hz⟩) hx
 .exact rR.mpr ⟨z,hz⟩
end Dm
namespace Pm
open Rm Dm
structure wk(P:List Int)(T:Nat->Int)(g:List Int)(N:Int):Prop where
 mon:Mon g
 py:Py 0 g
 ne:N≠0
 one:Dv 0 g (co P)
 two:Dv 0 g T
 all:∀h:List Int,Mon h->Dv 0 h (co P)->Dv 0 h T->Dv 0 h (co g)
 good:∀(p:Nat) (s:List Int),Om.cA p->¬(p:Int)∣N->Mon s->Dv p s (co P)->Dv p s T->s.length<=g.length
theorem Dv.by{b:Int}{m:List Int}{f:Nat->Int}(h:Dv 0 m f):Dv b m f:=by
 obtain⟨s,n,hs,h⟩:=h;exact⟨s,n,hs,λk=>by have:=h k;rw[bh,bh]at this;rw[this]⟩
def Dv.len{b:Int}(h1:tk b 1=1){m p:List Int}(hm:Mon m)(hp:Mon p)(h:Dv b m (co p)):m.length<=p.length:=by
 by_cases c:m.length<=p.length
 .exact c
 .exfalso
  have:=h.short hm ((Fs.co p).mono (by omega)) (p.length-1);rw[hp.one,h1]at this;exact absurd this (by decide)
def yQ{b:Int}(h1:tk b 1=1){P g:List Int}(hP:Mon P)(hg:Mon g)(h:Dv b g (co P)):∃L:List Int,Mon L/\(∀k,tk b (co L k)=co L k)/\L.length+g.length=P.length+1/\∀k,tk b (co P k)=tk b (cv (co L) (co g) k):=by
 have hl:=h.len h1 hg hP;have hp:=hP.pos;have hgp:=hg.pos;obtain⟨s,n,hs,h⟩:=h;have key:∀d j,n<=j+d->P.length-g.length<j->tk b (s j)=0:=λd=>by
  induction d with
  |zero=>intro j hj _;rw[hs j hj,tk0]
  |succ d ih=>
   intro j hj hj2;have e:=h (j+(g.length-1));rw[aY (by omega),tk0,fV]at e;have e2:tk b (sm (j+(g.length-1)+1) λi=>s i*co g (j+(g.length-1)-i))=tk b (sm (j+(g.length-1)+1) λi=>if i=j then s j else 0):=iz λi hi=>by
    by_cases c:i=j
    .rw[if_pos c,c,C7,hg.one,iI]
    .rw[if_neg c,tk0];by_cases d2:i<j
     .rw[aY (by omega),aR,tk0]
     .rw[bY];exact Hv _ (ih i (by omega) (by omega))
   rw[e2,mO,if_pos (by omega)]at e;exact e.symm
 have z:∀k,P.length-g.length<k->tk b (s k)=0:=λk hk=>key n k (by omega) hk;have t1:tk b (s (P.length-g.length))=1:=by
  have e:=h (P.length-1);rw[hP.one,h1,fV]at e;have e2:tk b (sm (P.length-1+1) λi=>s i*co g (P.length-1-i))=tk b (sm (P.length-1+1) λi=>if i=P.length-g.length then s (P.length-g.length)else 0):=iz λi hi=>by
   by_cases c:i=P.length-g.length
   .rw[if_pos c,c,show P.length-1-(P.length-g.length)=g.length-1 by omega,hg.one,iI]
   .rw[if_neg c,tk0];by_cases d2:i<P.length-g.length
    .rw[aY (by omega),aR,tk0]
    .rw[bY];exact Hv _ (z i (by omega))
  rw[e2,mO,if_pos (by omega)]at e;exact e.symm
 have hc:∀k,co (aH (P.length-g.length+1) λk=>tk b (s k)) k=tk b (s k):=λk=>by
  rw[dw];by_cases c:k<P.length-g.length+1
  .rw[if_pos c]
  .rw[if_neg c,z k (by omega)]
 refine⟨aH (P.length-g.length+1) λk=>tk b (s k),⟨by rw[bG];omega,?_⟩,λk=>?_,by rw[bG];omega,λk=>?_⟩
 .rw[bG,dY,hc,t1]
 .rw[hc,gq]
 .rw[h k];exact ig (λi _=>by rw[hc,gq]) λi _=>rfl
def ai5{b:Int}{P:List Int}(hP:Mon P)(k:Nat):tk b (co P k)=tk b (co (aU b (fR b P)) k):=by
 have hp:=hP.pos;rw[aU,mK,bG,rZ];by_cases c:k<P.length-1
 .rw[if_pos c,dw,if_pos c,fR,dw,if_pos (by omega),Yk,gq];rw[show P.length-1-1-(P.length-1-1-k)=k by omega]
 .rw[if_neg c];by_cases d:k=P.length-1
  .rw[d,hP.one,qT];rfl
  .rw[aY (by omega),aY (by simp;omega)]
def keepsP{b:Int}{P:List Int}{a:Nat->Int}(hm:Mon P)(hK:Kp b P a)(q:List Int):Kp b q a↔Dv b P (cv (co q) (tp P a)):=by
 have A:=O6 hm.pos q hK;constructor
 .intro h;have z:Dv b P (tp P (ks q a)):=(Dv.zero b _).congr λk=>by
   have:=acT (b:=b) (P:=P) (a:=ks q a) (a':=λ_=>0) (λn=>by rw[h n,tk0]) k;rw[this];exact(congrArg (tk b) (show tp P (λ_=>0) k=0 from jo λi _=>aR _)).symm
  exact(A.add z).congr λk=>by rw[Int.sub_add_cancel]
 .intro h;have z:Dv b P (tp P (ks q a)):=(h.sub A).congr λk=>by
   rw[show cv (co q) (tp P a) k-(cv (co q) (tp P a) k-tp P (ks q a) k)=tp P (ks q a) k by omega]
  have n0:=V2 hm (z.short hm (zX _ _));have ha:∀n,(fR b P).length<=n->tk b (a n)=tk b (S (fR b P) a n (fR b P).length):=Kp.rec (hK.congr (ai5 hm));exact Tv ha λn hn=>n0 n (by rw[rZ]at hn;exact hn)
def W8{b:Int}{m:List Int}(hm:Mon m){f g:Nat->Int}{n n':Nat}(hf:Fs f n)(hg:Fs g n')(h:∀k,tk b (cv f (co m) k)=tk b (cv g (co m) k)):∀k,tk b (f k)=tk b (g k):=λk=>by
 refine mz.mp (ED (b:=b) hm (f:=λk=>f k-g k) (n:=n+n') (λk hk=>?_) (λk _=>?_) k)
 .show f k-g k=0;rw[hf k (by omega),hg k (by omega)];rfl
 .have e:cv (λk=>f k-g k) (co m) k=cv f (co m) k + -1*cv g (co m) k:=by
   rw[<-nT,<-lZ];exact ql (λi _=>by omega) λi _=>rfl
  rw[e,jE (h k) rfl,show ∀x:Int,x + -1*x=0 fromλx=>by omega,tk0]
def afS{P:List Int}{a:Nat->Int}(hP:Mon P)(hK:Kp 0 P a):∃g L,Mon L/\Py 0 L/\Kp 0 L a/\(∀q,Kp 0 q a->Dv 0 L (co q))/\L.length+g.length=P.length+1/\(∀k,co P k=cv (co L) (co g) k)/\wk P (tp P a) g (det (L.length-1) (hk a)):=by
 obtain⟨L,hL,DK,hKL,hLP,hall,_⟩:=aqk hP hK;obtain⟨g,hg,hgy,hlen,hE⟩:=yQ (b:=0) rfl hP hL (hall P hK);have hE':∀k,co P k=cv (co g) (co L) k:=λk=>by have:=hE k;rwa [bh,bh]at this
 have hgP:Py 0 g:=⟨vq (λz=>by have:=hg.pos;rw[z]at this;exact absurd this (by decide)) (by rw[hg.one];decide),λx _=>bh x⟩;have SQ:=hL.pos;have hgp:=hg.pos;refine⟨g,L,hL,DK,hKL,hall,by omega,λk=>by rw[hE',jz],hg,hgP,?_,⟨co L,L.length,Fs.co L,λk=>by rw[hE',jz]⟩,?_,λh hh h1 h2=>?_,λp s hp hN hs h1 h2=>?_⟩
 .have:=aqi Dom.zero (by decide) hL (λk=>bh _) hKL hall
  rwa [bh]at this
 .obtain⟨s,n,hs,e⟩:=(keepsP hP hK L).mp hKL;refine⟨s,n,hs,W8 hL (zX P a) (hs.cv (Fs.co g)) λk=>?_⟩;rw[jz,e k,gG];exact congrArg (tk 0) (ql (λ_ _=>rfl) λi _=>hE' i)
 .obtain⟨A,hA,hAy,hAl,Ga⟩:=yQ (b:=0) rfl hP hh h1;obtain⟨B,nB,hB,Qk⟩:=h2;have Ol:Kp 0 A a:=(keepsP hP hK A).mpr ⟨B,nB,hB,λk=>by
   have e1:tk 0 (cv (co A) (tp P a) k)=tk 0 (cv (co A) (cv B (co h)) k):=ig (λ_ _=>rfl) λi _=>Qk i;have e2:tk 0 (cv B (co P) k)=tk 0 (cv B (cv (co A) (co h)) k):=ig (λ_ _=>rfl) λi _=>Ga i;rw[e1,e2,<-gG,<-gG];exact congrArg (tk 0) (ql (λi _=>jz ..) λ_ _=>rfl)⟩
  obtain⟨C,nC,hC,hCe⟩:=hall A Ol;refine⟨C,nC,hC,W8 hL (Fs.co g) (hC.cv (Fs.co h)) λk=>?_⟩;rw[<-hE',Ga k,ig (λi _=>hCe i) λ_ _=>rfl,gG,gG];exact congrArg (tk 0) (ql (λ_ _=>rfl) λi _=>jz ..)
 .have hp2:=hp.1;have hp1:tk (p:Int) 1=1:=by rw[jN (by omega)];exact BQ (by decide) (by omega)
  obtain⟨A,hA,hAy,hAl,Ga⟩:=yQ (b:=p) hp1 hP hs h1;obtain⟨B,nB,hB,Qk⟩:=h2;have hKp:Kp p P a:=λn=>by have:=hK n;rw[bh]at this;rw[this,tk0]
  have Ol:Kp p A a:=(keepsP hP hKp A).mpr ⟨B,nB,hB,λk=>by
   have e1:tk p (cv (co A) (tp P a) k)=tk p (cv (co A) (cv B (co s)) k):=ig (λ_ _=>rfl) λi _=>Qk i;have e2:tk p (cv B (co P) k)=tk p (cv B (cv (co A) (co s)) k):=ig (λ_ _=>rfl) λi _=>Ga i;rw[e1,e2,<-gG,<-gG];exact congrArg (tk p) (ql (λi _=>jz ..) λ_ _=>rfl)⟩
  by_cases c:A.length<=L.length-1
  .exfalso
   have z:=asr (Dom.pr hp) (λz=>hN (rR.mp z)) c Ol (A.length-1);rw[hA.one,hp1]at z;exact absurd z (by decide)
  .omega
end Pm
namespace Dm
open Rm Pm
end Dm
namespace Pm
open Rm Dm
def ah4{p:Int}(hp:p≠0){x y:Int}:tk p x=tk p y↔p∣x-y:=by
 rw[<-mz,rR];exact⟨λ⟨e,h⟩=>⟨e,h⟩,λ⟨e,h⟩=>⟨e,h⟩⟩
def KQ{p:Nat}(hp:Om.cA p):tk (p:Int) 1=1:=by
 have:=hp.1;rw[jN (by omega)];exact BQ (by decide) (by omega)
def Dv.same{b:Int}(h1:tk b 1=1){m p:List Int}(hm:Mon m)(hp:Mon p)(h:Dv b m (co p))(hl:m.length=p.length)(k:Nat):tk b (co p k)=tk b (co m k):=by
 obtain⟨L,hL,_,hlen,e⟩:=yQ h1 hp hm h;have hm0:=hm.pos;have h2:L.length=1:=by omega
 have e0:co L 0=1:=by have:=hL.one;rwa [h2]at this
 rw[e k];refine congrArg (tk b) ?_;rw[fV,nH (m:=1) (by omega) λj h3 _=>by rw[aY (p:=L) (by omega),fU]];simp[sm,e0]
structure Seen(g:List Int)(N:Int)(p:Nat)(s:List Int):Prop where
 mon:Mon s
 nu:∀k,tk (p:Int) (co s k)=co s k
 ge:g.length<=s.length
 eq:s.length=g.length->∀k,(p:Int)∣co s k-co g k
 good:¬(p:Int)∣N->s.length=g.length
def dU.to{b:Int}{g p q:List Int}(h:dU b g [] p)(e:∀k,tk b (co p k)=tk b (co q k)):Dv b g (co q):=by
 obtain⟨u,h⟩:=h.dv;exact⟨co u,u.length,Fs.co u,λk=>by rw[<-e,h]⟩
def wk.seen{P t g:List Int}{N:Int}(h:wk P (co t) g N){p:Nat}(hp:Om.cA p){P' t' s:List Int}(eP:∀k,tk (p:Int) (co P' k)=tk p (co P k))(et:∀k,tk (p:Int) (co t' k)=tk p (co t k))(hs:Gcd p P' t' s):Seen g N p s:=by
 have h2:=hp.1;have h1:=KQ hp;have d1:Dv p s (co P):=hs.one.to eP;have d2:Dv p s (co t):=hs.two.to et;have d3:Dv p g (co s):=by
  obtain⟨u,v,e⟩:=hs.sum;refine((((h.one.by (b:=p))).mul (Fs.co u)).add ((h.two.by (b:=p)).mul (Fs.co v))).congr λk=>?_;rw[e];exact jE (ig (λ_ _=>rfl) λi _=>(eP i).symm) (ig (λ_ _=>rfl) λi _=>(et i).symm)
 have hge:=d3.len h1 h.mon hs.mon;exact⟨hs.mon,hs.py.co,hge,λe k=>(ah4 (by omega)).mp (d3.same h1 h.mon hs.mon e.symm k),λz=>by
  have:=h.good p s hp z hs.mon d1 d2;omega⟩
def wk.told{P t g h:List Int}{N:Int}(H:wk P (co t) g N)(hh:Mon h)(h1:Dv 0 h (co P))(h2:Dv 0 h (co t))(hl:g.length<=h.length):h=g:=by
 have d:=H.all h hh h1 h2;have:=d.len rfl hh H.mon;exact qK (by omega) λk=>by have:=d.same rfl hh H.mon (by omega) k;rw[bh,bh]at this;exact this.symm
def nr(M x:Int):Int:=if 2*(x%M)>M then x%M-M else x%M
def Nr(M x:Int):Prop:=-M<2*x/\2*x<=M
def Ej(M x:Int):M∣nr M x-x:=by
 have e:=Int.emod_add_mul_ediv x M;unfold nr;split
 .exact⟨-(x/M)-1,by rw[gY,oF];omega⟩
 .exact⟨-(x/M),by rw[oF];omega⟩
def Mf{M:Int}(hM:0<M)(x:Int):Nr M (nr M x):=by
 have h0:=qC x (show M≠0 by omega);have h1:=rz x hM;unfold nr Nr;split<;>omega
def Nr.eq{M x y:Int}(hM:0<M)(hx:Nr M x)(hy:Nr M y)(h:M∣x-y):x=y:=by
 obtain⟨c,hc⟩:=h;unfold Nr at hx hy;by_cases c0:c=0
 .rw[c0,aR]at hc;omega
 .exfalso
  rcases Int.lt_or_gt_of_ne c0 with l|l
  .have:M*c<=M*(-1):=Rb (by omega) (by omega);omega
  .have:M*1<=M*c:=Rb (by omega) (by omega);omega
def afG{M:Int}(hM:2<=M){x:Int}(h:M∣x-1):nr M x=1:=Nr.eq (M:=M) (by omega) (Mf (by omega) x) (by unfold Nr;omega) (by
 have:=rD (Ej M x) h
 rwa [show nr M x-x+(x-1)=nr M x-1 by omega]at this)
def Px{M:Int}{p:Nat}(hp:Om.cA p)(hM:¬(p:Int)∣M){x:Int}(h1:M∣x)(h2:(p:Int)∣x):M*p∣x:=by
 obtain⟨y,rfl⟩:=h1;rcases HB hp h2 with z|⟨e,he⟩
 .exact absurd z hM
 .exact⟨e,by rw[he,bN]⟩
structure jU(P g:List Int)(N:Int)(told:List Int)(M:Int)(prime:Nat)(ripe:Bool)(bad good:Nat):Prop where
 mon:Mon told
 ge:g.length<=told.length
 le:told.length<=P.length
 pos:0<M
 div:∀q:Nat,Om.cA q->(q:Int)∣M->q<=prime
 Sh:told.length=g.length->∀k,M∣co told k-co g k
 near:M≠1->∀k,Nr M (co told k)
 Ae:∃X:Nat,(X:Int)∣N/\2^(19*bad)<=X/\∀q:Nat,Om.cA q->q∣X->q<=prime
 Ck:0<good->told.length=g.length/\2^(19*good)<=M
 aaO:2<=good->(∀k,2*(co g k).natAbs<2^(19*(good-1)))->ripe=true/\told=g
 hi:M<=2^(21*(bad+good))
 first:M=1->told=P
def jU.start{P g:List Int}{N:Int}(hP:Mon P)(hl:g.length<=P.length)(prime:Nat):jU P g N P 1 prime true 0 0:=
 ⟨hP,hl,aN _,by decide,λq hq h=>by
  have:=hq.1;have h3:=Int.le_of_dvd (by decide) h;omega,λ_ k=>⟨_,(gM _).symm⟩,λh=>absurd rfl h,⟨1,⟨N,(gM N).symm⟩,by decide,λq hq h=>by
  have:=hq.1;have h3:=rC (by decide) h;omega⟩,λh=>absurd h (by decide),λh=>absurd h (by decide),by decide,λ_=>rfl⟩
def Sy{N:Int}{prime p bad:Nat}(hp:Om.cA p)(hlt:prime<p)(hbig:2^19<=p)(hN:(p:Int)∣N)(h:∃X:Nat,(X:Int)∣N/\2^(19*bad)<=X/\∀q:Nat,Om.cA q->q∣X->q<=prime):
  ∃X:Nat,(X:Int)∣N/\2^(19*(bad+1))<=X/\∀q:Nat,Om.cA q->q∣X->q<=p:=by
 obtain⟨X,h1,h2,h3⟩:=h;refine⟨X*p,?_,?_,λq hq hd=>?_⟩
 .have:=Px (M:=(X:Int)) hp (λz=>by have:=h3 p hp (Du.mp z);omega) h1 hN
  rwa [Int.natCast_mul]
 .rw[zN,Nat.pow_add];exact jh h2 hbig
 .rcases hq.dvd hd with z|z
  .have:=h3 q hq z;omega
  .exact rC (by omega) z
def jU.stay{P g told s:List Int}{N M:Int}{prime p bad good:Nat}{ripe:Bool}(h:jU P g N told M prime ripe bad good)(hp:Om.cA p)(hlt:prime<p)(hbig:2^19<=p)(hs:Seen g N p s)(hl:told.length<s.length):jU P g N told M p ripe (bad+1) good:=by
 have hN:(p:Int)∣N:=uJ λz=>by have:=hs.good z;have:=h.ge;omega
 exact⟨h.mon,h.ge,h.le,h.pos,λq hq hd=>by have:=h.div q hq hd;omega,h.Sh,h.near,Sy hp hlt hbig hN h.Ae,h.Ck,h.aaO,Int.le_trans h.hi (by
  have:(2:Nat)^(21*(bad+good))<=2^(21*(bad+1+good)):=uU (by decide) (by omega)
  exact_mod_cast this),h.first⟩
def jU.anew{P g told s:List Int}{N M:Int}{prime p bad good:Nat}{ripe:Bool}(h:jU P g N told M prime ripe bad good)(hp:Om.cA p)(hlt:prime<p)(hbig:2^19<=p)(hhi:p<=2^21)(hs:Seen g N p s)(hl:s.length<told.length):
  ∃qd pY,qd+pY=bad+good+1/\jU P g N (s.map (nr p)) p p true qd pY:=by
 have hp2:=hp.1;have hg0:good=0:=by
  by_cases c:good=0
  .exact c
  .have:=(h.Ck (by omega)).1;have:=hs.ge;omega
 have hle:=h.le;have hsp:=hs.mon.pos;have hpp:(2:Int)<=p:=by omega
 have hc:∀k,co (s.map (nr p)) k=nr p (co s k):=λk=>lV (by unfold nr;rw[LR];split<;>omega) s k;have hm:Mon (s.map (nr p)):=⟨by rw[aG];exact hsp,by rw[aG,hc,hs.mon.one];exact afG hpp ⟨0,by rw[aR];rfl⟩⟩;have zH:(s.map (nr p)).length=g.length->∀k,(p:Int)∣co (s.map (nr p)) k-co g k:=λe k=>by
  rw[hc];have:=rD (Ej p (co s k)) (hs.eq (by rwa [aG]at e) k)
  rwa [show nr p (co s k)-co s k+(co s k-co g k)=nr p (co s k)-co g k by omega]at this
 have hnear:(p:Int)≠1->∀k,Nr p (co (s.map (nr p)) k):=λ_ k=>by rw[hc];exact Mf (by omega) _
 have hdiv:∀q:Nat,Om.cA q->(q:Int)∣p->q<=p:=λq _ hd=>rC (by omega) (Du.mp hd);by_cases c:s.length=g.length
 .refine⟨bad,1,by omega,hm,by rw[aG];exact hs.ge,by rw[aG];omega,by omega,hdiv,zH,hnear,?_,λ_=>⟨by rw[aG];exact c,by exact_mod_cast hbig⟩,λz=>absurd z (by decide),?_,λz=>by omega⟩
  .obtain⟨X,h1,h2,h3⟩:=h.Ae;exact⟨X,h1,h2,λq hq hd=>by have:=h3 q hq hd;omega⟩
  .have:(2:Nat)^21<=2^(21*(bad+1)):=uU (by decide) (by omega)
   exact_mod_cast iT hhi this
 .have hN:(p:Int)∣N:=uJ λz=>c (hs.good z);refine⟨bad+1,0,by omega,hm,by rw[aG];exact hs.ge,by rw[aG];omega,by omega,hdiv,zH,hnear,Sy hp hlt hbig hN h.Ae,λz=>absurd z (by decide),λz=>absurd z (by decide),?_,λz=>by omega⟩;have:(2:Nat)^21<=2^(21*(bad+1+0)):=uU (by decide) (by omega)
  exact_mod_cast iT hhi this
def jU.join{P g told s jy:List Int}{N M:Int}{prime p bad good:Nat}{ripe M4:Bool}(h:jU P g N told M prime ripe bad good)(hp:Om.cA p)(hlt:prime<p)(hbig:2^19<=p)(hhi:p<=2^21)(hs:Seen g N p s)(hl:s.length=told.length)
  (hl':jy.length=told.length) (ht:∀k,k<told.length->∃w:Int,(p:Int)∣M*w-(co s k-co told k)/\co jy k=nr (M*p) (co told k+M*w)) (hr:M4=true↔jy=told):
  ∃qd pY,qd+pY=bad+good+1/\jU P g N jy (M*p) p M4 qd pY:=by
 have hp2:=hp.1;have hM:=h.pos;have wA:¬(p:Int)∣M:=λz=>by have:=h.div p hp z;omega
 have hpp:(2:Int)<=p:=by omega
 have hMp:(2:Int)<=M*p:=by
  have:1*(2:Int)<=M*p:=Tz (by omega) hpp (by decide) (by omega);omega
 have hle:=h.le;have hge:=h.ge;have htp:=h.mon.pos;have a1:∀k,M∣co jy k-co told k:=λk=>by
  by_cases c:k<told.length
  .obtain⟨w,_,e⟩:=ht k c;rw[e];have e1:M∣nr (M*p) (co told k+M*w)-(co told k+M*w):=CP (Cq M p) (Ej _ _);have e2:M∣M*w:=Cq ..;have:=rD e1 e2
   rwa [show nr (M * ↑p) (co told k+M*w)-(co told k+M*w)+M*w=nr (M * ↑p) (co told k+M*w)-co told k by omega]at this
  .rw[aY (by omega),aY (by omega)];exact⟨0,by rw[aR];rfl⟩
 have a2:∀k,(p:Int)∣co jy k-co s k:=λk=>by
  by_cases c:k<told.length
  .obtain⟨w,h1,e⟩:=ht k c;rw[e];have e1:(p:Int)∣nr (M*p) (co told k+M*w)-(co told k+M*w):=CP (Int.dvd_mul_left M p) (Ej _ _);have:=rD e1 h1
   rwa [show nr (M * ↑p) (co told k+M*w)-(co told k+M*w)+(M*w-(co s k-co told k))=nr (M * ↑p) (co told k+M*w)-co s k by omega]at this
  .rw[aY (by omega),aY (by omega)];exact⟨0,by rw[aR];rfl⟩
 have hnear:M*p≠1->∀k,Nr (M*p) (co jy k):=λ_ k=>by
  by_cases c:k<told.length
  .obtain⟨w,_,e⟩:=ht k c;rw[e];exact Mf (by omega) _
  .rw[aY (by omega)];unfold Nr;omega
 have arj:co jy (jy.length-1)=1:=by
  rw[hl'];refine Nr.eq (M:=M*p) (by omega) (hnear (by omega) _) (by unfold Nr;omega) (Px hp wA ?_ ?_)
  .have:=a1 (told.length-1)
   rwa [h.mon.one]at this
  .have:=a2 (told.length-1);have e:=hs.mon.one;rw[hl]at e
   rwa [e]at this
 have hm:Mon jy:=⟨by omega,arj⟩;have hdiv:∀q:Nat,Om.cA q->(q:Int)∣M*p->q<=p:=λq hq hd=>by
  rcases HB hq hd with z|z
  .have:=h.div q hq z;omega
  .exact rC (by omega) (Du.mp z)
 have zH:jy.length=g.length->∀k,M*p∣co jy k-co g k:=λe k=>by
  refine Px hp wA ?_ ?_
  .have:=rD (a1 k) (h.Sh (by omega) k)
   rwa [show co jy k-co told k+(co told k-co g k)=co jy k-co g k by omega]at this
  .have:=rD (a2 k) (hs.eq (by omega) k)
   rwa [show co jy k-co s k+(co s k-co g k)=co jy k-co g k by omega]at this
 have hhi':∀x,x=bad+good+1->M*p<=2^(21*x):=λx hx=>by
  rw[hx,show 21*(bad+good+1)=21*(bad+good)+21 by omega,Jk];exact Tz h.hi (by exact_mod_cast hhi) (by omega) (Int.le_of_lt (Int.pow_pos (by decide)))
 by_cases c:s.length=g.length
 .refine⟨bad,good+1,by omega,hm,by omega,by omega,by omega,hdiv,zH,hnear,?_,λ_=>⟨by omega,?_⟩,λh2 hb=>?_,hhi' _ (by omega),λz=>by omega⟩
  .obtain⟨X,h1,h2,h3⟩:=h.Ae;exact⟨X,h1,h2,λq hq hd=>by have:=h3 q hq hd;omega⟩
  .rw[show 19*(good+1)=19*good+19 by omega,Jk];refine Tz ?_ (by exact_mod_cast hbig) (by decide) (by omega);by_cases c0:good=0
   .rw[c0];show(1:Int)<=M;omega
   .exact(h.Ck (by omega)).2
  .rw[dY]at hb;have hgo:=h.Ck (by omega);have SD:M≠1:=λz=>by
    rw[z]at hgo;have h3:=hgo.2;have:(2:Int)^(19*1)<=2^(19*good):=by exact_mod_cast uU (n:=2) (by decide) (show 19*1<=19*good by omega)
    have:(2:Int)^(19*1)=524288:=by decide
    omega
   have gn:∀k,Nr M (co g k):=λk=>by
    have h3:=hb k;have h4:=hgo.2;have h5:((2*(co g k).natAbs:Nat):Int)<M:=Int.lt_of_lt_of_le (by exact_mod_cast h3) h4;unfold Nr;omega
   have et:told=g:=qK hgo.1 λk=>(h.near SD k).eq hM (gn k) (h.Sh hgo.1 k);have gn':∀k,Nr (M*p) (co g k):=λk=>by
    have h3:=gn k;unfold Nr at h3⊢;have:M*1<=M*p:=Rb (by omega) (by omega);omega
   have et':jy=g:=qK (by omega) λk=>(hnear (by omega) k).eq (by omega) (gn' k) (zH (by omega) k);exact⟨hr.mpr (by rw[et',et]),et'⟩
 .have hN:(p:Int)∣N:=uJ λz=>c (hs.good z);have hg0:good=0:=by
   by_cases c0:good=0
   .exact c0
   .have:=(h.Ck (by omega)).1;omega
  subst hg0;exact⟨bad+1,0,by omega,hm,by omega,by omega,by omega,hdiv,zH,hnear,Sy hp hlt hbig hN h.Ae,λz=>absurd z (by decide),λz=>absurd z (by decide),hhi' _ (by omega),λz=>by omega⟩
def jU.few{P g told:List Int}{N M:Int}{prime bad good U V:Nat}{ripe:Bool}(h:jU P g N told M prime ripe bad good)(hN:N≠0)(hV:Bd V N)(hU:∀k,Bd U (co g k))(hne:¬(ripe=true/\told=g)):19*(bad+good)<=V+U+38:=by
 obtain⟨X,h1,h2,_⟩:=h.Ae;have b1:19*bad<=V:=by
  have h3:=rC (by omega) (Eb.mp h1);have h4:2^(19*bad)<2^V:=n8 (iT h2 h3) hV;have:=(Xi (by decide:1<2)).mp h4;omega
 have b2:19*good<=U+38:=by
  by_cases c:2<=good
  .by_cases d:∀k,2*(co g k).natAbs<2^(19*(good-1))
   .exact absurd (h.aaO c d) hne
   .obtain⟨k,hk⟩:=CQ.mp d;have h3:(co g k).natAbs<2^U:=hU k;have h4:2^(19*(good-1))<2^(U+1):=by rw[zZ];omega
    have:=(Xi (by decide:1<2)).mp h4;omega
  .omega
 omega
end Pm
namespace Om
def K3{n:Nat}(h2:2<=n)(h:∀d,2<=d->d*d<=n->¬d∣n):cA n:=⟨h2,λd hd=>by
 by_cases c1:d=1
 .exact .inl c1
 by_cases c2:d=n
 .exact .inr c2
 exfalso
 obtain⟨e,he⟩:=hd;have d0:d≠0:=λz=>by rw[z,Qu]at he;omega
 have e0:e≠0:=λz=>by rw[z,PD]at he;omega
 have e1:e≠1:=λz=>by rw[z,Bg]at he;omega
 by_cases c:d<=e
 .exact h d (by omega) (by rw[he];exact vf d c) ⟨e,he⟩
 .exact h e (by omega) (by rw[he];exact lW e (by omega)) ⟨d,by rw[he,wI]⟩⟩
def ahF{n d:Nat}(h2:2<=d)(h:d*d<=n)(hd:d∣n):¬cA n:=λhp=>by
 have:d*2<=d*d:=vf d h2;rcases hp.2 d hd with e|e<;>omega
def PR:Nat:=43571519119201362812999826845982751305620981793717429470673603275936152927709399635933610669671466973821241878720715105717436485894379942430461626673440299163796924436746229228614460476842261843714753967609841797025310982960825865753598345091694825344721438391478216968398650913464229700972723456395252658036295111351718208197542229884535562911430701228833268752819967566938433518416018400115565501955319083147587583881953995536441781216694995306260888155507575210
def arR:∀d,d<1100->2<=d->Nat.gcd d PR≠1:=by decide +kernel
def amn{n:Nat}(h2:2<=n)(hn:n<1210000)(h:Nat.gcd n PR=1):cA n:=K3 h2 λd hd hdd hdv=>by
 by_cases c:d<1100
 .refine arR d c hd ?_;have:Nat.gcd d PR∣Nat.gcd n PR:=RZ (DM (zf ..) hdv) (Az ..);rw[h]at this;exact Nat.dvd_one.mp this
 .have:1100*1100<=d*d:=jh (by omega) (by omega);omega
def Ri:Nat->Nat->List Nat
 |0,_=>[]
 |k+1,n=>2*(n%64)::Ri k (n/64)
def steps:List Nat:=3::([0x20750130318504818904528504f0c23d908c0421c30c218714c28518120a0892411830c218610918224954108f,0x4908d14c10620a1460431880ca08114418618f24b0c70870cf2070810c63870831c2244093141189381141252,0x4504205514d0811431d224b0432c61051030861903830423030c42e41051810c21d42853421c528510e0c90c6,0xc24c528804b0d50460870c32040c204f0841851c204818904308f3433024831083420c31050c31c50c90cc348,0x811441532c13c81030830c40892476020c11441940cd1530cf2031c818108114118f2060c72540436842c10c3,0x9892460420c74850c11410da40314714d24320408418e3c45031c50c40d41865432822413861c308a0e00c7189,0x2413063811473051871490451c22490461491c228324e0450c310320d24504c0cb0c12c41850c32830875c310f,0x4c0c51810812c10812c61c21020c604c0860c10c50421c540230d2070872462c32413990c37855442c1207083].flatMap (Ri 60)++Ri 19 0x708a08a0cc1821890c72c10cb114)
def G8:Nat->List Nat->Bool
 |_,[]=>true
 |c,d::r=>match decide (0<d)&&(decide (c+d<1210000)&&Nat.beq (Nat.gcd (c+d) PR) 1)with
  |true=>G8 (c+d) r
  |false=>false
def aia:G8 1000000 steps=true:=by decide +kernel
def ajn:steps.length=500:=by decide +kernel
inductive Many:Nat->Nat->Prop
 |none (c:Nat):Many 0 c
 |more {k c q:Nat}:cA q->c<q->q<1210000->Many k q->Many (k+1) c
theorem V1:∀(l:List Nat) (c:Nat),2<=c->G8 c l=true->Many l.length c
 |[],c,_,_=> .none c
 |d::r,c,h2,h=>by
  rw[G8]at h;split at h
  .rename_i e
   obtain⟨e1,e2⟩:=HZ.mp e;obtain⟨e2,e3⟩:=HZ.mp e2;have h1:=of_decide_eq_true e1;have h3:=of_decide_eq_true e2;exact .more (amn (by omega) h3 (Rg e3)) (by omega) h3 (V1 r (c+d) (by omega) h)
  .exact absurd h (by decide)
def many:Many 500 1000000:=by
 have:=V1 steps 1000000 (by decide) aia
 rwa [ajn]at this
def Many.down{k c c':Nat}(h:Many k c)(hc:c'<=c):Many k c':=by
 cases h with
 |none=>exact .none _
 |more h1 h2 h3 h4=>exact .more h1 (by omega) h3 h4
def Many.next{k c:Nat}(h:Many (k+1) c):∃q,cA q/\c<q/\q<1210000/\∀p,p<=q->Many k p:=by
 cases h with
 |more h1 h2 h3 h4=>exact⟨_,h1,h2,h3,λp hp=>h4.down hp⟩
def cA.Dq{p:Nat}{a:Int}(h:cA p)(h0:0<a)(ha:a<(p:Int)):a^(p-1)%(p:Int)=1:=by
 obtain⟨n,rfl⟩:∃n:Nat,a=(n:Int):=⟨a.toNat,by omega⟩;have:=h.atN (a:=n) (by omega) (by omega);have e:((n^(p-1)%p:Nat):Int)=((1:Nat):Int):=by rw[this]
 rw[Ge,Int.natCast_pow]at e;exact e
end Om
namespace Pm
open Rm
def aoq{P:Nat}(hP:Om.cA P){p:List Int}(hp:Py P p)(hn:p≠[]):u6 P p (rW P p):=by
 have h2:=hP.1;have hpos:0<p.length:=vW.mpr hn;have uY:(P:Int)≠0:=by omega
 have jk:∀n,tk (P:Int) n=n%(P:Int):=λn=>jN uY n;have l0:=pQ hn hp.tr;have l1:=hp.co (p.length-1);rw[jk]at l1;have r0:0<=co p (p.length-1):=by rw[<-l1];exact qC _ uY
 have r1:co p (p.length-1)<(P:Int):=by rw[<-l1];exact rz _ (by omega)
 generalize hl:co p (p.length-1)=a at l0 r0 r1;have hinv:(a^(P-2)*a)%(P:Int)=1:=by
  rw[<-gZ,show(P-2).succ=P-1 by omega];exact hP.Dq (by omega) r1
 have e:∀k,co (rW P p) k=co p k*a^(P-2)%(P:Int):=λk=>by
  rw[rW,lV (by simp),hl]
 have len:(rW P p).length=p.length:=by rw[rW,aG]
 have top:co (rW P p) ((rW P p).length-1)=1:=by
  rw[len,e,hl,bY];exact hinv
 have hm:rW P p≠[]:=λz=>by rw[z]at len;simp at len;omega
 refine⟨⟨vq hm (by rw[top];decide),λx hx=>?_⟩,len,λ_=>⟨by omega,top⟩,⟨a^(P-2),λk=>?_⟩,⟨a,λk=>?_⟩⟩
 .obtain⟨y,_,rfl⟩:=cM.mp hx;rw[jk];exact nR _ (nA _)
 .rw[e,jk,jk,nR _ (nA _),bY]
 .rw[e,jk,jk,mL a,nR _ (nA _),<-mL,gj a,bY a,mL,hinv];rw[iI,nR _ (nA _)]
def aiZ{P:Nat}(hP:Om.cA P){one other:Int}(h0:0<other)(h:other<(P:Int)):(P:Int)∣other*(one*other^(P-2)%(P:Int))-one:=by
 have h2:=hP.1;have hinv:(other^(P-2)*other)%(P:Int)=1:=by
  rw[<-gZ,show(P-2).succ=P-1 by omega];exact hP.Dq h0 h
 have h1:(1:Int)%(P:Int)=1:=BQ (by decide) (by omega);refine Av (Int.emod_eq_emod_iff_emod_sub_eq_zero.mp ?_);rw[mL,nR _ (nA _),<-mL,gj,bY other,mL,hinv,iI,nR _ (nA _)]
def asy{b f:Int}{s t:Nat}{l m:List Int}{u v:Nat}(hb:0<=b)(hb1:b<2097152)(hu:21<=u)(hf:Bd u f)(hl:∀k,Bd u (co l k))(hm:∀x∈m,Bd v x)(k:Nat):Bd (u+v+1) (lf b f s t l m k):=by
 unfold lf;split
 .refine rK hb ((Bd.of (n:=21) (by omega) (by omega)).mono (by omega)) ?_;rw[yK];refine Bd.add ((hl k).mono (by omega)) ?_;have:=hf.mul (jm hm (k-s));unfold Bd at this⊢;rw[CJ];exact this
 .exact(hl k).mono (by omega)
def jw(M t:Int)(p:Nat)(s:Int):Int:=(tk p (s-t))*(tk p M)^(p-2)%(p:Int)
def jn(M t:Int)(p:Nat)(s:Int):Int:=nr (M*p) (t+M*jw M t p s)
def apV{M t s:Int}{p:Nat}(hp:Om.cA p)(hM:¬(p:Int)∣M):(p:Int)∣M*jw M t p s-(s-t):=by
 have h2:=hp.1;have hp0:(p:Int)≠0:=by omega
 have r0:=qC M hp0;have r1:=rz M (show(0:Int)<p by omega);have rn:M%(p:Int)≠0:=λz=>hM (Av z);have h:=aiZ hp (one:=tk p (s-t)) (other:=M%(p:Int)) (by omega) r1;unfold jw;rw[jN hp0 M];generalize tk (p:Int) (s-t)*(M%(p:Int))^(p-2)%(p:Int)=w at h;rw[jN hp0]at h;have e1:(p:Int)∣M*w-M%(p:Int)*w:=by
  rw[<-mj];exact CP (Vd) (Cq ..)
 have e2:(p:Int)∣(s-t)%(p:Int)-(s-t):=by
  have:(p:Int)∣(s-t)-(s-t)%(p:Int):=Vd;have:=Int.dvd_neg.mpr this
  rwa [Int.neg_sub]at this
 have:=rD (rD e1 h) e2
 rwa [show M*w-M%(p:Int)*w+(M%(p:Int)*w-(s-t)%(p:Int))+((s-t)%(p:Int)-(s-t))=M*w-(s-t)by omega]at this
def akj{M t s:Int}{p:Nat}(hp:Om.cA p):0<=jw M t p s/\jw M t p s<p:=by
 have h2:=hp.1;exact⟨qC _ (by omega),rz _ (by omega)⟩
def Div.dv{b:Int}{P M q r:List Int}(h:Div b P M q r)(hM:Mon M):r=[]↔Dv b M (co P):=by
 constructor
 .rintro rfl;exact⟨co q,q.length,Fs.co q,λk=>by rw[<-h.eq k,fL,cU]⟩
 .intro d;have e:Dv b M (co r):=(d.sub (Dv.self (b:=b) (m:=M) (Fs.co q))).congr λk=>by
   have e1:tk b (co P k + -cv (co q) (co M) k)=tk b ((cv (co q) (co M) k+co r k) + -cv (co q) (co M) k):=jE (h.eq k).symm rfl;rw[show co P k-cv (co q) (co M) k=co P k + -cv (co q) (co M) k by omega,e1];exact congrArg (tk b) (by omega)
  have z:=e.short hM ((Fs.co r).mono (by have:=h.short;omega));rw[<-h.ry.tr];exact Gh.mpr λk=>by rw[<-h.ry.co k];exact z k
end Pm
namespace Pm
open Rm Dm
def Aw{n:Nat}{x:Int}(h:Bd n x):Bd n (-x):=by unfold Bd at h ⊢;rw[CJ];exact h
end Pm
namespace Pm
open Rm Dm
def aqr{f:Nat->Int}{n:Nat}(h:Fs f n):∃S:List Int,∀k,co S k=f k:=⟨aH n f,λk=>by
 rw[dw];by_cases c:k<n
 .rw[if_pos c]
 .rw[if_neg c,h k (by omega)]⟩
end Pm
namespace Pm
open Rm
def ev(p:List Int)(x:Int):Int:=sm p.length λk=>co p k*x^k
def nU{p:List Int}{n:Nat}(h:p.length<=n)(x:Int):sm n (λk=>co p k*x^k)=ev p x:=
 nH h λk h1 _=>by rw[aY h1,fU]
def Ei(x:Int):ev [] x=0:=rfl
def DQ(c x:Int):ev [c] x=c:=by
 show 0+co [c] 0*x^0=c;rw[fH,oB,iI,gC]
abbrev lin(r:Int):List Int:=[0-r,1]
def C0(r:Int):Mon (lin r):=⟨by show 0<2;decide,rfl⟩
def Gf(f:Nat->Int)(r:Int):∀k,cv f (co (lin r)) k=(if k=0 then 0 else f (k-1))-r*f k:=λk=>by
 rw[fV];cases k with
 |zero=>
  show 0+f 0*co (lin r) 0=_;rw[if_pos rfl,fH,gC,gY,aR,bY]
 |succ k=>
  rw[if_neg (Nat.succ_ne_zero _),dY];rw[sm,qT,sm,show k+1-k=1 by omega];rw[jo λj hj=>by rw[aY (p:=lin r) (show 2<=k+1-j by omega),aR]];rw[fH,jf,fH,iI,gC,gY,aR,oA,bY (f (k+1))];rfl
def Zb(f:Nat->Int)(x:Int):∀n,sm (n+1) (λk=>(if k=0 then 0 else f (k-1))*x^k)=x*sm n λk=>f k*x^k:=λn=>by
 rw[nW,if_pos rfl,fU,gC,<-dj];refine aP λk _=>?_;rw[if_neg (Nat.succ_ne_zero _),dY,gZ,bY (x^k) x,<-bN,<-bN,bY (f k) x]
theorem Div.ev{p q l:List Int}{r:Int}(h:Div 0 p (lin r) q l)(x:Int):Pm.ev p x=(x-r)*Pm.ev q x+Pm.ev l x:=by
 obtain⟨n,h1,h2,h3⟩:∃n,p.length<=n+1/\q.length<=n/\l.length<=n+1:=⟨p.length+q.length+l.length,by omega,by omega,by omega⟩;rw[<-nU h1 x,<-nU h2 x,<-nU h3 x];have e:∀k,co p k=(if k=0 then 0 else co q (k-1))-r*co q k+co l k:=λk=>by
  have:=h.eq k;rw[bh,bh,Gf]at this;exact this.symm
 rw[aP (g:=λk=>(if k=0 then 0 else co q (k-1))*x^k+(-r*(co q k*x^k)+co l k*x^k)) λk _=>?_,iy,iy,Zb,dj]
 .have e2:sm (n+1) (λk=>co q k*x^k)=sm n λk=>co q k*x^k:=by
   rw[sm,aY h2,fU,cU]
  rw[e2,mj,iY];omega
 .rw[e k,rE,mj,iY,bN];omega
def Div.root{p q l:List Int}{r:Int}(h:Div 0 p (lin r) q l):l=[]↔Pm.ev p r=0:=by
 have e:=h.ev r;rw[Jm,fU,gC]at e;have hs:l.length<2:=h.short
 match l,hs,h.ry with
 |[],_,_=>exact⟨λ_=>by rw[e,Ei],λ_=>rfl⟩
 |[c],_,hr=>
  rw[DQ]at e;constructor
  .intro z;cases z
  .intro z;rw[e]at z
   exfalso
   have:=hr.tr;rw[z]at this;simp[trim]at this
def aqF{p:List Int}{r:Int}{j:Nat}(hj:∀k,k<j->co p k=0)(h:ev p r=0)(hr:r≠0):r∣co p j:=by
 by_cases c:j<p.length
 .obtain⟨d,hd⟩:∃d,p.length=j+1+d:=⟨p.length-(j+1),by omega⟩;have split:∀d,sm (j+1+d) (λk=>co p k*r^k)=r^j*(co p j+r*sm d λi=>co p (j+1+i)*r^i):=λd=>by
   induction d with
   |zero=>
    have z:sm j (λk=>co p k*r^k)=0:=jo λk hk=>by rw[hj k hk,fU]
    show sm j (λk=>co p k*r^k)+co p j*r^j=r^j*(co p j+r*0);rw[z,gC,aR,cU,bY]
   |succ d ih=>
    show sm (j+1+d) _+co p (j+1+d)*r^(j+1+d)=_;rw[ih,sm,show j+1+d=j+(1+d)by omega,Jk,Jk,Int.pow_one];simp only[iW,bN,bY,gj,Gi]
  unfold ev at h;rw[hd,split d]at h;rcases kI.mp h with z|z
  .exact absurd z (Int.pow_ne_zero hr)
  .exact⟨-(sm d λi=>co p (j+1+i)*r^i),by rw[oF];omega⟩
 .rw[aY (by omega)];exact Int.dvd_zero r
inductive Rep(r:Int):Nat->List Int->List Int->Prop
 |zero (q:List Int):Rep r 0 q q
 |succ {m:Nat} {p p' q:List Int}:Div 0 p (lin r) p' []->Rep r m p' q->Rep r (m+1) p q
theorem Rep.ev{r:Int}{m:Nat}{p q:List Int}(h:Rep r m p q)(x:Int):Pm.ev p x=(x-r)^m*Pm.ev q x:=by
 induction h with
 |zero q=>rw[oB,gM]
 |succ d _ ih=>
  rw[d.ev x,ih,Ei,cU,gZ,bY ((x-r)^_) (x-r),bN]
def cN(r:Int):Nat->List Int->List Int
 |0,q=>q
 |m+1,q=>mul 0 (cN r m q) (lin r)
def RP:List (Int×Nat)->List Int->List Int
 |[],R=>R
 |(r,m)::t,R=>cN r m (RP t R)
def aah{r:Int}{q:List Int}(h:Py 0 q):∀m,Py 0 (cN r m q)
 |0=>h
 |_+1=>pA ..
theorem acF{R:List Int}(h:Py 0 R):∀l,Py 0 (RP l R)
 |[]=>h
 |(_,m)::t=>aah (acF h t) m
theorem Div.lin{q:List Int}(r:Int)(hq:Py 0 q):Div 0 (mul 0 q (Pm.lin r)) (Pm.lin r) q []:=
 ⟨hq,Py.nil 0,by show 0<2;decide,λk=>by rw[fL,cU,jX,bh,bh]⟩
theorem UG{r:Int}{q:List Int}(h:Py 0 q):∀m,Rep r m (cN r m q) q
 |0=> .zero q
 |m+1=> .succ (Div.lin r (aah h m)) (UG h m)
inductive Scan:List Int->List Int->List (Int×Nat)->List Int->Prop
 |nil (p:List Int):Scan [] p [] p
 |hit {c:Int} {cs p q:List Int} {m:Nat} {l:List (Int×Nat)} {R:List Int}:Rep c (m+1) p q->ev q c≠0->Scan cs q l R->Scan (c::cs) p ((c,m+1)::l) R
 |miss {c:Int} {cs p:List Int} {l:List (Int×Nat)} {R:List Int}:ev p c≠0->Scan cs p l R->Scan (c::cs) p l R
theorem Rep.back{r:Int}{m:Nat}{p q:List Int}(h:Rep r m p q)(hp:Py 0 p):p=cN r m q/\Py 0 q:=by
 induction h with
 |zero q=>exact⟨rfl,hp⟩
 |@succ m p p' q d _ ih=>
  obtain⟨e1,e2⟩:=ih d.qy;refine⟨?_,e2⟩;have b:=d.back hp;rw[add_comm,nil_add (pA ..)]at b;rw[<-b,e1];rfl
theorem HY{R:List Int}(h:Py 0 R){x:Int}(e:ev R x=0):∀l,ev (RP l R) x=0
 |[]=>e
 |(r,m)::t=>by
  have q:=(UG (r:=r) (acF h t) m).ev x;rw[HY h e t,aR]at q;exact q
theorem Scan.back{cs p:List Int}{l:List (Int×Nat)}{R:List Int}(h:Scan cs p l R):Py 0 p->p=RP l R/\Py 0 R/\(∀c∈cs,ev R c≠0)/\(l.map (·.1)).Sublist cs/\∀x∈l,0<x.2:=by
 induction h with
 |nil p=>intro hp;exact⟨rfl,hp,(λc hc=>(by cases hc)),List.Sublist.slnil,(λx hx=>(by cases hx))⟩
 |@hit c cs p q m l R hr hq _ ih=>
  intro hp;obtain⟨e1,e2⟩:=hr.back hp;obtain⟨i1,i2,i3,i4,i5⟩:=ih e2;refine⟨by rw[e1,i1];rfl,i2,λd hd=>?_,i4.cons_cons c,λx hx=>?_⟩
  .rcases cj.mp hd with rfl|hd
   .intro z;exact hq (by rw[i1];exact HY i2 z l)
   .exact i3 d hd
  .rcases cj.mp hx with rfl|hx
   .exact Nat.succ_pos _
   .exact i5 x hx
 |@miss c cs p l R hn _ ih=>
  intro hp;obtain⟨i1,i2,i3,i4,i5⟩:=ih hp;refine⟨i1,i2,λd hd=>?_,i4.cons c,i5⟩;rcases cj.mp hd with rfl|hd
  .intro z;exact hn (by rw[i1];exact HY i2 z l)
  .exact i3 d hd
end Pm
namespace Pm
open Rm
def NT(a:Int)(p:List Int)(x:Int):ev (a::p) x=a+x*ev p x:=by
 rw[<-nU (p:=a::p) (n:=p.length+1) (aN _) x,nW,fH,oB,iI,<-nU (p:=p) (aN _) x,<-dj];congr 1;refine aP λk _=>?_;rw[jf,gZ,bY (x^k) x,<-bN,<-bN,bY (co p k) x]
theorem KJ(x:Int)(g:List Int):∀(L P:List Int),(∀k,co P k=cv (co L) (co g) k)->ev P x=ev L x*ev g x
 |[],P,h=>by
  rw[Ei,fU];unfold ev;exact jo λk _=>by rw[h,jY (λi _=> .inl (fL i)),fU]
 |a::L,P,h=>by
  obtain⟨Q,hQ⟩:∃Q:List Int,∀k,co Q k=cv (co L) (co g) k:=aqr ((Fs.co L).cv (Fs.co g));have ih:=KJ x g L Q hQ;obtain⟨n,h1,h2,h3⟩:∃n,P.length<=n+1/\Q.length<=n/\g.length<=n+1:=⟨P.length+Q.length+g.length,by omega,by omega,by omega⟩;have e:∀k,co P k=a*co g k+(if k=0 then 0 else co Q (k-1)):=λk=>by
   rw[h,aac];split
   .rfl
   .rw[hQ]
  rw[NT,<-nU h1 x,aP (g:=λk=>a*(co g k*x^k)+(if k=0 then 0 else co Q (k-1))*x^k) λk _=>by rw[e k,rE,bN],iy,dj,Zb,nU h3,nU h2,ih,rE,bN]
def aa3(p:List Int)(r:Int):∃q l,Div 0 p (lin r) q l/\(∀k,co p k=(if k=0 then 0 else co q (k-1))-r*co q k+co l k)/\q.length<=p.length-1:=by
 obtain⟨q,l,h⟩:=Sx (b:=0) (C0 r) (p:=p) λk=>bh _;have e:∀k,co p k=(if k=0 then 0 else co q (k-1))-r*co q k+co l k:=λk=>by
  have:=h.eq k;rw[bh,bh,Gf]at this;exact this.symm
 have hs:l.length<2:=h.short;refine⟨q,l,h,e,?_⟩;by_cases hq:q=[]
 .rw[hq];exact cJ _
 .have h0:=pQ hq h.qy.tr;have hp:0<q.length:=vW.mpr hq;have h1:=e q.length;rw[if_neg (by omega),aY (p:=q) (aN _),aR,aY (p:=l) (by omega),wD,cU]at h1;have:=Ul (p:=p) (k:=q.length) (by rw[h1];exact h0);omega
theorem abC:∀(m:Nat) (L:List Int),Mon L->L.length=m+1->∀xs:List Int,xs.Nodup->(∀x∈xs,ev L x=0)->xs.length<=m
 |_,_,_,_,[],_,_=>cJ _
 |0,L,hL,hl,r::ys,_,hr=>by
  exfalso
  have e:L=[1]:=qK (q:=[1]) hl λk=>by
   cases k with
   |zero=>have:=hL.one;rw[hl]at this;exact this
   |succ k=>rw[aY (by omega),aY (by show 1<=k+1;omega)]
  have:=hr r (cQ ..);rw[e,DQ]at this;exact absurd this (by decide)
 |m+1,L,hL,hl,r::ys,hn,hr=>by
  obtain⟨q,l,h,e,lq⟩:=aa3 L r;have h0:=hr r (cQ ..);have l0:=h.root.mpr h0;subst l0;have hm:co q m=1:=by
   have h1:=e (m+1);rw[if_neg (by omega),dY,aY (p:=q) (show q.length<=m+1 by omega),aR,fL,wD,cU]at h1;have h2:=hL.one;rw[hl,dY,h1]at h2;exact h2
  have Va:q.length=m+1:=by
   have:=Ul (p:=q) (k:=m) (by rw[hm];decide);omega
  obtain⟨hn1,hn2⟩:=qx.mp hn;have:=abC m q ⟨by omega,by rw[Va,dY];exact hm⟩ Va ys hn2 λy hy=>by
   have h1:=h.ev y;rw[hr y (dg _ hy),Ei,cU]at h1;rcases kI.mp h1.symm with z|z
   .exact absurd (show y=r by omega) (λz=>hn1 (z▸hy))
   .exact z
  rw[gP];omega
def Wg{M:Nat}{x y:Int}(hx:x≠0)(h:Bd M (x*y)):Bd M y:=by
 unfold Bd at h⊢;rw[mU]at h;have h1:1<=x.natAbs:=by omega
 have:1*y.natAbs<=x.natAbs*y.natAbs:=lW _ h1;omega
theorem adU{e:Nat}:∀(d:Nat) (g:List Int) (M:Nat),g.length<=d->∀xs:List Int,xs.Nodup->d<=xs.length->(∀x∈xs,Bd e x)->(∀x∈xs,Bd M (ev g x))->∀k,Bd (M+d*(e+3)) (co g k)
 |0,g,_,hl,_,_,_,_,_,k=>by rw[aY (by omega)];exact Bd.zero _
 |d+1,_,_,_,[],_,hd,_,_,_=>absurd hd (by show ¬d+1<=0;omega)
 |d+1,g,M,hl,r::ys,hn,hd,hx,hv,k=>by
  obtain⟨q,l,h,eq,lq⟩:=aa3 g r;obtain⟨hn1,hn2⟩:=qx.mp hn;have hl2:l.length<2:=h.short;have er:ev l r=ev g r:=by rw[h.ev r,Jm,fU,gC]
  have el:∀x,ev l x=co l 0:=λx=>by
   match l,hl2 with
   |[],_=>rw[Ei,fL]
   |[c],_=>rw[DQ,fH]
  have c0:co l 0=ev g r:=by rw[<-el r,er]
  have hr:=hv r (cQ ..);have ih:=adU (e:=e) d q (M+1) (by omega) ys hn2 (by rw[gP]at hd;omega) (λx h=>hx x (dg _ h)) λy hy=>by
   refine Wg (x:=y-r) (λz=>hn1 ((show y=r by omega)▸hy)) ?_;have h1:=h.ev y;rw[el y,c0]at h1;rw[show(y-r)*ev q y=ev g y + -(ev g r)by omega];exact(hv y (dg _ hy)).add (Aw hr)
  have b1:Bd (e+(M+1+d*(e+3))) (if k=0 then 0 else co q (k-1)):=by
   split
   .exact Bd.zero _
   .exact(ih _).mono (by omega)
  have b2:=Aw ((hx r (cQ ..)).mul (ih k));have b3:Bd (e+(M+1+d*(e+3))+1) (co l k):=by
   cases k with
   |zero=>rw[c0];exact hr.mono (by omega)
   |succ k=>rw[aY (by omega)];exact Bd.zero _
  have b4:=(b1.add b2).add b3;have e1:(d+1)*(e+3)=d*(e+3)+(e+3):=pW ..;rw[eq k,yK];exact b4.mono (by omega)
def af8{P:List Int}{x:Int}{u e:Nat}(hu:∀k,Bd u (co P k))(hx:Bd e x):Bd (u+P.length*(e+1)+P.length) (ev P x):=by
 have hp:∀k,Bd (k*e+1) (x^k):=λk=>by
  induction k with
  |zero=>rw[oB];exact(Bd.of (n:=1) (by decide) (by decide)).mono (by omega)
  |succ k ih=>
   have e1:(k+1)*e=k*e+e:=pW ..;rw[gZ];exact(ih.mul hx).mono (by omega)
 unfold ev;refine(Br (c:=u+P.length*(e+1)) P.length λk hk=>((hu k).mul (hp k)).mono ?_).mono (by omega);have h1:(k+1)*(e+1)<=P.length*(e+1):=lW _ (by omega);have h2:(k+1)*(e+1)=k*(e+1)+(e+1):=pW ..;have h3:k*(e+1)=k*e+k:=Nat.mul_succ ..;omega
theorem Vu(p:Int->Bool):∀xs:List Int,xs.length=(xs.filter p).length+(xs.filter λx=>!p x).length
 |[]=>rfl
 |x::xs=>by
  have:=Vu p xs;cases h:p x
  .rw[acE (by rw[h];decide),acw (by rw[h];rfl),gP,gP];omega
  .rw[acw h,acE (by rw[h];decide),gP,gP];omega
def ak4{P L g:List Int}(hL:Mon L)(he:∀k,co P k=cv (co L) (co g) k)(hl:L.length+g.length=P.length+1){u e:Nat}(hu:∀k,Bd u (co P k))(h2:P.length<=2^e)(k:Nat):Bd (u+P.length*(e+1)+P.length+g.length*(e+3)) (co g k):=by
 obtain⟨xs,hxs⟩:∃xs:List Int,xs=(List.range P.length).map Int.ofNat:=⟨_,rfl⟩;have nd:xs.Nodup:=by
  rw[hxs];refine List.Pairwise.map _ (λa b h=>?_) (List.nodup_range (n:=P.length));exactλz=>h (Int.ofNat.inj z)
 have ln:xs.length=P.length:=by rw[hxs];simp
 have bx:∀x∈xs,Bd e x:=λx hx=>by
  rw[hxs]at hx;obtain⟨i,hi,rfl⟩:=cM.mp hx;have:=kW.mp hi;show(Int.ofNat i).natAbs<2^e;show i<2^e;omega
 have h0:(xs.filter λx=>decide (ev L x=0)).length<=L.length-1:=by
  have:=hL.pos;exact abC (L.length-1) L hL (by omega) _ (nd.filter _) λx hx=>of_decide_eq_true (rJ.mp hx).2
 have hc:xs.length=(xs.filter λx=>decide (ev L x=0)).length+(xs.filter λx=>!decide (ev L x=0)).length:=Vu _ xs;have hp:=hL.pos;refine adU g.length g _ (aN _) (xs.filter λx=>!decide (ev L x=0)) (nd.filter _) (by omega) (λx hx=>bx x (rJ.mp hx).1) (λx hx=>?_) k;have hne:ev L x≠0:=λz=>by
  have:=(rJ.mp hx).2;rw[decide_eq_true z]at this;exact absurd this (by decide)
 refine Wg hne ?_;rw[<-KJ x g L P he];exact af8 hu (bx x (rJ.mp hx).1)
def ae6{P:List Int}{a:Nat->Int}(hP:Mon P)(hK:Kp 0 P a){d u ua e U:Nat}(hS:∃Q0,Mon Q0/\Kp 0 Q0 a/\Q0.length<=d+1)(ha:∀n,n<=2*d->Bd ua (a n))(hu:∀k,Bd u (co P k))(h2:P.length<=2^e)(hU:u+P.length*(e+1)+P.length+P.length*(e+3)<=U):
  ∃g L N,Mon L/\Py 0 L/\Kp 0 L a/\(∀q,Kp 0 q a->Dv 0 L (co q))/\L.length+g.length=P.length+1/\(∀k,co P k=cv (co L) (co g) k)/\wk P (tp P a) g N/\Bd (d*(ua+d)+1) N/\∀k,Bd U (co g k):=by
 obtain⟨g,L,hL,DK,hKL,hall,hlen,hE,G⟩:=afS hP hK;obtain⟨Q0,hQ,hKQ,hQl⟩:=hS;have SQ:=hL.pos;have hl:L.length<=d+1:=iT ((hall Q0 hKQ).len rfl hL hQ) hQl;have hm:(L.length-1)*(ua+(L.length-1))+1<=d*(ua+d)+1:=by
  have:=jh (show L.length-1<=d by omega) (show ua+(L.length-1)<=ua+d by omega);omega
 refine⟨g,L,_,hL,DK,hKL,hall,hlen,hE,G,?_,λk=>?_⟩
 .exact(Dm.zq (u:=ua) λi j hi hj=>ha _ (by omega)).mono hm
 .refine(ak4 hL hE hlen hu h2 k).mono (iT ?_ hU);have:=lW (e+3) (show g.length<=P.length by omega);omega
end Pm
namespace Lm
def eU(g:Nat):List Int->Nat
 |[]=>g
 |t::ts=>eU (Nat.gcd g t.natAbs) ts
def MF(g:Nat)(ts:List Int)(t:Int):eU g (ts++[t])=Nat.gcd (eU g ts) t.natAbs:=by
 induction ts generalizing g with
 |nil=>rfl
 |cons s ts ih=>exact ih _
def PF(g:Nat)(ts:List Int):eU g ts∣g:=by
 induction ts generalizing g with
 |nil=>exact Nat.dvd_refl _
 |cons s ts ih=>exact DM (ih _) (zf ..)
def agm(g:Nat)(ts:List Int):∀t∈ts,(eU g ts:Int)∣t:=by
 induction ts generalizing g with
 |nil=>intro t h;cases h
 |cons s ts ih=>
  intro t h;rcases cj.mp h with rfl|h
  .exact sG.mpr (DM (PF _ ts) (Az ..))
  .exact ih _ t h
def Uv{g:Nat}(h:0<g)(ts:List Int):0<eU g ts:=Nat.pos_of_dvd_of_pos (PF g ts) h
def abN(c g:Nat)(ts:List Int):eU (c*g) (ts.map λt=>(c:Int)*t)=c*eU g ts:=by
 induction ts generalizing g with
 |nil=>rfl
 |cons s ts ih=>
  show eU (Nat.gcd (c*g) ((c:Int)*s).natAbs) _=_;rw[mU,tX,Nat.gcd_mul_left];exact ih _
def akH{ts ts':List Int}(g:Nat)(h:ts.map Int.natAbs=ts'.map Int.natAbs):eU g ts=eU g ts':=by
 induction ts generalizing g ts' with
 |nil=>cases ts' with
  |nil=>rfl
  |cons s r=>cases h
 |cons s ts ih=>cases ts' with
  |nil=>cases h
  |cons s' r=>
   rw[dz,dz]at h;injection h with h1 h2;show eU (Nat.gcd g s.natAbs) ts=eU (Nat.gcd g s'.natAbs) r;rw[h1];exact ih _ h2
def low(a:Int)(ts:List Int):Int:=if a<0 then 0-(eU a.natAbs ts:Int)else(eU a.natAbs ts:Int)
def low_ne{a:Int}(h:a≠0)(ts:List Int):low a ts≠0:=by
 have:=Uv (g:=a.natAbs) (by omega) ts;unfold low;split<;>omega
def Vk(a:Int)(ts:List Int):low a ts∣a:=by
 have h:(eU a.natAbs ts:Int)∣a:=sG.mpr (PF _ ts);unfold low;split
 .rw[oA];exact Int.neg_dvd.mpr h
 .exact h
def agx(a:Int)(ts:List Int):∀t∈ts,low a ts∣t:=λt ht=>by
 have h:=agm a.natAbs ts t ht;unfold low;split
 .rw[oA];exact Int.neg_dvd.mpr h
 .exact h
def aiT(a:Int)(h:a≠0)(ts:List Int):∃e,0<e/\a=low a ts*e:=by
 obtain⟨e,he⟩:=Vk a ts;refine⟨e,?_,he⟩;have g:=Uv (g:=a.natAbs) (by omega) ts;by_cases c:a<0
 .have el:low a ts=0-(eU a.natAbs ts:Int):=if_pos c;rw[el]at he;by_cases p:0<e
  .exact p
  .exfalso
   have:0<=(0-(eU a.natAbs ts:Int))*e:=Int.mul_nonneg_of_nonpos_of_nonpos (by omega) (by omega);omega
 .have el:low a ts=(eU a.natAbs ts:Int):=if_neg c;rw[el]at he;by_cases p:0<e
  .exact p
  .exfalso
   have:(eU a.natAbs ts:Int)*e<=0:=Int.mul_nonpos_of_nonneg_of_nonpos (by omega) (by omega);omega
end Lm
namespace Lm
def agB(x y q:Int):Nat.gcd y.natAbs (x+y*q).natAbs=Nat.gcd x.natAbs y.natAbs:=by
 refine Nat.dvd_antisymm (RZ ?_ (zf ..)) (RZ (Az ..) ?_)
 .have h1:((Nat.gcd y.natAbs (x+y*q).natAbs:Nat):Int)∣y:=sG.mpr (zf ..);have h2:((Nat.gcd y.natAbs (x+y*q).natAbs:Nat):Int)∣x+y*q:=sG.mpr (Az ..);have h3:=Int.dvd_sub h2 (ac6 (c:=q) h1);rw[Int.add_sub_cancel]at h3;exact sG.mp h3
 .have h1:((Nat.gcd x.natAbs y.natAbs:Nat):Int)∣x:=sG.mpr (zf ..);have h2:((Nat.gcd x.natAbs y.natAbs:Nat):Int)∣y:=sG.mpr (Az ..);exact sG.mp (rD h1 (ac6 (c:=q) h2))
def aqw(x y:Int):Nat.gcd y.natAbs (x.fmod y).natAbs=Nat.gcd x.natAbs y.natAbs:=by
 rw[Int.fmod_def,yK,<-oF];exact agB x y _
def apR{x y:Int}(h:y≠0):(x.fmod y).natAbs<y.natAbs:=by
 rw[Int.fmod_eq_emod];have h0:=qC x h;have h1:=Int.emod_lt x h;split
 .omega
 .rename_i c
  have:x%y≠0:=λz=>c (.inr (Av z));omega
end Lm
namespace Dm
open Rm Pm
def Rel.cut{b:Int}{n m:Nat}{A:Nat->Nat->Int}{x y:Nat->Int}{d:Int}(hD:Dom b)(hd:tk b d≠0)(e:∀k,k<m->tk b (y k*d)=tk b (x k))(h:Rel b n m A x):Rel b n m A y:=λi hi=>by
 refine hD d _ hd ?_;rw[<-dj];have q:tk b (sm m λk=>A i k*x k)=0:=h i hi;rw[<-q];refine iz λk hk=>?_;rw[show d*(A i k*y k)=A i k*(y k*d)by rw[gj,bY d],<-dF,e k hk,dF]
end Dm
namespace Dm
open Rm Pm
def Gm:∀P∈Om.ni,2<=P:=by decide +kernel
abbrev By(b:Int):Prop:=b=0∨∃P:Nat,P∈Om.ni/\b=(P:Int)
def By.dom{b:Int}(h:By b):Dom b:=by
 rcases h with rfl|⟨P,hP,rfl⟩
 .exact Dom.zero
 .exact Dom.prime hP (Gm P hP)
structure Low(b bt:Int)(ts:List Int)(bot:Int)(us:List Int):Prop where
 pr:∀P:Nat,b=(P:Int)->P∈Om.ni->bot=1/\us=ts.map λt=>t*bt^(P-2)%(P:Int)
 ze:b=0->bot=bt.fdiv (Lm.low bt ts)/\us=ts.map λt=>t.fdiv (Lm.low bt ts)
 len:us.length=ts.length
def anm{P:Nat}(hP:P∈Om.ni){a:Int}(h0:a≠0)(ht:tk (P:Int) a=a):tk (P:Int) (a^(P-2)*a)=1:=by
 have h2:=Gm P hP;have jk:∀n,tk (P:Int) n=n%(P:Int):=λn=>jN (by omega) n;have h1:=qC a (show(P:Int)≠0 by omega);have h3:=rz a (show(0:Int)<(P:Int)by omega);rw[jk]at ht⊢;rw[<-gZ,show(P-2).succ=P-1 by omega];exact Om.Dq rfl hP (by omega) (by omega)
def ahO(a:Int)(ts:List Int):(Lm.low a ts).natAbs=Lm.eU a.natAbs ts:=by
 unfold Lm.low;split<;>omega
def Low.told{b bt:Int}{ts:List Int}{bot:Int}{us:List Int}(hB:By b)(h0:bt≠0)(ht:tk b bt=bt)(h:Low b bt ts bot us):
  ∃d,tk b d≠0/\(∀k,tk b (co us k*d)=tk b (co ts k))/\tk b (bot*d)=tk b bt/\(∀x∈us,tk b x=x)/\1<=bot/\(b≠0->bot=1)/\(b=0->Lm.eU bot.natAbs us=1):=by
 rcases hB with rfl|⟨P,hP,rfl⟩
 .obtain⟨e1,e2⟩:=h.ze rfl;have n0:=Lm.low_ne h0 ts;obtain⟨e,he,hf⟩:=Lm.aiT bt h0 ts;have eb:bot=e:=by
   rw[e1]
   conv=>lhs;arg 1;rw[hf]
   exact Qn _ n0
  have eu:∀k,co us k*Lm.low bt ts=co ts k:=λk=>by
   rw[e2,lV (f:=λt=>t.fdiv (Lm.low bt ts)) (by simp)];by_cases c:k<ts.length
   .obtain⟨x,hx⟩:=Lm.agx bt ts (co ts k) (by rw[iV c];exact DW c);rw[hx,Qn _ n0,bY]
   .rw[aY (by omega)];simp
  refine⟨Lm.low bt ts,by rw[bh];exact n0,λk=>by rw[bh,bh,eu k],by rw[bh,bh,eb,bY,<-hf],λx _=>bh x,by omega,λz=>absurd rfl z,λ_=>?_⟩;have g1:=ahO bt ts;have m1:=Lm.abN (Lm.low bt ts).natAbs bot.natAbs us;have e3:(Lm.low bt ts).natAbs*bot.natAbs=bt.natAbs:=by rw[eb,<-mU,<-hf]
  have e4:Lm.eU bt.natAbs (us.map λt=>((Lm.low bt ts).natAbs:Int)*t)=Lm.eU bt.natAbs ts:=by
   refine Lm.akH _ ?_;refine Nz (by simp[h.len]) λk h1 h2=>?_;simp only[aG]at h1 h2;have q:=congrArg Int.natAbs (eu k);rw[iV h1,iV h2,mU]at q;simp[mU];rw[wI];exact q
  rw[e3,e4,<-g1]at m1;have:0<(Lm.low bt ts).natAbs:=by omega
  exact(Nat.eq_of_mul_eq_mul_left this (by rw[Bg];exact m1)).symm
 .obtain⟨e1,e2⟩:=h.pr P rfl hP;have h2:=Gm P hP;have jk:∀n,tk (P:Int) n=n%(P:Int):=λn=>jN (by omega) n;have inv:=anm hP h0 ht;refine⟨bt,by rw[ht];exact h0,λk=>?_,by rw[e1,gM],λx hx=>?_,by omega,λ_=>e1,λz=>by omega⟩
  .rw[e2,lV (f:=λt=>t*bt^(P-2)%(P:Int)) (by rw[fU];exact LR _),<-jk,jA,bN,<-dF,inv,iI]
  .rw[e2]at hx;obtain⟨t,_,rfl⟩:=cM.mp hx;rw[<-jk,gq]
section
variable {b:Int} {n W u m:Nat} {A0 A A':Nat->Nat->Int} {hd hd':Nat->Nat} {r r':Nat} {L L':List (List Int)} {last auT:Int}
def gO.congr{x y:Nat->Int}{bt WR:Int}(e:∀k,k<m->tk b (x k)=tk b (y k))(eb:tk b bt=tk b WR)(h:gO b n m A0 x bt):gO b n m A0 y WR:=λi hi=>by
 have q:=h i hi;rw[<-jA,<-eb,jA,<-q];exact iz λk hk=>by rw[<-dF,<-e k hk,dF]
def dJ.al5(h:dJ b n W u A0 m A hd r L last)(hz:∀i,r<=i->i<n->tk b (En A hd r i m)=0):gO b n m A0 (co (pJ (λh=>tk b (En A hd r h m)) hd m r)) last:=by
 have R:=NK (A:=A) (hd:=hd) (r:=r) (m:=m+1) (k:=m) (b:=b) (n:=n) (λj hj=>by have:=h.hc j hj;omega) (C6 _) hz;have S:gO b n m A0 (λj=>sm r λh=>if j=hd h then En A hd r h m else 0) (dt A hd r):=by
  refine gO.rel.mpr (h.sw.rel.mpr ?_);intro i hi;refine Eq.trans ?_ (R i hi);refine congrArg (Rm.tk b) (aP λk hk=>?_);congr 1;dsimp only;by_cases c:k=m
  .rw[if_pos c,if_pos c,jo (λj hj=>by rw[if_neg (by have:=h.hc j hj;omega)]),oA]
  .rw[if_neg c,if_neg c,wD]
 refine S.congr (λk hk=>?_) (by rw[h.la,gq]);rw[pJ,dw,if_pos hk];refine iz λj _=>?_;by_cases e:k=hd j
 .rw[if_pos e,if_pos e,gq]
 .rw[if_neg e,if_neg e]
def dJ.pQ(h:dJ b n W u A0 m A hd r L last):last≠0/\tk b last=last:=⟨by rw[h.la];exact h.nz,by rw[h.la,gq]⟩
end
structure Ag(n u:Nat):Prop where
 lo:10<=u
 hi:(n+1)*(u+(n+1))+n+1<=8000
def wC(u:Nat)(b:Int)(n m:Nat)(A0:Nat->Nat->Int)(bot:Int)(us:List Int):Prop:=
 ∃A hd r L last,dJ b n (m+1) u A0 m A hd r L last/\(∀i,r<=i->i<n->tk b (En A hd r i m)=0)/\Low b last (pJ (λh=>tk b (En A hd r h m)) hd m r) bot us
def gO.apH{b:Int}{n m:Nat}{A:Nat->Nat->Int}{x y:Nat->Int}{bt bot d:Int}(hD:Dom b)(hd:tk b d≠0)(e:∀k,k<m->tk b (y k*d)=tk b (x k))(eb:tk b (bot*d)=tk b bt)(h:gO b n m A x bt):gO b n m A y bot:=
 gO.rel.mpr (Rel.cut hD hd (λk hk=>by
  by_cases c:k=m
  .rw[if_pos c,if_pos c,iY,<-zR,<-dF,eb,dF,zR]
  .rw[if_neg c,if_neg c];exact e k (by omega)) (gO.rel.mp h))
structure amq(b:Int)(n m:Nat)(A0:Nat->Nat->Int)(bot:Int)(us:List Int):Prop where
 len:us.length=m
 tk:∀x∈us,Rm.tk b x=x
 pos:1<=bot
 pr:b≠0->bot=1
 ze:b=0->Lm.eU bot.natAbs us=1
 sums:gO b n m A0 (co us) bot
def wC.ok{u:Nat}{b:Int}{n m:Nat}{A0:Nat->Nat->Int}{bot:Int}{us:List Int}(hB:By b)(h:wC u b n m A0 bot us):amq b n m A0 bot us:=by
 obtain⟨A,hd,r,L,last,I,hz,lo⟩:=h;obtain⟨d,d0,d1,d2,d3,d4,d5,d6⟩:=lo.told hB I.pQ.1 I.pQ.2;exact⟨by rw[lo.len,yU],d3,d4,d5,d6,gO.apH hB.dom d0 (λk _=>d1 k) d2 (I.al5 hz)⟩
end Dm
namespace Dm
open Rm Pm
end Dm
namespace Dm
open Rm Pm
def Rn:∀P∈Om.ni,P<1000:=by decide +kernel
def Bd.aam{u:Nat}{x d:Int}(hd:d≠0)(h:Bd u (x*d)):Bd u x:=by
 unfold Bd at h⊢;rw[mU]at h;have:x.natAbs*1<=x.natAbs*d.natAbs:=vf _ (by omega);omega
def Low.bd{b bt:Int}{ts:List Int}{bot:Int}{us:List Int}{u:Nat}(hB:By b)(hu:10<=u)(h0:bt≠0)(ht:tk b bt=bt)(h:Low b bt ts bot us)(h1:Bd u bt)(h2:∀x∈ts,Bd u x):Bd u bot/\∀x∈us,Bd u x:=by
 obtain⟨d,d0,d1,d2,d3,d4,d5,d6⟩:=h.told hB h0 ht;rcases hB with rfl|⟨P,hP,rfl⟩
 .simp only[bh]at d0 d1 d2;refine⟨Bd.aam d0 (by rw[d2];exact h1),λx hx=>?_⟩;obtain⟨k,hk,e⟩:=jG.mp hx;have e':co us k=x:=by rw[iV hk];exact e
  rw[<-e'];exact Bd.aam d0 (by rw[d1 k];exact jm h2 k)
 .have p2:=Gm P hP;have p1:=Rn P hP;refine⟨by rw[d5 (by omega)];exact(Bd.of (n:=1) (by decide) (by decide)).mono (by omega),λx hx=>?_⟩;rw[<-d3 x hx,jN (by omega)];exact(Bd.emod (n:=10) (by omega) (Bd.of (by omega) (by omega))).mono hu
theorem Ag.n{n u:Nat}(h:Ag n u):n<=100:=by
 have h:=h.hi;refine Nat.le_of_not_lt λz=>?_;have:102*102<=(n+1)*(u+(n+1)):=jh (by omega) (by omega);omega
def dJ.bdL{b:Int}{n W u m:Nat}{A0 A:Nat->Nat->Int}{hd:Nat->Nat}{r:Nat}{L:List (List Int)}{last:Int}(hB:By b)(h:dJ b n W u A0 m A hd r L last)(hn:Ag n u)(i k:Nat):Bd (8000-n) (tk b (En A hd r i k)):=by
 have hb:0<=b/\Bd 10 b:=by
  rcases hB with rfl|⟨P,hP,rfl⟩
  .exact⟨by decide,Bd.zero _⟩
  .have p1:=Rn P hP;exact⟨by omega,Bd.of (by omega) (by omega)⟩
 have:=h.rn;have hn':=hn.n;have hn2:=hn.hi;refine rK hb.1 (hb.2.mono (by omega)) ((h.Xx i k).mono ?_);have:(r+1)*(u+(r+1))<=(n+1)*(u+(n+1)):=jh (by omega) (by omega);omega
def dJ.al2{b:Int}{n W u m:Nat}{A0 A:Nat->Nat->Int}{hd:Nat->Nat}{r:Nat}{L:List (List Int)}{last:Int}(hB:By b)(h:dJ b n W u A0 m A hd r L last)(hn:Ag n u):Bd (8000-n) last:=by
 have hb:0<=b/\Bd 10 b:=by
  rcases hB with rfl|⟨P,hP,rfl⟩
  .exact⟨by decide,Bd.zero _⟩
  .have p1:=Rn P hP;exact⟨by omega,Bd.of (by omega) (by omega)⟩
 have:=h.rn;have hn':=hn.n;have hn2:=hn.hi;rw[h.la];refine rK hb.1 (hb.2.mono (by omega)) ((zq (u:=u) λi k _ _=>h.tM _ _).mono ?_);have:r*(u+r)<=(n+1)*(u+(n+1)):=jh (by omega) (by omega);omega
theorem wC.bd{u:Nat}{b:Int}{n m:Nat}{A0:Nat->Nat->Int}{bot:Int}{us:List Int}(hB:By b)(hn:Ag n u)(h:wC u b n m A0 bot us):Bd 8000 bot/\∀x∈us,Bd 8000 x:=by
 obtain⟨A,hd,r,L,last,I,hz,lo⟩:=h;have hr:=I.rn;have hn':=hn.n;refine lo.bd hB (by decide) I.pQ.1 I.pQ.2 ((I.al2 hB hn).mono (by omega)) λx hx=>?_;obtain⟨k,_,rfl⟩:=nF hx;refine(Br (c:=8000-n) r λh _=>?_).mono (by omega);split
 .exact I.bdL hB hn _ _
 .exact Bd.zero _
end Dm
namespace Dm
open Rm Pm
end Dm
namespace Dm
open Rm Pm
end Dm
namespace Dm
open Rm Pm
def ap7{b:Int}(hD:Dom b)(h1:tk b 1≠0)(n:Nat)(A:Nat->Nat->Int):∃x:Nat->Int,(∃k,k<n+1/\tk b (x k)≠0)/\Rel b n (n+1) A x:=by
 refine uJ λhno=>?_;have hI:sI b (n+1) (n+1) (λi k=>if i=0 then 0 else A (i-1) k):=λx hx k hk=>by
  refine uJ λhk0=>hno ⟨x,⟨k,hk,hk0⟩,λi hi=>?_⟩;have:=hx (i+1) (by omega);refine Eq.trans (congrArg (tk b) (aP λk _=>?_)) this;show A i k*x k=(if i+1=0 then 0 else A (i+1-1) k)*x k;rw[if_neg (by omega)];rfl
 refine aco hD h1 hI ?_;rw[agK,jo λc _=>by rw[if_pos rfl,aR,fU],tk0]
def atA{b:Int}(hD:Dom b)(h1:tk b 1≠0){n m:Nat}(h:n<m)(A:Nat->Nat->Int):¬sI b n m A:=λhI=>by
 obtain⟨x,⟨k,hk,hne⟩,hx⟩:=ap7 hD h1 n A;refine hne ?_;have q:=hI (λj=>if j<n+1 then x j else 0) (λi hi=>?_) k (by omega)
 .rw[if_pos hk]at q;exact q
 .show tk b (sm m λj=>A i j*if j<n+1 then x j else 0)=0;rw[nH (m:=n+1) (by omega) λj h2 _=>by rw[if_neg (by omega),aR]];rw[aP (g:=λj=>A i j*x j) λj hj=>by rw[if_pos hj]];exact hx i hi
end Dm
namespace Pm
open Rm
def syn:List Int->Int->List Int×Int
 |[],_=>([],0)
 |a::t,r=>((syn t r).2::(syn t r).1,a+r*(syn t r).2)
theorem aaF:∀(p:List Int) (r:Int),(syn p r).1.length=p.length
 |[],_=>rfl
 |a::t,r=>by show(_::(syn t r).1).length=_;rw[gP,aaF t r,gP]
theorem IV:∀(p:List Int) (r:Int) (k:Nat),co p k=(if k=0 then(syn p r).2 else co (syn p r).1 (k-1))-r*co (syn p r).1 k
 |[],r,k=>by
  show co [] k=(if k=0 then(0:Int)else co [] (k-1))-r*co [] k;rw[fL,fL];split<;>omega
 |a::t,r,0=>by
  show co (a::t) 0=(a+r*(syn t r).2)-r*co ((syn t r).2::_) 0;rw[fH,fH];omega
 |a::t,r,k+1=>by
  rw[if_neg (by omega),dY,jf,IV t r k];show _=co ((syn t r).2::(syn t r).1) k-r*co ((syn t r).2::(syn t r).1) (k+1);rw[jf];cases k with
  |zero=>rw[if_pos rfl,fH]
  |succ k=>rw[if_neg (by omega),dY,jf]
def gW(p:List Int)(r:Int):List Int:=trim (syn p r).1
def oW(p:List Int)(r:Int):Int:=(syn p r).2
def asb(f:Nat->Int)(r:Int)(k:Nat):cv f (co [0-r,1]) k=(if k=0 then 0 else f (k-1))-r*f k:=by
 have g0:co [0-r,1] 0=0-r:=rfl;have g1:co [0-r,1] 1=1:=rfl;have g2:∀j,2<=j->co [0-r,1] j=0:=λj hj=>aY (by show 2<=j;exact hj);rw[fV,sm,qT,g0];cases k with
 |zero=>rw[if_pos rfl,sm,gY,aR,bY];omega
 |succ k=>
  rw[if_neg (by omega),sm,show k+1-k=1 by omega,g1,iI,dY];have z:sm k (λi=>f i*co [0-r,1] (k+1-i))=0:=by
   rw[aP (g:=λ_=>0) λi hi=>by rw[g2 _ (by omega),aR]];exact vP k
  rw[z,gY,aR,bY];omega
def abv(p:List Int):Py 0 (trim p):=⟨K6 p,λx _=>bh x⟩
def QB(p:List Int)(r:Int):Div 0 p [0-r,1] (gW p r) (trim [oW p r]):=by
 refine⟨abv _,abv _,?_,λk=>?_⟩
 .have:=uF [oW p r];exact n8 this (by show 1<2;decide)
 .have ec:co (gW p r)=co (syn p r).1:=funext λj=>nO ..;rw[ec,asb,nO,IV p r k];congr 1;cases k with
  |zero=>rw[if_pos rfl,if_pos rfl,fH];show _+(syn p r).2=_;omega
  |succ k=>rw[if_neg (by omega),if_neg (by omega),jf,fL];omega
def G5{p:List Int}{r:Int}(h:Mon p)(h2:2<=p.length):Mon (gW p r)/\(gW p r).length=p.length-1:=by
 have l:=aaF p r;have z1:co (syn p r).1 (p.length-1)=0:=by
  have e:=IV p r p.length;rw[aY (aN _),if_neg (by omega),aY (k:=p.length) (by omega)]at e;omega
 have z2:co (syn p r).1 (p.length-2)=1:=by
  have e:=IV p r (p.length-1);rw[h.one,if_neg (by omega),z1,show p.length-1-1=p.length-2 by omega]at e;omega
 have e:gW p r=aH (p.length-1) (co (syn p r).1):=by
  have e1:trim (aH (p.length-1) (co (syn p r).1))=aH (p.length-1) (co (syn p r).1):=vq (λz=>by have:=congrArg List.length z;rw[bG]at this;simp at this;omega) (by
   rw[bG,dw,if_pos (by omega),show p.length-1-1=p.length-2 by omega,z2];decide)
  rw[<-e1];refine zp λk=>?_;rw[dw];split
  .rfl
  .by_cases c:k=p.length-1
   .rw[c,z1]
   .exact aY (by omega)
 have le:(gW p r).length=p.length-1:=by rw[e,bG]
 refine⟨⟨by omega,?_⟩,le⟩;rw[le,e,dw,if_pos (by omega),show p.length-1-1=p.length-2 by omega,z2]
def outF:Nat->List Int->Int->Nat×List Int
 |0,p,_=>(0,p)
 |n+1,p,r=>if oW p r=0 then((outF n (gW p r) r).1+1,(outF n (gW p r) r).2)else(0,p)
def o9(n:Nat):Nat->Nat->List Int->List Int->List Int
 |0,_,s,g=>s++g.reverse
 |f+1,t,s,g=>if t*t<=n then(if n%t=0 then(if t*t<n then o9 n f (t+1) (s++[(t:Int)]) (g++[((n/t:Nat):Int)])else o9 n f (t+1) (s++[(t:Int)]) g)else o9 n f (t+1) s g)else s++g.reverse
def divs(n:Nat):List Int:=o9 n (n+1) 1 [] []
def gH(p:List Int):Int:=(p.filter λx=>decide (x≠0)).headD 0
def cands(p:List Int):List Int:=((divs (gH p).natAbs).reverse.map λx=>0-x)++[0]++divs (gH p).natAbs
def oE:List Int->List (List Int)->List Int->List (List Int)×List Int
 |[],rs,l=>(rs,l)
 |c::cs,rs,l=>if 0<(outF l.length l c).1 then oE cs (rs++[[c,((outF l.length l c).1:Int)]]) (outF l.length l c).2 else oE cs rs l
def wr(p:List Int):List (List Int)×List Int:=oE (cands p) [] p
def rN(p q:List Int):List Int:=aH (p.length+q.length-1) (cv (co p) (co q))
end Pm
namespace Pm
open Rm
theorem U0{r:Int}{u v:Nat}(hr:Bd v r):∀{p:List Int},(∀x∈p,Bd u x)->(∀x∈(syn p r).1,Bd (u+p.length*(v+1)) x)/\Bd (u+p.length*(v+1)) (syn p r).2
 |[],_=>⟨λx hx=>(gR hx).elim,Bd.zero _⟩
 |a::t,h=>by
  obtain⟨h1,h2⟩:=U0 hr (p:=t) λx hx=>h x (dg _ hx);have e:u+(t.length+1)*(v+1)=u+t.length*(v+1)+v+1:=by rw[pW];omega
  rw[gP,e];refine⟨λx hx=>?_,?_⟩
  .rcases cj.mp hx with rfl|hx
   .exact h2.mono (by omega)
   .exact(h1 x hx).mono (by omega)
  .show Bd _ (a+r*(syn t r).2);refine(Bd.add (n:=u+t.length*(v+1)+v) ((h a (cQ ..)).mono (by omega)) ((hr.mul h2).mono (by omega))).mono (by omega)
def PL{r:Int}{u v:Nat}(hr:Bd v r){p:List Int}(h:∀x∈p,Bd u x):∀x∈gW p r,Bd (u+p.length*(v+1)) x:=λx hx=>by
 obtain⟨k,hk,e⟩:=jG.mp hx;rw[<-e,<-iV hk];unfold gW;rw[nO];exact jm (U0 hr h).1 k
structure agA(p:List Int)(u:Nat)(n:Nat)(l:List Int):Prop where
 mon:Mon l
 len:l.length+n=p.length
 bd:∀x∈l,Bd (u+n*1640) x
def JT{p:List Int}(h:Mon p)(h1:p.length<2)(r:Int):oW p r≠0:=by
 have hp:=h.pos;obtain⟨a,rfl⟩:∃a,p=[a]:=by
  match p,hp,h1 with
  |[a],_,_=>exact⟨a,rfl⟩
 have:=h.one;rw[show[a].length-1=0 from rfl,fH]at this;subst this;show(1:Int)+r*0≠0;rw[aR];decide
theorem abg{r:Int}(hr:Bd 40 r):∀(n:Nat) {p:List Int} {u:Nat},Mon p->p.length<=40->(∀x∈p,Bd u x)->agA p u (outF n p r).1 (outF n p r).2
 |0,p,u,h,_,b=>⟨h,rfl,λx hx=>(b x hx).mono (by omega)⟩
 |n+1,p,u,h,hl,b=>by
  unfold outF;split
  .rename_i c
   have h2:2<=p.length:=by
    by_cases z:2<=p.length
    .exact z
    .exact absurd c (JT h (by omega) r)
   obtain⟨m1,l1⟩:=G5 (r:=r) h h2;obtain⟨a,b1,c1⟩:=abg hr n (u:=u+1640) m1 (by omega) (λx hx=>(PL hr b x hx).mono (by have:p.length*(40+1)<=40*41:=lW _ hl;omega));refine⟨a,by show(outF n (gW p r) r).2.length+((outF n (gW p r) r).1+1)=_;omega,λx hx=>(c1 x hx).mono ?_⟩;show _<=u+((outF n (gW p r) r).1+1)*1640;rw[pW];omega
  .exact⟨h,rfl,λx hx=>(b x hx).mono (by omega)⟩
theorem wX(n:Nat){m:Int}(hm:(n:Int)<=m):∀(f t:Nat) (s g:List Int),1<=t->(∀x∈s,0<x/\x<=m)->(∀x∈g,0<x/\x<=m)->∀x∈o9 n f t s g,0<x/\x<=m
 |0,t,s,g,_,hs,hg,x,hx=>by
  rcases eV.mp hx with hx|hx
  .exact hs x hx
  .exact hg x (pX.mp hx)
 |f+1,t,s,g,ht,hs,hg,x,hx=>by
  unfold o9 at hx;split at hx
  .rename_i c
   have htt:t<=t*t:=Qa t ht;have hs':∀y∈s++[(t:Int)],0<y/\y<=m:=λy hy=>by
    rcases eV.mp hy with hy|hy
    .exact hs y hy
    .rw[cP.mp hy];omega
   split at hx
   .split at hx
    .refine wX n hm f (t+1) _ _ (by omega) hs' (λy hy=>?_) x hx;rcases eV.mp hy with hy|hy
     .exact hg y hy
     .rw[cP.mp hy];have a1:0<n/t:=Nat.div_pos (by omega) (by omega);have a2:n/t<=n:=Nat.div_le_self ..;omega
    .exact wX n hm f (t+1) _ _ (by omega) hs' hg x hx
   .exact wX n hm f (t+1) _ _ (by omega) hs hg x hx
  .rcases eV.mp hx with hx|hx
   .exact hs x hx
   .exact hg x (pX.mp hx)
end Pm
namespace Pm
end Pm
namespace Pm
open Rm
def evC(a:Int)(p:List Int)(x:Int):ev (a::p) x=a+x*ev p x:=by
 rw[<-nU (p:=a::p) (n:=p.length+1) (aN _) x,nW,fH,oB,iI,<-nU (p:=p) (aN _) x,<-dj];congr 1;refine aP λk _=>?_;rw[jf,gZ,bY (x^k) x,<-bN,<-bN,bY (co p k) x]
theorem Jl:∀(p:List Int) (r:Int),oW p r=ev p r
 |[],r=>rfl
 |a::t,r=>by rw[evC,<-Jl t r];rfl
theorem acQ(c:Int):∀(n:Nat) {p:List Int},Mon p->p.length<=n->Rep c (outF n p c).1 p (outF n p c).2/\ev (outF n p c).2 c≠0/\Mon (outF n p c).2
 |0,p,h,hl=>by have:=h.pos;omega
 |n+1,p,h,hl=>by
  unfold outF;split
  .rename_i z
   have h2:2<=p.length:=by
    by_cases y:2<=p.length
    .exact y
    .exact absurd z (JT h (by omega) c)
   obtain⟨m1,l1⟩:=G5 (r:=c) h h2;obtain⟨a1,a2,a3⟩:=acQ c n m1 (by omega);have d:=QB p c;rw[z]at d;exact⟨.succ d a1,a2,a3⟩
  .rename_i z
   rw[Jl]at z;exact⟨.zero p,z,h⟩
def gh(x:Int×Nat):List Int:=[x.1,(x.2:Int)]
theorem Pa:∀(cs:List Int) (rs:List (List Int)) {p:List Int},Mon p->∃l,(oE cs rs p).1=rs++l.map gh/\Scan cs p l (oE cs rs p).2/\Mon (oE cs rs p).2
 |[],rs,p,h=>⟨[],by simp[oE],.nil p,h⟩
 |c::cs,rs,p,h=>by
  obtain⟨a1,a2,a3⟩:=acQ c p.length h (aN _);unfold oE;generalize outF p.length p c=o at a1 a2 a3;obtain⟨m,q⟩:=o;dsimp only at a1 a2 a3⊢;split
  .rename_i z
   obtain⟨l,e1,e2,e3⟩:=Pa cs (rs++[[c,(m:Int)]]) a3;obtain⟨k,rfl⟩:∃k,m=k+1:=⟨m-1,by omega⟩;exact⟨(c,k+1)::l,by rw[e1];simp[gh],.hit a1 a2 e2,e3⟩
  .rename_i z
   have:m=0:=by omega
   subst this;cases a1;obtain⟨l,e1,e2,e3⟩:=Pa cs rs h;exact⟨l,e1,.miss a2 e2,e3⟩
structure WdI(n t:Nat)(s g:List Int):Prop where
 s1:∀x:Int,x∈s↔∃d:Nat,x=d/\1<=d/\d<t/\d*d<=n/\d∣n
 g1:∀x:Int,x∈g↔∃d:Nat,x=(n/d:Nat)/\1<=d/\d<t/\d*d<n/\d∣n
 s2:s.Pairwise (· < ·)
 g2:g.Pairwise (· > ·)
def ao3{n b c:Nat}(h:b<c)(h1:1<=b)(hb:b∣n)(hc:c∣n)(hn:0<n):n/c<n/b:=by
 obtain⟨k,hk⟩:=hb;obtain⟨m,hm⟩:=hc;have e1:n/b=k:=by rw[hk];exact OB k h1
 have e2:n/c=m:=by rw[hm];exact OB m (by omega)
 rw[e1,e2];rcases AK m k with z|z
 .exact z
 .exfalso
  have hm0:0<m:=by
   rcases Nat.eq_zero_or_pos m with y|y
   .rw[y,PD]at hm;omega
   .exact y
  have:b*k<c*m:=n8 (vf b z) (PK h hm0);omega
def aaN{n t:Nat}{s g:List Int}(hn:0<n)(I:WdI n t s g)(ht:n<t*t):(s++g.reverse).Pairwise (· < ·)/\∀d:Nat,1<=d->d∣n->(d:Int)∈s++g.reverse:=by
 have big:∀{b:Nat},1<=b->b*b<n->b∣n->n<n/b*(n/b):=λ{b} h1 h2 h3=>by
  obtain⟨k,hk⟩:=h3;have e:n/b=k:=by rw[hk];exact OB k h1
  rw[e];have:b<k:=by
   rcases AK b k with z|z
   .exact z
   .have:=vf b z;omega
  have k0:0<k:=by omega
  rw[hk];exact PK this k0
 have small:∀{d:Nat},d*d<=n->d<t:=λ{d} h=>by
  rcases AK d t with z|z
  .exact z
  .have:=jh z z;omega
 refine⟨Al.mpr ⟨I.s2,ac1.mpr I.g2,λa ha b hb=>?_⟩,λd h1 h2=>?_⟩
 .obtain⟨d,rfl,d1,d2,d3,d4⟩:=(I.s1 a).mp ha;obtain⟨e,rfl,e1,e2,e3,e4⟩:=(I.g1 b).mp (pX.mp hb);have:=big e1 e3 e4;have:d<n/e:=by
   rcases AK d (n/e)with z|z
   .exact z
   .have:=jh z z;omega
  omega
 .by_cases c:d*d<=n
  .exact eV.mpr (.inl ((I.s1 _).mpr ⟨d,rfl,h1,small c,c,h2⟩))
  .obtain⟨k,hk⟩:=h2;have k0:1<=k:=by
    rcases Nat.eq_zero_or_pos k with z|z
    .rw[z,PD]at hk;omega
    .exact z
   have hkd:k<d:=by
    rcases AK k d with z|z
    .exact z
    .have:=vf d z;omega
   have kk:k*k<n:=by rw[hk];exact PK hkd k0
   refine eV.mpr (.inr (pX.mpr ((I.g1 _).mpr ⟨k,?_,k0,small (by omega),kk,⟨d,by rw[hk,wI]⟩⟩)));rw[hk,Nat.mul_div_cancel d (by omega)]
theorem Ie{n:Nat}(hn:0<n):∀(f t:Nat) (s g:List Int),f+t=n+2->1<=t->WdI n t s g->(o9 n f t s g).Pairwise (· < ·)/\∀d:Nat,1<=d->d∣n->(d:Int)∈o9 n f t s g
 |0,t,s,g,h,h1,I=>aaN hn I (by have:t<=t*t:=Qa t (by omega);omega)
 |f+1,t,s,g,h,h1,I=>by
  unfold o9;have sNew:t∣n->t*t<=n->(∀x:Int,x∈s++[(t:Int)]↔∃d:Nat,x=d/\1<=d/\d<t+1/\d*d<=n/\d∣n)/\(s++[(t:Int)]).Pairwise (· < ·):=λhd hs=>by
   refine⟨λx=>?_,Al.mpr ⟨I.s2,Hl ..,λa ha b hb=>?_⟩⟩
   .rw[eV,I.s1,cP];constructor
    .rintro(⟨d,h1,h2,h3,h4⟩|rfl)
     .exact⟨d,h1,h2,by omega,h4⟩
     .exact⟨t,rfl,h1,by omega,hs,hd⟩
    .rintro⟨d,rfl,h2,h3,h4⟩;by_cases c:d=t
     .exact .inr (by rw[c])
     .exact .inl ⟨d,rfl,h2,by omega,h4⟩
   .obtain⟨d,rfl,_,h3,_⟩:=(I.s1 a).mp ha;rw[cP.mp hb];omega
  have Xm:(¬(t∣n/\t*t<n))->∀x:Int,x∈g↔∃d:Nat,x=(n/d:Nat)/\1<=d/\d<t+1/\d*d<n/\d∣n:=λhno x=>by
   rw[I.g1];constructor
   .rintro⟨d,h1,h2,h3,h4⟩;exact⟨d,h1,h2,by omega,h4⟩
   .rintro⟨d,h1,h2,h3,h4,h5⟩;refine⟨d,h1,h2,?_,h4,h5⟩;by_cases c:d=t
    .subst c;exact absurd ⟨h5,h4⟩ hno
    .omega
  split
  .rename_i c
   split
   .rename_i c2
    have hd:t∣n:=aaq c2;obtain⟨n1,n2⟩:=sNew hd c;split
    .rename_i c3
     refine Ie hn f (t+1) _ _ (by omega) (by omega) ⟨n1,λx=>?_,n2,Al.mpr ⟨I.g2,Hl ..,λa ha b hb=>?_⟩⟩
     .rw[eV,I.g1,cP];constructor
      .rintro(⟨d,h1,h2,h3,h4⟩|rfl)
       .exact⟨d,h1,h2,by omega,h4⟩
       .exact⟨t,rfl,h1,by omega,c3,hd⟩
      .rintro⟨d,rfl,h2,h3,h4⟩;by_cases z:d=t
       .exact .inr (by rw[z])
       .exact .inl ⟨d,rfl,h2,by omega,h4⟩
     .obtain⟨d,rfl,d1,d2,d3,d4⟩:=(I.g1 a).mp ha;rw[cP.mp hb];have:=ao3 d2 d1 d4 hd hn;show((n/t:Nat):Int)<_;omega
    .rename_i c3
     exact Ie hn f (t+1) _ _ (by omega) (by omega) ⟨n1,Xm λz=>c3 z.2,n2,I.g2⟩
   .rename_i c2
    have hd:¬t∣n:=λz=>c2 (ZW z);refine Ie hn f (t+1) s g (by omega) (by omega) ⟨λx=>?_,Xm λz=>hd z.1,I.s2,I.g2⟩;rw[I.s1];constructor
    .rintro⟨d,h1,h2,h3,h4⟩;exact⟨d,h1,h2,by omega,h4⟩
    .rintro⟨d,h1,h2,h3,h4,h5⟩;refine⟨d,h1,h2,?_,h4,h5⟩;by_cases z:d=t
     .subst z;exact absurd h5 hd
     .omega
  .rename_i c
   exact aaN hn I (by omega)
def Zx{n:Nat}(hn:0<n):(divs n).Pairwise (· < ·)/\∀d:Nat,1<=d->d∣n->(d:Int)∈divs n:=
 Ie hn (n+1) 1 [] [] (by omega) (aN _) ⟨λx=>⟨(λh=>(by cases h)),(λ⟨d,_,h1,h2,_⟩=>by omega)⟩,λx=>⟨(λh=>(by cases h)),(λ⟨d,_,h1,h2,_⟩=>by omega)⟩,.nil,.nil⟩
theorem Mu:∀{p:List Int},(∃k,co p k≠0)->∃j,co p j=gH p/\gH p≠0/\∀k,k<j->co p k=0
 |[],⟨k,h⟩=>absurd (fL k) h
 |a::t,⟨k,h⟩=>by
  by_cases c:a=0
  .subst c;have e:gH (0::t)=gH t:=by unfold gH;rw[List.filter_cons,if_neg (by simp)]
   cases k with
   |zero=>exact absurd (fH 0 t) h
   |succ k=>
    rw[jf]at h;obtain⟨j,h1,h2,h3⟩:=Mu (p:=t) ⟨k,h⟩;refine⟨j+1,by rw[jf,h1,e],by rw[e];exact h2,λi hi=>?_⟩;cases i with
    |zero=>rw[fH]
    |succ i=>rw[jf];exact h3 i (by omega)
  .have e:gH (a::t)=a:=by unfold gH;rw[List.filter_cons,if_pos (by simpa using c)];rfl
   exact⟨0,by rw[fH,e],by rw[e];exact c,λi hi=>by omega⟩
def Mon.low{p:List Int}(h:Mon p):∃k,co p k≠0:=⟨p.length-1,by rw[h.one];decide⟩
def aut{p:List Int}(h:Mon p):(cands p).Pairwise (· < ·):=by
 obtain⟨j,_,hl,_⟩:=Mu h.low;obtain⟨d1,_⟩:=Zx (n:=(gH p).natAbs) (by omega);have pos:∀x∈divs (gH p).natAbs,0<x:=λx hx=>(wX _ (m:=(gH p).natAbs) (Q5 _) _ 1 [] [] (aN _) (λy hy=>nomatch hy) (λy hy=>nomatch hy) x hx).1;unfold cands;refine Al.mpr ⟨Al.mpr ⟨List.pairwise_map.mpr (ac1.mpr (d1.imp λ{a b} hab=>by omega)),Hl ..,λa ha b hb=>?_⟩,d1,λa ha b hb=>?_⟩
 .obtain⟨y,hy,rfl⟩:=cM.mp ha;have:=pos y (pX.mp hy);rw[cP.mp hb];omega
 .have:=pos b hb;rcases eV.mp ha with ha|ha
  .obtain⟨y,hy,rfl⟩:=cM.mp ha;have:=pos y (pX.mp hy);omega
  .rw[cP.mp ha];omega
def aby{p:List Int}(h:Mon p){x:Int}(hx:ev p x=0):x∈cands p:=by
 obtain⟨j,h1,hl,h3⟩:=Mu h.low;obtain⟨_,d2⟩:=Zx (n:=(gH p).natAbs) (by omega);unfold cands;by_cases c:x=0
 .exact eV.mpr (.inl (eV.mpr (.inr (by rw[c];exact cP.mpr rfl))))
 .have hd:=aqF h3 hx c;rw[h1]at hd;have hd':x.natAbs∣(gH p).natAbs:=Qf.mpr hd;have hm:=d2 x.natAbs (by omega) hd';by_cases s:0<x
  .exact eV.mpr (.inr (by rwa [show((x.natAbs:Nat):Int)=x by omega]at hm))
  .refine eV.mpr (.inl (eV.mpr (.inl (cM.mpr ⟨_,pX.mpr hm,by omega⟩))))
def ag6{p:List Int}(h:Mon p):∃l:List (Int×Nat),(wr p).1=l.map gh/\Scan (cands p) p l (wr p).2/\Mon (wr p).2:=by
 obtain⟨l,h1,h2,h3⟩:=Pa (cands p) [] h;exact⟨l,by show(oE (cands p) [] p).1=_;simpa using h1,h2,h3⟩
def Mon.mV{p:List Int}(h:Mon p):Py 0 p:=by
 have:trim p=p:=vq (λz=>by have:=h.pos;rw[z]at this;exact absurd this (by decide)) (by rw[h.one];decide);exact⟨this,λx _=>bh x⟩
def LV{p:List Int}(h:Mon p):∃l:List (Int×Nat),(wr p).1=l.map gh/\p=RP l (wr p).2/\(∀x,ev (wr p).2 x≠0)/\(l.map (·.1)).Pairwise (· < ·)/\(∀x∈l,0<x.2)/\Mon (wr p).2/\∀x∈l,x.1∈cands p:=by
 obtain⟨l,h1,h2,h3⟩:=ag6 h;obtain⟨b1,b2,b3,b4,b5⟩:=h2.back h.mV;refine⟨l,h1,b1,λx hx=>?_,(aut h).sublist b4,b5,h3,λx hx=>b4.subset (cM.mpr ⟨x,hx,rfl⟩)⟩;have:ev p x=0:=by rw[b1];exact HY b2 hx l
 exact b3 x (aby h this) hx
end Pm
namespace Pm
open Rm
def yH(p q r:List Int):mul 0 (mul 0 p q) r=mul 0 p (mul 0 q r):=(pA ..).ext (pA ..) λk=>by
 rw[jX,jX];have e1:co (mul 0 p q)=cv (co p) (co q):=funext λi=>by rw[jX,bh]
 have e2:co (mul 0 q r)=cv (co q) (co r):=funext λi=>by rw[jX,bh]
 rw[e1,e2,gG]
theorem Lh(r:Int)(a R:List Int):∀m,cN r m (mul 0 a R)=mul 0 (cN r m a) R
 |0=>rfl
 |m+1=>by
  show mul 0 (cN r m (mul 0 a R)) (lin r)=mul 0 (mul 0 (cN r m a) (lin r)) R;rw[Lh r a R m,yH,yH,mul_comm 0 R]
theorem adD(r s:Int)(k:Nat)(X:List Int):∀m,cN r m (cN s k X)=cN s k (cN r m X)
 |0=>rfl
 |m+1=>by
  show mul 0 (cN r m (cN s k X)) (lin r)=cN s k (mul 0 (cN r m X) (lin r));rw[adD r s k X m,Lh]
theorem ZJ(r:Int)(m:Nat)(X:List Int):∀t,RP t (cN r m X)=cN r m (RP t X)
 |[]=>rfl
 |(s,k)::t=>by
  show cN s k (RP t (cN r m X))=cN r m (cN s k (RP t X));rw[ZJ r m X t,adD]
def iw:List (Int×Nat)->List Int->List Int
 |[],a=>a
 |(r,m)::t,a=>iw t (cN r m a)
theorem CM(R:List Int):∀(l:List (Int×Nat)) (a:List Int),mul 0 (iw l a) R=RP l (mul 0 a R)
 |[],_=>rfl
 |(r,m)::t,a=>by
  show mul 0 (iw t (cN r m a)) R=cN r m (RP t (mul 0 a R));rw[CM R t,<-Lh,ZJ]
def rY:Mon [1]:=⟨by decide,rfl⟩
def b01:tk (0:Int) 1=1:=bh 1
theorem Dj{r:Int}{a:List Int}(h:Mon a):∀m,Mon (cN r m a)/\(cN r m a).length=a.length+m
 |0=>⟨h,rfl⟩
 |m+1=>by
  obtain⟨h1,h2⟩:=Dj (r:=r) h m;obtain⟨a1,a2⟩:=adz b01 h1 (C0 r);exact⟨a1,by show(mul 0 (cN r m a) (lin r)).length=_;rw[a2,h2];show a.length+m+2-1=_;omega⟩
def many(l:List (Int×Nat)):Nat:=(l.map (·.2)).sum
theorem uK:∀(l:List (Int×Nat)) {a:List Int},Mon a->Mon (iw l a)/\(iw l a).length=a.length+many l
 |[],a,h=>⟨h,by simp[iw,many]⟩
 |(r,m)::t,a,h=>by
  obtain⟨h1,h2⟩:=Dj (r:=r) h m;obtain⟨a1,a2⟩:=uK t h1;exact⟨a1,by show(iw t (cN r m a)).length=_;rw[a2,h2];simp[many];omega⟩
def one_mul{R:List Int}(h:Py 0 R):mul 0 [1] R=R:=by rw[mul_comm,mul_one h]
def E8{p q:List Int}(hp:Mon p)(hq:Mon q):rN p q=mul 0 p q/\Mon (rN p q)/\(rN p q).length=p.length+q.length-1:=by
 obtain⟨h1,h2⟩:=adz b01 hp hq;have e:rN p q=mul 0 p q:=by
  unfold rN;refine qK (by rw[bG,h2]) λk=>?_;rw[dw,jX,bh];split
  .rfl
  .rename_i c
   exact(jY λi hi=>by
    by_cases z:p.length<=i
    .exact .inl (aY z)
    .exact .inr (aY (by omega))).symm
 rw[e];exact⟨rfl,h1,h2⟩
def made{R:List Int}(hR:Mon R)(l:List (Int×Nat)):rN (iw l [1]) R=RP l R/\Mon (RP l R)/\(RP l R).length=many l+R.length:=by
 obtain⟨h1,h2⟩:=uK l rY;obtain⟨e,m,z⟩:=E8 h1 hR;have e2:mul 0 (iw l [1]) R=RP l R:=by rw[CM,one_mul hR.mV]
 rw[e2]at e;rw[e]at m z;exact⟨e,m,by rw[z,h2];show 1+many l+R.length-1=_;omega⟩
end Pm
namespace Cf
def El(r:Int)(g:Nat->Int):Nat->Int:=λn=>g (n+1)-r*g n
def W(r:Int):Nat->(Nat->Int)->Prop
 |0,g=>∀n,g n=0
 |m+1,g=>W r m (El r g)
def aae(r s:Int)(g:Nat->Int):El r (El s g)=El s (El r g):=funext λn=>by
 unfold El;rw[gY,gY,<-bN,<-bN,bY r s];omega
def zj{r:Int}{g:Nat->Int}(h:∀n,g n=0)(n:Nat):El r g n=0:=by unfold El;rw[h,h,aR];rfl
def aj9(r:Int)(g h:Nat->Int):El r (λn=>g n+h n)=λn=>El r g n+El r h n:=funext λn=>by
 show g (n+1)+h (n+1)-r*(g n+h n)=(g (n+1)-r*g n)+(h (n+1)-r*h n);rw[iW];omega
def amt(r c:Int)(g:Nat->Int):El r (λn=>c*g n)=λn=>c*El r g n:=funext λn=>by
 show c*g (n+1)-r*(c*g n)=c*(g (n+1)-r*g n);rw[gY,gj]
theorem W.zero{r:Int}:∀{m:Nat} {g:Nat->Int},(∀n,g n=0)->W r m g
 |0,_,h=>h
 |m+1,g,h=>W.zero (m:=m) (g:=El r g) (zj h)
theorem W.el{r:Int}(s:Int):∀{m:Nat} {g:Nat->Int},W r m g->W r m (El s g)
 |0,_,h=>zj h
 |m+1,g,h=>by
  show W r m (El r (El s g));rw[aae];exact W.el s h
theorem W.mul{r:Int}(c:Int):∀{m:Nat} {g:Nat->Int},W r m g->W r m λn=>c*g n
 |0,g,h=>λn=>by show c*g n=0;rw[h n,aR]
 |m+1,g,h=>by
  show W r m (El r λn=>c*g n);rw[amt];exact W.mul c h
theorem W.add{r:Int}:∀{m:Nat} {g h:Nat->Int},W r m g->W r m h->W r m λn=>g n+h n
 |0,g,h,h1,h2=>λn=>by show g n+h n=0;rw[h1 n,h2 n];rfl
 |m+1,g,h,h1,h2=>by
  show W r m (El r λn=>g n+h n);rw[aj9];exact W.add h1 h2
theorem W.up{r:Int}:∀{m:Nat} {g:Nat->Int},W r m g->W r (m+1) g
 |0,_,h=>zj h
 |m+1,g,h=>W.up (m:=m) (g:=El r g) h
def W.le{r:Int}{m m':Nat}{g:Nat->Int}(h:W r m g)(hm:m<=m'):W r m' g:=by
 induction m' with
 |zero=>
  obtain rfl:m=0:=by omega
  exact h
 |succ k ih=>
  by_cases e:m=k+1
  .subst e;exact h
  .exact(ih (by omega)).up
theorem W.kill{r s:Int}(hne:r≠s):∀{m:Nat} {g:Nat->Int},W s m g->(∀n,El r g n=0)->∀n,g n=0
 |0,_,h,_=>h
 |m+1,g,h,e=>λn=>by
  have e1:∀n,El s g n=(r-s)*g n:=λn=>by
   have:=e n;unfold El at this⊢;rw[mj];omega
  have k:∀n,El s g n=0:=W.kill hne h λn=>by rw[aae];exact zj e n
  have:=k n;rw[e1]at this;rcases kI.mp this with z|z
  .exact absurd (by omega) hne
  .exact z
abbrev Tm:=Int×Nat×(Nat->Int)
def j4(l:List Tm)(n:Nat):Int:=(l.map λt=>t.2.2 n).sum
def sE(t:Tm)(l:List Tm)(n:Nat):j4 (t::l) n=t.2.2 n+j4 l n:=by simp[j4]
theorem X8(r:Int):∀(l:List Tm) (n:Nat),j4 (l.map λt=>(t.1,t.2.1,El r t.2.2)) n=El r (j4 l) n
 |[],n=>by simp[j4,El]
 |t::l,n=>by
  rw[dz,sE,X8 r l n];show El r t.2.2 n+El r (j4 l) n=El r (j4 (t::l)) n;unfold El;rw[sE,sE,iW];omega
def aqY{l:List Tm}(h:∀t∈l,∀n,t.2.2 n=0)(n:Nat):j4 l n=0:=by
 induction l with
 |nil=>rfl
 |cons t l ih=>rw[sE,h t (cQ ..) n,ih λx hx=>h x (dg _ hx)];rfl
theorem indep:∀(K:Nat) (l:List Tm),(l.map λt=>t.2.1+1).sum<=K->(l.map (·.1)).Nodup->(∀t∈l,W t.1 t.2.1 t.2.2)->(∀n,j4 l n=0)->∀t∈l,∀n,t.2.2 n=0
 |_,[],_,_,_,_,t,ht,_=>by cases ht
 |0,t0::l,hK,_,_,_,_,_,_=>by simp at hK
 |K+1,(r,m,g)::l,hK,hd,hW,hs,t,ht,n=>by
  simp only[dz,jg]at hK;have hd':=qx.mp hd;have Ln:∀t∈l,W t.1 t.2.1 t.2.2:=λt ht=>hW t (dg _ ht);have hg:=hW (r,m,g) (cQ ..);have rest:∀t∈l,∀n,t.2.2 n=0:=by
   cases m with
   |zero=>exact indep K l (by omega) hd'.2 Ln λn=>by have:=hs n;rw[sE]at this;have z:g n=0:=hg n;show j4 l n=0;simp only at this;omega
   |succ k=>
    have ih:=indep K ((r,k,El r g)::l.map λt=>(t.1,t.2.1,El r t.2.2)) (by
     simp only[dz,jg,fj];have:((λt:Tm=>t.2.1+1)∘λt:Tm=>((t.1,t.2.1,El r t.2.2):Tm))=λt:Tm=>t.2.1+1:=rfl;rw[this];omega) (by
     have:(((r,k,El r g)::l.map λt=>((t.1,t.2.1,El r t.2.2):Tm)):List Tm).map (·.1)=((r,k+1,g)::l).map (·.1):=by
      simp only[dz,fj];rfl
     rw[this];exact hd) (λt ht=>by
     rcases cj.mp ht with rfl|ht
     .exact hg
     .obtain⟨u,hu,rfl⟩:=cM.mp ht;exact(Ln u hu).el r) (λn=>by
     have e:=X8 r ((r,k+1,g)::l) n;simp only[dz]at e;have e2:j4 ((r,k,El r g)::l.map λt=>((t.1,t.2.1,El r t.2.2):Tm)) n=El r (j4 ((r,k+1,g)::l)) n:=by rw[<-e,sE,sE]
     rw[e2];exact zj hs n)
    intro t ht n;have hne:r≠t.1:=λz=>hd'.1 (by show r∈l.map (·.1);rw[z];exact mX ht);exact W.kill hne (Ln t ht) (λn=>ih (t.1,t.2.1,El r t.2.2) (dg _ (mX (f:=λt:Tm=>((t.1,t.2.1,El r t.2.2):Tm)) ht)) n) n
  rcases cj.mp ht with rfl|ht
  .have:=hs n;rw[sE,aqY rest]at this;simp only at this⊢;omega
  .exact rest t ht n
def pv:List Int->Int->Int
 |[],_=>0
 |c::q,x=>c+x*pv q x
def Pf:Nat->(Int->Int)->Prop
 |0,q=>∀x,q x=0
 |m+1,q=>Pf m λx=>q (x+1)-q x
theorem Pf.zero:∀{m:Nat} {q:Int->Int},(∀x,q x=0)->Pf m q
 |0,_,h=>h
 |m+1,q,h=>Pf.zero (m:=m) (q:=λx=>q (x+1)-q x) λx=>by show q (x+1)-q x=0;rw[h,h];rfl
theorem Pf.add:∀{m:Nat} {p q:Int->Int},Pf m p->Pf m q->Pf m λx=>p x+q x
 |0,p,q,h1,h2=>λx=>by show p x+q x=0;rw[h1,h2];rfl
 |m+1,p,q,h1,h2=>by
  have:Pf m λx=>(p (x+1)-p x)+(q (x+1)-q x):=Pf.add h1 h2;have e:(λx=>(p (x+1)-p x)+(q (x+1)-q x))=λx=>(p (x+1)+q (x+1))-(p x+q x):=funext λx=>by omega
  rw[e]at this;exact this
theorem Pf.mul(c:Int):∀{m:Nat} {q:Int->Int},Pf m q->Pf m λx=>c*q x
 |0,q,h=>λx=>by show c*q x=0;rw[h,aR]
 |m+1,q,h=>by
  have:Pf m λx=>c*(q (x+1)-q x):=Pf.mul c h;have e:(λx=>c*(q (x+1)-q x))=λx=>c*q (x+1)-c*q x:=funext λx=>by rw[gY]
  rw[e]at this;exact this
theorem Pf.on:∀{m:Nat} {q:Int->Int},Pf m q->Pf m λx=>q (x+1)
 |0,_,h=>λx=>h (x+1)
 |m+1,q,h=>Pf.on (m:=m) (q:=λx=>q (x+1)-q x) h
theorem Pf.x:∀{m:Nat} {q:Int->Int},Pf m q->Pf (m+1) λx=>x*q x
 |0,q,h=>Pf.zero λx=>by show x*q x=0;rw[h,aR]
 |m+1,q,h=>by
  show Pf (m+1) λx=>(x+1)*q (x+1)-x*q x;have h1:Pf (m+1) λx=>x*(q (x+1)-q x):=Pf.x (m:=m) h;have h2:Pf (m+1) λx=>q (x+1):=Pf.on (m:=m+1) h;have h3:=Pf.add h1 h2;have e:(λx=>x*(q (x+1)-q x)+q (x+1))=λx=>(x+1)*q (x+1)-x*q x:=funext λx=>by
   rw[gY,rE,gM];omega
  rw[e]at h3;exact h3
theorem GB:∀q:List Int,Pf q.length (pv q)
 |[]=>λ_=>rfl
 |c::q=>by
  show Pf (q.length+1) λx=>c+x*pv q x;refine Pf.add ?_ (GB q).x;have k:∀m,Pf (m+1) λ_=>c:=λm=>by
   show Pf m λx=>c-c;exact Pf.zero λ_=>by omega
  exact k _
theorem W.of_pf(r:Int):∀{m:Nat} {q:Int->Int},Pf m q->W r m λn=>r^n*q (n:Int)
 |0,q,h=>λn=>by show r^n*q (n:Int)=0;rw[h,aR]
 |m+1,q,h=>by
  show W r m (El r λn=>r^n*q (n:Int));have e:(El r λn:Nat=>r^n*q (n:Int))=λn:Nat=>r^n*(r*(q ((n:Int)+1)-q (n:Int))):=funext λn=>by
   show r^(n+1)*q ((n:Int)+1)-r*(r^n*q (n:Int))=r^n*(r*(q ((n:Int)+1)-q (n:Int)));rw[gZ,gY,gY,bN,gj r (r^n)]
  rw[e];exact W.of_pf r (q:=λx=>r*(q (x+1)-q x)) (Pf.mul r h)
theorem Ey:∀(q:List Int) (N:Nat),(∀n:Nat,N<=n->pv q (n:Int)=0)->∀c∈q,c=0
 |[],_,_,c,hc=>by cases hc
 |a::q,N,h,c,hc=>by
  have a0:a=0:=by
   have h1:=h (N+a.natAbs+1) (by omega);have d:((N+a.natAbs+1:Nat):Int)∣a:=⟨-pv q ((N+a.natAbs+1:Nat):Int),by
    have:pv (a::q) ((N+a.natAbs+1:Nat):Int)=a+((N+a.natAbs+1:Nat):Int)*pv q ((N+a.natAbs+1:Nat):Int):=rfl;rw[this]at h1;rw[oF];omega⟩
   by_cases z:a=0
   .exact z
   .exfalso
    have:=rC (Int.natAbs_pos.mpr z) (Qf.mpr d);rw[tX]at this;omega
  rcases cj.mp hc with rfl|hc
  .exact a0
  .refine Ey q (N+1) (λn hn=>?_) c hc;have h1:=h n (by omega);have:pv (a::q) (n:Int)=a+(n:Int)*pv q (n:Int):=rfl;rw[this,a0,gC]at h1;rcases kI.mp h1 with z|z
   .omega
   .exact z
theorem Hi{r:Int}(h:r≠0):∀n:Nat,r^n≠0
 |0=>by rw[oB];decide
 |n+1=>by
  rw[gZ];intro z;rcases kI.mp z with y|y
  .exact Hi h n y
  .exact h y
end Cf
namespace Cf
open Pm Rm
def elN(r:Int):Nat->(Nat->Int)->Nat->Int
 |0,g=>g
 |m+1,g=>El r (elN r m g)
theorem aeb{r:Int}:∀(m:Nat) {g:Nat->Int},(∀n,g n=0)->∀n,elN r m g n=0
 |0,_,h=>h
 |m+1,_,h=>zj (aeb m h)
theorem adJ(r:Int):∀(m:Nat) (g:Nat->Int),elN r m (El r g)=El r (elN r m g)
 |0,_=>rfl
 |m+1,g=>by show El r (elN r m (El r g))=_;rw[adJ r m g];rfl
theorem W.elN(r:Int):∀{m:Nat} {g:Nat->Int},W r m g->∀n,elN r m g n=0
 |0,_,h=>h
 |m+1,g,h=>by
  have:=W.elN r (m:=m) (g:=El r g) h;rw[adJ]at this;exact this
theorem W.elNs{r:Int}(s:Int):∀(k:Nat) {m:Nat} {g:Nat->Int},W r m g->W r m (Cf.elN s k g)
 |0,_,_,h=>h
 |k+1,_,_,h=>(W.elNs s k h).el s
def ae3(r:Int)(g:Nat->Int)(n:Nat):ks (Pm.lin r) g n=El r g n:=by
 show 0+co (Pm.lin r) 0*g (n+0)+co (Pm.lin r) 1*g (n+1)=g (n+1)-r*g n;rw[show co (Pm.lin r) 0=0-r from rfl,show co (Pm.lin r) 1=1 from rfl,gM,mj];show 0+(0*g n-r*g n)+g (n+1)=_;omega
def asA(p q:List Int)(a:Nat->Int)(n:Nat):ks (mul 0 p q) a n=ks p (ks q a) n:=by
 have:=Zc (b:=0) p q a n;rw[bh,bh]at this;exact this
theorem Mp(r:Int)(q:List Int)(f:Nat->Int):∀(m n:Nat),ks (cN r m q) f n=elN r m (ks q f) n
 |0,_=>rfl
 |m+1,n=>by
  show ks (mul 0 (cN r m q) (Pm.lin r)) f n=El r (elN r m (ks q f)) n;rw[Pm.mul_comm,asA,ae3,show ks (cN r m q) f=elN r m (ks q f)from funext (Mp r q f m)]
def aft(f:Nat->Int)(n:Nat):ks [1] f n=f n:=by
 show 0+co [1] 0*f (n+0)=f n;rw[show co [1] 0=1 from rfl,gM,gC];rfl
theorem W.ofRP{r:Int}:∀(l:List (Int×Nat)) {m:Nat} {g:Nat->Int},W r m g->W r m (ks (RP l [1]) g)
 |[],_,g,h=>by rw[show ks (RP [] [1]) g=g from funext (aft g)];exact h
 |(s,k)::t,_,g,h=>by
  rw[show ks (RP ((s,k)::t) [1]) g=Cf.elN s k (ks (RP t [1]) g)from funext (Mp s _ g k)];exact(W.ofRP t h).elNs s k
theorem W.keep{r:Int}{m:Nat}:∀(l:List (Int×Nat)) {g:Nat->Int},(r,m)∈l->W r m g->∀n,ks (RP l [1]) g n=0
 |(s,k)::t,g,hm,h,n=>by
  show ks (cN s k (RP t [1])) g n=0;rw[Mp];rcases cj.mp hm with e|hm
  .cases e;exact(W.ofRP t h).elN r n
  .exact aeb k (W.keep t hm h) n
def aaA{P:List Int}(hm:Mon P){f:Nat->Int}(hk:∀n,ks P f n=0)(h0:∀n,n<P.length-1->f n=0)(n:Nat):f n=0:=by
 induction n using Nat.strongRecOn with
 |ind n ih=>
  by_cases c:n<P.length-1
  .exact h0 n c
  .have hp:=hm.pos;obtain⟨k,rfl⟩:∃k,n=k+(P.length-1):=⟨n-(P.length-1),by omega⟩;have e:=hk k;unfold ks at e;obtain⟨N,hN⟩:∃N,P.length=N+1:=⟨P.length-1,by omega⟩;rw[hN]at e;have z:sm N (λi=>co P i*f (k+i))=0:=jo λi hi=>by rw[ih (k+i) (by omega),aR]
   have e2:sm (N+1) (λi=>co P i*f (k+i))=sm N (λi=>co P i*f (k+i))+co P N*f (k+N):=rfl;have o:co P N=1:=by have:=hm.one;rw[hN,dY]at this;exact this
   rw[e2,z,o,gM,gC]at e;rw[hN,dY];exact e
def dot:List Int->List Int->Int
 |x::xs,y::ys=>x*y+dot xs ys
 |_,_=>0
def gF:List (Int×Nat)->Nat->List Int
 |[],_=>[]
 |(r,m)::t,n=>((List.range m).map λj=>r^n*(n:Int)^j)++gF t n
def dR:List (Int×Nat)->List Int->List (Int×List Int)
 |[],_=>[]
 |(r,m)::t,cs=>(r,cs.take m)::dR t (cs.drop m)
def bJ(ps:List (Int×List Int))(n:Nat):Int:=(ps.map λp=>p.1^n*pv p.2 (n:Int)).sum
def aJ(l:List (Int×Nat)):Nat:=(l.map (·.2)).sum
theorem Yc:∀(xs ys cs:List Int),xs.length<=cs.length->dot (xs++ys) cs=dot xs (cs.take xs.length)+dot ys (cs.drop xs.length)
 |[],ys,cs,_=>by simp[dot]
 |x::xs,ys,[],h=>by simp at h
 |x::xs,ys,c::cs,h=>by
  show x*c+dot (xs++ys) cs=(x*c+dot xs (cs.take xs.length))+dot ys (cs.drop xs.length);rw[Yc xs ys cs (by simpa using h),Gi]
theorem ace(x s:Int):∀(q:List Int) (k:Nat),dot ((List.range' k q.length).map λj=>s*x^j) q=s*(x^k*pv q x)
 |[],k=>by simp[dot,pv]
 |c::q,k=>by
  show s*x^k*c+dot ((List.range' (k+1) q.length).map λj=>s*x^j) q=s*(x^k*(c+x*pv q x));rw[ace x s q (k+1),gZ,iW,iW,bN,bN (x^k)]
theorem zu:∀(l:List (Int×Nat)) (n:Nat),(gF l n).length=aJ l
 |[],_=>rfl
 |(r,m)::t,n=>by
  show(((List.range m).map λj=>r^n*(n:Int)^j)++gF t n).length=m+aJ t;rw[fJ,aG,qI,zu t n]
def pK(r:Int)(m:Nat)(t:List (Int×Nat)):aJ ((r,m)::t)=m+aJ t:=rfl
theorem Sg:∀(l:List (Int×Nat)) (cs:List Int) (n:Nat),cs.length=aJ l->dot (gF l n) cs=bJ (dR l cs) n
 |[],cs,n,h=>by simp[gF,dot,dR,bJ]
 |(r,m)::t,cs,n,h=>by
  rw[pK]at h;show dot (((List.range m).map λj=>r^n*(n:Int)^j)++gF t n) cs=bJ ((r,cs.take m)::dR t (cs.drop m)) n;rw[Yc _ _ _ (by rw[aG,qI];omega),aG,qI,Sg t (cs.drop m) n (by rw[lJ];omega)];have lt:(cs.take m).length=m:=by rw[jl];omega
  have e:=ace (n:Int) (r^n) (cs.take m) 0;rw[lt,oB,gM]at e;rw[List.range_eq_range',e];simp[bJ]
theorem uL:∀(l:List (Int×Nat)) (cs:List Int),cs.length=aJ l->∀p∈dR l cs,(p.1,p.2.length)∈l
 |(r,m)::t,cs,h,p,hp=>by
  rw[pK]at h;rcases cj.mp hp with rfl|hp
  .have lt:(cs.take m).length=m:=by rw[jl];omega
   show(r,(cs.take m).length)∈_;rw[lt];exact cQ ..
  .exact dg _ (uL t (cs.drop m) (by rw[lJ];omega) p hp)
theorem D9:∀(l:List (Int×Nat)) (cs:List Int),(dR l cs).map (·.1)=l.map (·.1)
 |[],_=>rfl
 |(r,m)::t,cs=>by
  show r::(dR t (cs.drop m)).map (·.1)=r::t.map (·.1);rw[D9 t]
theorem aex:∀(l:List (Int×Nat)) (cs:List Int),cs.length=aJ l->(∀p∈dR l cs,∀c∈p.2,c=0)->∀c∈cs,c=0
 |[],cs,h,_,c,hc=>by
  have:cs=[]:=ZV.mp h;rw[this]at hc;cases hc
 |(r,m)::t,cs,h,hz,c,hc=>by
  rw[pK]at h;rw[<-Mt m cs]at hc;rcases eV.mp hc with hc|hc
  .exact hz (r,cs.take m) (cQ ..) c hc
  .exact aex t (cs.drop m) (by rw[lJ];omega) (λp hp=>hz p (dg _ hp)) c hc
def Dt(ps:List (Int×List Int)):List Tm:=ps.map λp=>(p.1,p.2.length,λn:Nat=>p.1^n*pv p.2 (n:Int))
def ajJ(ps:List (Int×List Int)):∀t∈Dt ps,W t.1 t.2.1 t.2.2:=λt ht=>by
 obtain⟨p,_,rfl⟩:=cM.mp ht;exact W.of_pf p.1 (GB p.2)
def aho(ps:List (Int×List Int))(n:Nat):j4 (Dt ps) n=bJ ps n:=by
 unfold j4 bJ Dt;rw[fj];rfl
def apL{ps:List (Int×List Int)}(hd:(ps.map (·.1)).Nodup)(h0:∀p∈ps,p.1≠0)(h:∀n,bJ ps n=0):∀p∈ps,∀c∈p.2,c=0:=λp hp=>by
 have:=indep _ (Dt ps) (aN _) (by unfold Dt;rw[fj];exact hd) (ajJ ps) (λn=>by rw[aho];exact h n) _ (mX (f:=λp:Int×List Int=>((p.1,p.2.length,λn:Nat=>p.1^n*pv p.2 (n:Int)):Tm)) hp);refine Ey p.2 0 λn _=>?_;have e:=this n;rcases kI.mp e with z|z
 .exact absurd z (Hi (h0 p hp) n)
 .exact z
theorem D5:∀(ps:List (Int×List Int)) (l:List (Int×Nat)),(∀p∈ps,(p.1,p.2.length)∈l)->∀n,ks (RP l [1]) (bJ ps) n=0
 |[],l,_,n=>by
  refine jo λk _=>?_;show _*(0:Int)=0;rw[aR]
 |p::ps,l,h,n=>by
  have e:bJ (p::ps)=λn:Nat=>p.1^n*pv p.2 (n:Int)+bJ ps n:=funext λn=>by simp[bJ]
  have e2:ks (RP l [1]) (bJ (p::ps)) n=ks (RP l [1]) (λn:Nat=>p.1^n*pv p.2 (n:Int)) n+ks (RP l [1]) (bJ ps) n:=by
   rw[e];unfold ks;rw[<-iy];exact aP λk _=>iW ..
  rw[e2,W.keep l (h p (cQ ..)) (W.of_pf p.1 (GB p.2)) n,D5 ps l (λq hq=>h q (dg _ hq)) n];rfl
def ahS{l:List (Int×Nat)}(hd:(l.map (·.1)).Nodup)(h0:∀x∈l,x.1≠0)(hm:Mon (RP l [1]))(hl:(RP l [1]).length=aJ l+1){cs:List Int}(hc:cs.length=aJ l)(h:∀n,n<aJ l->dot (gF l n) cs=0):∀c∈cs,c=0:=by
 have hz:∀n,bJ (dR l cs) n=0:=aaA hm (D5 _ l (uL l cs hc)) λn hn=>by
  rw[hl,dY]at hn;rw[<-Sg l cs n hc];exact h n hn
 exact aex l cs hc (apL (by rw[D9];exact hd) (λp hp=>h0 _ (uL l cs hc p hp)) hz)
def atk{l:List (Int×Nat)}(hm:Mon (RP l [1]))(hl:(RP l [1]).length=aJ l+1){cs:List Int}(hc:cs.length=aJ l){f:Nat->Int}{D:Int}(hk:∀n,ks (RP l [1]) f n=0)(h:∀n,n<aJ l->dot (gF l n) cs=D*f n)(n:Nat):bJ (dR l cs) n=D*f n:=by
 have key:∀n,(λn=>bJ (dR l cs) n+(-D)*f n) n=0:=aaA hm (λn=>by
  have e:ks (RP l [1]) (λn=>bJ (dR l cs) n+(-D)*f n) n=ks (RP l [1]) (bJ (dR l cs)) n+(-D)*ks (RP l [1]) f n:=by
   unfold ks;rw[<-dj,<-iy];exact aP λk _=>by rw[iW,gj]
  rw[e,D5 _ l (uL l cs hc),hk,aR];rfl) λn hn=>by
  rw[hl,dY]at hn;show bJ (dR l cs) n+(-D)*f n=0;rw[<-Sg l cs n hc,h n hn,iY];omega
 have:=key n;simp only at this;rw[iY]at this;omega
end Cf
namespace Cf
open Pm Rm
def dZ:List Int->List Int
 |[]=>[1]
 |r::t=>mul 0 (dZ t) (Pm.lin r)
def nY:List (Int×Nat)->List Int
 |[]=>[]
 |(r,m)::t=>List.replicate m r++nY t
theorem aa9(r:Int)(t:List Int):∀m,dZ (List.replicate m r++t)=cN r m (dZ t)
 |0=>rfl
 |m+1=>by
  show mul 0 (dZ (List.replicate m r++t)) (Pm.lin r)=mul 0 (cN r m (dZ t)) (Pm.lin r);rw[aa9 r t m]
theorem Aj:∀l,RP l [1]=dZ (nY l)
 |[]=>rfl
 |(r,m)::t=>by
  show cN r m (RP t [1])=dZ (List.replicate m r++nY t);rw[aa9,Aj t]
theorem RN:∀l,(nY l).length=aJ l
 |[]=>rfl
 |(r,m)::t=>by rw[pK,<-RN t,nY,fJ,abL]
theorem Fx{x:Int}:∀{l:List (Int×Nat)},x∈nY l↔∃m,(x,m)∈l/\0<m
 |[]=>by simp[nY]
 |(r,m)::t=>by
  rw[nY,eV,List.mem_replicate,Fx (l:=t)];constructor
  .rintro(⟨h1,rfl⟩|⟨k,h1,h2⟩)
   .exact⟨m,cQ ..,by omega⟩
   .exact⟨k,dg _ h1,h2⟩
  .rintro⟨k,h1,h2⟩;rcases cj.mp h1 with e|h1
   .cases e;exact .inl ⟨by omega,rfl⟩
   .exact .inr ⟨k,h1,h2⟩
theorem yI:∀rs,Mon (dZ rs)/\(dZ rs).length=rs.length+1
 |[]=>⟨rY,rfl⟩
 |r::t=>by
  obtain⟨h1,h2⟩:=yI t;have:=Dj (r:=r) h1 1;refine⟨this.1,?_⟩;have e:(cN r 1 (dZ t)).length=(dZ t).length+1:=this.2;rw[h2]at e;exact e
def qW(l:List (Int×Nat)):Mon (RP l [1])/\(RP l [1]).length=aJ l+1:=by
 rw[Aj];have:=yI (nY l);rw[RN]at this;exact this
def Jj(p q:List Int)(x:Int):ev (mul 0 p q) x=ev p x*ev q x:=KJ x q p _ λk=>JN p q k
def K8(r x:Int):ev (Pm.lin r) x=x-r:=by
 show ev [0-r,1] x=_;rw[NT,DQ];omega
theorem xX{x:Int}:∀{rs:List Int},ev (dZ rs) x=0↔x∈rs
 |[]=>by
  show ev [1] x=0↔_;rw[DQ];simp
 |r::t=>by
  show ev (mul 0 (dZ t) (Pm.lin r)) x=0↔_;rw[Jj,K8,kI,xX (rs:=t),cj];constructor
  .rintro(h|h)
   .exact .inr h
   .exact .inl (by omega)
  .rintro(h|h)
   .exact .inr (by omega)
   .exact .inl h
def MB{L:List Int}{r:Int}(hL:Mon L)(h:ev L r=0):∃q,Mon q/\q=gW L r/\L=mul 0 q (Pm.lin r):=by
 have h2:2<=L.length:=by
  by_cases c:2<=L.length
  .exact c
  .exact absurd (by rw[Jl,h]) (JT hL (by omega) r)
 obtain⟨m1,l1⟩:=G5 (r:=r) hL h2;have D:=QB L r;rw[Jl,h]at D;have B:=D.back (Mon.mV hL);have e:trim [(0:Int)]=[]:=rfl;rw[e,Pm.add_comm,nil_add (pA ..)]at B;exact⟨_,m1,rfl,B.symm⟩
def Ui{p q:List Int}{r:Int}(hp:Py 0 p)(hq:Py 0 q)(h:mul 0 p (Pm.lin r)=mul 0 q (Pm.lin r)):p=q:=
 ((Div.lin r hp).uniq (C0 r) (h▸Div.lin r hq)).1
def TJ{L:List Int}(h:Mon L)(h1:L.length=1):L=[1]:=by
 have:=h.one
 match L,h1 with
 |[x],_=>have e:x=1:=this;rw[e]
def Sd{L S:List Int}(hL:Mon L)(hS:Mon S):Mon (mul 0 L S)/\(mul 0 L S).length+1=L.length+S.length:=by
 obtain⟨e,m,l⟩:=E8 hL hS;rw[<-e];refine⟨m,?_⟩;have:=hL.pos;omega
theorem CT:∀(rs:List Int) {L S:List Int},Mon L->Mon S->mul 0 L S=dZ rs->∃rs',rs'.Sublist rs/\L=dZ rs'
 |[],L,S,hL,hS,e=>by
  have l:=(Sd hL hS).2;have:=hL.pos;have:=hS.pos;rw[e]at l;exact⟨[],.slnil,TJ hL (by simp[dZ]at l;omega)⟩
 |r::rs,L,S,hL,hS,e=>by
  have z:ev L r*ev S r=0:=by
   rw[<-Jj,e];exact xX.mpr (cQ ..)
  have e':mul 0 L S=mul 0 (dZ rs) (Pm.lin r):=e;rcases kI.mp z with z|z
  .obtain⟨q,hq,_,eq⟩:=MB hL z;have:mul 0 q S=dZ rs:=Ui (pA ..) (Mon.mV (yI rs).1) (by rw[<-e',yH,Pm.mul_comm 0 S,<-yH,<-eq]);obtain⟨rs',h1,h2⟩:=CT rs hq hS this;exact⟨r::rs',h1.cons_cons r,by rw[eq,h2];rfl⟩
  .obtain⟨q,hq,_,eq⟩:=MB hS z;have:mul 0 L q=dZ rs:=Ui (pA ..) (Mon.mV (yI rs).1) (by rw[<-e',yH,<-eq]);obtain⟨rs',h1,h2⟩:=CT rs hL hq this;exact⟨rs',h1.cons r,h2⟩
def asU{rs:List Int}:∃l:List (Int×Nat),(wr (dZ rs)).1=l.map gh/\(wr (dZ rs)).2=[1]/\dZ rs=RP l [1]/\(l.map (·.1)).Pairwise (· < ·)/\(∀x∈l,0<x.2)/\∀x∈l,x.1∈rs:=by
 obtain⟨l,h1,h2,h3,h4,h5,h6,_⟩:=LV (yI rs).1;have e1:=CM (wr (dZ rs)).2 l [1];rw[Pm.one_mul (Mon.mV h6),<-h2]at e1;obtain⟨rs',_,er⟩:=CT rs h6 (uK l rY).1 (by rw[Pm.mul_comm];exact e1);have e2:(wr (dZ rs)).2=[1]:=by
  cases rs' with
  |nil=>exact er
  |cons r t=>exact absurd (by rw[er];exact xX.mpr (cQ ..)) (h3 r)
 rw[e2]at h2;refine⟨l,h1,e2,h2,h4,h5,λx hx=>?_⟩;rw[<-xX,h2,Aj,xX,Fx];exact⟨x.2,hx,h5 x hx⟩
def aoG(q:List Int)(r:Int)(k:Nat):co (mul 0 q (Pm.lin r)) k=(if k=0 then 0 else co q (k-1))-r*co q k:=by
 rw[JN,Gf]
theorem OD:∀{rs:List Int},(∀r∈rs,r.natAbs<=4)->∀k,(co (dZ rs) k).natAbs<=5^rs.length
 |[],_,k=>by
  cases k with
  |zero=>exact aN 1
  |succ k=>show(co [] k).natAbs<=_;rw[fL];exact cJ _
 |r::t,h,k=>by
  have ih:=OD (rs:=t) λx hx=>h x (dg _ hx);have hr:=h r (cQ ..);show(co (mul 0 (dZ t) (Pm.lin r)) k).natAbs<=_;rw[aoG,gP,zZ];have a:(if k=0 then(0:Int)else co (dZ t) (k-1)).natAbs<=5^t.length:=by
   split
   .exact cJ _
   .exact ih _
  have b:(r*co (dZ t) k).natAbs<=4*5^t.length:=by rw[mU];exact jh hr (ih k)
  omega
def aib{P L S:List Int}(hP:Mon P)(h4:P.length<=4)(hs:∀x∈P,x.natAbs<=4)(hL:Mon L)(hS:Mon S)(e:mul 0 L S=P):∀x∈L,x.natAbs<1000000:=by
 have hl:=(Sd hL hS).2;rw[e]at hl;have pL:=hL.pos;have pS:=hS.pos;have rt:∀r,ev P r=0->r.natAbs<=4:=λr hr=>by
  have hlow:(Pm.gH P).natAbs<=4:=by
   unfold Pm.gH;cases e:P.filter λx=>decide (x≠0)with
   |nil=>decide
   |cons y ys=>exact hs y (rJ.mp (e▸cQ ..:y∈P.filter λx=>decide (x≠0))).1
  have hm:∀x∈Pm.divs (Pm.gH P).natAbs,0<x/\x<=4:=Pm.wX _ (by omega) _ _ _ _ (by decide) (λx hx=>(gR hx).elim) (λx hx=>(gR hx).elim);have hz:=aby hP hr;unfold Pm.cands at hz;rcases eV.mp hz with hz|hz
  .rcases eV.mp hz with hz|hz
   .obtain⟨y,hy,rfl⟩:=cM.mp hz;have:=hm y (pX.mp hy);omega
   .rw[cP.mp hz];decide
  .have:=hm r hz;omega
 have adp:∀{M:List Int},Mon M->M.length=2->M=Pm.lin (0-co M 0):=λ{M} hM h2=>by
  have o:=hM.one
  match M,h2 with
  |[x,y],_=>
   have e:y=1:=o;rw[e];show[x,1]=[0-(0-x),1];rw[show 0-(0-x)=x by omega]
 by_cases c1:S.length=1
 .rw[TJ hS c1,Pm.mul_one (Mon.mV hL)]at e;rw[e];exactλx hx=>by have:=hs x hx;omega
 by_cases c2:S.length=2
 .obtain⟨r,hr⟩:∃r,r=0-co S 0:=⟨_,rfl⟩;have es:=adp hS c2;rw[<-hr]at es;have hz:ev P r=0:=by rw[<-e,Jj,es,K8];simp
  obtain⟨q,hq,eq,ep⟩:=MB hP hz;have:L=q:=Ui (r:=r) (Mon.mV hL) (Mon.mV hq) (by rw[<-ep,<-es];exact e);rw[this,eq];intro x hx;have BR:=rt r hz;have b:=Pm.PL (u:=3) (v:=3) (r:=r) (Bd.of (by omega) (by omega)) (p:=P) (λy hy=>by have:=hs y hy;exact Bd.of (by omega) (by omega)) x hx;have b2:Bd 19 x:=b.mono (by omega);unfold Bd at b2;omega
 by_cases c3:L.length=1
 .rw[TJ hL c3];intro x hx;rw[cP.mp hx];decide
 have c4:L.length=2:=by omega
 obtain⟨r,hr⟩:∃r,r=0-co L 0:=⟨_,rfl⟩;have es:=adp hL c4;rw[<-hr]at es;have hz:ev P r=0:=by rw[<-e,Jj,es,K8];simp
 have BR:=rt r hz;rw[es];intro x hx;rcases cj.mp hx with rfl|hx
 .omega
 .rw[cP.mp hx];decide
theorem yE:∀(q:List Int) (x:Int),pv q x=ev q x
 |[],_=>rfl
 |c::q,x=>by rw[NT,<-yE q x];rfl
def am8{q:List Int}(h0:co q (q.length-1)=0)(x:Int):pv q.dropLast x=pv q x:=by
 by_cases c:q=[]
 .subst c;rfl
 .have e:=OG c;rw[h0]at e;rw[yE,yE]
  conv=>rhs;rw[e]
  unfold ev;rw[fJ,Mx];show _=sm q.dropLast.length (λk=>co (q.dropLast++[0]) k*x^k)+co (q.dropLast++[0]) q.dropLast.length*x^q.dropLast.length;rw[mK,if_neg (jK _),qT,fH,fU,cU];exact aP λk hk=>by rw[mK,if_pos hk]
theorem Vc{α:Type}:∀{ps:List (Int×α)},(ps.map (·.1)).Nodup->∀{p q:Int×α},p∈ps->q∈ps->p.1=q.1->p=q
 |[],_,_,_,hp,_,_=>by cases hp
 |a::t,hd,p,q,hp,hq,e=>by
  rw[dz,qx]at hd;rcases cj.mp hp with z|hp'<;>rcases cj.mp hq with y|hq'
  .rw[z,y]
  .exact absurd (by rw[<-z,e];exact mX hq') hd.1
  .exact absurd (by rw[<-y,<-e];exact mX hp') hd.1
  .exact Vc hd.2 hp' hq' e
theorem W0{α:Type}(f g:α->Nat):∀{l:List α},(∀x∈l,f x<=g x)->(∃x∈l,f x<g x)->(l.map f).sum<(l.map g).sum
 |[],_,⟨_,h,_⟩=>by cases h
 |a::t,h,⟨x,hx,hl⟩=>by
  rw[dz,dz,jg,jg];have ha:=h a (cQ ..);have le:(t.map f).sum<=(t.map g).sum:=by
   have ht:∀x∈t,f x<=g x:=λx hx=>h x (dg _ hx);clear h hx hl ha;induction t with
   |nil=>exact aN _
   |cons b t ih=>
    rw[dz,dz,jg,jg];have:=ht b (cQ ..);have:=ih λx hx=>ht x (dg _ hx);omega
  rcases cj.mp hx with rfl|hx
  .omega
  .have:=W0 f g (λx hx=>h x (dg _ hx)) ⟨x,hx,hl⟩;omega
theorem Di:∀(l:List (Int×Nat)) (cs:List Int),cs.length=aJ l->(dR l cs).map (λp=>(p.1,p.2.length))=l
 |[],_,_=>rfl
 |(r,m)::t,cs,h=>by
  rw[pK]at h;show(r,(cs.take m).length)::(dR t (cs.drop m)).map _=_;rw[Di t _ (by rw[lJ];omega),jl,CV (by omega)]
def amN{f:Nat->Int}{ps:List (Int×List Int)}{N:Nat}{bot:Int}(hN:(ps.map λp=>p.2.length).sum=N)(hmin:∀q,Mon q->Kp 0 q f->N+1<=q.length)(hd:(ps.map (·.1)).Nodup)(hb:bot≠0)(h:∀n,bJ ps n=bot*f n):∀p∈ps,p.2≠[]->co p.2 (p.2.length-1)≠0:=λp hp hne h0=>by
 let F:Int×List Int->Int×List Int:=λx=>if x.1=p.1 then(x.1,x.2.dropLast)else x
 have eS:∀n,bJ (ps.map F) n=bJ ps n:=λn=>by
  unfold bJ;rw[fj];congr 1;refine wj λx hx=>?_;show(F x).1^n*pv (F x).2 (n:Int)=_;by_cases c:x.1=p.1
  .have:=Vc hd hx hp c;subst this;simp only[F,if_true];rw[am8 h0]
  .simp only[F,if_neg c]
 have m1:=qW ((ps.map F).map λp=>(p.1,p.2.length));have k1:=D5 (ps.map F) ((ps.map F).map λp=>(p.1,p.2.length)) λx hx=>mX (f:=λp:Int×List Int=>(p.1,p.2.length)) hx;have kf:Kp 0 (RP ((ps.map F).map λp=>(p.1,p.2.length)) [1]) f:=λn=>by
  have:=k1 n;rw[show bJ (ps.map F)=λn=>bot*f n from funext λn=>by rw[eS,h]]at this;have e:∀q,ks q (λn=>bot*f n) n=bot*ks q f n:=λq=>by
   unfold ks;rw[<-dj];exact aP λk _=>gj ..
  rw[e]at this;rw[bh];rcases kI.mp this with z|z
  .exact absurd z hb
  .exact z
 have lt:=hmin _ m1.1 kf;rw[m1.2]at lt;unfold aJ at lt;rw[fj,fj]at lt;have s:=W0 (λx=>(F x).2.length) (λx=>x.2.length) (l:=ps) (λx _=>by
  show(F x).2.length<=_;by_cases c:x.1=p.1
  .simp only[F,if_pos c,GV];omega
  .simp only[F,if_neg c];exact aN _) ⟨p,hp,by
  show(F p).2.length<_;simp only[F,if_true,GV];have:=vW.mpr hne;omega⟩
 rw[hN]at s;have:(((λx:Int×Nat=>x.2)∘λp:Int×List Int=>(p.1,p.2.length))∘F)=λx=>(F x).2.length:=rfl;rw[this]at lt;omega
def val(ps:List (Int×List Int))(r:Int)(n:Nat):Int:=(ps.map λp=>if p.1=r then p.1^n*pv p.2 (n:Int)else 0).sum
def Jg(p:Int×List Int)(ps:List (Int×List Int))(r:Int)(n:Nat):val (p::ps) r n=(if p.1=r then p.1^n*pv p.2 (n:Int)else 0)+val ps r n:=by simp[val]
theorem Ug{M:Nat}(r:Int):∀{ps:List (Int×List Int)},(∀p∈ps,p.2.length<=M)->W r M (val ps r)
 |[],_=>W.zero λ_=>rfl
 |p::ps,h=>by
  rw[show val (p::ps) r=λn:Nat=>(if p.1=r then p.1^n*pv p.2 (n:Int)else 0)+val ps r n from funext λn=>Jg ..];refine W.add ?_ (Ug r λq hq=>h q (dg _ hq));by_cases c:p.1=r
  .rw[show(λn:Nat=>if p.1=r then p.1^n*pv p.2 (n:Int)else 0)=λn:Nat=>p.1^n*pv p.2 (n:Int)from funext λn=>if_pos c,c];exact(W.of_pf r (GB p.2)).le (h p (cQ ..))
  .exact W.zero λn=>if_neg c
theorem JZ{r:Int}{n:Nat}:∀{ps:List (Int×List Int)},(∀p∈ps,p.1≠r)->val ps r n=0
 |[],_=>rfl
 |p::ps,h=>by rw[Jg,if_neg (h p (cQ ..)),JZ λq hq=>h q (dg _ hq)];rfl
theorem Hw{n:Nat}:∀{ps:List (Int×List Int)} {p:Int×List Int},(ps.map (·.1)).Nodup->p∈ps->val ps p.1 n=p.1^n*pv p.2 (n:Int)
 |q::ps,p,hd,hp=>by
  rw[dz,qx]at hd;rw[Jg];rcases cj.mp hp with rfl|hp
  .rw[if_pos rfl,JZ λx hx z=>hd.1 (by rw[<-z];exact mX hx),cU]
  .rw[if_neg λz=>hd.1 (by rw[z];exact mX hp),Hw hd.2 hp,gC]
theorem ZL{x:Int}{a:Int}:∀{R:List Int},R.Nodup->a∈R->(R.map λr=>if a=r then x else 0).sum=x
 |r::R,hd,h=>by
  rw[qx]at hd;rw[dz,jg];by_cases c:a=r
  .rw[if_pos c];have z:∀{T:List Int},a∉T->(T.map λr=>if a=r then x else 0).sum=0:=λ{T} hT=>by
    induction T with
    |nil=>rfl
    |cons b T ih=>rw[dz,jg,if_neg λe=>hT (by rw[e];exact cQ ..),ih λe=>hT (dg _ e)];rfl
   rw[z (c▸hd.1)];omega
  .rw[if_neg c,ZL hd.2 ((cj.mp h).resolve_left c)];omega
theorem Ku{R:List Int}(hR:R.Nodup)(n:Nat):∀{ps:List (Int×List Int)},(∀p∈ps,p.1∈R)->(R.map λr=>val ps r n).sum=bJ ps n
 |[],_=>by
  have z:∀T:List Int,(T.map λr=>val [] r n).sum=0:=λT=>by
   induction T with
   |nil=>rfl
   |cons b T ih=>rw[dz,jg,ih];rfl
  rw[z];rfl
 |p::ps,h=>by
  have e:∀T:List Int,(T.map λr=>val (p::ps) r n).sum=(T.map λr=>if p.1=r then p.1^n*pv p.2 (n:Int)else 0).sum+(T.map λr=>val ps r n).sum:=λT=>by
   induction T with
   |nil=>rfl
   |cons b T ih=>rw[dz,jg,ih,Jg,dz,jg,dz,jg];omega
  rw[e,ZL hR (h p (cQ ..)),Ku hR n λq hq=>h q (dg _ hq)];simp[bJ]
def atj{a b:List Int}(ha:co a (a.length-1)≠0)(hb:co b (b.length-1)≠0)(h:∀n:Nat,pv a (n:Int)=pv b (n:Int)):a=b:=by
 have key:∀k,co a k=co b k:=λk=>by
  have z:=Ey (aH (max a.length b.length) λk=>co a k-co b k) 0 λn _=>by
   have e1:=nU (p:=a) (n:=max a.length b.length) (by omega) (n:Int);have e2:=nU (p:=b) (n:=max a.length b.length) (by omega) (n:Int);have e3:=nU (p:=aH (max a.length b.length) λk=>co a k-co b k) (n:=max a.length b.length) (by rw[bG];omega) (n:Int);rw[yE,<-e3,aP (g:=λk=>co a k*(n:Int)^k+(-1)*(co b k*(n:Int)^k)) λk hk=>by rw[dw,if_pos hk,mj];omega,iy,dj,e1,e2,<-yE,<-yE,h n];omega
  by_cases c:k<max a.length b.length
  .have:=z (co a k-co b k) (by
    have:co (aH (max a.length b.length) λk=>co a k-co b k) k=co a k-co b k:=by rw[dw,if_pos c]
    rw[<-this];exact pN (by rw[bG];exact c))
   omega
  .rw[aY (by omega),aY (by omega)]
 have ta:=vq (p:=a) (λz=>ha (by rw[z];rfl)) ha;have tb:=vq (p:=b) (λz=>hb (by rw[z];rfl)) hb;rw[<-ta,<-tb];exact zp key
def aiw{α:Type}{ps qs:List (Int×α)}(sp:(ps.map (·.1)).Pairwise (· < ·))(sq:(qs.map (·.1)).Pairwise (· < ·))(h1:∀p∈ps,p∈qs)(h2:∀q∈qs,q∈ps):ps=qs:=by
 induction ps generalizing qs with
 |nil=>
  cases qs with
  |nil=>rfl
  |cons q qs=>exact absurd (h2 q (cQ ..)) gR
 |cons p ps ih=>
  cases qs with
  |nil=>exact absurd (h1 p (cQ ..)) gR
  |cons q qs=>
   rw[dz,List.pairwise_cons]at sp sq;have lp:∀x∈ps,p.1<x.1:=λx hx=>sp.1 _ (mX hx);have lq:∀x∈qs,q.1<x.1:=λx hx=>sq.1 _ (mX hx);have e:p=q:=by
    rcases cj.mp (h1 p (cQ ..))with e|e
    .exact e
    .rcases cj.mp (h2 q (cQ ..))with e'|e'
     .exact e'.symm
     .have:=lq p e;have:=lp q e';omega
   subst e;rw[ih sp.2 sq.2 (λx hx=>(cj.mp (h1 x (dg _ hx))).resolve_left λz=>by
     have:=lp x hx;rw[z]at this;omega) (λx hx=>(cj.mp (h2 x (dg _ hx))).resolve_left λz=>by
     have:=lq x hx;rw[z]at this;omega)]
def yw{l:List Int}(h:l.Pairwise (· < ·)):l.Nodup:=h.imp λh=>by omega
def abE{R:List Int}(hR:R.Nodup)(h0:∀r∈R,r≠0){ps qs:List (Int×List Int)}(hp:∀p∈ps,p.1∈R)(hq:∀q∈qs,q.1∈R)(dp:(ps.map (·.1)).Nodup)(dq:(qs.map (·.1)).Nodup)(lp:∀p∈ps,co p.2 (p.2.length-1)≠0)(lq:∀p∈qs,co p.2 (p.2.length-1)≠0)(h:∀n,bJ ps n=bJ qs n):∀p∈ps,p∈qs:=λp hpm=>by
 obtain⟨M,SD,hM2⟩:∃M,(∀p∈ps,p.2.length<=M)/\∀p∈qs,p.2.length<=M:=by
  have k:∀(l:List (Int×List Int)),∃M,∀p∈l,p.2.length<=M:=λl=>by
   induction l with
   |nil=>exact⟨0,λp hp=>by cases hp⟩
   |cons a l ih=>
    obtain⟨M,hM⟩:=ih;refine⟨max a.2.length M,λp hp=>?_⟩;rcases cj.mp hp with rfl|hp
    .omega
    .have:=hM p hp;omega
  obtain⟨A,hA⟩:=k ps;obtain⟨B,hB⟩:=k qs;exact⟨max A B,λp hp=>by have:=hA p hp;omega,λp hp=>by have:=hB p hp;omega⟩
 have key:=indep _ (R.map λr=>((r,M,λn=>val ps r n+(-1)*val qs r n):Tm)) (aN _) (by rw[fj];exact(by rw[show((λt:Tm=>t.1)∘λr:Int=>((r,M,λn=>val ps r n+(-1)*val qs r n):Tm))=id from rfl,J4];exact hR)) (λt ht=>by
  obtain⟨r,_,rfl⟩:=cM.mp ht;exact W.add (Ug r SD) (W.mul (-1) (Ug r hM2))) (λn=>by
  have e:∀T:List Int,j4 (T.map λr=>((r,M,λn=>val ps r n+(-1)*val qs r n):Tm)) n=(T.map λr=>val ps r n).sum+(-1)*(T.map λr=>val qs r n).sum:=λT=>by
   induction T with
   |nil=>rfl
   |cons b T ih=>rw[dz,sE,ih,dz,jg,dz,jg,iW];simp only;omega
  rw[e,Ku hR n hp,Ku hR n hq,h n];omega) (p.1,M,λn=>val ps p.1 n+(-1)*val qs p.1 n) (mX (f:=λr=>((r,M,λn=>val ps r n+(-1)*val qs r n):Tm)) (hp p hpm))
 have key:∀n,val ps p.1 n+(-1)*val qs p.1 n=0:=key;have r0:=h0 _ (hp p hpm);by_cases c:∃q∈qs,q.1=p.1
 .obtain⟨q,BH,eq⟩:=c;have e2:p.2=q.2:=atj (lp p hpm) (lq q BH) λn=>by
   have:=key n;rw[Hw dp hpm,<-eq,Hw dq BH,eq]at this;have:p.1^n*pv p.2 (n:Int)=p.1^n*pv q.2 (n:Int):=by omega
   exact acJ (Hi r0 n) this
  have:p=q:=Prod.ext eq.symm e2;rw[this];exact BH
 .exfalso
  have hz:=Ey p.2 0 λn _=>by
   have:=key n;rw[Hw dp hpm,JZ λq BH z=>c ⟨q,BH,z⟩,aR,cU]at this;rcases kI.mp this with z|z
   .exact absurd z (Hi r0 n)
   .exact z
  by_cases l:0<p.2.length
  .exact lp p hpm (hz _ (pN (by omega)))
  .exact lp p hpm (aY (by omega))
def akJ{R:List Int}(hR:R.Nodup)(h0:∀r∈R,r≠0){ps qs:List (Int×List Int)}(hp:∀p∈ps,p.1∈R)(hq:∀q∈qs,q.1∈R)(sp:(ps.map (·.1)).Pairwise (· < ·))(sq:(qs.map (·.1)).Pairwise (· < ·))(lp:∀p∈ps,co p.2 (p.2.length-1)≠0)(lq:∀p∈qs,co p.2 (p.2.length-1)≠0)(h:∀n,bJ ps n=bJ qs n):ps=qs:=
 aiw sp sq (abE hR h0 hp hq (yw sp) (yw sq) lp lq h) (abE hR h0 hq hp (yw sq) (yw sp) lq lp λn=>(h n).symm)
end Cf
namespace Cf
open Pm Rm Dm
theorem aai:∀{xs cs:List Int},xs.length=cs.length->dot xs cs=sm cs.length λk=>co xs k*co cs k
 |[],[],_=>rfl
 |x::xs,c::cs,h=>by
  show x*c+dot xs cs=_;rw[aai (by simpa using h),gP,nW];rfl
def qj(l:List (Int×Nat)):List (List Int):=(List.range (aJ l)).map (gF l)
def FZ(l:List (Int×Nat)):(qj l).length=aJ l:=by rw[qj,aG,qI]
def Ji{l:List (Int×Nat)}{i:Nat}(hi:i<aJ l):ln (qj l) i=gF l i:=by
 unfold ln qj;rw[dh,jV,B5 hi];rfl
section
variable {l:List (Int×Nat)} {ws:List Int}
def abd{x:Nat->Int}{n:Nat}(hn:n<aJ l):sm (aJ l) (λk=>aug 0 (qj l) ws n k*x k)=dot (gF l n) (aH (aJ l) x):=by
 rw[aai (by rw[zu,bG]),bG];refine aP λk hk=>?_;rw[agT (by rw[FZ];exact hn) (by rw[Ji hn];exact zu l n) hk,Ji hn,bh,dw,if_pos hk]
def ahP(hd:(l.map (·.1)).Nodup)(h0:∀x∈l,x.1≠0):sI 0 (aJ l) (aJ l) (aug 0 (qj l) ws):=λx hx k hk=>by
 have z:=ahS hd h0 (qW l).1 (qW l).2 (cs:=aH (aJ l) x) (bG ..) λn hn=>by
  have:=hx n hn
  rwa [bh,abd hn]at this
 rw[bh];have e:co (aH (aJ l) x) k=x k:=by rw[dw,if_pos hk]
 rw[<-e];exact z _ (pN (by rw[bG];exact hk))
def auq{N:Nat}{A:Nat->Nat->Int}(hI:sI 0 N N A):∃x bt,tk 0 bt≠0/\gO 0 N N A x bt:=by
 refine uJ λhn=>atA Dom.zero (by decide) (C6 N) A λx hx k hk=>?_;by_cases c:x N=0
 .have r:Rel 0 N N A x:=λi hi=>by
   have:=hx i hi;rw[sm,c,aR,cU]at this;exact this
  by_cases e:k=N
  .rw[e,c,bh]
  .exact hI x r k (by omega)
 .refine absurd ⟨x,-(x N),by rw[bh];omega,gO.rel.mpr ?_⟩ hn;refineλi hi=>?_;refine(congrArg (tk 0) (aP λj _=>?_)).trans (hx i hi);show A i j*(if j=N then - -x N else x j)=A i j*x j;by_cases e:j=N
  .rw[if_pos e,e,BJ]
  .rw[if_neg e]
def anK{us:List Int}{bot:Int}{f:Nat->Int}(hl:us.length=aJ l)(hw:∀n,n<aJ l->co ws n=f n)(hS:gO 0 (aJ l) (aJ l) (aug 0 (qj l) ws) (co us) bot)(n:Nat)(hn:n<aJ l):dot (gF l n) us=bot*f n:=by
 have:=hS n hn;rw[bh,bh,abd hn,akO (by rw[FZ];exact hn) (by rw[Ji hn];exact zu l n),bh,hw n hn]at this;rw[<-this];congr 1;rw[<-hl,Tq]
end
theorem uw{x:Int}{n:Nat}(h:Bd n x):∀k:Nat,Bd (n*k+1) (x^k)
 |0=>by rw[oB];exact(Bd.of (n:=1) (by decide) (by decide)).mono (by omega)
 |k+1=>by
  rw[gZ];exact((uw h k).mul h).mono (by rw[Nat.mul_succ];omega)
end Cf
namespace K60
open PySem L2
seal PA PE PS jM PT PW PI PG yL PO yG
def top(i:Nat):Stmt:=PySem.Challenge.pw_nextbyrule_k60_whole_closed_forms.main.body.getD i (.Pass ⟨0,0,0,0⟩)
abbrev Qc:Stmt:=top 6
abbrev Kw:Stmt:=top 7
abbrev Lp:Stmt:=top 8
abbrev K9:Stmt:=top 9
abbrev PN:Stmt:=top 11
abbrev Oq:Stmt:=top 13
abbrev SV:Stmt:=top 14
abbrev R3:Stmt:=top 15
abbrev MN:Stmt:=top 16
abbrev J5:Stmt:=top 17
abbrev QZ:Stmt:=top 18
abbrev Kd:Stmt:=top 21
abbrev RM:Stmt:=top 22
abbrev N7:Stmt:=top 23
abbrev Lg:Stmt:=top 24
abbrev Q6:Stmt:=top 25
abbrev Oh:Stmt:=top 26
abbrev R7:Stmt:=top 27
abbrev R8:Stmt:=top 29
abbrev Tg:Stmt:=top 30
abbrev K2:Stmt:=top 31
abbrev Uj:Stmt:=top 33
abbrev Qv:Stmt:=top 34
abbrev QY:Stmt:=top 35
abbrev SN:Stmt:=top 36
abbrev LZ:Stmt:=top 37
abbrev Oe:Stmt:=top 38
abbrev Qh:Stmt:=top 39
abbrev Q9:Stmt:=top 40
abbrev R6:Stmt:=top 41
abbrev NV:Stmt:=top 42
abbrev Ra:Stmt:=top 43
abbrev Qp:Stmt:=top 44
abbrev OX:Stmt:=top 47
abbrev Lb:Stmt:=top 48
abbrev QJ:Stmt:=top 49
abbrev NW:Stmt:=top 50
abbrev Tp:Stmt:=top 51
abbrev Kc:Stmt:=top 52
abbrev TR:Stmt:=top 53
abbrev SW:Stmt:=top 54
abbrev La:Stmt:=top 55
abbrev PX:Stmt:=top 57
abbrev Le:Stmt:=top 58
abbrev Nj:Stmt:=top 60
abbrev OL:Stmt:=top 61
abbrev RH:Stmt:=top 62
abbrev MG:Stmt:=top 63
abbrev QX:Stmt:=top 64
abbrev Ss:Stmt:=top 65
abbrev Sv:Stmt:=top 66
abbrev J2:Stmt:=top 67
abbrev ML:Stmt:=top 68
abbrev Rp:Stmt:=top 69
abbrev QW:Stmt:=top 70
abbrev MQ:Stmt:=top 71
abbrev xP:Stmt:=top 72
def Tj:bD ["number","divisor"] ["number"] (aW Qc):=bK
def apn:bD ["by","number"] ["by","number"] (aW Kw):=bK
def xr:bD ["prime","number","power","square","left"] ["prime","number"] (aW Lp):=bK
def aqd:bD ["by","one","other"] ["by","one","other"] (aW K9):=bK
def ajH:bD ["row"] ["row"] (aW PN):=bK
def QK:bD ["numbers","end"] ["numbers"] (aW Oq):=bK
def wM:bD ["by","one","other","top","often","left","shift","factor","k"] ["by","one","other"] (aW SV):=bK
def X5:bD ["prime","poly","last"] ["prime","poly"] (aW R3):=bK
def yW:bD ["by","one","other","great","small","left"] ["by","one","other"] (aW MN):=bK
def Pq:bD ["by","rule","length","numbers"] ["by","rule"] (aW J5):=bK
def Yx:bD ["by","poly","length"] ["by","poly"] (aW QZ):=bK
def M7:bD ["number","found"] ["number"] (aW Kd):=bK
def aq9:bD ["monic_one","poly"] ["monic_one","poly"] (aW RM):=bK
def aoy:bD ["prime","poly"] ["prime","poly"] (aW N7):=bK
def Zi:bD ["modulus","number","rest"] ["modulus","number"] (aW Lg):=bK
def Xh:bD ["modulus","number","prime","rest","more"] ["modulus","number","prime","rest"] (aW Q6):=bK
def mR:bD ["one","other","told","modulus","prime","ripe","seen","before"] ["one","other"] (aW Oh):=bK
def atQ:bD ["by","one","other"] ["by","one","other"] (aW R7):=bK
def zV:bD ["row","poly","by","starts","top","k","parts"] ["row","poly"] (aW R8):=bK
def Fi:bD ["row","by","poly","top"] ["row"] (aW Tg):=bK
def KD:bD ["row","least","rule"] ["row"] (aW K2):=bK
def aeU:bD ["by","line"] ["by","line"] (aW Uj):=bK
def acA:bD ["lines","begin","column","i"] ["lines","begin","column"] (aW Qv):=bK
def acR:bD ["by","lines","at","top","down"] ["by","lines","at","top"] (aW QY):=bK
def Cu:bD ["by","line","head","column","last","pivot","factor","mixed","share"] ["by","line","head","column","last"] (aW SN):=bK
def uI:bD ["by","wide","lines","heads","last","column","top","at","i"] ["by","wide","lines"] (aW LZ):=bK
def Bc:bD ["one","other","great","small","left"] ["one","other"] (aW Oe):=bK
def DY:bD ["by","bottom","tops","top","divisor"] ["by","bottom","tops"] (aW Qh):=bK
def aiP:bD ["by","wide","lines","heads","last","column","free","i"] ["by","wide","lines","heads","last"] (aW Q9):=bK
def vK:bD ["by","wide","table","wished","lines","i","cleared","heads","last","tops","low"] ["by","wide","table","wished"] (aW R6):=bK
def afR:bD ["table","column"] ["table","column"] (aW NV):=bK
def af3:bD ["by","wide","table","wished","turned","goal"] ["by","wide","table","wished"] (aW Ra):=bK
def adF:bD ["by","wide","table","wished","found"] ["by","wide","table","wished"] (aW Qp):=bK
def af0:bD ["poly"] ["poly"] (aW OX):=bK
def Cr:bD ["number","small","great","tried"] ["number"] (aW Lb):=bK
def Fd:bD ["poly","low","above","below"] ["poly"] (aW QJ):=bK
def yg:bD ["poly","root","often","left","tried"] ["poly","root"] (aW NW):=bK
def Ac:bD ["poly","roots","left","root","found"] ["poly"] (aW Tp):=bK
def Fv:bD ["number","exponent","product","turn"] ["number","exponent"] (aW Kc):=bK
def O1:bD ["roots","n","line","pair"] ["roots","n"] (aW TR):=bK
def Ah:bD ["roots","tops","parts","begin","pair","end"] ["roots","tops"] (aW SW):=bK
def yJ:bD ["row","found","roots","length","table","answer"] ["row"] (aW La):=bK
def agf:bD ["_law_script","_law_k"] ["_law_script","_law_k"] (aW PX):=bK
def adZ:bD ["_law_cell","_law_k","_law_number_here"] ["_law_cell","_law_k"] (aW Le):=bK
def auc:bD ["_law_by_here","_law_number_here"] ["_law_by_here","_law_number_here"] (aW Nj):=bK
def apG:bD ["_law_by_here","_law_cell","_law_sort"] ["_law_by_here","_law_cell","_law_sort"] (aW OL):=bK
def sS:bD ["_law_row_here","_law_count","_law_by_here","_law_rule","_law_starts","_law_found","_law_total","_law_k","_law_number_here"] ["_law_row_here","_law_count"] (aW RH):=bK
def wu:bD ["_law_script","_law_start","_law_by_here","_law_most","_law_cell","_law_size","_law_sort","_law_rule","_law_starts"] ["_law_script","_law_start","_law_by_here","_law_most"] (aW MG):=bK
def wG:bD ["_law_row_here","_law_number_here","_law_by_here","_law_rule","_law_starts","_law_low","_law_some"] ["_law_row_here","_law_number_here"] (aW QX):=bK
def adf:bD ["_law_one","_law_other"] ["_law_one","_law_other"] (aW Ss):=bK
def JW:bD ["_law_root","_law_n","_law_found","_law_k"] ["_law_root","_law_n"] (aW Sv):=bK
def CK:bD ["_law_parts_here","_law_n","_law_found","_law_root","_law_tops"] ["_law_parts_here","_law_n"] (aW J2):=bK
def AX:bD ["_law_one","_law_other","_law_found","_law_i","_law_a","_law_j","_law_b"] ["_law_one","_law_other"] (aW ML):=bK
def zW:bD ["_law_script","_law_parts_here","_law_cell","_law_root","_law_tops"] ["_law_script"] (aW Rp):=bK
def vZ:bD ["_law_parts_here","_law_poly","_law_root","_law_tops","_law_top","_law_size","_law_rule"] ["_law_parts_here"] (aW QW):=bK
def uz:bD ["_law_found","_law_some","_law_part","_law_before","_law_root","_law_tops","_law_top","_law_n"] ["_law_found","_law_some"] (aW MQ):=bK
def gQ:bD ["_law_script","_law_cell","_law_parts_here","_law_row_here","_law_number_here","_law_shared","_law_k","_law_some","_law_found","_law_least","_law_roots","_law_rest","_law_poly","_law_root","_law_often","_law_noughts"] ["_law_script"] (aW xP):=bK
abbrev ank:=dH [(".0",.local),("number",.local),("over",.globalImplicit),("last",.cell),("prime",.cell)]
abbrev alh:=dH [(".0",.local),("k",.local),("taken",.globalImplicit),("by",.cell),("length",.cell),("rule",.cell)]
abbrev ahq:=dH [(".0",.local),("k",.local),("taken",.globalImplicit),("by",.cell),("length",.cell),("poly",.cell)]
abbrev arG:=dH [(".0",.local),("number",.local),("taken",.globalImplicit),("prime",.cell)]
abbrev ahd:=dH [(".0",.local),("rest",.local),("nearest",.globalImplicit),("prime",.cell)]
abbrev ahZ:=dH [(".0",.local),("k",.local),("joined",.globalImplicit),("before",.cell),("modulus",.cell),("prime",.cell),("seen",.cell)]
abbrev atd:=dH [(".0",.local),("j",.local),("k",.cell),("poly",.cell),("starts",.cell)]
abbrev aqI:=dH [(".0",.local),("number",.local),("taken",.globalImplicit),("by",.cell)]
abbrev alW:=dH [(".0",.local),("number",.local),("taken",.globalImplicit),("by",.cell)]
abbrev alH:=dH [(".0",.local),("k",.local),("factor",.cell),("head",.cell),("line",.cell),("pivot",.cell)]
abbrev atR:=dH [(".0",.local),("number",.local),("last",.cell)]
abbrev afX:=dH [(".0",.local),("number",.local),("taken",.globalImplicit),("by",.cell),("share",.cell)]
abbrev ar8:=dH [(".0",.local),("top",.local),("over",.globalImplicit),("bottom",.cell),("by",.cell)]
abbrev aqv:=dH [(".0",.local),("top",.local),("divisor",.cell)]
abbrev arC:=dH [(".0",.local),("i",.local),("line_taken",.globalImplicit),("by",.cell),("table",.cell),("wished",.cell)]
abbrev apY:=dH [(".0",.local),("line",.local),("wide",.cell)]
abbrev ago:=dH [(".0",.local),("number",.local),("abs",.globalImplicit),("ABOVE_ALL_NUMBERS",.globalImplicit)]
abbrev amh:=dH [(".0",.local),("number",.local)]
abbrev atG:=dH [(".0",.local),("divisor",.local)]
abbrev aiv:=dH [(".0",.local),("j",.local),("power",.globalImplicit),("n",.cell),("pair",.cell)]
abbrev asY:=dH [(".0",.local),("pair",.local)]
abbrev ao5:=dH [(".0",.local),("pair",.local)]
abbrev aqE:=dH [(".0",.local),("n",.local),("form_line",.globalImplicit),("roots",.cell)]
abbrev ata:=dH [(".0",.local),("_law_k",.local),("_law_number",.globalImplicit),("_law_mixed",.globalImplicit),("_law_cell_at",.globalImplicit),("_law_by_here",.cell),("_law_script",.cell),("_law_sort",.cell),("_law_start",.cell)]
abbrev apO:=dH [(".0",.local),("_law_k",.local),("_law_number",.globalImplicit),("_law_mixed",.globalImplicit),("_law_cell_at",.globalImplicit),("_law_by_here",.cell),("_law_script",.cell),("_law_sort",.cell),("_law_start",.cell)]
abbrev arv:=dH [(".0",.local),("_law_k",.local),("_law_number_here",.local),("_law_mixed",.globalImplicit),("_law_cell",.cell)]
abbrev afB:=dH [(".0",.local),("_law_part",.local)]
abbrev aiG:=dH [(".0",.local),("_law_one",.local),("_law_other",.local),("_law_number_here",.cell)]
abbrev aog:=dH [(".0",.local),("_law_part",.local),("_law_taken",.globalImplicit),("_law_by_here",.cell)]
abbrev aeO:=dH [(".0",.local),("_law_j",.local),("_law_top",.local),("_law_power",.globalImplicit),("_law_n",.cell)]
abbrev aum:=dH [(".0",.local),("_law_k",.local),("_law_poly",.cell),("_law_size",.cell)]
abbrev ap4:=dH [(".0",.local),("_law_n",.local),("_law_value",.globalImplicit),("_law_parts_here",.cell)]
abbrev aeE:=dH [(".0",.local),("_law_number_here",.local)]
abbrev aiH:=dH [(".0",.local),("_law_number_here",.local)]
abbrev am0:=dH [(".0",.local),("_law_number_here",.local),("max",.globalImplicit),("_law_shared",.cell)]
abbrev aj5:=dH [(".0",.local),("_law_pair",.local)]
abbrev apf:=dH [(".0",.local),("_law_root",.local),("_law_tops",.local),("len",.globalImplicit)]
abbrev agO:=dH [(".0",.local),("_law_root",.local),("_law_tops",.local),("list",.globalImplicit)]
structure Bt(mg:Str->Option Value):Prop where
 zy:mg "abs" = none
 Oo:mg "any" = none
 DL:mg "enumerate" = none
 abm:mg "isinstance" = none
 dG:mg "len" = none
 xU:mg "list" = none
 VH:mg "max" = none
 gJ:mg "range" = none
 aej:mg "reversed" = none
 Np:mg "sum" = none
 jD:mg "tuple" = none
 afl:mg "zip" = none
 R9:∃t,mg "ABOVE_ALL_NUMBERS" = some (.int 1000000 t)
 J0:∃t,mg "BELOW_THE_PRIMES" = some (.int 1000000 t)
structure Ms(K:W.Frag)(mg:Str->Option Value)(base:Heap)(eO dN:Addr):Prop where
 auN:mg "NoBy" = some (.ref eO)
 au6:mg "TooBig" = some (.ref dN)
 afE:Gx mg base "NoBy" eO
 au2:ExI K eO
 abI:W.kitOne K (.ref eO) (.ref eO)=some true
 ada:W.kitOne K (.ref eO) (.ref dN)=some false
 YC:W.kitOne K (.ref eO) (.type "ValueError")=some true
 agV:Gx mg base "TooBig" dN
 au3:ExI K dN
 aey:W.kitOne K (.ref dN) (.ref eO)=some false
 acH:W.kitOne K (.ref dN) (.ref dN)=some true
 adC:W.kitOne K (.ref dN) (.type "ValueError")=some true
abbrev Qt:Nat:=12
def cellAt(ns:List Int)(k:Int):Int:=if k<(ns.length:Int)then ns.getD k.toNat 0 else 0
def iC(a:Int){b:Int}(h:0<b):0<=a%b:=qC _ (by omega)
def iM(a:Int){b:Int}(h:0<b):a%b<b:=rz _ h
def fQ{ns:List Int}{k:Int}(h0:0<=k)(h1:k<(ns.length:Int)):nG (ns.map V.int) k=some (.int (ns.getD k.toNat 0)):=by
 have e:k=((k.toNat:Nat):Int):=by omega
 have hk:k.toNat<ns.length:=by omega
 conv=>lhs;rw[e]
 exact aaE (by rw[jV,eY hk,dh,eY hk]<;>rfl)
def vM{α:Type}{xs:List α}{k:Int}{v:α}(j:Nat)(e:k=(j:Int))(h:xs[j]?=some v):nG xs k=some v:=by rw[e];exact aaE h
def dec_true{p:Prop}[Decidable p](c:decide p=true):p:=of_decide_eq_true c
def dec_false{p:Prop}[Decidable p](c:¬decide p=true):¬p:=of_decide_eq_false (Bool.eq_false_iff.mpr c)
def lG(b x:Int):Prop:=b=0∨(0<=x/\x<b)
structure Rw where
 b:Int
 rule:List Int
 starts:List Int
structure jc(r:Rw):Prop where
 len:r.rule.length=r.starts.length
 short:r.rule.length<=24
 nJ:0<=r.b
 Bl:r.b<1000
 afp:∀x∈r.rule,lG r.b x
 aez:∀x∈r.starts,lG r.b x
 lY:∀x∈r.rule,Rm.Bd 60000 x
 uQ:∀x∈r.starts,Rm.Bd 3000 x
def Rw.row(r:Rw)(n:Nat):List Int:=Rm.row r.b r.rule r.starts n
def Rw.at(r:Rw)(n:Nat):Int:=Rm.at_ r.b r.rule r.starts n
def jc.bd{r:Rw}(h:jc r)(n:Nat)(hn:n<=1000):Rm.Bd 61000000 (r.at n):=by
 have q:=Rm.abj (b:=r.b) (rule:=r.rule) (starts:=r.starts) (a:=60000) (c:=3000) h.len h.nJ ((Rm.Bd.of (n:=10) (by have:=h.nJ;omega) (by have:=h.Bl;omega)).mono (by decide)) h.lY h.uQ n;refine q.mono ?_;have h1:=h.short;have h2:n*(60000+r.rule.length)<=1000*60024:=jh hn (by omega);omega
def jc.WB{r:Rw}(h:jc r)(n:Nat)(hn:n<=1000):∀x∈r.row n,Rm.Bd 61000000 x:=by
 intro x hx;have e:r.row n=(List.range n).map r.at:=Rm.Nu ..;rw[e]at hx;obtain⟨i,hi,rfl⟩:=cM.mp hx;exact h.bd i (by have:=kW.mp hi;omega)
theorem Rw.oV(r:Rw)(n:Nat):(r.row n).length=n:=Rm.oV ..
def pU{x y:Int}{m n:Nat}(h:Rm.Bd m x)(h':Rm.Bd n y)(hn:m+n<=134217728):IntMulOk x y:=
 IntMulOk.of_le (intBits_le_iff.mpr h) (intBits_le_iff.mpr h') hn
def jH(H:Hp)(v:V)(r:Rw):Prop:=
 ∃a p q,v = .ref a/\H a=some (.tup [.int r.b,.ref p,.ref q])/\H p=some (.tup (r.rule.map V.int))/\H q=some (.tup (r.starts.map V.int))
def jH.same{H H':Hp}{v:V}{r:Rw}(h:jH H v r)(g:Same H H'):jH H' v r:=by
 obtain⟨a,p,q,e,h1,h2,h3⟩:=h;exact⟨a,p,q,e,g _ _ h1,g _ _ h2,g _ _ h3⟩
def xQ(xs:List Int)(x:Int):(xs++[x]).map V.int=xs.map V.int++[.int x]:=by rw[jq];rfl
def Told(H:Hp)(Q:VK)(xs:List V):Prop:=∀r H',Same H H'->H r=none->H' r=some (.lst xs)->Q (.ref r) H'
inductive ao9(K:W.Frag)(vs:List V)(H:Hp)(Q:VK)(E:XK):Prop|mk (a:Addr) (ns:List Int) (cD:vs=[.ref a]) (cB:aq K H a (ns.map V.int)) (cL:ns.length<=63) (cY:∀H',Q (.bl true) H')
def N6(K:W.Frag):Sp:=λvs H Q E=>ao9 K vs H Q E
def B6(xs:List V)(k:Nat):iH xs none (some (k:Int))=xs.take k:=by
 unfold iH;rw[HT.oZ,HT.rG,List.drop_zero,sY,aaU];omega
def ano(xs:List V){k:Nat}(h:k<=xs.length):iH xs (some (k:Int)) none=xs.drop k:=by
 unfold iH;rw[HT.oZ,HT.rG,CV h,pO (by rw[lJ];omega)]
def aq6(xs:List V)(k:Nat):iH xs (some (k:Int)) none=xs.drop k:=by
 unfold iH;rw[HT.oZ,HT.rG];by_cases h:k<=xs.length
 .rw[CV h,pO (by rw[lJ];omega)]
 .rw[Nat.min_eq_right (by omega),VQ (aN _),VQ (by omega),List.take_nil]
def wO(H:Hp)(Q:VK)(ns:List Int):Prop:=∀p H',Same H H'->H' p=some (.tup (ns.map V.int))->Q (.ref p) H'
def Dk{xs:List Int}{n:Nat}(h:0<n)(hn:n<=xs.length):xs.take n=xs.take (n-1)++[xs.getD (n-1) 0]:=by
 obtain⟨m,rfl⟩:∃m,n=m+1:=⟨n-1,by omega⟩;rw[dY,qO,eY (by omega),dh,eY (by omega)];rfl
def UZ{xs:List Int}{n:Nat}(h:0<n)(hn:n<=xs.length)(ht:Pm.trim (xs.take n)=Pm.trim xs)(h0:xs.getD (n-1) 0=0):Pm.trim (xs.take (n-1))=Pm.trim xs:=by
 rw[Dk h hn,h0,Pm.YG]at ht;exact ht
def Ld{xs:List Int}{n:Nat}(hn:n<=xs.length)(ht:Pm.trim (xs.take n)=Pm.trim xs)(h0:n=0∨xs.getD (n-1) 0≠0):xs.take n=Pm.trim xs:=by
 rcases h0 with h0|h0
 .subst h0;rw[<-ht];rfl
 .by_cases hz:n=0
  .subst hz;rw[<-ht];rfl
  .rw[<-ht,Dk (by omega) hn,Pm.M6 _ h0]
def wH{n j:Nat}{i:Int}(e:i=(j:Int))(h:j<n):qD n i=some j:=by
 subst e;unfold qD;rw[if_pos (by omega),if_pos (by omega),fW]
def HS(L:List Int)(j:Nat)(x:Int):(L.map V.int).set j (.int x)=(L.set j x).map V.int:=by rw[List.map_set]
def JB(n:Nat):(List.replicate n [V.int 0]).flatten=(Pm.aH n λ_=>0).map V.int:=by
 induction n with
 |zero=>rfl
 |succ n ih=>
  rw[Pm.Rk,jq,<-ih,List.replicate_succ',List.flatten_append];rfl
def vY{n:Nat}{ix:List (Option Nat)}{te:TE}{σ:St}{H1:Hp}{Q:VK}(hz:n<=1000){rest:St}(hst:cst ix σ=none::rest)(f:Nat->Int)
  (he:∀H' k,Same H1 H'->k<n->∀kk:VK,kk (.int (f k)) H'->te (some (.int (0+(k:Int)))::rest) H' kk)
  (hQ:∀D,H1 D=none->Q (.ref D) (upd H1 D (.lst ((Pm.aH n f).map V.int)))):jL ix (gU 0) lF te σ Q (rA 0 n) H1:=by
 refine vd C4 (by rw[aG,qI];exact fX (eE hz)) hst (λ_=>true) (λx=>match x with | .int k=> .int (f k.toNat)|_=> .non) ?_ ?_ ?_
 .intro H2 x g2 hx k hk;exact hk
 .intro H2 x g2 hx _ k hk;obtain⟨j,hj,rfl⟩:=cM.mp hx;have e1:(0+(j:Int)).toNat=j:=by omega
  refine he H2 j g2 (kW.mp hj) k ?_;have hk':k (V.int (f (0+(j:Int)).toNat)) H2:=hk
  rwa [e1]at hk'
 .intro D hD;have el:((((List.range n).map λi=>V.int (0+(i:Nat))).filter λ_=>true).map λx=>match x with | .int k=>V.int (f k.toNat)|_=>V.non)=(Pm.aH n f).map V.int:=by
   rw[wz.mpr (by simp),fj,Pm.aH,fj];refine wj λk _=>?_;show V.int (f (0+(k:Int)).toNat)=V.int (f k);rw[show(0+(k:Int)).toNat=k by omega]
  rw[el];exact hQ D hD
def wN{K:W.Frag}{a:Addr}{xs:List Int}{ix:List (Option Nat)}{te:TE}{σ:St}{H1:Hp}{Q:VK}(hA:H1 a=some (.tup (xs.map V.int)))(hz:xs.length<=1000){rest:St}(hst:cst ix σ=none::rest)(f:Int->Int)
  (he:∀H' x,Same H1 H'->x∈xs->∀kk:VK,kk (.int (f x)) H'->te (some (.int x)::rest) H' kk)
  (hQ:∀D,H1 D=none->Q (.ref D) (upd H1 D (.lst ((xs.map f).map V.int)))):jL ix (gU 0) lF te σ Q (Ht K a) H1:=by
 refine vd (PB (aC.of hA)) (by rw[aG];exact fX (eE hz)) hst (λ_=>true) (λx=>match x with | .int k=> .int (f k)|_=> .non) ?_ ?_ ?_
 .intro H2 x g2 hx k hk;exact hk
 .intro H2 x g2 hx _ k hk;obtain⟨y,hy,rfl⟩:=cM.mp hx;exact he H2 y g2 hy k hk
 .intro D hD;have el:(((xs.map V.int).filter λ_=>true).map λx=>match x with | .int k=>V.int (f k)|_=>V.non)=(xs.map f).map V.int:=by
   rw[wz.mpr (by simp),fj,fj];rfl
  rw[el];exact hQ D hD
def Rj{ns:List Int}{k:Int}(j:Nat)(h0:k<0)(e:k+(ns.length:Int)=(j:Int)):nG (ns.map V.int) k=some (.int (ns.getD j 0)):=by
 have hj:j<ns.length:=by omega
 unfold nG qD;rw[aG,if_neg (by omega),if_pos (by omega),show(k+(ns.length:Int)).toNat=j by omega];show(ns.map V.int)[j]?=_;rw[jV,eY hj,dh,eY hj];rfl
def CF{K:W.Frag}{a:Addr}{xs:List Int}{ix:List (Option Nat)}{te:TE}{σ:St}{H1:Hp}{Q:VK}(hA:H1 a=some (.lst (xs.map V.int)))(hz:xs.length<=1000){rest:St}(hst:cst ix σ=none::rest)(f:Int->Int)
  (he:∀H' x,Same H1 H'->x∈xs->∀kk:VK,kk (.int (f x)) H'->te (some (.int x)::rest) H' kk)
  (hQ:∀D,H1 D=none->Q (.ref D) (upd H1 D (.lst ((xs.map f).map V.int)))):jL ix (gU 0) lF te σ Q (lB K a) H1:=by
 refine vd (kY (aq.of hA)) (by rw[aG];exact fX (eE hz)) hst (λ_=>true) (λx=>match x with | .int k=> .int (f k)|_=> .non) ?_ ?_ ?_
 .intro H2 x g2 hx k hk;exact hk
 .intro H2 x g2 hx _ k hk;obtain⟨y,hy,rfl⟩:=cM.mp hx;exact he H2 y g2 hy k hk
 .intro D hD;have el:(((xs.map V.int).filter λ_=>true).map λx=>match x with | .int k=>V.int (f k)|_=>V.non)=(xs.map f).map V.int:=by
   rw[wz.mpr (by simp),fj,fj];rfl
  rw[el];exact hQ D hD
def mH{p:List Int}{i:Nat}{x:V}(h:(p.map V.int)[i]?=some x):x = .int (Pm.co p i)/\i<p.length:=by
 by_cases hi:i<p.length
 .rw[jV,eY hi]at h;cases h;refine⟨?_,hi⟩;show V.int _=V.int (p.getD i 0);rw[dh,eY hi];rfl
 .rw[ud (by rw[aG];omega)]at h;cases h
def Ay:∀P∈Om.ni,2<=P/\P<1000:=by decide +kernel
inductive bV(H:Hp)(ex:List Addr):List V->List (List Int)->Prop
 |nil:bV H ex [] []
 |cons {t:Addr} {p:List Int} {xs:List V} {ps:List (List Int)}:t∉ex->H t=some (.lst (p.map V.int))->bV H ex xs ps->bV H ex (.ref t::xs) (p::ps)
def Keep(ll:Addr)(H H':Hp):Prop:=∀a u,a≠ll->H a=some u->H' a=some u
def Keep.refl(ll:Addr)(H:Hp):Keep ll H H:=λ_ _ _ h=>h
def Keep.trans{ll:Addr}{H H' H2:Hp}(h:Keep ll H H')(h':Keep ll H' H2):Keep ll H H2:=λa u n e=>h' a u n (h a u n e)
def Keep.same{ll:Addr}{H H':Hp}(g:Same H H'):Keep ll H H':=λa u _ e=>g a u e
theorem Keep.upd(ll:Addr)(H:Hp)(o:HO):Keep ll H (L2.upd H ll o):=λa u n e=>by rw[cC n];exact e
theorem bV.keep{H H':Hp}{ll:Addr}{ex:List Addr}(hm:ll∈ex)(g:Keep ll H H'):∀{xs:List V} {ps:List (List Int)},bV H ex xs ps->bV H' ex xs ps
 |_,_,.nil=> .nil
 |_,_,.cons n h r=> .cons n (g _ _ (λz=>n (z▸hm)) h) (bV.keep hm g r)
theorem bV.same{H H':Hp}{ex:List Addr}(g:Same H H'):∀{xs:List V} {ps:List (List Int)},bV H ex xs ps->bV H' ex xs ps
 |_,_,.nil=> .nil
 |_,_,.cons n h r=> .cons n (g _ _ h) (bV.same g r)
theorem bV.more{H:Hp}{ex:List Addr}{a:Addr}(ha:H a=none):∀{xs:List V} {ps:List (List Int)},bV H ex xs ps->bV H (a::ex) xs ps
 |_,_,.nil=> .nil
 |_,_,.cons n h r=> .cons (λz=>by
   rcases cj.mp z with e|e
   .rw[e,ha]at h;cases h
   .exact n e) h (bV.more ha r)
theorem bV.less{H:Hp}{ex ex':List Addr}(hs:∀a∈ex',a∈ex):∀{xs:List V} {ps:List (List Int)},bV H ex xs ps->bV H ex' xs ps
 |_,_,.nil=> .nil
 |_,_,.cons n h r=> .cons (λz=>n (hs _ z)) h (bV.less hs r)
theorem bV.len{H:Hp}{ex:List Addr}:∀{xs:List V} {ps:List (List Int)},bV H ex xs ps->xs.length=ps.length
 |_,_,.nil=>rfl
 |_,_,.cons _ _ r=>by rw[gP,gP,bV.len r]
theorem bV.get{H:Hp}{ex:List Addr}:∀{xs:List V} {ps:List (List Int)} {i:Nat},bV H ex xs ps->i<ps.length->∃t,xs[i]?=some (.ref t)/\t∉ex/\H t=some (.lst ((Dm.ln ps i).map V.int))
 |_,_,_,.nil,h=>absurd h (mF _)
 |_,_,0,.cons n h _,_=>⟨_,rfl,n,h⟩
 |_,_,i+1,.cons _ _ r,h=>bV.get (i:=i) r (by simpa using h)
theorem bV.set{H:Hp}{ex:List Addr}{t:Addr}{q:List Int}(hn:t∉ex)(hT:H t=some (.lst (q.map V.int))):∀{xs:List V} {ps:List (List Int)} (i:Nat),bV H ex xs ps->bV H ex (xs.set i (.ref t)) (ps.set i q)
 |_,_,_,.nil=> .nil
 |_,_,0,.cons _ _ r=> .cons hn hT r
 |_,_,i+1,.cons n h r=> .cons n h (bV.set hn hT i r)
theorem bV.append{H:Hp}{ex:List Addr}{t:Addr}{q:List Int}(hn:t∉ex)(hT:H t=some (.lst (q.map V.int))):∀{xs:List V} {ps:List (List Int)},bV H ex xs ps->bV H ex (xs++[.ref t]) (ps++[q])
 |_,_,.nil=> .cons hn hT .nil
 |_,_,.cons n h r=> .cons n h (bV.append hn hT r)
def Stand(H:Hp)(ex:List Addr):Prop:=∀a∈ex,∃o,H a=some o
def Stand.fresh{H:Hp}{ex:List Addr}{t:Addr}(h:Stand H ex)(ht:H t=none):t∉ex:=λz=>by
 obtain⟨o,e⟩:=h t z;rw[ht]at e;cases e
def Stand.keep{H H':Hp}{ll:Addr}{ex:List Addr}(h:Stand H ex)(g:Keep ll H H')(hl:∃o,H' ll=some o):Stand H' ex:=λa ha=>by
 by_cases e:a=ll
 .rw[e];exact hl
 .obtain⟨o,q⟩:=h a ha;exact⟨o,g _ _ e q⟩
def wQ{L:List (List Int)}{i:Nat}(q:List Int)(hi:i<L.length)(k:Nat):Dm.ln (L.set i q) k=if k=i then q else Dm.ln L k:=by
 unfold Dm.ln;rw[dh,List.getElem?_set,dh];by_cases e:i=k
 .subst e;simp[hi]
 .rw[if_neg e,if_neg (λz=>e z.symm)]
def j6(b:Int):Prop:=b=0∨∃P:Nat,P∈Om.ni/\b=(P:Int)
def j6.dom{b:Int}(h:j6 b):Dm.Dom b:=by
 rcases h with rfl|⟨P,hP,rfl⟩
 .exact Dm.Dom.zero
 .exact Dm.Dom.prime hP (Ay P hP).1
def j6.range{b:Int}(h:j6 b):0<=b/\b<1000/\b≠1:=by
 rcases h with rfl|⟨P,hP,rfl⟩
 .decide
 .have:=Ay P hP;omega
def j6.one{b:Int}(h:j6 b):Rm.tk b 1=1:=by
 rcases h with rfl|⟨P,hP,rfl⟩
 .exact Rm.bh 1
 .have:=Ay P hP;rw[Rm.jN (by omega)];exact BQ (by decide) (by omega)
inductive atL(vs:List V)(H:Hp)(Q:VK)(E:XK):Prop|mk (b n:Int) (cD:vs=[.int b,.int n]) (cB:0<=b) (cL:Q (.int (Rm.tk b n)) H)
def Yh:Sp:=λvs H Q E=>atL  vs H Q E
abbrev m9(P w K mg base):=bI P w K mg base "taken" 1 ["by","number"] Yh
inductive ajB(vs:List V)(H:Hp)(Q:VK)(E:XK):Prop|mk (n:Nat) (cD:vs=[.int n]) (cB:n<2097152) (cL:∀b:Bool,(b=true↔Om.cA n)->Q (.bl b) H)
def alJ:Sp:=λvs H Q E=>ajB  vs H Q E
abbrev ZY(P w K mg base):=bI P w K mg base "is_prime" 1 ["number"] alJ
inductive amM(vs:List V)(H:Hp)(Q:VK)(E:XK):Prop|mk (n q:Nat) (cD:vs=[.int n]) (cB:Om.cA q) (cL:n<q) (cY:q<2097152) (dM:∀p:Nat,Om.cA p->n<p->p<=q->Q (.int p) H)
def afO:Sp:=λvs H Q E=>amM  vs H Q E
abbrev aaZ(P w K mg base):=bI P w K mg base "prime_above" 2 ["number"] afO
inductive alY(vs:List V)(H:Hp)(Q:VK)(E:XK):Prop|mk (P:Nat) (a:Int) (cD:vs=[.int P,.int a]) (cB:Om.cA P) (cL:P<2097152) (cY:0<a) (dM:a<(P:Int)) (fu:∀x:Int,0<=x->x<2097152->x%(P:Int)=a^(P-2)%(P:Int)->Q (.int x) H)
def ama:Sp:=λvs H Q E=>alY  vs H Q E
abbrev Y9(P w K mg base):=bI P w K mg base "inverse" 2 ["prime","number"] ama
inductive aiJ(vs:List V)(H:Hp)(Q:VK)(E:XK):Prop|mk (P:Nat) (one other:Int) (cD:vs=[.int P,.int one,.int other]) (cB:Om.cA P) (cL:P<2097152) (cY:0<other) (dM:other<(P:Int)) (fu:Q (.int (one*other^(P-2)%(P:Int))) H)
def apZ:Sp:=λvs H Q E=>aiJ  vs H Q E
abbrev Bf(P w K mg base):=bI P w K mg base "over" 3 ["by","one","other"] apZ
inductive apd(K:W.Frag)(vs:List V)(H:Hp)(Q:VK)(E:XK):Prop|mk (l:Addr) (xs:List Int) (cD:vs=[.ref l]) (cB:aq K H l (xs.map V.int)) (cL:wO H Q (Pm.trim xs))
def arZ(K:W.Frag):Sp:=λvs H Q E=>apd K vs H Q E
abbrev GQ(P w K mg base):=bI P w K mg base "trimmed" 1 ["numbers"] (arZ K)
def ase(H:Hp)(Q:VK)(b:Int)(P M:List Int):Prop:=∀t x y q r H',Same H H'->H' t=some (.tup [.ref x,.ref y])->H' x=some (.tup (List.map V.int q))->H' y=some (.tup (List.map V.int r))->Pm.Div b P M q r->
 (∀z∈q,Rm.Bd 5300000 z)->(∀z∈r,Rm.Bd 5300000 z)->q.length<=P.length->Q (.ref t) H'
inductive atB(vs:List V)(H:Hp)(Q:VK)(E:XK):Prop|mk (b:Int) (a c:Addr) (P M:List Int) (cD:vs=[.int b,.ref a,.ref c]) (cB:0<=b) (cL:b<2097152) (cY:H a=some (.tup (P.map V.int))) (dM:H c=some (.tup (M.map V.int))) (fu:P.length<=40) (jC:M.length<=40) (mQ:Pm.Mon M) (oU:(∀k,Rm.tk b (Pm.co P k)=Pm.co P k)) (ug:(∀x∈P,Rm.Bd 300000 x)) (zx:(∀x∈M,Rm.Bd 124000 x)) (Bv:ase H Q b P M)
def acr:Sp:=λvs H Q E=>atB  vs H Q E
def aaD{L:List Int}{u:Nat}(h:∀k,Rm.Bd u (Pm.co L k)):∀x∈Pm.trim L,Rm.Bd u x:=λx hx=>by
 obtain⟨k,hk,e⟩:=jG.mp hx;rw[<-e,<-Pm.iV hk,Pm.nO];exact h k
def max_zero(m n:Nat):(if(m:Int)-((n:Int)-1)>0 then(m:Int)-((n:Int)-1)else 0).toNat=m-(n-1)∨n=0:=by
 by_cases h:n=0
 .exact .inr h
 .left;split<;>omega
abbrev Bo(P w K mg base):=bI P w K mg base "divided" 2 ["by","one","other"] acr
def aoR(H:Hp)(Q:VK)(b:Int)(p:List Int):Prop:=∀t m H',Same H H'->H' t=some (.tup (List.map V.int m))->Pm.u6 b p m->Q (.ref t) H'
inductive afN(vs:List V)(H:Hp)(Q:VK)(E:XK):Prop|mk (P:Nat) (a:Addr) (p:List Int) (cD:vs=[.int P,.ref a]) (cB:Om.cA P) (cL:P<2097152) (cY:H a=some (.tup (p.map V.int))) (dM:p.length<=300) (fu:Pm.Py P p) (jC:aoR H Q P p)
def akr:Sp:=λvs H Q E=>afN  vs H Q E
abbrev ac0(P w K mg base):=bI P w K mg base "monic" 4 ["prime","poly"] akr
def abe(H:Hp)(Q:VK)(b:Int)(p r:List Int):Prop:=∀t g H',Same H H'->H' t=some (.tup (List.map V.int g))->Pm.Gcd b p r g->g.length<=max p.length r.length->Q (.ref t) H'
inductive atE(vs:List V)(H:Hp)(Q:VK)(E:XK):Prop|mk (P:Nat) (a c:Addr) (p r:List Int) (cD:vs=[.int P,.ref a,.ref c]) (cB:Om.cA P) (cL:P<2097152) (cY:H a=some (.tup (p.map V.int))) (dM:H c=some (.tup (r.map V.int))) (fu:p.length<=40) (jC:r.length<=40) (mQ:Pm.Py P p) (oU:Pm.Py P r) (ug:(r=[]->p≠[])) (zx:abe H Q P p r)
def aoP:Sp:=λvs H Q E=>atE  vs H Q E
def MK{P:Nat}(h0:2<=P)(h:P<2097152){p:List Int}(hp:Pm.Py P p):∀x∈p,Rm.Bd 124000 x:=λx hx=>by
 have:=hp.nu x hx;rw[Rm.jN (by omega)]at this;rw[<-this];exact Rm.Bd.emod (by omega) ((Rm.Bd.of (n:=21) (by omega) (by omega)).mono (by decide))
abbrev Uo(P w K mg base):=bI P w K mg base "greatest" 5 ["by","one","other"] aoP
inductive aqb(vs:List V)(H:Hp)(Q:VK)(E:XK):Prop|mk (M x:Int) (cD:vs=[.int M,.int x]) (cB:0<M) (cL:Q (.int (Pm.nr M x)) H)
def afb:Sp:=λvs H Q E=>aqb  vs H Q E
abbrev MH(P w K mg base):=bI P w K mg base "nearest" 1 ["modulus","number"] afb
inductive aqx(vs:List V)(H:Hp)(Q:VK)(E:XK):Prop|mk (M t:Int) (p:Nat) (s:Int) (cD:vs=[.int M,.int t,.int p,.int s]) (cB:Om.cA p) (cL:p<2097152) (cY:0<M) (dM:¬(p:Int)∣M) (fu:Q (.int (Pm.jn M t p s)) H)
def ash:Sp:=λvs H Q E=>aqx  vs H Q E
abbrev adP(P w K mg base):=bI P w K mg base "joined" 4 ["modulus","number","prime","rest"] ash
inductive aoX(vs:List V)(H:Hp)(Q:VK)(E:XK):Prop|mk (p:Nat) (a:Addr) (P:List Int) (cD:vs=[.int p,.ref a]) (cB:0<p) (cL:H a=some (.tup (P.map V.int))) (cY:P.length<=100) (dM:wO H Q (Pm.trim (P.map (Rm.tk p))))
def akC:Sp:=λvs H Q E=>aoX  vs H Q E
abbrev X4(P w K mg base):=bI P w K mg base "taken_poly" 2 ["prime","poly"] akC
inductive aeP(vs:List V)(H:Hp)(Q:VK)(E:XK):Prop|mk (m a:Addr) (M P:List Int) (cD:vs=[.ref m,.ref a]) (cB:H m=some (.tup (M.map V.int))) (cL:H a=some (.tup (P.map V.int))) (cY:M.length<=40) (dM:P.length<=40) (fu:Pm.Mon M) (jC:(∀x∈M,Rm.Bd 124000 x)) (mQ:(∀x∈P,Rm.Bd 300000 x)) (oU:∀b H',Same H H'->(b=true↔Pm.Dv 0 M (Pm.co P))->Q (.bl b) H')
def aqq:Sp:=λvs H Q E=>aeP  vs H Q E
abbrev aaR(P w K mg base):=bI P w K mg base "divides" 3 ["monic_one","poly"] aqq
inductive atV(vs:List V)(H:Hp)(Q:VK)(E:XK):Prop|mk (a c:Addr) (P t g:List Int) (N:Int) (U V':Nat) (cD:vs=[.ref a,.ref c]) (cB:H a=some (.tup (P.map V.int))) (cL:H c=some (.tup (t.map V.int))) (cY:P.length<=40) (dM:t.length<=40) (fu:Pm.Mon P) (jC:(∀x∈P,Rm.Bd 124000 x)) (mQ:(∀x∈t,Rm.Bd 300000 x)) (oU:Pm.wk P (Pm.co t) g N) (ug:Rm.Bd V' N) (zx:(∀k,Rm.Bd U (Pm.co g k))) (Bv:V'+U+57<=9300) (Ep:wO H Q g)
def aul:Sp:=λvs H Q E=>atV  vs H Q E
def QT(p:Nat)(P:List Int)(k:Nat):Rm.tk (p:Int) (Pm.co (Pm.trim (P.map (Rm.tk p))) k)=Rm.tk p (Pm.co P k):=by
 rw[Pm.nO,Pm.lV (Pm.tk0 _),Rm.gq]
def XQ(p:Nat)(P:List Int):Pm.Py p (Pm.trim (P.map (Rm.tk p))):=Pm.Py.of λx hx=>by
 obtain⟨y,_,rfl⟩:=cM.mp hx;exact Rm.gq ..
def Uu(p:Nat)(P:List Int):(Pm.trim (P.map (Rm.tk p))).length<=P.length:=by
 have:=Pm.uF (P.map (Rm.tk p))
 rwa [aG]at this
def ag0{p:Nat}(hp:Om.cA p){P:List Int}(hP:Pm.Mon P):Pm.trim (P.map (Rm.tk p))≠[]:=λz=>by
 have:=QT p P (P.length-1);rw[z,Pm.fL,hP.one,Pm.KQ hp,Pm.tk0]at this;exact absurd this (by decide)
def as5{P g told:List Int}{N M:Int}{prime bad good:Nat}{ripe:Bool}(I:Pm.jU P g N told M prime ripe bad good)(bP:∀x∈P,Rm.Bd 124000 x)(h:bad+good<=490):∀x∈told,Rm.Bd 124000 x:=λx hx=>by
 by_cases c:M=1
 .rw[I.first c]at hx;exact bP x hx
 .obtain⟨k,hk,e⟩:=jG.mp hx;have n:=I.near c k;rw[Pm.iV hk,e]at n;unfold Pm.Nr at n;have h1:=I.hi;have h2:(2:Int)^(21*(bad+good))<=2^123900:=by exact_mod_cast uU (n:=2) (by decide) (show 21*(bad+good)<=123900 by omega)
  have h3:M<=2^123900:=Int.le_trans h1 h2;have hpos:=I.pos;refine(show Rm.Bd 123900 x from ?_).mono (by decide);generalize hB:(2:Int)^123900=B at h3;have h4:-B<x/\x<B:=by omega
  unfold Rm.Bd;have h5:(x.natAbs:Int)<((2^123900:Nat):Int):=by
   rw[Int.natCast_pow];show(x.natAbs:Int)<(2:Int)^123900;rw[hB];omega
  exact_mod_cast h5
def abf(H:Hp)(a c:Addr)(P' g:List Int)(N:Int)(m:Nat)(σ':St)(H':Hp):Prop:=∃(o6 o7:Option V) (tt:Addr) (told:List Int) (M:Int) (prime:Nat) (ripe:Bool) (bad good:Nat),m=500-(bad+good)/\σ'=[some (.ref a),some (.ref c),some (.ref tt),some (.int M),some (.int (prime:Int)),some (.bl ripe),o6,o7]/\Same H H'/\H' tt=some (.tup (told.map V.int))/\Pm.jU P' g N told M prime ripe bad good/\Om.Many (500-(bad+good)) prime/\1000000<=prime/\bad+good<=490
abbrev Vh(P w K mg base):=bI P w K mg base "whole_greatest" 6 ["one","other"] aul
inductive aph(vs:List V)(H:Hp)(Q:VK)(E:XK):Prop|mk (b:Int) (a:Addr) (c:List Int) (cD:vs=[.int b,.ref a]) (cB:0<=b) (cL:H a=some (.tup (c.map V.int))) (cY:c.length<=100) (dM:wO H Q (Pm.aU b c))
def alN:Sp:=λvs H Q E=>aph  vs H Q E
abbrev SM(P w K mg base):=bI P w K mg base "of_rule" 2 ["by","rule"] alN
inductive apJ(vs:List V)(H:Hp)(Q:VK)(E:XK):Prop|mk (b:Int) (a:Addr) (p:List Int) (cD:vs=[.int b,.ref a]) (cB:0<=b) (cL:H a=some (.tup (p.map V.int))) (cY:0<p.length) (dM:p.length<=100) (fu:wO H Q (Pm.fR b p))
def aiB:Sp:=λvs H Q E=>apJ  vs H Q E
abbrev UW(P w K mg base):=bI P w K mg base "rule_of" 2 ["by","poly"] aiB
def al8{lo:Int}{n:Nat}{ix:List (Option Nat)}{te:TE}{σ:St}{H1:Hp}{Q:VK}(hz:n<=1000){rest:St}(hst:cst ix σ=none::rest)(f:Nat->Int)
  (he:∀H' k,Same H1 H'->k<n->∀kk:VK,kk (.int (f k)) H'->te (some (.int (lo+(k:Int)))::rest) H' kk)
  (hQ:∀D,H1 D=none->Q (.ref D) (upd H1 D (.lst ((Pm.aH n f).map V.int)))):jL ix (gU 0) lF te σ Q (rA lo n) H1:=by
 refine vd C4 (by rw[aG,qI];exact fX (eE hz)) hst (λ_=>true) (λx=>match x with | .int k=> .int (f (k-lo).toNat)|_=> .non) ?_ ?_ ?_
 .intro H2 x g2 hx k hk;exact hk
 .intro H2 x g2 hx _ k hk;obtain⟨j,hj,rfl⟩:=cM.mp hx;have e1:(lo+(j:Int)-lo).toNat=j:=by omega
  refine he H2 j g2 (kW.mp hj) k ?_;have hk':k (V.int (f (lo+(j:Int)-lo).toNat)) H2:=hk
  rwa [e1]at hk'
 .intro D hD;have el:((((List.range n).map λi=>V.int (lo+(i:Nat))).filter λ_=>true).map λx=>match x with | .int k=>V.int (f (k-lo).toNat)|_=>V.non)=(Pm.aH n f).map V.int:=by
   rw[wz.mpr (by simp),fj,Pm.aH,fj];refine wj λk _=>?_;show V.int (f (lo+(k:Int)-lo).toNat)=V.int (f k);rw[show(lo+(k:Int)-lo).toNat=k by omega]
  rw[el];exact hQ D hD
def amP:(Om.ni.all λp=>(List.range 32).all λd=>decide (d<2)||decide (p<d*d)||decide (p%d≠0))=true:=by decide +kernel
def an6{P:Nat}(h:P∈Om.ni):Om.cA P:=by
 have hr:=Ay P h;refine Om.K3 hr.1 λd hd hdd hdv=>?_;have h32:d<32:=by
  by_cases c:d<32
  .exact c
  .have:32*32<=d*d:=jh (by omega) (by omega);omega
 have:=tK.mp (tK.mp amP P h) d (kW.mpr h32);simp only[Bq,decide_eq_true_eq]at this;have:=ZW hdv;omega
def pC(r:Rw):List Int:=Pm.trim (Pm.aH r.rule.length λk=>Rm.tk r.b (Pm.tp (Pm.aU r.b r.rule) r.at k))
def Uq(r:Rw)(k:Nat):Pm.co (pC r) k=Rm.tk r.b (Pm.tp (Pm.aU r.b r.rule) r.at k):=by
 rw[pC,Pm.nO,Pm.dw];by_cases c:k<r.rule.length
 .rw[if_pos c]
 .rw[if_neg c,Pm.zX _ _ k (by rw[Pm.kj];omega),Pm.tk0]
def ah0(r:Rw):(pC r).length<=r.rule.length:=by
 have:=Pm.uF (Pm.aH r.rule.length λk=>Rm.tk r.b (Pm.tp (Pm.aU r.b r.rule) r.at k))
 rwa [Pm.bG]at this
def jc.Bj{r:Rw}(ok:jc r):∀x∈Pm.aU r.b r.rule,Rm.Bd 60000 x:=Pm.Vs ok.nJ ok.Bl (by decide) ok.lY
def aoS{r:Rw}(ok:jc r):∀x∈pC r,Rm.Bd 300000 x:=λx hx=>by
 obtain⟨k,_,rfl⟩:=Pm.nF (Pm.KC hx);refine Rm.rK ok.nJ ((Rm.Bd.of (n:=10) (by have:=ok.nJ;omega) (by have:=ok.Bl;omega)).mono (by decide)) ?_;have hs:=ok.short;have hl:=ok.len;unfold Pm.tp;rw[Pm.kj,dY];refine(Pm.Br (c:=63000) _ λi hi=>?_).mono (by omega);refine(Rm.Bd.mul (m:=60000) (n:=3000) (Pm.jm ok.Bj _) ?_).mono (by omega);have e:r.at i=r.starts.getD i 0:=Rm.xZ (by omega);rw[e];exact Rm.Bd.getD ok.uQ _
inductive aoe(vs:List V)(H:Hp)(Q:VK)(E:XK):Prop|mk (v:V) (r:Rw) (a:Addr) (cD:vs=[v,.ref a]) (cB:jH H v r) (cL:jc r) (cY:H a=some (.tup ((Pm.aU r.b r.rule).map V.int))) (dM:wO H Q (pC r))
def at3:Sp:=λvs H Q E=>aoe  vs H Q E
abbrev Zg(P w K mg base):=bI P w K mg base "top_of" 2 ["row","poly"] at3
inductive aiO(vs:List V)(H:Hp)(Q:VK)(E:XK):Prop|mk (b:Int) (a c:Addr) (P t:List Int) (cD:vs=[.int b,.ref a,.ref c]) (cB:H a=some (.tup (P.map V.int))) (cL:H c=some (.tup (t.map V.int))) (cY:P.length<=40) (dM:t.length<=40) (fu:Pm.Mon P) (jC:(∀x∈P,Rm.Bd 124000 x)) (mQ:(∀x∈t,Rm.Bd 300000 x)) (oU:((b=0/\∃(g:List Int) (N:Int) (U V':Nat),Pm.wk P (Pm.co t) g N/\Rm.Bd V' N/\(∀k,Rm.Bd U (Pm.co g k))/\V'+U+57<=9300/\wO H Q g)∨
 (∃p:Nat,b=(p:Int)/\Om.cA p/\p<2097152/\Pm.Py p P/\Pm.Py p t/\abe H Q p P t)))
def aij:Sp:=λvs H Q E=>aiO  vs H Q E
abbrev Xc(P w K mg base):=bI P w K mg base "shared_divisor" 7 ["by","one","other"] aij
structure j7(b:Int)(f:Nat->Int)(L:List Int):Prop where
 mon:Pm.Mon L
 nu:∀k,Rm.tk b (Pm.co L k)=Pm.co L k
 kp:Pm.Kp b L f
 all:∀q,Pm.Kp b q f->Pm.Dv b L (Pm.co q)
def Tame(r:Rw):Prop:=r.b=0->∃d ua u:Nat,10<=u/\(∀x∈r.rule,Rm.Bd u x)/\(∃Q0,Pm.Mon Q0/\Pm.Kp 0 Q0 r.at/\Q0.length<=d+1)/\(∀n,n<=2*d->Rm.Bd ua (r.at n))/\d*(ua+d)+1+(u+400)+57<=9300
def jc.kp{r:Rw}(ok:jc r):Pm.Kp r.b (Pm.aU r.b r.rule) r.at:=Pm.Kp.aU (Pm.ad1 ok.len)
def aaS{b:Int}{L:List Int}(h:Pm.Mon L)(hn:∀k,Rm.tk b (Pm.co L k)=Pm.co L k):Pm.Py b L:=⟨Pm.vq (λz=>by have:=h.pos;rw[z]at this;exact absurd this (by decide)) (by rw[h.one];decide),λx hx=>by
 obtain⟨k,hk,e⟩:=jG.mp hx;have:=hn k
 rwa [Pm.iV hk,e]at this⟩
def afD(b:Int)(c:List Int)(h1:Rm.tk b 1=1)(k:Nat):Rm.tk b (Pm.co (Pm.aU b c) k)=Pm.co (Pm.aU b c) k:=by
 have h:∀x∈Pm.aU b c,Rm.tk b x=x:=λx hx=>by
  rcases eV.mp hx with hx|hx
  .obtain⟨j,_,e⟩:=Pm.nF hx;rw[e,Rm.gq]
  .rw[cP.mp hx,h1]
 by_cases hk:k<(Pm.aU b c).length
 .exact h _ (Pm.pN hk)
 .rw[Pm.aY (by omega),Pm.tk0]
def ae0{p:Nat}(hp:Om.cA p){r:Rw}(ok:jc r)(hb:r.b=(p:Int)){g L o:List Int}(hG:Pm.Gcd p (Pm.aU r.b r.rule) (pC r) g)(D:Pm.Div p (Pm.aU r.b r.rule) g o L):j7 r.b r.at o/\o.length<=r.rule.length+1:=by
 have h1:=Pm.KQ hp;have hm:=Pm.uH r.b r.rule;have hd:Pm.Dv p g (Pm.co (Pm.aU r.b r.rule)):=hG.one.to λ_=>rfl;obtain⟨L',hL',hn',hl',e'⟩:=Pm.yQ h1 hm hG.mon hd;have D':Pm.Div p (Pm.aU r.b r.rule) g L' []:=⟨aaS hL' hn',Pm.Py.nil _,hG.mon.pos,λk=>by rw[Pm.fL,cU];exact(e' k).symm⟩;obtain⟨eo,_⟩:=D.uniq hG.mon D';subst eo;have W:Pm.Ro p (Pm.aU p r.rule) (Pm.tp (Pm.aU p r.rule) r.at) g:=by
  rw[<-hb];refine⟨hG.mon,by rw[hb];rw[hb]at hd;exact hd,?_,?_⟩
  .rw[hb];refine(hG.two.to (q:=pC r) λ_=>rfl).congr λk=>?_;rw[Uq,hb,Rm.gq]
  .obtain⟨u,v,e⟩:=hG.sum;refine⟨1,Pm.co u,Pm.co v,u.length+v.length,by rw[hb,h1];decide,(Pm.Fs.co u).mono (by omega),(Pm.Fs.co v).mono (by omega),λk=>?_⟩;rw[gM,hb];rw[hb]at e;rw[e k];refine Rm.jE rfl (Pm.ig (λ_ _=>rfl) λi _=>?_);rw[Uq,hb,Rm.gq]
 have ha:∀n,r.rule.length<=n->Rm.tk (p:Int) (r.at n)=Rm.tk p (Rm.S r.rule r.at n r.rule.length):=by
  rw[<-hb];exact Pm.ad1 ok.len
 have K:=W.keeps (Dm.Dom.pr hp) ha hL' (by rw[<-hb];rw[<-hb]at e';exact e');refine⟨⟨hL',by rw[hb];exact hn',?_,λq hq=>?_⟩,?_⟩
 .rw[hb];refine(K o).mpr ⟨λk=>if k=0 then 1 else 0,1,λk hk=>if_neg (by omega),λk=>?_⟩;rw[Pm.Bu,if_pos (cJ _),gM,sY]
 .rw[hb]at hq ⊢;exact(K q).mp hq
 .have:=hG.mon.pos;rw[Pm.kj]at hl';omega
inductive af5(vs:List V)(H:Hp)(Q:VK)(E:XK):Prop|mk (v:V) (r:Rw) (cD:vs=[v]) (cB:jH H v r) (cL:jc r) (cY:j6 r.b) (dM:Tame r) (fu:∀t L H',Same H H'->H' t=some (.tup (List.map V.int L))->j7 r.b r.at L->L.length<=r.rule.length+1->Q (.ref t) H')
def anz:Sp:=λvs H Q E=>af5  vs H Q E
abbrev NP(P w K mg base):=bI P w K mg base "least_of" 8 ["row"] anz
def Hj(r:Rw)(L:List Int):Rw:=⟨r.b,Pm.fR r.b L,r.starts.take (L.length-1)⟩
inductive ahx(vs:List V)(H:Hp)(Q:VK)(E:XK):Prop|mk (v:V) (r:Rw) (cD:vs=[v]) (cB:jH H v r) (cL:jc r) (cY:j6 r.b) (dM:Tame r) (fu:∀v' L H',Same H H'->jH H' v' (Hj r L)->j7 r.b r.at L->L.length<=r.rule.length+1->Q v' H')
def akz:Sp:=λvs H Q E=>ahx  vs H Q E
abbrev abM(P w K mg base):=bI P w K mg base "shortest" 9 ["row"] akz
inductive aqH(K:W.Frag)(vs:List V)(H:Hp)(Q:VK)(E:XK):Prop|mk (a ns k) (cD:vs=[.ref a,.int k]) (cB:aq K H a (ns.map V.int)) (cL:0<=k) (cY:Q (.int (cellAt ns k)) H)
def amx(K:W.Frag):Sp:=λvs H Q E=>aqH K vs H Q E
abbrev Iu(P w K mg base):=bI P w K mg base "_law_cell_at" 1 ["_law_script","_law_k"] (amx K)
def AH(c k:Int):Int:=(c%2147483647+1)*(k*k+48271)%2147483629
def kJ(c k:Int):Int:=AH c k*(AH c k+3*k)%2147483587
inductive akd(vs:List V)(H:Hp)(Q:VK)(E:XK):Prop|mk (c k:Int) (cD:vs=[.int c,.int k]) (cB:0<=k) (cL:k<=1000) (cY:Q (.int (kJ c k)) H)
def ar3:Sp:=λvs H Q E=>akd  vs H Q E
abbrev acB(P w K mg base):=bI P w K mg base "_law_mixed" 1 ["_law_cell","_law_k"] ar3
abbrev Qm(P w K mg base):=bI P w K mg base "_law_taken" 1 ["_law_by_here","_law_number_here"] Yh
def jZ(b c s:Int):Int:=if b>0 then c%b else if s=0 then c%7-3 else if s=1 then c%201-100 else c*7919%(2*10^12-1)-10^12+1
def abn{b:Int}(hb:b<1000)(c s:Int):Rm.Bd 40 (jZ b c s):=by
 have a:=iC c (show(0:Int)<7 by decide);have a':=iM c (show(0:Int)<7 by decide);have d:=iC c (show(0:Int)<201 by decide);have d':=iM c (show(0:Int)<201 by decide);have e:=iC (c*7919) (show(0:Int)<2*10^12-1 by decide);have e':=iM (c*7919) (show(0:Int)<2*10^12-1 by decide);refine Rm.Bd.of ?_ ?_<;>unfold jZ
 .split
  .rename_i h;have:=iC c h;omega
  .split
   .omega
   .split
    .omega
    .generalize c*7919%(2*10^12-1)=m at e e'⊢;omega
 .split
  .rename_i h;have:=iM c h;omega
  .split
   .omega
   .split
    .omega
    .generalize c*7919%(2*10^12-1)=m at e e'⊢;omega
inductive ahe(vs:List V)(H:Hp)(Q:VK)(E:XK):Prop|mk (b c s:Int) (cD:vs=[.int b,.int c,.int s]) (cB:Q (.int (jZ b c s)) H)
def ald:Sp:=λvs H Q E=>ahe  vs H Q E
abbrev adW(P w K mg base):=bI P w K mg base "_law_number" 1 ["_law_by_here","_law_cell","_law_sort"] ald
structure RwL(b:Int)(most:Nat)(r:Rw):Prop where
 by_:r.b=b
 len:r.rule.length=r.starts.length
 short:r.rule.length<=most
 afp:∀x∈r.rule,lG b x
 aez:∀x∈r.starts,lG b x
 lY:∀x∈r.rule,Rm.Bd 40 x
 uQ:∀x∈r.starts,Rm.Bd 40 x
def adv{b:Int}(hB:j6 b)(c s:Int):lG b (jZ b c s):=by
 obtain⟨hb0,_,_⟩:=hB.range;by_cases h:b=0
 .exact .inl h
 .have hb:0<b:=by omega
  have e:jZ b c s=c%b:=if_pos hb;rw[e];exact .inr ⟨iC c hb,iM c hb⟩
def lG.zero{b:Int}(hB:j6 b):lG b 0:=by
 obtain⟨hb0,_,_⟩:=hB.range;by_cases h:b=0
 .exact .inl h
 .exact .inr ⟨Q5 _,by omega⟩
def oX(b n:Int)(rule:List Int):List Int:=Pm.aH (rule.length+1) λk=>Rm.tk b (0-((if k<rule.length then 0-Pm.co rule k else 0)-n*(if k=0 then 1 else 0-Pm.co rule (k-1))))
def CN(b n:Int)(rule:List Int):(oX b n rule).length=rule.length+1:=Pm.bG ..
def jt(rule:List Int):List Int:=1::rule.map λx=>0-x
def Bx(rule:List Int):(jt rule).length=rule.length+1:=by rw[jt,gP,aG]
def U7(rule:List Int)(k:Nat):Pm.co (jt rule) k=if k=0 then 1 else 0-Pm.co rule (k-1):=by
 cases k with
 |zero=>rfl
 |succ k=>
  rw[if_neg (by omega),dY];show Pm.co (1::_) (k+1)=_;rw[Pm.jf,Pm.lV (f:=λx=>0-x) rfl]
def oO(n:Int)(rule:List Int):List Int:=List.zipWith (λx y=>x-n*y) (jt rule++[0]) ([0]++jt rule)
def SY(n:Int)(rule:List Int):(oO n rule).length=rule.length+2:=by
 rw[oO,aaC,fJ,fJ,Bx];show min (rule.length+1+1) (1+(rule.length+1))=_;omega
def ar9{F:Int->Int->Int}{p q:List Int}{k:Nat}(h1:k<p.length)(h2:k<q.length):Pm.co (List.zipWith F p q) k=F (Pm.co p k) (Pm.co q k):=by
 unfold Pm.co;rw[dh,U5,dh,dh,eY h1,eY h2];rfl
def asV{n:Int}{rule:List Int}{k:Nat}(hk:k<rule.length+1):Pm.co (oO n rule) (k+1)=(if k<rule.length then 0-Pm.co rule k else 0)-n*(if k=0 then 1 else 0-Pm.co rule (k-1)):=by
 have l1:(jt rule++[0]).length=rule.length+2:=by rw[fJ,Bx];rfl
 have l2:([0]++jt rule).length=rule.length+2:=by rw[fJ,Bx];show 1+_=_;omega
 rw[oO,ar9 (by omega) (by omega),Pm.mK,Bx,Pm.mK,Mx,if_neg (by omega:¬k+1<1),dY,U7,U7];congr 1;by_cases c:k<rule.length
 .rw[if_pos (by omega),if_neg (by omega),if_pos c,dY]
 .rw[if_neg (by omega),if_neg c,show k+1-(rule.length+1)=0 by omega];rfl
def aoj(b n:Int)(rule:List Int):((oO n rule).drop 1).map (λx=>Rm.tk b (0-x))=oX b n rule:=by
 refine Pm.qK (by rw[aG,lJ,SY,CN];omega) λk=>?_;rw[Pm.lV (f:=λx=>Rm.tk b (0-x)) (by show Rm.tk b (0-0)=0;exact Pm.tk0 b),oX,Pm.dw];have ed:Pm.co ((oO n rule).drop 1) k=Pm.co (oO n rule) (k+1):=by
  unfold Pm.co;rw[dh,List.getElem?_drop,MP,<-dh]
 by_cases c:k<rule.length+1
 .rw[if_pos c,ed,asV c]
 .rw[if_neg c,ed,Pm.aY (by rw[SY];omega)];exact Pm.tk0 b
def aeV{b n:Int}{r:Rw}(hl:r.rule.length=r.starts.length)(hs:∀x∈r.starts,lG b x)(hb:r.b=b)(m:Nat):Rm.at_ b (oX b n r.rule) (r.row (r.rule.length+1)) m=r.at m:=by
 have e0:∀i,i<r.rule.length+1->(r.row (r.rule.length+1)).getD i 0=r.at i:=λi hi=>Rm.Jb _ _ _ hi;refine Rm.YW (by rw[CN,Rw.oV]) (g:=r.at) (λi hi=>?_) (λi hi=>?_) m
 .rw[Rw.oV]at hi;exact(e0 i hi).symm
 .rw[Rw.oV]at hi;have h1:r.at i=Rm.tk b (Rm.S r.rule r.at i r.rule.length):=by rw[<-hb];exact Rm.DG hl (by omega)
  rw[CN,h1,Pm.tE,Pm.tE];have e1:Rm.tk b (Pm.sm (r.rule.length+1) λk=>Pm.co (oX b n r.rule) k*r.at (i-1-k))=Rm.tk b (Pm.sm (r.rule.length+1) λk=>(if k<r.rule.length then Pm.co r.rule k*r.at (i-1-k)else 0)+n*(if k=0 then r.at (i-1)else -(Pm.co r.rule (k-1)*r.at (i-1-k)))):=Pm.iz λk hk=>by
   rw[oX,Pm.dw,if_pos hk,Rm.jA];refine congrArg (Rm.tk b) ?_;by_cases c:k=0
   .rw[if_pos c,if_pos c,c];by_cases d:0<r.rule.length
    .rw[if_pos d,if_pos d,sY,iI,show(0-(0-Pm.co r.rule 0-n))=Pm.co r.rule 0+n by omega,rE]
    .rw[if_neg d,if_neg d,sY,iI,show(0-(0-n))=n by omega,gC]
   .rw[if_neg c,if_neg c];by_cases d:k<r.rule.length
    .rw[if_pos d,if_pos d,mj,mj,bN,mj,mj,gY,oF];omega
    .rw[if_neg d,if_neg d,mj,mj,bN,mj,gY,oF];omega
  rw[e1,Pm.iy,Pm.dj];have e2:Pm.sm (r.rule.length+1) (λk=>if k<r.rule.length then Pm.co r.rule k*r.at (i-1-k)else 0)=Pm.sm r.rule.length λk=>Pm.co r.rule k*r.at (i-1-k):=by
   rw[Pm.sm,if_neg (jK _),cU];exact Pm.aP λk hk=>if_pos hk
  have e3:Pm.sm (r.rule.length+1) (λk=>if k=0 then r.at (i-1)else -(Pm.co r.rule (k-1)*r.at (i-1-k)))=r.at (i-1) + -1*Pm.sm r.rule.length λk=>Pm.co r.rule k*r.at (i-1-1-k):=by
   rw[Pm.nW,if_pos rfl,<-Pm.dj];congr 1;refine Pm.aP λk _=>?_;rw[if_neg (by omega),dY,show i-1-(k+1)=i-1-1-k by omega];omega
  rw[e2,e3];have z:Rm.tk b (r.at (i-1) + -1*Pm.sm r.rule.length λk=>Pm.co r.rule k*r.at (i-1-1-k))=0:=by
   have h2:r.at (i-1)=Rm.tk b (Rm.S r.rule r.at (i-1) r.rule.length):=by rw[<-hb];exact Rm.DG hl (by omega)
   rw[h2,Pm.tE,Rm.jP,show ∀x:Int,x + -1*x=0 fromλx=>by omega,Pm.tk0]
  rw[<-Rm.yc,<-Rm.dF,z,aR,Pm.tk0,cU]
def Z0(F:Int->Int->Int):V->V->V
 |.int u,.int v=> .int (F u v)
 |_,_=> .non
theorem abD(F:Int->Int->Int):∀p q:List Int,List.zipWith (Z0 F) (p.map V.int) (q.map V.int)=(List.zipWith F p q).map V.int
 |[],_=>by simp
 |_::_,[]=>by simp
 |a::p,b::q=>by
  rw[dz,dz,List.zipWith_cons_cons,abD F p q];rfl
def ah5(p:List Int)(F:Nat->Int->Int):(p.map V.int).mapIdx (λj x=>match x with | .int n=>V.int (F j n)|_=>V.non)=(Pm.aH p.length λj=>F j (Pm.co p j)).map V.int:=by
 refine List.ext_getElem? λj=>?_;rw[ady,jV,jV];by_cases hj:j<p.length
 .rw[eY hj,Pm.aH,jV,B5 hj];show some (V.int (F j p[j]))=some (V.int (F j (p.getD j 0)));rw[dh,eY hj];rfl
 .rw[ud (by omega),ud (by rw[Pm.bG];omega)];rfl
inductive aoH(vs:List V)(H:Hp)(Q:VK)(E:XK):Prop|mk (v:V) (r:Rw) (c:Int) (cD:vs=[v,.int c]) (cB:jH H v r) (cL:jc r) (cY:0<=c) (dM:c<=900) (fu:Told H Q ((r.row c.toNat).map V.int))
def aic:Sp:=λvs H Q E=>aoH  vs H Q E
abbrev RK(P w K mg base):=bI P w K mg base "_law_gone" 2 ["_law_row_here","_law_count"] aic
def CZ:List Int:=[0,0,0,1,0,2]
inductive akN(K:W.Frag)(vs:List V)(H:Hp)(Q:VK)(E:XK):Prop|mk (a:Addr) (ns:List Int) (st b:Int) (most:Nat) (cD:vs=[.ref a,.int st,.int b,.int most]) (cB:aq K H a (ns.map V.int)) (cL:0<=st) (cY:j6 b) (dM:most<=12) (fu:∀v r H',Same H H'->jH H' v r->RwL b most r->Q v H')
def arx(K:W.Frag):Sp:=λvs H Q E=>akN K vs H Q E
abbrev Xq(P w K mg base):=bI P w K mg base "_law_row" 2 ["_law_script","_law_start","_law_by_here","_law_most"] (arx K)
inductive ajv(vs:List V)(H:Hp)(Q:VK)(E:XK):Prop|mk (v:V) (r:Rw) (n:Int) (cD:vs=[v,.int n]) (cB:jH H v r) (cL:jc r) (cY:r.rule.length<12) (dM:Rm.Bd 40 n) (fu:∀v' H',Same H H'->jH H' v' ⟨r.b,oX r.b n r.rule,r.row (r.rule.length+1)⟩->Q v' H')
def aor:Sp:=λvs H Q E=>ajv  vs H Q E
abbrev Vr(P w K mg base):=bI P w K mg base "_law_longer" 3 ["_law_row_here","_law_number_here"] aor
def j7.uniq{b:Int}(h1:Rm.tk b 1=1){f:Nat->Int}{L L':List Int}(h:j7 b f L)(h':j7 b f L'):L=L':=by
 have d:=h.all L' h'.kp;have d':=h'.all L h.kp;have l1:=d.len h1 h.mon h'.mon;have l2:=d'.len h1 h'.mon h.mon;refine Pm.qK (by omega) λk=>?_;rw[<-h.nu k,<-h'.nu k];exact(d.same h1 h.mon h'.mon (by omega) k).symm
def afd{r:Rw}{n:Nat}{x:Int}(h:x∈r.row n):∃i,i<n/\x=r.at i:=by
 have e:r.row n=(List.range n).map r.at:=Rm.Nu ..;rw[e]at h;obtain⟨i,hi,rfl⟩:=cM.mp h;exact⟨i,kW.mp hi,rfl⟩
structure LgR(b:Int)(r0:Rw)(i:Nat)(r:Rw):Prop where
 by_:r.b=b
 len:r.rule.length=r0.rule.length+i
 Nx:r.rule.length=r.starts.length
 num:∀x∈r.rule,lG b x
 lY:∀x∈r.rule,Rm.Bd (40+4*i) x
 same:∀n,r.at n=r0.at n
inductive akg(K:W.Frag)(vs:List V)(H:Hp)(Q:VK)(E:XK):Prop|mk (b:Int) (l:Addr) (p:List Int) (cD:vs=[.int b,.ref l]) (cB:0<=b) (cL:H l=some (.lst (p.map V.int))) (cY:p.length<=1000) (dM:Told H Q ((p.map (Rm.tk b)).map V.int))
def amX(K:W.Frag):Sp:=λvs H Q E=>akg K vs H Q E
abbrev Ut(P w K mg base):=bI P w K mg base "line_taken" 2 ["by","line"] (amX K)
inductive ai9(vs:List V)(H:Hp)(Q:VK)(E:XK):Prop|mk (ll:Addr) (xs:List V) (L:List (List Int)) (W r c:Nat) (cI:Int) (ex:List Addr) (cD:vs=[.ref ll,.int r,.int cI]) (cB:cI=(c:Int)) (cL:H ll=some (.lst xs)) (cY:bV H ex xs L) (dM:(∀i,i<L.length->(Dm.ln L i).length=W)) (fu:c<W) (jC:L.length<=1000) (mQ:r<=L.length) (oU:(∀a:Nat,r<=a->a<L.length->Pm.co (Dm.ln L a) c≠0->Q (.int a) H)) (ug:((∀i,r<=i->i<L.length->Pm.co (Dm.ln L i) c=0)->Q .non H))
def afa:Sp:=λvs H Q E=>ai9  vs H Q E
abbrev Vi(P w K mg base):=bI P w K mg base "head_line" 1 ["lines","begin","column"] afa
def Brt(b:Int)(L L':List (List Int))(a r:Nat):Prop:=(a=r/\L'=L)∨(r<a/\L'.length=L.length/\Dm.ln L' r=Dm.ln L a/\Dm.ln L' a=(Dm.ln L r).map (λx=>Rm.tk b (0-x))/\∀i,i≠r->i≠a->Dm.ln L' i=Dm.ln L i)
inductive atF(vs:List V)(H:Hp)(Q:VK)(E:XK):Prop|mk (b:Int) (ll:Addr) (xs:List V) (L:List (List Int)) (a r:Nat) (ex:List Addr) (cD:vs=[.int b,.ref ll,.int a,.int r]) (cB:0<=b) (cL:H ll=some (.lst xs)) (cY:bV H ex xs L) (dM:ll∈ex) (fu:Stand H ex) (jC:r<=a) (mQ:a<L.length) (oU:(∀i,i<L.length->(Dm.ln L i).length<=1000)) (ug:∀xs' L' H',Keep ll H H'->H' ll=some (.lst xs')->bV H' ex xs' L'->Brt b L L' a r->Q .non H')
def aoV:Sp:=λvs H Q E=>atF  vs H Q E
abbrev Yi(P w K mg base):=bI P w K mg base "bring_up" 2 ["by","lines","at","top"] aoV
def ToldF(H:Hp)(Q:VK)(b last pv fa:Int)(p r:List Int):Prop:=∀t m H',Same H H'->H t=none->H' t=some (.lst (List.map V.int m))->m.length=p.length->(∀k,k<p.length->Pm.co m k=Rm.tk b (Pm.co m k)/\Rm.tk b (last*Pm.co m k)=Rm.tk b (pv*Pm.co p k-fa*Pm.co r k))->Q (.ref t) H'
inductive ae9(vs:List V)(H:Hp)(Q:VK)(E:XK):Prop|mk (b last:Int) (l1 l2:Addr) (p r:List Int) (c:Nat) (cI:Int) (cD:vs=[.int b,.ref l1,.ref l2,.int cI,.int last]) (cB:cI=(c:Int)) (cL:b=0) (cY:H l1=some (.lst (p.map V.int))) (dM:H l2=some (.lst (r.map V.int))) (fu:p.length=r.length) (jC:c<p.length) (mQ:p.length<=1000) (oU:last≠0) (ug:last=Rm.tk b last) (zx:Rm.Bd 8000 last) (Bv:(∀x∈p,Rm.Bd 1000000 x)) (Ep:(∀x∈r,Rm.Bd 1000000 x)) (YS:(b=0->∀k,k<p.length->∃e,Pm.co r c*Pm.co p k-Pm.co p c*Pm.co r k=last*e)) (auU:ToldF H Q b last (Pm.co r c) (Pm.co p c) p r)
def ajR:Sp:=λvs H Q E=>ae9  vs H Q E
def ajm{x:Int}{n:Nat}(h0:x≠0)(h:Rm.Bd n x):x.natAbs.log2<n:=(Ly (by omega)).mpr h
abbrev Xa(P w K mg base):=bI P w K mg base "freed" 4 ["by","line","head","column","last"] ajR
def Ob(b:Int)(n W u:Nat)(A0:Nat->Nat->Int):Prop:=∀c A hd r L last,c<=W->Dm.dJ b n W u A0 c A hd r L last->Rm.Bd 8000 last/\∀i,i<n->∀x∈Dm.ln L i,Rm.Bd 8000 x
def aq3{b:Int}(hB:j6 b){n W u l:Nat}{A0:Nat->Nat->Int}(h:∀c A hd r L last,c<=W->Dm.dJ b n W u A0 c A hd r L last->r<=l)(hu:(l+1)*(u+(l+1))+1<=8000):Ob b n W u A0:=λc A hd r L last hcw I=>by
 obtain⟨hb0,hb1,_⟩:=hB.range;have hr:=h c A hd r L last hcw I;have bb:Rm.Bd 8000 b:=(Rm.Bd.of (n:=10) (by omega) (by omega)).mono (by decide);have z1:r*(u+r)<=(l+1)*(u+(l+1)):=jh (by omega) (by omega);have z2:(r+1)*(u+(r+1))<=(l+1)*(u+(l+1)):=jh (by omega) (by omega);refine⟨?_,λi hi x hx=>?_⟩
 .rw[I.la];exact Rm.rK hb0 bb ((Dm.zq (u:=u) λi' k' _ _=>I.tM _ _).mono (by omega))
 .obtain⟨k,hk,e⟩:=jG.mp hx;rw[<-e,<-Pm.iV hk,I.en i k hi (by rw[<-I.wd i hi];exact hk)];exact Rm.rK hb0 bb ((I.Xx i k).mono (by omega))
inductive agg(vs:List V)(H:Hp)(Q:VK)(E:XK):Prop|mk (b:Int) (wide:Nat) (ll:Addr) (xs:List V) (L:List (List Int)) (W u:Nat) (ex:List Addr) (cD:vs=[.int b,.int wide,.ref ll]) (cB:b=0) (cL:H ll=some (.lst xs)) (cY:bV H ex xs L) (dM:ll∈ex) (fu:Stand H ex) (jC:wide<=W) (mQ:W<=100) (oU:L.length<=30) (ug:Ob b L.length W u (λi k=>Pm.co (Dm.ln L i) k)) (zx:(∀i,i<L.length->(Dm.ln L i).length=W)) (Bv:(∀i k,Rm.tk b (Pm.co (Dm.ln L i) k)=Pm.co (Dm.ln L i) k)) (Ep:(∀i k,Rm.Bd u (Pm.co (Dm.ln L i) k))) (YS:∀t th A hd r L' last xs' H',Keep ll H H'->H' t=some (.tup [.ref th,.int last])->H' th=some (.lst ((Pm.aH r λh=>((hd h:Nat):Int)).map V.int))->H' ll=some (.lst xs')->bV H' ex xs' L'->Dm.dJ b L.length W u (λi k=>Pm.co (Dm.ln L i) k) wide A hd r L' last->Q (.ref t) H')
def aeI:Sp:=λvs H Q E=>agg  vs H Q E
abbrev adb(P w K mg base):=bI P w K mg base "clear" 5 ["by","wide","lines"] aeI
def apF{J:It}{xs:List V}{ix:List (Option Nat)}{te:TE}{σ:St}{H1:Hp}{Q:VK}(I:uR J xs H1)(hz:xs.length<=sizeLine){rest:St}(hst:cst ix σ=none::rest)(F:V->V)
  (he:∀(H':Hp) (x:V),Same H1 H'->x∈xs->∀k:VK,(∀H2,Same H' H2->k (F x) H2)->te (some x::rest) H' k)
  (hQ:∀D H',H1 D=none->Same H1 H'->H' D=some (.lst (xs.map F))->Q (.ref D) H'):
  jL ix (gU 0) lF te σ Q J H1:=by
 constructor;intro D hD;refine⟨λi m σ' H'=>m=xs.length-i/\i<=xs.length/\(∃o,σ'=o::rest)/\Same H1 H'/\H' D=some (.lst ((xs.take i).map F)),⟨xs.length,by simp,cJ _,⟨none,hst⟩,Same.new hD _,by rw[aA];rfl⟩,?_⟩;rintro i m σ' H' ⟨rfl,hi,⟨o,rfl⟩,g,hl⟩;by_cases hlt:i<xs.length
 .refine .inr ⟨I.go i _ g hlt,λx H2 y=>?_⟩;obtain⟨rfl,hx⟩:=I.jB i _ x H2 g y;have hx:=hx hlt;have hm:x∈xs:=jF hx;have et:xs.take (i+1)=xs.take i++[x]:=by rw[qO,hx];rfl
  change te (some x::rest) H2 _;refine he H2 x g hm _ λH3 g3=>⟨_,g3 _ _ hl,by rw[aG,jl];omega,xs.length-(i+1),by omega,rfl,hlt,⟨_,rfl⟩,Same.upd (g.trans g3) hD _,?_⟩;rw[aA,et,jq];rfl
 .have e:i=xs.length:=by omega
  subst e;rw[kE]at hl;exact .inl ⟨I.stop _ _ g (aN _),hQ D H' hD g hl⟩
def YF{J:It}{xs:List V}{ix:List (Option Nat)}{te:TE}{σ:St}{H1:Hp}{Q:VK}(I:uR J xs H1)(hz:xs.length<=1000){rest:St}(hst:cst ix σ=none::rest)(G:V->List Int)
  (he:∀(H':Hp) (x:V),Same H1 H'->x∈xs->∀k:VK,(∀t' H2,Same H' H2->H' t'=none->H2 t'=some (.lst ((G x).map V.int))->k (.ref t') H2)->te (some x::rest) H' k)
  (hQ:∀D ys H',H1 D=none->Same H1 H'->H' D=some (.lst ys)->bV H' [D] ys (xs.map G)->Q (.ref D) H'):
  jL ix (gU 0) lF te σ Q J H1:=by
 constructor;intro D hD;refine⟨λi m σ' H'=>m=xs.length-i/\i<=xs.length/\(∃o,σ'=o::rest)/\Same H1 H'/\∃ys,H' D=some (.lst ys)/\bV H' [D] ys ((xs.take i).map G),⟨xs.length,by simp,cJ _,⟨none,hst⟩,Same.new hD _,[],aA,.nil⟩,?_⟩;rintro i m σ' H' ⟨rfl,hi,⟨o,rfl⟩,g,ys,hl,hy⟩;by_cases hlt:i<xs.length
 .refine .inr ⟨I.go i _ g hlt,λx H2 y=>?_⟩;obtain⟨rfl,hx⟩:=I.jB i _ x H2 g y;have hx:=hx hlt;have hm:x∈xs:=jF hx;have et:xs.take (i+1)=xs.take i++[x]:=by rw[qO,hx];rfl
  change te (some x::rest) H2 _;refine he H2 x g hm _ λt' H3 g3 hn h3=>⟨ys,g3 _ _ hl,?_,xs.length-(i+1),by omega,rfl,hlt,⟨_,rfl⟩,Same.upd (g.trans g3) hD _,ys++[.ref t'],aA,?_⟩
  .have:=hy.len;rw[aG,jl]at this;have:=eE hz;omega
  .have tD:t'∉[D]:=λz=>by
    rw[cP.mp z,hl]at hn;cases hn
   rw[et,jq];exact(bV.append tD h3 (hy.same g3)).keep (cP.mpr rfl) (Keep.upd D H3 _)
 .have e:i=xs.length:=by omega
  subst e;rw[kE]at hy;exact .inl ⟨I.stop _ _ g (aN _),hQ D ys H' hD g hl hy⟩
def arQ{T:List (List Int)}{i:Nat}(h:i<T.length):Dm.ln T i∈T:=by
 unfold Dm.ln;rw[dh,eY h];exact DW h
def Ez(f:Nat->List Int):V->List Int
 |.int k=>f k.toNat
 |_=>[]
def aqj{K:W.Frag}{a:Addr}{xs:List V}{ps:List (List Int)}{ex:List Addr}{ix:List (Option Nat)}{te:TE}{σ:St}{H1:Hp}{Q:VK}(hA:H1 a=some (.lst xs))(hp:bV H1 ex xs ps)(hz:xs.length<=1000){rest:St}(hst:cst ix σ=none::rest)(G:List Int->V)
  (he:∀(H':Hp) (t:Addr) (p:List Int),Same H1 H'->p∈ps->H' t=some (.lst (p.map V.int))->∀k:VK,(∀H2,Same H' H2->k (G p) H2)->te (some (.ref t)::rest) H' k)
  (hQ:∀D H',H1 D=none->Same H1 H'->H' D=some (.lst (ps.map G))->Q (.ref D) H'):
  jL ix (gU 0) lF te σ Q (lB K a) H1:=by
 have I:=kY (K:=K) (aq.of hA);have lx:=hp.len;constructor;intro D hD;refine⟨λi m σ' H'=>m=xs.length-i/\i<=xs.length/\(∃o,σ'=o::rest)/\Same H1 H'/\H' D=some (.lst ((ps.take i).map G)),⟨xs.length,by simp,cJ _,⟨none,hst⟩,Same.new hD _,aA⟩,?_⟩;rintro i m σ' H' ⟨rfl,hi,⟨o,rfl⟩,g,hl⟩;by_cases hlt:i<xs.length
 .refine .inr ⟨I.go i _ g hlt,λx H2 y=>?_⟩;obtain⟨rfl,hx⟩:=I.jB i _ x H2 g y;have hx:=hx hlt;obtain⟨t,e1,_,e2⟩:=hp.get (show i<ps.length by omega);rw[e1]at hx;cases hx;have hpi:ps[i]?=some (Dm.ln ps i):=by
   unfold Dm.ln;rw[dh,eY (by omega)];rfl
  have et:ps.take (i+1)=ps.take i++[Dm.ln ps i]:=by rw[qO,hpi];rfl
  change te (some (.ref t)::rest) H2 _;refine he H2 t (Dm.ln ps i) g (jF hpi) (g _ _ e2) _ λH3 g3=>⟨_,g3 _ _ hl,?_,xs.length-(i+1),by omega,rfl,hlt,⟨_,rfl⟩,Same.upd (g.trans g3) hD _,?_⟩
  .rw[aG,jl];have:=eE hz;omega
  .rw[aA,et,jq];rfl
 .have e:i=xs.length:=by omega
  subst e;rw[lx,kE]at hl;exact .inl ⟨I.stop _ _ g (aN _),hQ D H' hD g hl⟩
def JM(x:Int):(if x<0 then -x else x)=(x.natAbs:Int):=by split<;>omega
inductive arO(vs:List V)(H:Hp)(Q:VK)(E:XK):Prop|mk (x y:Int) (cD:vs=[.int x,.int y]) (cB:Q (.int (Nat.gcd x.natAbs y.natAbs:Nat)) H)
def aqD:Sp:=λvs H Q E=>arO  vs H Q E
abbrev WQ(P w K mg base):=bI P w K mg base "common_divisor" 1 ["one","other"] aqD
def aoh{bt:Int}{ts:List Int}(h0:bt≠0)(h:Rm.Bd 8000 bt):(Lm.low bt ts).natAbs.log2<9000:=by
 have n0:=Lm.low_ne h0 ts;refine Lx ((Ly (n:=(Lm.low bt ts).natAbs) (k:=8000) (by omega)).mpr ?_) (by decide);refine n8 ?_ h;have d:(Lm.low bt ts).natAbs∣bt.natAbs:=Qf.mpr (Lm.Vk bt ts);exact rC (by omega) d
inductive am5(vs:List V)(H:Hp)(Q:VK)(E:XK):Prop|mk (bt:Int) (l:Addr) (ts:List Int) (cD:vs=[.int 0,.int bt,.ref l]) (cB:bt≠0) (cL:H l=some (.lst (ts.map V.int))) (cY:ts.length<=100) (dM:Rm.Bd 8000 bt) (fu:∀t lt bot us H',Same H H'->H' t=some (.tup [.int bot,.ref lt])->H' lt=some (.lst (List.map V.int us))->H lt=none->Dm.Low 0 bt ts bot us->Q (.ref t) H')
def ard:Sp:=λvs H Q E=>am5  vs H Q E
abbrev Mw(P w K mg base):=bI P w K mg base "lowest" 4 ["by","bottom","tops"] ard
theorem bV.drop{H:Hp}{ex:List Addr}:∀{xs:List V} {ps:List (List Int)} (r:Nat),bV H ex xs ps->bV H ex (xs.drop r) (ps.drop r)
 |_,_,0,h=>h
 |_,_,_+1,.nil=> .nil
 |_,_,r+1,.cons _ _ h=>bV.drop r h
def abZ{L:List (List Int)}{r:Nat}{p:List Int}(h:p∈L.drop r):∃i,r<=i/\i<L.length/\p=Dm.ln L i:=by
 obtain⟨j,hj,e⟩:=jG.mp h;rw[lJ]at hj;refine⟨r+j,by omega,by omega,?_⟩;unfold Dm.ln;rw[dh,eY (by omega),<-e,List.getElem_drop];rfl
def an9{L:List (List Int)}{r i:Nat}(h1:r<=i)(h2:i<L.length):Dm.ln L i∈L.drop r:=by
 refine jG.mpr ⟨i-r,by rw[lJ];omega,?_⟩;unfold Dm.ln;rw[List.getElem_drop,dh,eY h2];simp only[Option.getD_some];congr 1;omega
def anO(b:Int)(L:List (List Int))(ws:List Int):(((List.range L.length).map λi=>V.int (0+(i:Nat))).map (Ez λi=>(Dm.ln L i++[Pm.co ws i]).map (Rm.tk b)))=Dm.pZ b L ws:=by
 rw[Dm.pZ,fj];refine wj λi _=>?_;show(Dm.ln L (0+(i:Int)).toNat++_).map _=_;rw[show(0+(i:Int)).toNat=i by omega]
def QG(b:Int)(n W u:Nat)(A:Nat->Nat->Int):Prop:=10<=u/\Ob b n W u A
def Lj:Sp:=λ_ _ _ _=>False
abbrev Wl(P w K mg base):=bI P w K mg base "free_numbers" 5 ["by","wide","lines","heads","last"] Lj
inductive aeQ(vs:List V)(H:Hp)(Q:VK)(E:XK):Prop|mk (u wide:Nat) (ta tw:Addr) (xs:List V) (L:List (List Int)) (ws:List Int) (ex:List Addr) (cD:vs=[.int 0,.int wide,.ref ta,.ref tw]) (cB:H ta=some (.lst xs)) (cL:bV H ex xs L) (cY:H tw=some (.lst (ws.map V.int))) (dM:ws.length=L.length) (fu:L.length<=30) (jC:wide<=60) (mQ:QG 0 L.length (wide+1) u (Dm.aug 0 L ws)) (oU:(∀i,i<L.length->(Dm.ln L i).length=wide)) (ug:(∀p∈L,∀x∈p,Rm.Bd u x)) (zx:(∀x∈ws,Rm.Bd u x)) (Bv:(∃x bt,Rm.tk 0 bt≠0/\Dm.gO 0 L.length wide (Dm.aug 0 L ws) x bt)) (Ep:Dm.sI 0 L.length wide (Dm.aug 0 L ws)) (YS:(∀bot us,Dm.wC u 0 L.length wide (Dm.aug 0 L ws) bot us->∀t lt H',Same H H'->H' t=some (.tup [.str ("one" : Str),.int bot,.ref lt])->H' lt=some (.lst (List.map V.int us))->Q (.ref t) H'))
def aqN:Sp:=λvs H Q E=>aeQ  vs H Q E
abbrev MJ(P w K mg base):=bI P w K mg base "solution" 6 ["by","wide","table","wished"] aqN
inductive cT(H:Hp):List V->List (List Int)->Prop
 |nil:cT H [] []
 |cons {t:Addr} {p:List Int} {xs:List V} {ps:List (List Int)}:H t=some (.tup (p.map V.int))->cT H xs ps->cT H (.ref t::xs) (p::ps)
theorem cT.up{H H':Hp}(g:∀b ts,H b=some (.tup ts)->H' b=some (.tup ts)):∀{xs:List V} {ps:List (List Int)},cT H xs ps->cT H' xs ps
 |_,_,.nil=> .nil
 |_,_,.cons h r=> .cons (g _ _ h) (cT.up g r)
def cT.same{H H':Hp}(g:Same H H'){xs:List V}{ps:List (List Int)}(h:cT H xs ps):cT H' xs ps:=h.up λb ts e=>g b _ e
def cT.set{H:Hp}{D:Addr}{ys:List V}{o:HO}(hD:H D=some (.lst ys)){xs:List V}{ps:List (List Int)}(h:cT H xs ps):cT (upd H D o) xs ps:=h.up λb ts e=>by rw[cC λq=>by rw[q,hD]at e;cases e];exact e
theorem cT.len{H:Hp}:∀{xs:List V} {ps:List (List Int)},cT H xs ps->xs.length=ps.length
 |_,_,.nil=>rfl
 |_,_,.cons _ r=>by rw[gP,gP,cT.len r]
theorem cT.append{H:Hp}:∀{xs ys:List V} {ps qs:List (List Int)},cT H xs ps->cT H ys qs->cT H (xs++ys) (ps++qs)
 |_,_,_,_,.nil,h=>h
 |_,_,_,_,.cons h r,h'=> .cons h (cT.append r h')
theorem cT.get{H:Hp}:∀{xs:List V} {ps:List (List Int)} {i:Nat} {x:V},cT H xs ps->xs[i]?=some x->∃t p,x = .ref t/\ps[i]?=some p/\H t=some (.tup (p.map V.int))
 |_,_,_,_,.nil,h=>by cases h
 |_,_,0,_,.cons h _,e=>by cases e;exact⟨_,_,rfl,rfl,h⟩
 |_,_,i+1,_,.cons _ r,e=>cT.get (i:=i) r e
def aeG{K:W.Frag}{a:Addr}{xs:List V}{ps:List (List Int)}{ix:List (Option Nat)}{tc:TT}{te:TE}{σ:St}{H1:Hp}{Q:VK}(hA:H1 a=some (.lst xs))(hp:cT H1 xs ps)(hz:xs.length<=1000){rest:St}(hst:cst ix σ=none::rest)(pt:List Int->Bool)
  (ht:∀(H':Hp) (t:Addr) (c:List Int),Same H1 H'->c∈ps->H' t=some (.tup (c.map V.int))->∀kk:Bool->Hp->Prop,(∀H2,Same H' H2->kk (pt c) H2)->tc (some (.ref t)::rest) H' kk)
  (he:∀(H':Hp) (t:Addr) (k:VK),k (.ref t) H'->te (some (.ref t)::rest) H' k)
  (hQ:∀D H' ys,H1 D=none->Same H1 H'->H' D=some (.lst ys)->cT H' ys (ps.filter pt)->Q (.ref D) H'):
  jL ix (gU 0) tc te σ Q (lB K a) H1:=by
 have I:=kY (K:=K) (aq.of hA);have lx:=hp.len;constructor;intro D hD;refine⟨λi m σ' H'=>m=xs.length-i/\i<=xs.length/\(∃o,σ'=o::rest)/\Same H1 H'/\∃ys,H' D=some (.lst ys)/\ys.length<=i/\cT H' ys ((ps.take i).filter pt),⟨xs.length,by simp,cJ _,⟨none,hst⟩,Same.new hD _,[],aA,aN _,.nil⟩,?_⟩;rintro i m σ' H' ⟨rfl,hi,⟨o,rfl⟩,g,ys,hl,hyl,hy⟩;by_cases hlt:i<xs.length
 .refine .inr ⟨I.go i _ g hlt,λx H2 y=>?_⟩;obtain⟨rfl,hx⟩:=I.jB i _ x H2 g y;obtain⟨t,p,rfl,ep,ht'⟩:=hp.get (hx hlt);have et:ps.take (i+1)=ps.take i++[p]:=by rw[qO,ep];rfl
  show tc (some (.ref t)::rest) _ _;refine ht H2 t p g (jF ep) (g _ _ ht') _ λH3 g3=>?_;cases hpt:pt p with
  |true=>
   rw[if_pos rfl];refine he H3 t _ ⟨ys,g3 _ _ hl,?_,xs.length-(i+1),by omega,rfl,hlt,⟨_,rfl⟩,Same.upd (g.trans g3) hD _,ys++[.ref t],aA,by rw[fJ];show ys.length+1<=_;omega,?_⟩
   .have:=eE hz;omega
   .have ef:([p]:List (List Int)).filter pt=[p]:=by simp[hpt]
    rw[et,Iv,ef];exact((hy.same g3).append (.cons (g3 _ _ (g _ _ ht')) .nil)).set (g3 _ _ hl)
  |false=>
   rw[if_neg fP];refine⟨xs.length-(i+1),by omega,rfl,hlt,⟨_,rfl⟩,g.trans g3,ys,g3 _ _ hl,by omega,?_⟩;have ef:([p]:List (List Int)).filter pt=[]:=by simp[hpt]
   rw[et,Iv,ef,xY];exact hy.same g3
 .have e:i=xs.length:=by omega
  subst e;rw[lx,kE]at hy;exact .inl ⟨I.stop _ _ g (aN _),hQ D H' ys hD g hl hy⟩
inductive alO(C:Addr)(vs:List V)(H:Hp)(Q:VK)(E:XK):Prop|mk (a:Addr) (P:List Int) (cD:vs=[.ref a]) (cB:H a=some (.tup (P.map V.int))) (cL:P.length<=40) (cY:((∀x∈P,x.natAbs<1000000)->∀H',Same H H'->Q .non H')) (dM:((∃x∈P,1000000<=x.natAbs)->∀H',Same H H'->E (.ref C) none H'))
def aoO(C:Addr):Sp:=λvs H Q E=>alO C vs H Q E
abbrev ac7(P w K mg base dN):=bI P w K mg base "refuse_big" 1 ["poly"] (aoO dN)
inductive ah7(vs:List V)(H:Hp)(Q:VK)(E:XK):Prop|mk (n:Nat) (cD:vs=[.int n]) (cB:n<=1000000) (cL:∀l H',Same H H'->H' l=some (.lst ((Pm.divs n).map V.int))->(Pm.divs n).length<=2002->Q (.ref l) H')
def am2:Sp:=λvs H Q E=>ah7  vs H Q E
abbrev aer(P w K mg base):=bI P w K mg base "whole_divisors" 1 ["number"] am2
inductive auy(vs:List V)(H:Hp)(Q:VK)(E:XK):Prop|mk (a:Addr) (P:List Int) (cD:vs=[.ref a]) (cB:H a=some (.tup (P.map V.int))) (cL:P.length<=40) (cY:(∃x∈P,x≠0)) (dM:(∀x∈P,x.natAbs<1000000)) (fu:∀l H',Same H H'->H' l=some (.lst ((Pm.cands P).map V.int))->(Pm.cands P).length<=5000->Q (.ref l) H')
def amS:Sp:=λvs H Q E=>auy  vs H Q E
abbrev Ww(P w K mg base):=bI P w K mg base "perhaps_roots" 2 ["poly"] amS
inductive ait(vs:List V)(H:Hp)(Q:VK)(E:XK):Prop|mk (a:Addr) (r:Int) (P:List Int) (u:Nat) (cD:vs=[.ref a,.int r]) (cB:H a=some (.tup (P.map V.int))) (cL:P.length<=40) (cY:Pm.Mon P) (dM:Rm.Bd 40 r) (fu:(∀x∈P,Rm.Bd u x)) (jC:u+P.length*1640<=200000) (mQ:∀t tl H',Same H H'->H' t=some (.tup [.int ((Pm.outF P.length P r).1:Nat),.ref tl])->H' tl=some (.tup ((Pm.outF P.length P r).2.map V.int))->Q (.ref t) H')
def anZ:Sp:=λvs H Q E=>ait  vs H Q E
abbrev abx(P w K mg base):=bI P w K mg base "divided_out" 3 ["poly","root"] anZ
def Io{K:W.Frag}{a:Addr}{xs:List V}{g:TG}{tb:TS}{D:Ends}{σ:St}{H:Hp}(Pv:Nat->St->Hp->Prop)(h0:Pv 0 σ H)(Il:∀i σ' H',Pv i σ' H'->aq K H' a xs)
  (hs:∀i x σ' H',xs[i]?=some x->Pv i σ' H'->g x σ' H' λσ2 H2=>tb { D with nx:=Pv (i+1),ct:=Pv (i+1),bk:=D.nx } σ2 H2) (hd:∀σ' H',Pv xs.length σ' H'->D.nx σ' H'):
  ∃W:Nat->Nat->St->Hp->Prop,(∃m,W 0 m σ H)/\∀i m σ H,W i m σ H->
   ((lB K a).stop i H/\D.nx σ H)∨((lB K a).go i H/\∃N:St->Hp->Prop,(∀σ' H',N σ' H'->∃m',m'<m/\W (i+1) m' σ' H')/\∀x H',(lB K a).jB i H x H'->g x σ H' λσ2 H2=>tb { D with nx:=N,ct:=N,bk:=D.nx } σ2 H2):=by
 refine⟨λi m σ' H'=>m=xs.length-i/\i<=xs.length/\Pv i σ' H',⟨xs.length,by simp,cJ _,h0⟩,?_⟩;rintro i m σ' H' ⟨rfl,hi,p⟩;have hq:=Il i σ' H' p;by_cases hlt:i<xs.length
 .refine .inr ⟨⟨xs,xs[i],hq,eY hlt⟩,Pv (i+1),λσ2 H2 p2=>⟨xs.length-(i+1),by omega,rfl,by omega,p2⟩,?_⟩;rintro x H2 ⟨rfl,hx⟩;exact hs i x σ' H2 (hx xs hq) p
 .have e:i=xs.length:=by omega
  subst e;exact .inl ⟨⟨xs,hq,aN _⟩,hd σ' H' p⟩
def asp{P:List Int}(hs:∀x∈P,x.natAbs<1000000):∀z∈Pm.cands P,Rm.Bd 40 z:=λz hz=>by
 have hlow:(Pm.gH P).natAbs<1000000:=by
  unfold Pm.gH;cases e:P.filter λx=>decide (x≠0)with
  |nil=>decide
  |cons y ys=>exact hs y (rJ.mp (e▸cQ ..:y∈P.filter λx=>decide (x≠0))).1
 have hm:∀x∈Pm.divs (Pm.gH P).natAbs,0<x/\x<=1000000:=Pm.wX _ (by omega) _ _ _ _ (by decide) (λx hx=>(gR hx).elim) (λx hx=>(gR hx).elim);unfold Pm.cands at hz;rcases eV.mp hz with hz|hz
 .rcases eV.mp hz with hz|hz
  .obtain⟨y,hy,rfl⟩:=cM.mp hz;have:=hm y (pX.mp hy);exact Rm.Bd.of (by omega) (by omega)
  .rw[cP.mp hz];exact Rm.Bd.zero _
 .have:=hm z hz;exact Rm.Bd.of (by omega) (by omega)
inductive atD(C:Addr)(vs:List V)(H:Hp)(Q:VK)(E:XK):Prop|mk (a:Addr) (P:List Int) (cD:vs=[.ref a]) (cB:H a=some (.tup (P.map V.int))) (cL:P.length<=13) (cY:Pm.Mon P) (dM:((∀x∈P,x.natAbs<1000000)->∀t lr tl xs H',Same H H'->H' t=some (.tup [.ref lr,.ref tl])->H' lr=some (.lst xs)->H lr=none->cT H' xs (Pm.wr P).1->H' tl=some (.tup ((Pm.wr P).2.map V.int))->Q (.ref t) H')) (fu:((∃x∈P,1000000<=x.natAbs)->∀H',Same H H'->E (.ref C) none H'))
def ao1(C:Addr):Sp:=λvs H Q E=>atD C vs H Q E
abbrev Mq(P w K mg base dN):=bI P w K mg base "whole_roots" 4 ["poly"] (ao1 dN)
inductive anA(C:Addr)(vs:List V)(H:Hp)(Q:VK)(E:XK):Prop|mk (v:V) (r:Rw) (cD:vs=[v]) (cB:jH H v r) (cL:(r.b=0->Q .non H)) (cY:(r.b≠0->E (.ref C) none H))
def agI(C:Addr):Sp:=λvs H Q E=>anA C vs H Q E
abbrev abb(P w K mg base eO):=bI P w K mg base "refuse_prime" 1 ["row"] (agI eO)
inductive cF(H:Hp)(ex:List Addr):List V->List (Int×List Int)->Prop
 |nil:cF H ex [] []
 |cons {t a:Addr} {r:Int} {ts:List Int} {xs:List V} {ps:List (Int×List Int)}:H t=some (.tup [.int r,.ref a])->a∉ex->H a=some (.lst (ts.map V.int))->cF H ex xs ps->cF H ex (.ref t::xs) ((r,ts)::ps)
theorem cF.same{H H':Hp}{ex:List Addr}(g:Same H H'):∀{xs:List V} {ps:List (Int×List Int)},cF H ex xs ps->cF H' ex xs ps
 |_,_,.nil=> .nil
 |_,_,.cons h1 n h2 r=> .cons (g _ _ h1) n (g _ _ h2) (cF.same g r)
theorem cF.set{H:Hp}{D:Addr}{ys:List V}{o:HO}(hD:H D=some (.lst ys)){ex:List Addr}(hx:D∈ex):∀{xs:List V} {ps:List (Int×List Int)},cF H ex xs ps->cF (upd H D o) ex xs ps
 |_,_,.nil=> .nil
 |_,_,.cons h1 n h2 r=> .cons (by rw[cC λq=>by rw[q,hD]at h1;cases h1];exact h1) n (by rw[cC λq=>n (by rw[q];exact hx)];exact h2) (cF.set hD hx r)
theorem cF.more{H:Hp}{D tl:Addr}(hn:H tl=none):∀{xs:List V} {ps:List (Int×List Int)},cF H [D] xs ps->cF H [D,tl] xs ps
 |_,_,.nil=> .nil
 |_,_,.cons h1 n h2 r=> .cons h1 (λz=>by
  rcases cj.mp z with z|z
  .exact n (cP.mpr z)
  .rw[cP.mp z,hn]at h2;cases h2) h2 (cF.more hn r)
theorem cF.less{H:Hp}{D tl:Addr}:∀{xs:List V} {ps:List (Int×List Int)},cF H [D,tl] xs ps->cF H [D] xs ps
 |_,_,.nil=> .nil
 |_,_,.cons h1 n h2 r=> .cons h1 (λz=>n (by rw[cP.mp z];exact cQ ..)) h2 (cF.less r)
theorem cF.len{H:Hp}{ex:List Addr}:∀{xs:List V} {ps:List (Int×List Int)},cF H ex xs ps->xs.length=ps.length
 |_,_,.nil=>rfl
 |_,_,.cons _ _ _ r=>by rw[gP,gP,cF.len r]
theorem cF.append{H:Hp}{ex:List Addr}:∀{xs ys:List V} {ps qs:List (Int×List Int)},cF H ex xs ps->cF H ex ys qs->cF H ex (xs++ys) (ps++qs)
 |_,_,_,_,.nil,h=>h
 |_,_,_,_,.cons h1 n h2 r,h'=> .cons h1 n h2 (cF.append r h')
theorem cF.get{H:Hp}{ex:List Addr}:∀{xs:List V} {ps:List (Int×List Int)} {i:Nat} {x:V},cF H ex xs ps->xs[i]?=some x->∃t a r ts,x = .ref t/\ps[i]?=some (r,ts)/\H t=some (.tup [.int r,.ref a])/\H a=some (.lst (ts.map V.int))
 |_,_,_,_,.nil,h=>by cases h
 |_,_,0,_,.cons h1 _ h2 _,e=>by cases e;exact⟨_,_,_,_,rfl,rfl,h1,h2⟩
 |_,_,i+1,_,.cons _ _ _ r,e=>cF.get (i:=i) r e
def take_one{α:Type}{l:List α}{i:Nat}{x:α}(h:l[i]?=some x):l.take (i+1)=l.take i++[x]:=by rw[qO,h];rfl
def Km{α β:Type}{f:α->β}{l:List α}{i:Nat}{p:β}(h:(l.map f)[i]?=some p):∃y,l[i]?=some y/\p=f y:=by
 rw[jV]at h;cases e:l[i]? with
 |none=>rw[e]at h;cases h
 |some y=>rw[e]at h;cases h;exact⟨y,rfl,rfl⟩
def vI(v:V):Int:=match v with | .int k=>k|_=>0
def ZK(c:List Int):(c.map V.int).map vI=c:=by rw[fj];exact List.map_id' c
def Uw{K:W.Frag}{a:Addr}{xs:List V}{ps:List (List Int)}{ix:List (Option Nat)}{te:TE}{σ:St}{H1:Hp}{Q:VK}(hA:H1 a=some (.lst xs))(hp:cT H1 xs ps)(hz:xs.length<=sizeLine){rest:St}(hst:cst ix σ=none::rest)(f:List Int->V)
  (he:∀(H':Hp) (t:Addr) (c:List Int),Same H1 H'->c∈ps->H' t=some (.tup (c.map V.int))->∀k:VK,k (f c) H'->te (some (.ref t)::rest) H' k)
  (hQ:∀D,H1 D=none->Q (.ref D) (upd H1 D (.lst (ps.map f)))):jL ix (gU 0) lF te σ Q (lB K a) H1:=by
 have key:∀x∈xs,∃t p,x=V.ref t/\p∈ps/\H1 t=some (.tup (p.map V.int)):=λx hx=>by
  obtain⟨i,hi,e⟩:=jG.mp hx;obtain⟨t,p,e1,e2,e3⟩:=hp.get (i:=i) (x:=x) (by rw[eY hi,e]);exact⟨t,p,e1,jF e2,e3⟩
 have mp:∀{xs:List V} {ps:List (List Int)},cT H1 xs ps->(xs.map λx=>match x with | .ref t=>(match H1 t with|some (.tup vs)=>f (vs.map vI)|_=>V.non)|_=>V.non)=ps.map f:=λ{xs ps} h=>by
  induction h with
  |nil=>rfl
  |cons ht _ ih=>rw[dz,dz,ih];simp only[ht,ZK]
 refine vd (kY (aq.of hA)) hz hst (λ_=>true) (λx=>match x with | .ref t=>(match H1 t with|some (.tup vs)=>f (vs.map vI)|_=>V.non)|_=>V.non) ?_ ?_ ?_
 .intro H2 x g2 hx k hk;exact hk
 .intro H2 x g2 hx _ k hk;obtain⟨t,p,rfl,hp2,ht⟩:=key x hx;refine he H2 t p g2 hp2 (g2 _ _ ht) k ?_;simp only[ht,ZK]at hk;exact hk
 .intro D hD;have e:=mp hp;rw[wz.mpr (by simp),e];exact hQ D hD
def aii{K:W.Frag}{a:Addr}{xs:List V}{ps:List (List Int)}{ix:List (Option Nat)}{te:TE}{σ:St}{H1:Hp}{Q:VK}(hA:H1 a=some (.lst xs))(hp:cT H1 xs ps)(hz:xs.length<=sizeLine){rest:St}(hst:cst ix σ=none::rest)(f:List Int->Bool)
  (he:∀(H':Hp) (t:Addr) (c:List Int),Same H1 H'->c∈ps->H' t=some (.tup (c.map V.int))->∀k:VK,k (.bl (f c)) H'->te (some (.ref t)::rest) H' k)
  (hQ:∀D,H1 D=none->Q (.ref D) (upd H1 D (.lst ((ps.map f).map V.bl)))):jL ix (gU 0) lF te σ Q (lB K a) H1:=
 Uw hA hp hz hst (λc=> .bl (f c)) he λD hD=>by have:=hQ D hD;rwa [fj]at this
def aeN{K:W.Frag}{a:Addr}{xs:List V}{ps:List (List Int)}{ix:List (Option Nat)}{te:TE}{σ:St}{H1:Hp}{Q:VK}(hA:H1 a=some (.lst xs))(hp:cT H1 xs ps)(hz:xs.length<=sizeLine){rest:St}(hst:cst ix σ=none::rest)(f:List Int->Int)
  (he:∀(H':Hp) (t:Addr) (c:List Int),Same H1 H'->c∈ps->H' t=some (.tup (c.map V.int))->∀k:VK,k (.int (f c)) H'->te (some (.ref t)::rest) H' k)
  (hQ:∀D,H1 D=none->Q (.ref D) (upd H1 D (.lst ((ps.map f).map V.int)))):jL ix (gU 0) lF te σ Q (lB K a) H1:=
 Uw hA hp hz hst (λc=> .int (f c)) he λD hD=>by have:=hQ D hD;rwa [fj]at this
def kO(L:List (Int×List Int)):List PyData:=L.map λp=>PyData.tuple [.int p.1,.list (p.2.map PyData.int)]
theorem Vm:∀L:List (Int×List Int),PyData.canLayAll0 (kO L)=true
 |[]=>rfl
 |p::r=>by
  have h1:=DC p.2;have h2:=Vm r;rw[kO,dz];rw[kO]at h2;simp[PyData.canLayAll0,PyData.canLay0,h1,h2]
theorem WZ:∀L:List (Int×List Int),PyData.depthAll (kO L)<=3
 |[]=>by simp[kO,PyData.depthAll]
 |p::r=>by
  have h1:=Cy p.2;have h2:=WZ r;rw[kO,dz];rw[kO]at h2;simp only[PyData.depthAll,PyData.depth];omega
theorem acn:∀L:List (Int×List Int),PyData.eqvAll (kO L) (kO L)=true
 |[]=>by simp[kO,PyData.eqvAll]
 |p::r=>by
  have h:=acn r;have h2:=Ux p.2 p.2;rw[kO,dz];rw[kO]at h;simp only[PyData.eqvAll,h,GN];rw[PyData.eqv];simp only[PyData.eqvAll,h2,decide_true,GN];simp[PyData.eqv]
theorem cF.rd{K:W.Frag}{H:Hp}{ex:List Addr}:∀{xs:List V} {ps:List (Int×List Int)},cF H ex xs ps->jJ K H xs (kO ps)
 |_,_,.nil=> .nil
 |_,_,.cons h1 _ h2 r=> .cons (.tup (aC.of h1) (.cons (.int _) (.cons (.lst (aq.of h2) (jJ.ints _)) .nil))) (cF.rd r)
def ak8{K:W.Frag}{g:Bool->Bool}{H:Hp}{a c x y:Addr}{n:Int}{ps:List (Int×List Int)}{xs ys:List V}{e1 e2:List Addr}{Q:VK}(ha:H a=some (.tup [.int n,.ref x]))(hx:H x=some (.lst xs))(px:cF H e1 xs ps)
  (hb:H c=some (.tup [.int n,.ref y])) (hy:H y=some (.lst ys)) (py:cF H e2 ys ps) (q:Q (.bl (g true)) H):qU K g (.ref a) (.ref c) H Q:=by
 have sh:SeqAt.shaped (.tuple [.int n,.list (kO ps)])=true:=by
  have h1:=Vm ps;have h2:=WZ ps;simp only[SeqAt.shaped,PyData.canLay0,PyData.canLayAll0,PyData.depth,PyData.depthAll,h1,Ir,GN];exact decide_eq_true (by omega)
 have ev:PyData.eqv (.tuple [.int n,.list (kO ps)]) (.tuple [.int n,.list (kO ps)])=true:=by
  have h:=acn ps;rw[PyData.eqv];simp only[PyData.eqvAll,PyData.eqv,h,GN];simp
 exact .inl ⟨_,_,.tup (aC.of ha) (.cons (.int n) (.cons (.lst (aq.of hx) px.rd) .nil)),.tup (aC.of hb) (.cons (.int n) (.cons (.lst (aq.of hy) py.rd) .nil)),sh,sh,by rw[ev];exact q⟩
structure Form(f:Nat->Int)(L:List Int)(l:List (Int×Nat))(bot:Int)(us:List Int):Prop where
 least:j7 0 f L
 wr:Pm.wr L=(l.map Pm.gh,[1])
 rp:L=Pm.RP l [1]
 up:(l.map (·.1)).Pairwise (· < ·)
 pos:∀x∈l,0<x.2
 ne:∀x∈l,x.1≠0
 rb:∀x∈l,Rm.Bd 20 x.1
 few:Cf.aJ l<=6
 len:us.length=Cf.aJ l
 Tr:1<=bot
 gcd:Lm.eU bot.natAbs us=1
 sum:∀n,Cf.bJ (Cf.dR l us) n=bot*f n
 bb:Rm.Bd 8000 bot
 bu:∀x∈us,Rm.Bd 8000 x
theorem ab1(n:Nat):∀(l m:List (Int×Nat)),Cf.gF (l++m) n=Cf.gF l n++Cf.gF m n
 |[],_=>rfl
 |(r,k)::t,m=>by
  show _++Cf.gF (t++m) n=(_++Cf.gF t n)++_;rw[ab1 n t m,Gw]
theorem abu(r:Int)(m:Nat):∀(l:List (Int×Nat)) (cs:List Int),Cf.dR (l++[(r,m)]) cs=Cf.dR l cs++[(r,(cs.drop (Cf.aJ l)).take m)]
 |[],_=>rfl
 |(s,k)::t,cs=>by
  show(s,cs.take k)::Cf.dR (t++[(r,m)]) (cs.drop k)=(s,cs.take k)::(Cf.dR t (cs.drop k)++_);rw[abu r m t,List.drop_drop,Cf.pK]
def yV:∀(l m:List (Int×Nat)),Cf.aJ (l++m)=Cf.aJ l+Cf.aJ m:=λl m=>by unfold Cf.aJ;rw[jq,J7]
def E5{l:List (Int×Nat)}{x:Int×Nat}(h:x∈l):x.2<=Cf.aJ l:=by
 induction l with
 |nil=>cases h
 |cons a t ih=>
  rw[show a=(a.1,a.2)from rfl,Cf.pK];rcases cj.mp h with rfl|h
  .omega
  .have:=ih h;omega
def JX{l:List (Int×Nat)}(h:∀x∈l,0<x.2):l.length<=Cf.aJ l:=by
 induction l with
 |nil=>exact cJ _
 |cons a t ih=>
  rw[show a=(a.1,a.2)from rfl,Cf.pK,gP];have:=h a (cQ ..);have:=ih λx hx=>h x (dg _ hx);omega
def Lq(l:List (Int×Nat))(i:Nat):Cf.aJ (l.take i)<=Cf.aJ l:=by
 conv=>rhs;rw[<-Mt i l,yV]
 omega
def atu(xs:List V){a b:Nat}(h:a<=xs.length):iH xs (some (a:Int)) (some (b:Int))=(xs.drop a).take (b-a):=by
 unfold iH;rw[HT.oZ,HT.oZ,CV h,aaU,lJ];omega
inductive aiD(vs:List V)(H:Hp)(Q:VK)(E:XK):Prop|mk (a e:Int) (u:Nat) (cD:vs=[.int a,.int e]) (cB:0<=e) (cL:e<=100) (cY:Rm.Bd u a) (dM:u<=1000) (fu:Q (.int (a^e.toNat)) H)
def ac5:Sp:=λvs H Q E=>aiD  vs H Q E
def Vb{u i:Nat}{a:Int}(hb:Rm.Bd u a)(hu:u<=1000)(hi:i<=100):IntMulOk (a^i) a:=pU (Cf.uw hb i) hb (by
 have:u*i<=1000*100:=jh hu hi;omega)
abbrev ZX(P w K mg base):=bI P w K mg base "power" 1 ["number","exponent"] ac5
inductive ajP(vs:List V)(H:Hp)(Q:VK)(E:XK):Prop|mk (lr:Addr) (n:Int) (xs:List V) (l:List (Int×Nat)) (cD:vs=[.ref lr,.int n]) (cB:H lr=some (.lst xs)) (cL:cT H xs (l.map Pm.gh)) (cY:0<=n) (dM:n<=10) (fu:l.length<=10) (jC:(∀x∈l,Rm.Bd 20 x.1/\x.2<=10)) (mQ:∀D H',Same H H'->H D=none->H' D=some (.lst ((Cf.gF l n.toNat).map V.int))->Q (.ref D) H')
def afK:Sp:=λvs H Q E=>ajP  vs H Q E
def alq{l:List (Int×Nat)}(n:Nat)(hl:l.length<=10)(hb:∀x∈l,Rm.Bd 20 x.1/\x.2<=10):(Cf.gF l n).length<=100:=by
 rw[Cf.zu];have:∀t:List (Int×Nat),(∀x∈t,x.2<=10)->Cf.aJ t<=10*t.length:=λt=>by
  induction t with
  |nil=>intro _;exact aN _
  |cons a t ih=>
   intro h;rw[show a=(a.1,a.2)from rfl,Cf.pK,gP];have:=h a (cQ ..);have:=ih λx hx=>h x (dg _ hx);omega
 have:=this l λx hx=>(hb x hx).2;omega
abbrev Xg(P w K mg base):=bI P w K mg base "form_line" 2 ["roots","n"] afK
inductive aox(vs:List V)(H:Hp)(Q:VK)(E:XK):Prop|mk (lr lt:Addr) (xs:List V) (l:List (Int×Nat)) (us:List Int) (cD:vs=[.ref lr,.ref lt]) (cB:H lr=some (.lst xs)) (cL:cT H xs (l.map Pm.gh)) (cY:H lt=some (.lst (us.map V.int))) (dM:us.length=Cf.aJ l) (fu:l.length<=10) (jC:∀D ys H',Same H H'->H D=none->H' D=some (.lst ys)->cF H' [D] ys (Cf.dR l us)->Q (.ref D) H')
def afz:Sp:=λvs H Q E=>aox  vs H Q E
abbrev ad4(P w K mg base):=bI P w K mg base "parts_of" 1 ["roots","tops"] afz
abbrev abh(P w K mg base):=bI P w K mg base "column_of" 1 ["table","column"] Lj
abbrev Xj(P w K mg base):=bI P w K mg base "paper_against" 7 ["by","wide","table","wished"] Lj
inductive akM(vs:List V)(H:Hp)(Q:VK)(E:XK):Prop|mk (u wide:Nat) (ta tw:Addr) (xs:List V) (L:List (List Int)) (ws:List Int) (ex:List Addr) (cD:vs=[.int 0,.int wide,.ref ta,.ref tw]) (cB:H ta=some (.lst xs)) (cL:bV H ex xs L) (cY:H tw=some (.lst (ws.map V.int))) (dM:ws.length=wide) (fu:L.length=wide) (jC:wide<=30) (mQ:QG 0 wide (wide+1) u (Dm.aug 0 L ws)) (oU:(∀i,i<L.length->(Dm.ln L i).length=wide)) (ug:(∀p∈L,∀x∈p,Rm.Bd u x)) (zx:(∀x∈ws,Rm.Bd u x)) (Bv:Dm.sI 0 wide wide (Dm.aug 0 L ws)) (Ep:(∀bot us,Dm.wC u 0 wide wide (Dm.aug 0 L ws) bot us->∀t lt H',Same H H'->H' t=some (.tup [.str ("one" : Str),.int bot,.ref lt])->H' lt=some (.lst (List.map V.int us))->Q (.ref t) H'))
def YT:Sp:=λvs H Q E=>akM  vs H Q E
abbrev W6(P w K mg base):=bI P w K mg base "solved" 8 ["by","wide","table","wished"] YT
inductive aeD(C1 C2:Addr)(vs:List V)(H:Hp)(Q:VK)(E:XK):Prop|mk (v:V) (r:Rw) (cD:vs=[v]) (cB:jH H v r) (cL:r.b=0) (cY:jc r) (dM:Tame r) (fu:(∀n,n<6->Rm.Bd 600 (r.at n))) (jC:(∀L,j7 0 r.at L->L.length<=7/\∀x∈L,x.natAbs<1000000)) (mQ:(∀L,j7 0 r.at L->((Pm.wr L).2≠[1]∨∃x∈(Pm.wr L).1,x.headD 0=0)->∀H',Same H H'->Q .non H')) (oU:(∀L l bot us,Form r.at L l bot us->∀t lp ys ex H',Same H H'->H' t=some (.tup [.int bot,.ref lp])->H' lp=some (.lst ys)->cF H' ex ys (Cf.dR l us)->Q (.ref t) H'))
def asJ(C1 C2:Addr):Sp:=λvs H Q E=>aeD C1 C2 vs H Q E
def YQ{P:List Int}{l:List (Int×Nat)}(hs:∀x∈P,x.natAbs<1000000)(h:∀x∈l,x.1∈Pm.cands P):∀x∈l,Rm.Bd 20 x.1:=λx hx=>by
 have hlow:(Pm.gH P).natAbs<1000000:=by
  unfold Pm.gH;cases e:P.filter λx=>decide (x≠0)with
  |nil=>decide
  |cons y ys=>exact hs y (rJ.mp (e▸cQ ..:y∈P.filter λx=>decide (x≠0))).1
 have hm:∀x∈Pm.divs (Pm.gH P).natAbs,0<x/\x<=1000000:=Pm.wX _ (by omega) _ _ _ _ (by decide) (λx hx=>(gR hx).elim) (λx hx=>(gR hx).elim);have hz:=h x hx;unfold Pm.cands at hz;rcases eV.mp hz with hz|hz
 .rcases eV.mp hz with hz|hz
  .obtain⟨y,hy,e⟩:=cM.mp hz;have:=hm y (pX.mp hy);exact Rm.Bd.of (by omega) (by omega)
  .rw[cP.mp hz];exact Rm.Bd.zero _
 .have:=hm x.1 hz;exact Rm.Bd.of (by omega) (by omega)
def ajW{l:List (Int×Nat)}{n:Nat}(hn:n<=10)(hr:∀x∈l,Rm.Bd 20 x.1)(hm:∀x∈l,x.2<=6):∀x∈Cf.gF l n,Rm.Bd 300 x:=by
 induction l with
 |nil=>intro x hx;cases hx
 |cons a t ih=>
  intro x hx;rcases eV.mp (show x∈((List.range a.2).map λj=>a.1^n*(n:Int)^j)++Cf.gF t n from hx)with hx|hx
  .obtain⟨j,hj,rfl⟩:=cM.mp hx;have:=kW.mp hj;have:=hm a (cQ ..);refine((Cf.uw (hr a (cQ ..)) n).mul (Cf.uw (n:=10) (Rm.Bd.of (x:=(n:Int)) (by omega) (by omega)) j)).mono ?_;omega
  .exact ih (λx hx=>hr x (dg _ hx)) (λx hx=>hm x (dg _ hx)) x hx
def amT(l:List (Int×Nat)):((l.map Pm.gh).map λx=>x.getD 1 0).sum=((Cf.aJ l:Nat):Int):=by
 unfold Cf.aJ;induction l with
 |nil=>rfl
 |cons a t ih=>
  rw[dz,dz,jg,ih,dz,jg];show((a.2:Nat):Int)+_=_;omega
abbrev Yb(P w K mg base eO dN):=bI P w K mg base "closed" 9 ["row"] (asJ eO dN)
inductive ahL(vs:List V)(H:Hp)(Q:VK)(E:XK):Prop|mk (x y:Int) (cD:vs=[.int x,.int y]) (cB:Q (.int (Nat.gcd x.natAbs y.natAbs:Nat)) H)
def ae8:Sp:=λvs H Q E=>ahL  vs H Q E
abbrev Qo(P w K mg base):=bI P w K mg base "_law_divisor" 1 ["_law_one","_law_other"] ae8
def jj(L:List (List Int)):List PyData:=L.map λp=>PyData.tuple (p.map PyData.int)
theorem aeo:∀L:List (List Int),PyData.canLayAll0 (jj L)=true
 |[]=>rfl
 |p::r=>by
  have h1:=DC p;have h2:=aeo r;rw[jj,dz];rw[jj]at h2;simp[PyData.canLayAll0,PyData.canLay0,h1,h2]
theorem Zy:∀L:List (List Int),PyData.depthAll (jj L)<=2
 |[]=>by simp[jj,PyData.depthAll]
 |p::r=>by
  have h1:=Cy p;have h2:=Zy r;rw[jj,dz];rw[jj]at h2;simp only[PyData.depthAll,PyData.depth];omega
def abU(L:List (List Int)):SeqAt.shaped (.list (jj L))=true:=by
 have h1:=aeo L;have h2:=Zy L;simp only[SeqAt.shaped,PyData.canLay0,PyData.depth,h1,Ir];exact decide_eq_true (by omega)
theorem aas:∀L M:List (List Int),PyData.eqvAll (jj L) (jj M)=decide (L=M)
 |[],[]=>by simp[jj,PyData.eqvAll]
 |[],_::_=>by simp[jj,PyData.eqvAll]
 |_::_,[]=>by simp[jj,PyData.eqvAll]
 |a::r,b::t=>by
  have h:=aas r t;rw[jj,jj]at h;simp only[jj,dz,PyData.eqvAll,VD,h];by_cases h1:a=b<;>by_cases h2:r=t<;>simp[h1,h2]
def anp(L M:List (List Int)):PyData.eqv (.list (jj L)) (.list (jj M))=decide (L=M):=by
 rw[PyData.eqv];exact aas L M
theorem cT.rd{K:W.Frag}{H:Hp}:∀{xs:List V} {L:List (List Int)},cT H xs L->jJ K H xs (jj L)
 |_,_,.nil=> .nil
 |_,_,.cons (p:=p) h r=> .cons (.tup (aC.of h) (jJ.ints p)) (cT.rd r)
def Wm{K:W.Frag}{g:Bool->Bool}{H:Hp}{a b:Addr}{xs ys:List V}{L M:List (List Int)}{Q:VK}(ha:H a=some (.lst xs))(hx:cT H xs L)(hb:H b=some (.lst ys))(hy:cT H ys M)(q:Q (.bl (g (decide (L=M)))) H):qU K g (.ref a) (.ref b) H Q:=
 .inl ⟨_,_,.lst (aq.of ha) hx.rd,.lst (aq.of hb) hy.rd,abU L,abU M,by rw[anp];exact q⟩
abbrev aa5(P w K mg base):=bI P w K mg base "_law_power" 1 ["_law_root","_law_n"] ac5
theorem XS(x:Int):∀(ts:List Int) (k:Nat),(ts.mapIdx λj c=>c*x^(j+k)).sum=x^k*Cf.pv ts x
 |[],k=>by show(0:Int)=x^k*0;rw[aR]
 |c::t,k=>by
  rw[List.mapIdx_cons,jg];have e:(λi c=>(λj c=>c*x^(j+k)) (i+1) c)=λ(j:Nat) (c:Int)=>c*x^(j+(k+1)):=by
   funext i c
   show c*x^(i+1+k)=_;rw[show i+1+k=i+(k+1)by omega]
  rw[e,XS x t (k+1),Cg,gZ];show c*x^k+x^k*x*Cf.pv t x=x^k*(c+x*Cf.pv t x);rw[iW,bY c,bN]
theorem Ue{u:Nat}{x:Int}(hx:Rm.Bd 10 x):∀{ts:List Int},(∀c∈ts,Rm.Bd u c)->Rm.Bd (u+12*ts.length) (Cf.pv ts x)
 |[],_=>Rm.Bd.zero _
 |c::t,h=>by
  have h1:=Ue hx (ts:=t) λz hz=>h z (dg _ hz);have h2:=hx.mul h1;have h3:Rm.Bd (10+(u+12*t.length)) c:=(h c (cQ ..)).mono (by omega);exact(h3.add h2).mono (by rw[gP];omega)
def ak1(ps:List (Int×List Int))(r:Int)(ts:List Int)(n:Nat):Cf.bJ (ps++[(r,ts)]) n=Cf.bJ ps n+r^n*Cf.pv ts (n:Int):=by
 unfold Cf.bJ;rw[jq,J7];show _+(r^n*Cf.pv ts (n:Int)+0)=_;rw[cU]
def Ua(ps:List (Int×List Int)):Prop:=ps.length<=10/\∀p∈ps,Rm.Bd 20 p.1/\p.2.length<=10/\∀c∈p.2,Rm.Bd 8000 c
inductive ai1(vs:List V)(H:Hp)(Q:VK)(E:XK):Prop|mk (lp:Addr) (n:Int) (ys:List V) (ps:List (Int×List Int)) (ex:List Addr) (cD:vs=[.ref lp,.int n]) (cB:H lp=some (.lst ys)) (cL:cF H ex ys ps) (cY:0<=n) (dM:n<=30) (fu:Ua ps) (jC:∀H',Same H H'->Q (.int (Cf.bJ ps n.toNat)) H')
def an4:Sp:=λvs H Q E=>ai1  vs H Q E
abbrev Kh(P w K mg base):=bI P w K mg base "_law_value" 2 ["_law_parts_here","_law_n"] an4
inductive agd(vs:List V)(H:Hp)(Q:VK)(E:XK):Prop|mk (a c:Addr) (p r:List Int) (cD:vs=[.ref a,.ref c]) (cB:H a=some (.lst (p.map V.int))) (cL:H c=some (.lst (r.map V.int))) (cY:0<p.length) (dM:0<r.length) (fu:p.length<=100) (jC:r.length<=100) (mQ:(∀x∈p,Rm.Bd 1000 x)) (oU:(∀x∈r,Rm.Bd 1000 x)) (ug:∀D H',Same H H'->H D=none->H' D=some (.lst ((Pm.rN p r).map V.int))->Q (.ref D) H')
def asl:Sp:=λvs H Q E=>agd  vs H Q E
abbrev Ny(P w K mg base):=bI P w K mg base "_law_times" 1 ["_law_one","_law_other"] asl
def gb:List Int:=[-4,-3,-2,-1,1,2,3,4]
structure Fm(ps:List (Int×List Int)):Prop where
 up:(ps.map (·.1)).Pairwise (· < ·)
 root:∀p∈ps,p.1∈gb
 few:ps.length<=3
 tops:∀p∈ps,p.2≠[]/\p.2.length<=2/\Pm.co p.2 (p.2.length-1)≠0/\∀c∈p.2,-4<=c/\c<=4
def Fm.ok{ps:List (Int×List Int)}(h:Fm ps):Ua ps:=by
 have:=h.few;refine⟨by omega,λp hp=>⟨?_,by have:=(h.tops p hp).2.1;omega,λc hc=>?_⟩⟩
 .have:=h.root p hp;have:∀x∈gb,-4<=x/\x<=4:=by decide
  have:=this _ (h.root p hp);exact Rm.Bd.of (by omega) (by omega)
 .have:=(h.tops p hp).2.2.2 c hc;exact(Rm.Bd.of (n:=10) (by omega) (by omega)).mono (by decide)
def Fm.snoc{ps:List (Int×List Int)}(h:Fm ps){r:Int}{ts:List Int}{i:Nat}(hi:gb[i]?=some r)(hb:∀p∈ps,p.1∈gb.take i)(h2:ps.length<3)(ht:ts≠[]/\ts.length<=2/\Pm.co ts (ts.length-1)≠0/\∀c∈ts,-4<=c/\c<=4):Fm (ps++[(r,ts)]):=by
 have hs:gb.Pairwise (· < ·):=by decide
 have low:∀p∈ps,p.1<r:=λp hp=>by
  obtain⟨j,hj,e⟩:=jG.mp (hb p hp);rw[List.getElem_take]at e;rw[jl]at hj;obtain⟨hi',er⟩:=uT.mp hi;have:=ac8.mp hs j i (by omega) hi' (by omega);rw[e,er]at this;exact this
 refine⟨?_,λp hp=>?_,by rw[fJ];show ps.length+1<=3;omega,λp hp=>?_⟩
 .rw[jq,Al];refine⟨h.up,Hl _ _,λx hx y hy=>?_⟩;obtain⟨p,hp,rfl⟩:=cM.mp hx;have hy':y∈[r]:=hy;rw[cP.mp hy'];exact low p hp
 .rcases eV.mp hp with hp|hp
  .exact h.root p hp
  .rw[cP.mp hp];exact jF hi
 .rcases eV.mp hp with hp|hp
  .exact h.tops p hp
  .rw[cP.mp hp];exact ht
inductive ahU(K:W.Frag)(vs:List V)(H:Hp)(Q:VK)(E:XK):Prop|mk (a:Addr) (ns:List Int) (cD:vs=[.ref a]) (cB:aq K H a (ns.map V.int)) (cL:∀D ys ps H',Same H H'->H' D=some (.lst ys)->cF H' [D] ys ps->Fm ps->Q (.ref D) H')
def ajz(K:W.Frag):Sp:=λvs H Q E=>ahU K vs H Q E
def amv(x y:Int){c:Int}(h0:0<=c)(h1:c<=1):∃T:List Int,iH [.int x,.int y] none (some (1+c))=T.map V.int/\T.length<=2/\∀z∈T,z=x∨z=y:=by
 refine⟨[x,y].take (1+c.toNat),?_,by rw[jl];exact Rv _ _,λz hz=>by simpa using QD hz⟩;rw[show(1+c:Int)=((1+c.toNat:Nat):Int)by omega,B6,xW];rfl
def apx{T:List Int}(h:Pm.trim T≠[]):Pm.co (Pm.trim T) ((Pm.trim T).length-1)≠0:=Pm.pQ h (Pm.K6 T)
abbrev WG(P w K mg base):=bI P w K mg base "_law_parts" 2 ["_law_script"] (ajz K)
def lens(ps:List (Int×List Int)):List (Int×Nat):=ps.map λp=>(p.1,p.2.length)
def f9(ps:List (Int×List Int)):Rw:=⟨0,Pm.fR 0 (Pm.RP (lens ps) [1]),Pm.aH (Cf.aJ (lens ps)) (Cf.bJ ps)⟩
theorem M5:∀(l:List (Int×Nat)) (x:Int×Nat) (a:List Int),Pm.iw (l++[x]) a=Pm.cN x.1 x.2 (Pm.iw l a)
 |[],_,_=>rfl
 |(r,m)::t,x,a=>M5 t x (Pm.cN r m a)
def aqZ(l:List (Int×Nat)):Pm.iw l [1]=Pm.RP l [1]:=by
 have e:=Pm.CM [1] l [1];rw[Pm.mul_one (Pm.Mon.mV (Pm.uK l Pm.rY).1),Pm.mul_one (Pm.Mon.mV Pm.rY)]at e;exact e
def Wi{p:List Int}{r:Int}{b:Nat}(hp:∀z∈p,Rm.Bd b z)(hr:Rm.Bd 40 r):∀z∈Pm.mul 0 p (Pm.lin r),Rm.Bd (b+50) z:=λz hz=>by
 obtain⟨k,hk,e⟩:=jG.mp hz;rw[<-e,<-Pm.iV hk,Pm.jX,Rm.bh,Pm.Gf,yK];refine(Rm.Bd.add (n:=b+40) ?_ ?_).mono (by omega)
 .split
  .exact Rm.Bd.zero _
  .exact(Pm.jm hp _).mono (by omega)
 .have h:=hr.mul (Pm.jm hp k);have h2:Rm.Bd (b+40) (r*Pm.co p k):=h.mono (by omega);unfold Rm.Bd at h2⊢;rw[CJ];exact h2
def V6{r:Int}(hb:Rm.Bd 20 r):∀x∈Pm.lin r,Rm.Bd 1000 x:=λx hx=>by
 rcases cj.mp hx with e|hx
 .have hb2:Rm.Bd 20 (0-r):=by unfold Rm.Bd at hb ⊢;rw[show(0-r).natAbs=r.natAbs by omega];exact hb
  rw[e];exact hb2.mono (by decide)
 .rw[cP.mp hx];exact(Rm.Bd.of (n:=1) (by decide) (by decide)).mono (by decide)
def Fm.JQ{ps:List (Int×List Int)}(h:Fm ps):Cf.aJ (lens ps)<=6:=by
 have k:∀t:List (Int×List Int),(∀p∈t,p.2.length<=2)->Cf.aJ (lens t)<=2*t.length:=λt=>by
  induction t with
  |nil=>intro _;exact aN _
  |cons a t ih=>
   intro h;show Cf.aJ ((a.1,a.2.length)::lens t)<=_;rw[Cf.pK,gP];have:=h a (cQ ..);have:=ih λx hx=>h x (dg _ hx);omega
 have:=k ps λp hp=>(h.tops p hp).2.1;have:=h.few;omega
def afv{ps:List (Int×List Int)}{i:Nat}{r:Int}{ts:List Int}(h:ps[i]?=some (r,ts)):(lens ps)[i]?=some (r,ts.length):=by unfold lens;rw[jV,h];rfl
inductive agZ(vs:List V)(H:Hp)(Q:VK)(E:XK):Prop|mk (lp:Addr) (ys:List V) (ps:List (Int×List Int)) (ex:List Addr) (cD:vs=[.ref lp]) (cB:H lp=some (.lst ys)) (cL:cF H ex ys ps) (cY:Fm ps) (dM:∀v H',Same H H'->jH H' v (f9 ps)->Q v H')
def aiq:Sp:=λvs H Q E=>agZ  vs H Q E
abbrev adl(P w K mg base):=bI P w K mg base "_law_made" 3 ["_law_parts_here"] aiq
def je(ps:List (Int×List Int)):List Int:=ps.flatMap (·.2)
theorem Lf:∀(l:List (Int×Nat)) (us:List Int),us.length=Cf.aJ l->je (Cf.dR l us)=us
 |[],us,h=>(ZV.mp h).symm
 |(r,m)::t,us,h=>by
  rw[Cf.pK]at h;show us.take m++je (Cf.dR t (us.drop m))=us;rw[Lf t _ (by rw[lJ];omega),Mt]
structure FmR(bot:Int)(ps:List (Int×List Int))(sm:List Int):Prop where
 ok:Ua ps
 pos:1<=bot
 bb:Rm.Bd 8000 bot
 up:(ps.map (·.1)).Pairwise (· < ·)
 ne:∀p∈ps,p.1≠0/\p.2≠[]/\Pm.co p.2 (p.2.length-1)≠0
 gcd:Lm.eU bot.natAbs (je ps)=1
 len:sm.length=30
 Qi:∀x∈sm,Rm.Bd 61000000 x
 at_:∀n,n<30->bot*Pm.co sm n=Cf.bJ ps n
inductive arE(vs:List V)(H:Hp)(Q:VK)(E:XK):Prop|mk (t lp ls:Addr) (ys:List V) (ps:List (Int×List Int)) (ex:List Addr) (bot:Int) (sm:List Int) (cD:vs=[.ref t,.ref ls]) (cB:H t=some (.tup [.int bot,.ref lp])) (cL:H lp=some (.lst ys)) (cY:cF H ex ys ps) (dM:H ls=some (.lst (sm.map V.int))) (fu:FmR bot ps sm) (jC:∀H',Same H H'->Q (.bl true) H')
def alb:Sp:=λvs H Q E=>arE  vs H Q E
def before(ps:List (Int×List Int)):Nat->V
 |0=> .non
 |i+1=>match ps[i]? with|some p=> .int p.1|none=> .non
abbrev aaP(P w K mg base):=bI P w K mg base "_law_form_right" 3 ["_law_found","_law_some"] alb
theorem XU{u:Nat}{n:Nat}:∀{ps:List (Int×List Int)},(∀p∈ps,Rm.Bd u (p.1^n*Cf.pv p.2 (n:Int)))->Rm.Bd (u+ps.length) (Cf.bJ ps n)
 |[],_=>Rm.Bd.zero _
 |p::t,h=>by
  have h1:=XU (ps:=t) λx hx=>h x (dg _ hx);have h2:Rm.Bd (u+t.length) (p.1^n*Cf.pv p.2 (n:Int)):=(h p (cQ ..)).mono (by omega);have e:Cf.bJ (p::t) n=p.1^n*Cf.pv p.2 (n:Int)+Cf.bJ t n:=by simp[Cf.bJ]
  rw[e];exact(h2.add h1).mono (by rw[gP];omega)
def Dp:∀x∈gb,x≠0/\x.natAbs<=4:=by decide
def Fm.Qi{ps:List (Int×List Int)}(F:Fm ps){n:Nat}(hn:n<=6):Rm.Bd 60 (Cf.bJ ps n):=by
 have:=F.few;refine(XU (u:=50) λp hp=>?_).mono (by omega);have hr:=Dp _ (F.root p hp);have ht:=F.tops p hp;have b1:Rm.Bd 3 p.1:=Rm.Bd.of (by omega) (by omega);have b2:=Ue (u:=3) (x:=(n:Int)) (Rm.Bd.of (by omega) (by omega)) (ts:=p.2) λc hc=>by have:=ht.2.2.2 c hc;exact Rm.Bd.of (by omega) (by omega)
 have:=ht.2.1;exact((Cf.uw b1 n).mul b2).mono (by omega)
structure gw(c:Int)(r:Rw):Prop where
 by_:r.b=0
 len:r.rule.length=r.starts.length
 short:r.rule.length<=6
 lY:∀x∈r.rule,Rm.Bd 20 x
 uQ:∀x∈r.starts,Rm.Bd 60 x
 kind:(∃rs,Pm.aU 0 r.rule=Cf.dZ rs/\∀x∈rs,x∈gb)∨(c%3=1/\r.rule.length<=3/\∀x∈r.rule,x.natAbs<=4)
def gw.IZ{c:Int}{r:Rw}(h:gw c r){n:Nat}(hn:n<=13):Rm.Bd 600 (r.at n):=by
 have q:=Rm.abj (b:=r.b) (rule:=r.rule) (starts:=r.starts) (a:=20) (c:=60) h.len (by rw[h.by_];decide) (by rw[h.by_];exact Rm.Bd.zero _) h.lY h.uQ n;refine q.mono ?_;have h1:=h.short;have h2:n*(20+r.rule.length)<=13*26:=jh hn (by omega);omega
def gw.ok{c:Int}{r:Rw}(h:gw c r):jc r:=by
 have e:=h.by_;have:=h.short;exact⟨h.len,by omega,by omega,by omega,λx _=> .inl e,λx _=> .inl e,λx hx=>(h.lY x hx).mono (by decide),λx hx=>(h.uQ x hx).mono (by decide)⟩
def QS{f:Nat->Int}{L P:List Int}(h:j7 0 f L)(hP:Pm.Mon P)(hk:Pm.Kp 0 P f):∃S,Pm.Mon S/\Pm.mul 0 L S=P:=by
 obtain⟨S,hS,_,_,e⟩:=Pm.yQ (b:=0) rfl hP h.mon (h.all P hk);refine⟨S,hS,(Pm.pA ..).ext (Pm.Mon.mV hP) λk=>?_⟩;rw[Pm.jX,Rm.gq,e k,Pm.jz]
theorem gw.kp{c:Int}{r:Rw}(h:gw c r):Pm.Kp 0 (Pm.aU 0 r.rule) r.at:=by
 have:=h.ok.kp
 rwa [h.by_]at this
def gw.split{c:Int}{r:Rw}(h:gw c r){L:List Int}(lst:j7 0 r.at L){rs:List Int}(e:Pm.aU 0 r.rule=Cf.dZ rs):∃rs',rs'.Sublist rs/\L=Cf.dZ rs':=by
 obtain⟨S,hS,em⟩:=QS lst (Pm.uH 0 r.rule) h.kp;exact Cf.CT rs lst.mon hS (em.trans e)
def gw.pB{c:Int}{r:Rw}(h:gw c r){L S:List Int}(hL:Pm.Mon L)(hS:Pm.Mon S)(em:Pm.mul 0 L S=Pm.aU 0 r.rule):∀x∈L,x.natAbs<1000000:=by
 have hs:=h.short;have l1:(Pm.aU 0 r.rule).length=r.rule.length+1:=Pm.kj ..;have hm:=Pm.uH 0 r.rule;rcases h.kind with⟨rs,e,hr⟩|⟨_,h3,h4⟩
 .obtain⟨rs',hs',rfl⟩:=Cf.CT rs hL hS (em.trans e);have lr:=hs'.length_le;have l2:(Cf.dZ rs).length=rs.length+1:=(Cf.yI rs).2;rw[<-e]at l2;intro x hx;obtain⟨k,hk,ex⟩:=jG.mp hx;have b:=Cf.OD (rs:=rs') (λr hr'=>(Dp _ (hr r (hs'.subset hr'))).2) k;rw[Pm.iV hk,ex]at b;have:5^rs'.length<=5^6:=uU (by decide) (by omega);omega
 .refine Cf.aib hm (by omega) (λx hx=>?_) hL hS em;rcases eV.mp (show x∈Pm.aH _ _++[1]from hx)with hx|hx
  .obtain⟨k,_,rfl⟩:=Pm.nF hx;rw[Rm.bh];by_cases c:r.rule.length-1-k<r.rule.length
   .have:=h4 _ (Pm.pN c);omega
   .rw[Pm.aY (by omega)];decide
  .rw[cP.mp hx];decide
def gw.small{c:Int}{r:Rw}(h:gw c r){L:List Int}(lst:j7 0 r.at L):L.length<=7/\∀x∈L,x.natAbs<1000000:=by
 have hs:=h.short;have l1:(Pm.aU 0 r.rule).length=r.rule.length+1:=Pm.kj ..;have hm:=Pm.uH 0 r.rule;have ll:=(lst.all _ h.kp).len rfl lst.mon hm;obtain⟨S,hS,em⟩:=QS lst hm h.kp;exact⟨by omega,h.pB lst.mon hS em⟩
def gw.rest{c:Int}{r:Rw}(h:gw c r){L R:List Int}(lst:j7 0 r.at L){l:List (Int×Nat)}(hR:Pm.Mon R)(e:L=Pm.RP l R):∀x∈R,x.natAbs<1000000:=by
 obtain⟨S,hS,em⟩:=QS lst (Pm.uH 0 r.rule) h.kp;have e1:=Pm.CM R l [1];rw[Pm.one_mul (Pm.Mon.mV hR),<-e]at e1;have hp:=(Pm.uK l Pm.rY).1;refine h.pB hR (Cf.Sd hp hS).1 ?_;rw[<-em,<-e1,<-Pm.yH,Pm.mul_comm 0 R]
def gw.some_{c:Int}{r:Rw}(h:gw c r){L:List Int}(lst:j7 0 r.at L)(hc:(Pm.wr L).2≠[1]∨∃x∈(Pm.wr L).1,x.headD 0=0):c%3=1:=by
 rcases h.kind with⟨rs,e,hr⟩|⟨h1,_⟩
 .obtain⟨rs',hs',rfl⟩:=h.split lst e;obtain⟨l,w1,w2,_,_,_,w6⟩:=Cf.asU (rs:=rs');rcases hc with hc|⟨x,hx,hz⟩
  .exact absurd w2 hc
  .rw[w1]at hx;obtain⟨y,hy,rfl⟩:=cM.mp hx;exact absurd hz (Dp _ (hr _ (hs'.subset (w6 y hy)))).1
 .exact h1
def air(ps:List (Int×List Int)):Pm.Kp 0 (Pm.RP (lens ps) [1]) (Cf.bJ ps):=λn=>by
 rw[Rm.bh];exact Cf.D5 ps (lens ps) (λp hp=>mX (f:=λp:Int×List Int=>(p.1,p.2.length)) hp) n
def ahr(ps:List (Int×List Int))(n:Nat):(f9 ps).at n=Cf.bJ ps n:=by
 obtain⟨m1,m2⟩:=Cf.qW (lens ps);refine Pm.anS (b:=0) (w:=Pm.RP (lens ps) [1]) (λk=>Rm.bh _) m1 (air ps) (λn=>Rm.bh _) (starts:=Pm.aH (Cf.aJ (lens ps)) (Cf.bJ ps)) ?_ ?_ n
 .rw[Pm.bG,m2];rfl
 .intro i hi;rw[Pm.bG]at hi;have:Pm.co (Pm.aH (Cf.aJ (lens ps)) (Cf.bJ ps)) i=Cf.bJ ps i:=by rw[Pm.dw,if_pos hi]
  exact this
def Fm.base{ps:List (Int×List Int)}(F:Fm ps)(c:Int){ss:List Int}(hl:ss.length=Cf.aJ (lens ps))(hs:∀x∈ss,Rm.Bd 60 x):gw c ⟨0,(f9 ps).rule,ss⟩:=by
 obtain⟨m1,m2⟩:=Cf.qW (lens ps);have l6:=F.JQ;have hrs:∀x∈Cf.nY (lens ps),x∈gb:=λx hx=>by
  obtain⟨m,hm,_⟩:=Cf.Fx.mp hx;obtain⟨p,hp,e⟩:=cM.mp hm;have:x=p.1:=(congrArg Prod.fst e).symm;rw[this];exact F.root p hp
 have lr:(f9 ps).rule.length=Cf.aJ (lens ps):=by show(Pm.fR 0 (Pm.RP (lens ps) [1])).length=_;rw[Pm.rZ,m2];rfl
 refine⟨rfl,by rw[lr,hl],by show(f9 ps).rule.length<=6;omega,λx hx=>?_,hs,.inl ⟨Cf.nY (lens ps),?_,hrs⟩⟩
 .obtain⟨k,_,rfl⟩:=Pm.nF (show x∈Pm.aH _ _ from hx);rw[Rm.bh,Cf.Aj];have b:=Cf.OD (rs:=Cf.nY (lens ps)) (λr hr=>(Dp _ (hrs r hr)).2) ((Cf.dZ (Cf.nY (lens ps))).length-1-1-k);rw[Cf.RN]at b;have:5^Cf.aJ (lens ps)<=5^6:=uU (by decide) l6;exact Rm.Bd.of (by omega) (by omega)
 .show Pm.aU 0 (Pm.fR 0 (Pm.RP (lens ps) [1]))=_;rw[Pm.G9 (λk=>Rm.bh _) m1,Cf.Aj]
def Fm.made{ps:List (Int×List Int)}(F:Fm ps)(c:Int):gw c (f9 ps):=F.base c (Pm.bG ..) λx hx=>by
 obtain⟨k,hk,rfl⟩:=Pm.nF hx;have:=F.JQ;exact F.Qi (by omega)
structure pI(r0:Rw)(i:Nat)(r:Rw):Prop where
 by_:r.b=0
 len:r.rule.length=r0.rule.length+i
 Nx:r.rule.length=r.starts.length
 lY:∀x∈r.rule,Rm.Bd (20+26*i) x
 same:∀n,r.at n=r0.at n
def pI.start{c:Int}{r:Rw}(h:gw c r):pI r 0 r:=⟨h.by_,rfl,h.len,h.lY,λ_=>rfl⟩
def pI.ok{c:Int}{r0 r:Rw}{i:Nat}(h0:gw c r0)(h:pI r0 i r)(hi:i<=4):jc r:=by
 have e:=h.by_;have hs:=h0.short;have hl:=h.len;have hlS:=h.Nx;refine⟨h.Nx,by omega,by omega,by omega,λx _=> .inl e,λx _=> .inl e,λx hx=>(h.lY x hx).mono (by omega),λx hx=>?_⟩;obtain⟨k,hk,ex⟩:=jG.mp hx;have e1:r.at k=r.starts.getD k 0:=Rm.xZ hk;have:x=r0.at k:=by rw[<-h.same k,e1,dh,eY hk,<-ex];rfl
 rw[this];exact(h0.IZ (by omega)).mono (by decide)
def pI.tame{c:Int}{r0 r:Rw}{i:Nat}(h0:gw c r0)(h:pI r0 i r)(hi:i<=4):Tame r:=λ_=>by
 have hs:=h0.short;have e:r.at=r0.at:=funext h.same;exact⟨6,600,200,by decide,λx hx=>(h.lY x hx).mono (by omega),⟨Pm.aU 0 r0.rule,Pm.uH _ _,by rw[e];exact h0.kp,by rw[Pm.kj];omega⟩,λn hn=>by rw[h.same n];exact h0.IZ (by omega),by decide⟩
def pI.step{c n:Int}{r0 r:Rw}{i:Nat}(h0:gw c r0)(h:pI r0 i r)(hi:i<=3)(hn:Rm.Bd 24 n):pI r0 (i+1) ⟨r.b,oX r.b n r.rule,r.row (r.rule.length+1)⟩:=by
 have e:=h.by_;have ok:=h.ok h0 (by omega);refine⟨e,?_,?_,λx hx=>?_,λm=>?_⟩
 .show(oX r.b n r.rule).length=_;rw[CN,h.len];omega
 .show(oX r.b n r.rule).length=(r.row (r.rule.length+1)).length;rw[CN,Rw.oV]
 .obtain⟨k,_,rfl⟩:=Pm.nF (show x∈Pm.aH _ _ from hx);rw[e,Rm.bh];have b1:Rm.Bd (20+26*i+1) (if k<r.rule.length then 0-Pm.co r.rule k else 0):=by
   split
   .have:=Pm.Aw (Pm.jm h.lY k);rw[oA];exact this.mono (by omega)
   .exact Rm.Bd.zero _
  have b2:Rm.Bd (20+26*i) (if k=0 then 1 else 0-Pm.co r.rule (k-1)):=by
   split
   .exact(Rm.Bd.of (n:=1) (by decide) (by decide)).mono (by omega)
   .have:=Pm.Aw (Pm.jm h.lY (k-1));rw[oA];exact this
  have b3:=Pm.Aw (hn.mul b2);have b4:=Rm.Bd.add (n:=24+(20+26*i)) (b1.mono (by omega)) b3;have b5:=Pm.Aw b4;rw[oA,yK];exact b5.mono (by omega)
 .have:=aeV (b:=r.b) (n:=n) (r:=r) ok.len ok.aez rfl m;rw[<-h.same m,<-this];rfl
theorem aaw:∀(l:List (Int×Nat)) (us:List Int),∀p∈Cf.dR l us,∀c∈p.2,c∈us
 |(r,m)::t,us,p,hp,c,hc=>by
  rcases cj.mp hp with rfl|hp
  .exact QD hc
  .exact List.mem_of_mem_drop (aaw t (us.drop m) p hp c hc)
def Form.last{f:Nat->Int}{L:List Int}{l:List (Int×Nat)}{bot:Int}{us:List Int}(F:Form f L l bot us):∀p∈Cf.dR l us,p.2≠[]/\Pm.co p.2 (p.2.length-1)≠0:=λp hp=>by
 have hm:=F.pos _ (Cf.uL l us F.len p hp);have hm':0<p.2.length:=hm;have hne:p.2≠[]:=vW.mp hm';refine⟨hne,Cf.amN (N:=Cf.aJ l) (f:=f) (bot:=bot) ?_ (λq hq hk=>?_) (by rw[Cf.D9];exact Cf.yw F.up) (by have:=F.Tr;omega) F.sum p hp hne⟩
 .have e:=congrArg (λt=>(t.map (·.2)).sum) (Cf.Di l us F.len);simp only[fj]at e;exact e
 .have:=(F.least.all q hk).len rfl F.least.mon hq;rw[F.rp,(Cf.qW l).2]at this;exact this
def Form.right{r:Rw}{L:List Int}{l:List (Int×Nat)}{bot:Int}{us:List Int}(F:Form r.at L l bot us)(ok:jc r):FmR bot (Cf.dR l us) (r.row 30):=by
 have l6:=JX F.pos;have hN:=F.few;have lp:(Cf.dR l us).length=l.length:=by have:=congrArg List.length (Cf.Di l us F.len);rwa [aG]at this
 refine⟨⟨by omega,λp hp=>?_⟩,F.Tr,F.bb,by rw[Cf.D9];exact F.up,λp hp=>⟨F.ne _ (Cf.uL l us F.len p hp),F.last p hp⟩,by rw[Lf l us F.len];exact F.gcd,Rw.oV ..,ok.WB 30 (by decide),λn hn=>?_⟩
 .have hm:=Cf.uL l us F.len p hp;have:=E5 hm;have:p.2.length<=Cf.aJ l:=this;exact⟨F.rb _ hm,by omega,λc hc=>F.bu c (aaw l us p hp c hc)⟩
 .rw[F.sum];exact congrArg (bot * ·) (Rm.Jb _ _ _ hn)
def Form.made{ps:List (Int×List Int)}(M:Fm ps){c:Int}{r:Rw}(h:gw c r){rs:List Int}(er:Pm.aU 0 r.rule=Cf.dZ rs)(hrs:∀x∈rs,x∈gb){L:List Int}{l:List (Int×Nat)}{bot:Int}{us:List Int}(F:Form r.at L l bot us)(ha:∀n,r.at n=Cf.bJ ps n):bot=1/\Cf.dR l us=ps:=by
 have hb:=F.Tr;obtain⟨qs,zc⟩:∃qs:List (Int×List Int),qs=ps.map λp=>(p.1,p.2.map λt=>(bot.natAbs:Int)*t):=⟨_,rfl⟩;have nb:((bot.natAbs:Nat):Int)=bot:=by omega
 have qf:qs.map (·.1)=ps.map (·.1):=by rw[zc,fj];rfl
 have rt:∀x∈l,x.1∈gb:=λx hx=>by
  obtain⟨rs',hs',eL⟩:=h.split F.least er;have:Pm.ev L x.1=0:=by
   rw[F.rp,Cf.Aj,Cf.xX,Cf.Fx];exact⟨x.2,hx,F.pos x hx⟩
  rw[eL,Cf.xX]at this;exact hrs _ (hs'.subset this)
 have e:Cf.dR l us=qs:=Cf.akJ (R:=gb) (by decide) (λr hr=>(Dp r hr).1) (λp hp=>rt _ (Cf.uL l us F.len p hp)) (λq hq=>by
   rw[zc]at hq;obtain⟨p,hp,rfl⟩:=cM.mp hq;exact M.root p hp) (by rw[Cf.D9];exact F.up) (by rw[qf];exact M.up) (λp hp=>(F.last p hp).2) (λq hq=>by
   rw[zc]at hq;obtain⟨p,hp,rfl⟩:=cM.mp hq;show Pm.co (p.2.map λt=>(bot.natAbs:Int)*t) ((p.2.map λt=>(bot.natAbs:Int)*t).length-1)≠0;rw[aG,Pm.lV (f:=λt=>(bot.natAbs:Int)*t) (by rw[aR])];intro z;rcases kI.mp z with z|z
   .omega
   .exact(M.tops p hp).2.2.1 z) λn=>by
   rw[F.sum,ha,zc];unfold Cf.bJ;rw[fj];have pm:∀(q:List Int) (x:Int),Cf.pv (q.map λt=>(bot.natAbs:Int)*t) x=bot*Cf.pv q x:=λq x=>by
    rw[nb];induction q with
    |nil=>show(0:Int)=bot*0;rw[aR]
    |cons a q ih=>
     show bot*a+x*Cf.pv (q.map λt=>bot*t) x=bot*(a+x*Cf.pv q x);rw[ih,iW,gj]
   have sm:∀t:List (Int×List Int),bot*(t.map λp=>p.1^n*Cf.pv p.2 (n:Int)).sum=(t.map ((λp=>p.1^n*Cf.pv p.2 (n:Int))∘λp=>(p.1,p.2.map λt=>(bot.natAbs:Int)*t))).sum:=λt=>by
    induction t with
    |nil=>show bot*0=0;rw[aR]
    |cons p t ih=>
     rw[dz,jg,dz,jg,<-ih,iW];congr 1;show bot*(p.1^n*Cf.pv p.2 (n:Int))=p.1^n*Cf.pv (p.2.map λt=>(bot.natAbs:Int)*t) (n:Int);rw[pm,gj]
   exact sm ps
 have g:=F.gcd;rw[<-Lf l us F.len,e]at g;have ef:je qs=(je ps).map λt=>(bot.natAbs:Int)*t:=by
  rw[zc];unfold je;rw[List.flatMap_map,List.map_flatMap]
 have gm:=Lm.abN bot.natAbs 1 (je ps);rw[Bg,<-ef,g]at gm;have b1:bot.natAbs=1:=by
  exact Nat.dvd_one.mp ⟨_,gm⟩
 refine⟨by omega,?_⟩;rw[e,zc,b1];have:(λp:Int×List Int=>(p.1,p.2.map λt=>((1:Nat):Int)*t))=id:=by
  funext p
  have:(λt:Int=>((1:Nat):Int)*t)=id:=funext λt=>gM t;rw[this,J4];rfl
 rw[this,J4]
def akZ{K:W.Frag}{a:Addr}{xs:List V}{ps:List (Int×List Int)}{ex:List Addr}{ix:List (Option Nat)}{te:TE}{σ:St}{H1:Hp}{Q:VK}(hA:H1 a=some (.lst xs))(hp:cF H1 ex xs ps)(hz:xs.length<=1000){rest:St}(hst:cst ix σ=none::none::rest)(G:Int×List Int->List Int)
  (he:∀(H':Hp) (r:Int) (ts:List Int) (b:Addr),Same H1 H'->H' b=some (.lst (ts.map V.int))->(r,ts)∈ps->∀k:VK,(∀t' H2,Same H' H2->H2 t'=some (.tup ((G (r,ts)).map V.int))->k (.ref t') H2)->te (some (.int r)::some (.ref b)::rest) H' k)
  (hQ:∀D H' ys,Same H1 H'->H' D=some (.lst ys)->cT H' ys (ps.map G)->Q (.ref D) H'):
  jL ix (yx K 2 (su (gU 0) (su (gU 1) Dc))) lF te σ Q (lB K a) H1:=by
 have I:=kY (K:=K) (aq.of hA);have lx:=hp.len;constructor;intro D hD;refine⟨λi m σ' H'=>m=xs.length-i/\i<=xs.length/\(∃o o',σ'=o::o'::rest)/\Same H1 H'/\∃ys,H' D=some (.lst ys)/\cT H' ys ((ps.take i).map G),⟨xs.length,by simp,cJ _,⟨none,none,hst⟩,Same.new hD _,[],aA,.nil⟩,?_⟩;rintro i m σ' H' ⟨rfl,hi,⟨o,o',rfl⟩,g,ys,hl,hy⟩;by_cases hlt:i<xs.length
 .refine .inr ⟨I.go i _ g hlt,λx H2 y=>?_⟩;obtain⟨rfl,hx⟩:=I.jB i _ x H2 g y;obtain⟨t,b,r,ts,rfl,ep,ht,hb⟩:=(hp.same g).get (hx hlt);refine⟨t,[.int r,.ref b],rfl,.inl (.inl ht),rfl,_,[.ref b],rfl,.ref b,[],rfl,rfl,?_⟩;change te (some (.int r)::some (.ref b)::rest) H2 _;refine he H2 r ts b g hb (jF ep) _ λt' H3 g3 h3=>⟨ys,g3 _ _ hl,?_,xs.length-(i+1),by omega,rfl,hlt,⟨_,_,rfl⟩,Same.upd (g.trans g3) hD _,ys++[.ref t'],aA,?_⟩
  .have:=hy.len;rw[aG,jl]at this;have:=eE hz;omega
  .rw[take_one ep,jq];exact((hy.same g3).append (.cons h3 .nil)).set (g3 _ _ hl)
 .have e:i=xs.length:=by omega
  subst e;rw[lx,kE]at hy;exact .inl ⟨I.stop _ _ g (aN _),hQ D H' ys g hl hy⟩
def aml{K:W.Frag}{a:Addr}{xs:List V}{ps:List (Int×List Int)}{ex:List Addr}{ix:List (Option Nat)}{te:TE}{σ:St}{H1:Hp}{Q:VK}(hA:H1 a=some (.lst xs))(hp:cF H1 ex xs ps)(hz:xs.length<=1000){rest:St}(hst:cst ix σ=none::none::rest)
  (he:∀(H':Hp) (r:Int) (ts:List Int) (b:Addr),Same H1 H'->H' b=some (.lst (ts.map V.int))->∀k:VK,(∀t' b' H2,Same H' H2->H' b'=none->H2 t'=some (.tup [.int r,.ref b'])->H2 b'=some (.lst (ts.map V.int))->k (.ref t') H2)->te (some (.int r)::some (.ref b)::rest) H' k)
  (hQ:∀D H' ys,Same H1 H'->H' D=some (.lst ys)->cF H' [D] ys ps->Q (.ref D) H'):
  jL ix (yx K 2 (su (gU 0) (su (gU 1) Dc))) lF te σ Q (lB K a) H1:=by
 have I:=kY (K:=K) (aq.of hA);have lx:=hp.len;constructor;intro D hD;refine⟨λi m σ' H'=>m=xs.length-i/\i<=xs.length/\(∃o o',σ'=o::o'::rest)/\Same H1 H'/\∃ys,H' D=some (.lst ys)/\cF H' [D] ys (ps.take i),⟨xs.length,by simp,cJ _,⟨none,none,hst⟩,Same.new hD _,[],aA,.nil⟩,?_⟩;rintro i m σ' H' ⟨rfl,hi,⟨o,o',rfl⟩,g,ys,hl,hy⟩;by_cases hlt:i<xs.length
 .refine .inr ⟨I.go i _ g hlt,λx H2 y=>?_⟩;obtain⟨rfl,hx⟩:=I.jB i _ x H2 g y;obtain⟨t,b,r,ts,rfl,ep,ht,hb⟩:=(hp.same g).get (hx hlt);refine⟨t,[.int r,.ref b],rfl,.inl (.inl ht),rfl,_,[.ref b],rfl,.ref b,[],rfl,rfl,?_⟩;change te (some (.int r)::some (.ref b)::rest) H2 _;refine he H2 r ts b g hb _ λt' b' H3 g3 n3 h3 h4=>⟨ys,g3 _ _ hl,?_,xs.length-(i+1),by omega,rfl,hlt,⟨_,_,rfl⟩,Same.upd (g.trans g3) hD _,ys++[.ref t'],aA,?_⟩
  .have:=hy.len;rw[jl]at this;have:=eE hz;omega
  .rw[take_one ep];exact((hy.same g3).append (.cons h3 (λz=>by rw[cP.mp z,hl]at n3;cases n3) h4 .nil)).set (g3 _ _ hl) (cP.mpr rfl)
 .have e:i=xs.length:=by omega
  subst e;rw[lx,kE]at hy;exact .inl ⟨I.stop _ _ g (aN _),hQ D H' ys g hl hy⟩
def zm:List Int:=[0,5,10000000,-1]
def Yg{i:Int}(h0:0<=i)(h1:i<4):Rm.Bd 24 (zm.getD i.toNat 0):=by
 have:∀k<4,(zm.getD k 0).natAbs<16777216:=by decide
 exact this _ (by omega)
def Found(c:Int)(f:Nat->Int)(H:Hp)(v:V):Prop:=(v = .non/\c%3=1/\∃L,j7 0 f L/\((Pm.wr L).2≠[1]∨∃x∈(Pm.wr L).1,x.headD 0=0))∨
 ∃L l bot us t lp ys ex,v = .ref t/\Form f L l bot us/\H t=some (.tup [.int bot,.ref lp])/\H lp=some (.lst ys)/\cF H ex ys (Cf.dR l us)
theorem Found.same{c:Int}{f:Nat->Int}{H H':Hp}(g:Same H H'){v:V}(h:Found c f H v):Found c f H' v:=by
 rcases h with h|⟨L,l,bot,us,t,lp,ys,ex,e,F,h1,h2,h3⟩
 .exact .inl h
 .exact .inr ⟨L,l,bot,us,t,lp,ys,ex,e,F,g _ _ h1,g _ _ h2,h3.same g⟩
section
variable {P:Program} {w:World} {K:W.Frag} {mg:Str->Option Value} {base:Heap}
variable {eO dN:Addr} (B:Bt mg) (M:Ms K mg base eO dN)
include B M
theorem ako(F:Fn K mg "taken" Kw ["by","number"]):m9 P w K mg base:=by
 refine F.cal apn (λvs H Q E h=>?_) (λf cdv A outer s H vs Q E hr h=>?_)
 .obtain⟨b,n,rfl,_⟩:=h;rfl
 .obtain⟨b,n,rfl,h0,q⟩:=h;refine⟨_,(au (cW (bB (fK K hr) (pv 0) ak (aZ _))
   (aF (aX (pv 1)))
   cZ)
   (aF (aX (aB d9 (pv 1) (pv 0))))),?_⟩
  refine⟨_,rfl,_,rfl,?_⟩;refine cG (λc=>?_) (λc=>?_)
  .refine⟨_,rfl,?_⟩;have c':b=0:=dec_true c;have e:Rm.tk b n=n:=by rw[c',Rm.bh]
   rw[e]at q;exact q
  .have c':¬b=0:=dec_false c;refine⟨_,rfl,_,rfl,_,_,rfl,rfl,(by omega:(0:Int)<b),?_⟩;rw[Rm.jN c']at q;exact q
theorem arW(F:Fn K mg "is_prime" Qc ["number"]):ZY P w K mg base:=by
 refine F.cal Tj (λvs H Q E h=>?_) (λf cdv A outer s H vs Q E hr h=>?_)
 .obtain⟨n,rfl,_⟩:=h;rfl
 .obtain⟨n,rfl,hn,q⟩:=h;refine⟨_,(au (cW (bB tZ (pv 0) ak (aZ _))
   (aF (aX nM))
   cZ)
   (au (aD (i:=1) Tj.nd rfl (Or.inl rfl) ak)
   (au (oY PassesOwn.never (bB Mj (aB v_mul (pv 1) (pv 1)) (pv 0) (aZ _))
   (au (cW (bB (fK K hr) (aB d9 (pv 0) (pv 1)) ak (aZ _))
   (aF (aX nM))
   cZ)
   (aF (aD (i:=1) Tj.nd rfl (Or.inl rfl) (aB (dB K) (pv 1) ak)))))
   (aF (aX nM))))),?_⟩
  refine⟨_,rfl,_,_,rfl,rfl,_,rfl,?_⟩;refine cG (λc=>?_) (λc=>?_)
  .have c':(n:Int)<2:=dec_true c;exact q false ⟨λz=>absurd z (by decide),λz=>by have:=z.1;omega⟩
  .have c':¬(n:Int)<2:=dec_false c;refine⟨λm σ' H'=>∃d:Nat,σ'=[some (.int n),some (.int (d:Int))]/\H'=H/\2<=d/\d<=n+1/\m=n+2-d/\∀e:Nat,2<=e->e<d->¬e∣n,⟨_,2,rfl,rfl,by omega,by omega,rfl,λe h1 h2=>by omega⟩,?_⟩;rintro m σ' H' ⟨d,rfl,rfl,h2,hdn,rfl,hd⟩;refine⟨_,rfl,_,rfl,mulL (by omega) (by omega),_,rfl,_,_,rfl,rfl,_,rfl,?_⟩;refine cG (λc2=>?_) (λc2=>?_)
   .have c2':(d:Int)*d<=n:=dec_true c2;have c2n:d*d<=n:=by exact_mod_cast c2'
    have hdl:d*1<=d*d:=vf d (by omega);refine⟨_,λ_ _ z=>z,?_⟩;refine⟨_,rfl,_,rfl,_,_,rfl,rfl,(by omega:(0:Int)<(d:Int)),?_⟩;refine⟨_,rfl,?_⟩;refine cG (λc3=>?_) (λc3=>?_)
    .have tW:(n:Int)%(d:Int)=0:=dec_true c3;have hdv:d∣n:=Du.mp (Av tW);exact q false ⟨λz=>absurd z (by decide),λz=>absurd z (Om.ahF h2 c2n hdv)⟩
    .have tW:¬(n:Int)%(d:Int)=0:=dec_false c3;refine⟨_,rfl,?_⟩;exact⟨n+2-(d+1),by omega,d+1,by simp,rfl,by omega,by omega,rfl,λe h1 h3=>by
      rcases AK e d with z|z
      .exact hd e h1 z
      .have:e=d:=by omega
       subst this;exactλz=>tW (Int.emod_eq_zero_of_dvd (Du.mpr z))⟩
   .have c2':¬(d:Int)*d<=n:=dec_false c2;have c2n:¬d*d<=n:=λz=>c2' (by exact_mod_cast z);exact q true ⟨λ_=>Om.K3 (by omega) λe h1 h3 hdv=>by
     by_cases c4:e<d
     .exact hd e h1 c4 hdv
     .have:d*d<=e*e:=jh (by omega) (by omega);omega,λ_=>rfl⟩
theorem afA(F:Fn K mg "prime_above" Kd ["number"])(KL:ZY P w K mg base):aaZ P w K mg base:=by
 refine F.cal M7 (λvs H Q E h=>?_) (λf cdv A outer s H vs Q E hr h=>?_)
 .obtain⟨n,q,rfl,_⟩:=h;rfl
 .obtain⟨n,q',rfl,hq,hnq,hqb,q⟩:=h;refine⟨_,(au (aD (i:=1) M7.nd rfl (Or.inl rfl) (aB (dB K) (pv 0) ak))
   (au (oY PassesOwn.never (AZ (uD (aL KL hr rfl (ao (pv 1) aj))))
   (aF (aD (i:=1) M7.nd rfl (Or.inl rfl) (aB (dB K) (pv 1) ak))))
   (aF (aX (pv 1))))),?_⟩
  refine⟨_,rfl,?_⟩;refine⟨λm σ' H'=>∃f:Nat,σ'=[some (.int n),some (.int (f:Int))]/\H'=H/\n<f/\f<=q'/\m=q'-f,⟨_,n+1,rfl,rfl,by omega,by omega,rfl⟩,?_⟩;rintro m σ' H' ⟨f,rfl,rfl,h1,h2,rfl⟩;refine⟨_,rfl,f,rfl,by omega,λb hb=>?_⟩;refine⟨b,rfl,?_⟩;cases b with
  |false=>
   refine⟨_,λ_ _ z=>z,?_⟩;refine⟨_,rfl,?_⟩;have hne:f≠q':=λe=>absurd (hb.mpr (e▸hq)) (by decide);exact⟨q'-(f+1),by omega,f+1,rfl,rfl,by omega,by omega,rfl⟩
  |true=>
   refine⟨_,rfl,?_⟩;exact q f (hb.mp rfl) h1 h2
theorem aji(F:Fn K mg "inverse" Lp ["prime","number"])(dD:m9 P w K mg base):Y9 P w K mg base:=by
 refine F.cal xr (λvs H Q E h=>?_) (λf cdv A outer s H vs Q E hr h=>?_)
 .obtain⟨P,a,rfl,_⟩:=h;rfl
 .obtain⟨P',a,rfl,hP,hPb,h0,h1,q⟩:=h;have hr2:2<=P'/\P'<2097152:=⟨hP.1,hPb⟩;refine⟨_,(au (aD (i:=2) xr.nd rfl (Or.inl rfl) ak)
   (au (aD (i:=3) xr.nd rfl (Or.inl rfl) (pv 1))
   (au (aD (i:=4) xr.nd rfl (Or.inl rfl) (aB cO (pv 0) ak))
   (au (oY PassesOwn.never (bB sW (pv 4) ak (aZ _))
   (au (tV (cW (bB (fK K hr) (aB d9 (pv 4) ak) ak (aZ _))
   (aF (aD (i:=2) xr.nd rfl (Or.inl rfl) (aL dD hr rfl (ao (pv 0) (dX (aB v_mul (pv 2) (pv 3)) aj)))))
   cZ))
   (au (aD (i:=3) xr.nd rfl (Or.inl rfl) (aL dD hr rfl (ao (pv 0) (dX (aB v_mul (pv 3) (pv 3)) aj))))
   (aF (aD (i:=4) xr.nd rfl (Or.inl rfl) (aB vJ (pv 4) ak))))))
   (aF (aX (pv 2))))))),?_⟩
  refine⟨_,rfl,?_⟩;refine⟨_,rfl,_,_,rfl,rfl,?_⟩;have e0:((P':Int)-2).toNat=P'-2:=by omega
  refine⟨λm σ' H'=>∃power square left:Int,σ'=[some (.int P'),some (.int a),some (.int power),some (.int square),some (.int left)]/\H'=H/\m=left.toNat/\0<=power/\power<2097152/\0<=square/\square<2097152/\0<=left/\Om.Keeps P' a (P'-2) power square left.toNat,
   ⟨_,1,a,(P':Int)-2,rfl,rfl,rfl,by decide,by decide,by omega,by omega,by omega,by rw[e0];exact Om.aoJ _ _ _⟩,?_⟩
  rintro m σ' H' ⟨power,square,left,rfl,rfl,rfl,p0,p1,s0,s1,l0,hk⟩;refine⟨_,rfl,_,_,rfl,rfl,_,rfl,?_⟩;refine cG (λc=>?_) (λc=>?_)
  .have c':0<left:=dec_true c;refine⟨_,λ_ _ z=>z,?_⟩;have hpos:(0:Int)<(P':Int):=by omega
   have jk:∀n,Rm.tk (P':Int) n=n%(P':Int):=λn=>Rm.jN (by omega) n;refine qR.by (λσ' H2=>∃power':Int,σ'=[some (.int P'),some (.int a),some (.int power'),some (.int square),some (.int left)]/\H2=H'/\((left%2=1/\power'=power*square%(P':Int))∨(¬left%2=1/\power'=power))) (λN hN=>?_) ?_
   .refine⟨_,rfl,_,_,rfl,rfl,(by decide:(0:Int)<2),_,rfl,?_⟩;refine cG (λc2=>?_) (λc2=>?_)
    .refine⟨_,rfl,_,rfl,_,rfl,mulL (by omega) (by omega),P',_,rfl,by omega,?_⟩;exact hN _ _ ⟨_,rfl,rfl,.inl ⟨dec_true c2,jk _⟩⟩
    .exact hN _ _ ⟨_,rfl,rfl,.inr ⟨dec_false c2,rfl⟩⟩
   rintro σ' H2 ⟨power',rfl,rfl,hp⟩;refine⟨_,rfl,_,rfl,_,rfl,mulL (by omega) (by omega),P',_,rfl,by omega,?_⟩;refine⟨_,rfl,_,_,rfl,rfl,⟨by decide,by decide⟩,?_⟩;have b1:=iC (square*square) hpos;have b2:=iM (square*square) hpos;have b3:=iC (power*square) hpos;have b4:=iM (power*square) hpos;have el:(left/2).toNat=left.toNat/2:=by omega
   refine⟨_,?_,power',square*square%(P':Int),left/2,by rw[jk];rfl,rfl,rfl,?_,?_,b1,by omega,by omega,?_⟩
   .omega
   .rcases hp with⟨_,rfl⟩|⟨_,rfl⟩
    .exact b3
    .exact p0
   .rcases hp with⟨_,rfl⟩|⟨_,rfl⟩
    .omega
    .exact p1
   .rw[el];rcases hp with⟨hodd,rfl⟩|⟨hodd,rfl⟩
    .exact Om.ajk hk (by omega)
    .exact Om.aiM hk (by omega)
  .have c':left=0:=by have:=dec_false c;omega
   subst c';refine⟨_,rfl,?_⟩;exact q power p0 p1 (Om.alm hk)
theorem akq(F:Fn K mg "over" K9 ["by","one","other"])(dD:m9 P w K mg base)(J6:Y9 P w K mg base):Bf P w K mg base:=by
 refine F.cal aqd (λvs H Q E h=>?_) (λf cdv A outer s H vs Q E hr h=>?_)
 .obtain⟨P,one,other,rfl,_⟩:=h;rfl
 .obtain⟨P',one,other,rfl,hP,hPb,o0,o1,q⟩:=h;refine⟨_,(au (cW (bB (fK K hr) (pv 0) ak (aZ _))
   (aF abk)
   cZ)
   (au (cW (bB (fK K hr) (aL dD hr rfl (ao (pv 0) (ao (pv 2) aj))) ak (aZ _))
   (aF abk)
   cZ)
   (aF (aX (aL dD hr rfl (ao (pv 0) (dX (aB v_mul (pv 1) (aL J6 hr rfl (ao (pv 0) (ao (pv 2) aj)))) aj))))))),?_⟩
  have hr2:2<=P'/\P'<2097152:=⟨hP.1,hPb⟩;refine⟨_,rfl,_,rfl,?_⟩;refine cG (λc=>absurd (dec_true c) (by omega)) (λ_=>?_);have jk:∀n,Rm.tk (P':Int) n=n%(P':Int):=λn=>Rm.jN (by omega) n;refine⟨_,rfl,_,rfl,P',other,rfl,by omega,_,rfl,?_⟩;have et:Rm.tk (P':Int) other=other:=by rw[jk];exact BQ (by omega) o1
  rw[et];refine cG (λc2=>absurd (dec_true c2) (by omega)) (λ_=>?_);refine⟨_,rfl,_,rfl,_,rfl,_,rfl,P',other,rfl,hP,hPb,o0,o1,λx x0 x1 hx=>?_⟩;refine⟨mulR (by omega) (by omega),P',_,rfl,by omega,?_⟩;rw[jk,Om.mod_mul (rfl:one%(P':Int)=one%(P':Int)) hx];exact q
theorem ahk(F:Fn K mg "trimmed" Oq ["numbers"]):GQ P w K mg base:=by
 refine F.cal QK (λvs H Q E h=>?_) (λf cdv A outer s H vs Q E hr h=>?_)
 .obtain⟨l,xs,rfl,_⟩:=h;rfl
 .obtain⟨l,xs,rfl,hL,q⟩:=h;refine⟨_,(au (aD (i:=1) QK.nd rfl (Or.inl rfl) (bZ (dO K) rfl B.dG boot_len (ao (pv 0) aj)))
   (au (oY PassesOwn.never (PW.pt (vm (bB sW (pv 1) ak (aZ _)) (yd (bB (fK K hr) (aO (aQ K) (pv 0) (aB cO (pv 1) ak) (λ_ _=>rfl)) ak (aZ _)))))
   (aF (aD (i:=1) QK.nd rfl (Or.inl rfl) (aB cO (pv 1) ak))))
   (aF (aX (iB (jQ K) rfl B.jD boot_tuple (aM (vU (vB K) (pv 0) wB (sV (pv 1))) aj)))))),?_⟩
  have lL:(xs.map V.int).length=xs.length:=aG _;refine⟨_,rfl,.ref l,xs.length,rfl,.inl ⟨_,hL,lL.symm⟩,?_⟩;refine⟨λm σ' H'=>∃n:Nat,m=n/\n<=xs.length/\σ'=[some (.ref l),some (.int (n:Int))]/\H'=H/\Pm.trim (xs.take n)=Pm.trim xs,⟨_,xs.length,rfl,aN _,rfl,rfl,by rw[kE]⟩,?_⟩;rintro m σ' H' ⟨n,e0,hn,rfl,rfl,ht⟩;refine⟨_,rfl,_,_,rfl,rfl,_,rfl,?_⟩;refine cG (λc=>?_) (λc=>d8 ?_)
  .have h0:0<n:=by have:=dec_true c;omega
   have e1:((n:Int)-1).toNat=n-1:=by omega
   refine⟨_,rfl,_,rfl,_,_,rfl,rfl,_,_,.inl hL,fQ (ns:=xs) (by omega:(0:Int)<=(n:Int)-1) (by omega),_,rfl,?_⟩;refine cG (λc2=>?_) (λc2=>?_)
   .have hz:=dec_true c2;rw[e1]at hz;refine⟨_,λ_ _ z=>z,?_⟩;refine⟨_,rfl,_,_,rfl,rfl,?_⟩;refine⟨n-1,by omega,n-1,rfl,by omega,?_,rfl,UZ h0 hn ht hz⟩;rw[show((n-1:Nat):Int)=(n:Int)-1 by omega];rfl
   .have hz:=dec_false c2;rw[e1]at hz;refine⟨_,rfl,_,rfl,_,rfl,.inl ⟨_,hL,λp hp=>?_⟩⟩;refine⟨p,_,rfl,.inl ⟨aq.of aA,λp2 hp2=>?_⟩⟩;refine q p2 _ ((Same.new hp _).trans (Same.new hp2 _)) ?_;rw[aA,B6,<-xW,Ld hn ht (.inr hz)]
  .have h0:n=0:=by have:=dec_false c;omega
   refine⟨_,rfl,_,rfl,_,rfl,.inl ⟨_,hL,λp hp=>?_⟩⟩;refine⟨p,_,rfl,.inl ⟨aq.of aA,λp2 hp2=>?_⟩⟩;refine q p2 _ ((Same.new hp _).trans (Same.new hp2 _)) ?_;rw[aA,B6,<-xW,Ld hn ht (.inl h0)]
theorem aga(F:Fn K mg "divided" SV ["by","one","other"])(dD:m9 P w K mg base)(qP:GQ P w K mg base):Bo P w K mg base:=by
 refine F.cal wM (λvs H Q E h=>?_) (λf cdv A outer s H vs Q E hr h=>?_)
 .obtain⟨b,a,c,P,M,rfl,_⟩:=h;rfl
 .obtain⟨b,a,c,P,M,rfl,hb,hb1,hA,hC,zA,zC,hM,nP,bA,bC,q⟩:=h;refine⟨_,(au (aD (i:=3) wM.nd rfl (Or.inl rfl) (aB cO (bZ (dO K) rfl B.dG boot_len (ao (pv 2) aj)) ak))
   (au (aD (i:=4) wM.nd rfl (Or.inl rfl) (aB v_mul (fB (bU ak aj)) (bZ (WK rfl) rfl B.VH boot_max (bU ak (dX (aB cO (bZ (dO K) rfl B.dG boot_len (ao (pv 1) aj)) (pv 3)) aj)))))
   (au (aD (i:=5) wM.nd rfl (Or.inl rfl) (iB (xlist K) rfl B.xU boot_list (ao (pv 1) aj)))
   (au (fZ PassesOwn.never rfl (ajf rfl B.gJ (dX (aB cO (bZ (dO K) rfl B.dG boot_len (ao (pv 4) aj)) ak) (xO (qF qZ ak) (xO (qF qZ ak) aj)))) (aV (i:=6) wM.nd rfl (Or.inl rfl))
   (au (aD (i:=7) wM.nd rfl (Or.inl rfl) (aO (aQ K) (pv 5) (aB (dB K) (pv 6) (pv 3)) (λ_ _=>rfl)))
   (au (qM (pv 7) (wK (pv 4) (pv 6) set_list))
   (aF (fZ PassesOwn.never rfl (iJ rfl B.gJ (aM (bZ (dO K) rfl B.dG boot_len (ao (pv 2) aj)) aj)) (aV (i:=8) wM.nd rfl (Or.inl rfl))
   (aF (qM (aL dD hr rfl (ao (pv 0) (dX (aB cO (aO (aQ K) (pv 5) (aB (dB K) (pv 6) (pv 8)) (λ_ _=>rfl)) (aB v_mul (pv 7) (aO (aQ K) (pv 2) (pv 8) (λ_ _=>rfl)))) aj))) (wK (pv 5) (aB (dB K) (pv 6) (pv 8)) set_list))))))))
   (aF (aX (fM (aM (aL qP hr rfl (ao (pv 4) aj)) (aM (aL qP hr rfl (ao (pv 5) aj)) aj))))))))),?_⟩
  have lP:(P.map V.int).length=P.length:=aG _;have lM:(M.map V.int).length=M.length:=aG _;have hMp:=hM.pos;refine⟨_,rfl,.ref c,M.length,rfl,.inr ⟨_,aC.of hC,lM.symm⟩,_,_,rfl,rfl,?_⟩;refine⟨(by show 1<=sizeLine;decide),λl0 h0=>?_⟩;have g0:=Same.new h0 (.lst [.int 0]);refine⟨_,rfl,.ref a,P.length,rfl,.inr ⟨_,aC.of (g0 _ _ hA),lP.symm⟩,_,rfl,_,_,rfl,rfl,_,_,rfl,?_⟩;have en:(if(P.length:Int)-((M.length:Int)-1)>0 then(P.length:Int)-((M.length:Int)-1)else 0).toNat=P.length-(M.length-1):=(max_zero P.length M.length).resolve_right (by omega);refine⟨_,aA,?_,?_,?_,λlo hlo=>?_⟩
  .split<;>omega
  .split<;>omega
  .rw[en];show 1*(P.length-(M.length-1))<=sizeLine;rw[xJ];exact fX (eE (by omega))
  rw[en,JB];have akE:H lo=none:=g0.free hlo;have g1:=g0.trans (Same.new hlo (.lst ((Pm.aH (P.length-(M.length-1)) λ_=>0).map V.int)));have Ot:(upd (upd H l0 (.lst [.int 0])) lo (.lst ((Pm.aH (P.length-(M.length-1)) λ_=>0).map V.int))) lo=some (.lst ((Pm.aH (P.length-(M.length-1)) λ_=>0).map V.int)):=aA;generalize upd (upd H l0 (.lst [.int 0])) lo (.lst ((Pm.aH (P.length-(M.length-1)) λ_=>0).map V.int))=H1 at g1 Ot;refine⟨_,rfl,a,_,rfl,.inr (aC.of (g1 _ _ hA)),λll hll=>?_⟩;have aeJ:H ll=none:=g1.free hll;have hne:lo≠ll:=ju Ot hll;have Qz:=Same.new hll (.lst (P.map V.int));have g2:=g1.trans Qz;have Gb:=Qz _ _ Ot;have hL2:(upd H1 ll (.lst (P.map V.int))) ll=some (.lst (P.map V.int)):=aA;generalize upd H1 ll (.lst (P.map V.int))=H2 at Qz g2 Gb hL2;generalize hn:P.length-(M.length-1)=n at Gb;refine⟨_,rfl,.ref lo,n,rfl,.inl ⟨_,aq.of Gb,by rw[aG,Pm.bG]⟩,_,_,rfl,rfl,_,rfl,_,rfl,(n:Int)-1,-1,rfl,⟨by omega,by omega,by omega,by omega⟩,?_⟩;refine ai2 (lo:=(n:Int)-1) (n:=((n:Int)-1-(-1)).toNat) (λi σ' H'=>∃o6 o7 o8 O L,σ'=[some (.int b),some (.ref a),some (.ref c),some (.int ((M.length:Int)-1)),some (.ref lo),some (.ref ll),o6,o7,o8]/\Same H H'/\H' lo=some (.lst (List.map V.int O))/\H' ll=some (.lst (List.map V.int L))/\Pm.qw b P M (n-i) O L/\(∀k,Rm.Bd (300000+i*124001) (Pm.co O k))/\∀k,Rm.Bd (300000+i*124001) (Pm.co L k))
   ⟨_,_,_,_,P,rfl,g2,Gb,hL2,(by rw[sY,<-hn];exact Pm.qw.start nP),λk=>by rw[Pm.dw];split<;>exact Rm.Bd.zero _,λk=>(Pm.jm bA k).mono (by omega)⟩ ?_ ?_
  .rintro i σ' H' hi ⟨o6,o7,o8,O,L,rfl,g,hO,hL,I,bO,bL⟩;have hi':i<n:=by omega
   have hs:n-i=n-(i+1)+1:=by omega
   rw[hs]at I;generalize es:n-(i+1)=s at I;have esI:(n:Int)-1-(i:Int)=(s:Int):=by omega
   rw[esI];have hlL:=I.ll;have hlO:=I.ol;have lO:(O.map V.int).length=O.length:=aG _;have e1:((s:Int)+((M.length:Int)-1)).toNat=s+(M.length-1):=by omega
   refine⟨_,rfl,_,rfl,_,rfl,_,_,.inl (aq.of hL),fQ (ns:=L) (by omega:(0:Int)<=(s:Int)+((M.length:Int)-1)) (by omega),?_⟩;rw[e1];have hF:Rm.Bd (300000+i*124001) (L.getD (s+(M.length-1)) 0):=bL _;have eF:L.getD (s+(M.length-1)) 0=Pm.co L (s+(M.length-1)):=rfl;rw[eF]at hF⊢;generalize hf:Pm.co L (s+(M.length-1))=f at hF;refine⟨_,rfl,_,rfl,_,rfl,lo,_,_,s,rfl,rfl,hO,wH rfl (by rw[lO];omega),?_⟩;have hO3:(upd H' lo (.lst ((O.map V.int).set s (.int f)))) lo=some (.lst ((O.set s f).map V.int)):=by rw[aA,HS]
   have iR:(upd H' lo (.lst ((O.map V.int).set s (.int f)))) ll=some (.lst (L.map V.int)):=by rw[cC hne.symm];exact hL
   have g3:=g.upd akE (.lst ((O.map V.int).set s (.int f)));generalize upd H' lo (.lst ((O.map V.int).set s (.int f)))=H3 at hO3 iR g3;refine⟨_,rfl,.ref c,M.length,rfl,.inr ⟨_,aC.of (g3 _ _ hC),lM.symm⟩,?_⟩;refine⟨(M.length:Int),rfl,(by omega:-(2^62)<=(M.length:Int)),(by omega:(M.length:Int)<2^62),?_⟩;refine pq (lo:=0) (n:=(M.length:Int).toNat) (λt σ' H'=>∃o8 L',σ'=[some (.int b),some (.ref a),some (.ref c),some (.int ((M.length:Int)-1)),some (.ref lo),some (.ref ll),some (.int (s:Int)),some (.int f),o8]/\Same H H'/\H' lo=some (.lst ((O.set s f).map V.int))/\H' ll=some (.lst (List.map V.int L'))/\L'.length=L.length/\∀k,Pm.co L' k=Pm.lf b f s t L M k)
    ⟨_,L,rfl,g3,hO3,iR,rfl,λk=>(Pm.ajj ..).symm⟩ ?_ ?_
   .rintro t σ' H4 ht ⟨o8,L',rfl,g4,Mv,vA,Li,zY⟩;have ht':t<M.length:=by omega
    have Z4:(L'.map V.int).length=L'.length:=aG _;have e2:((s:Int)+(0+(t:Int))).toNat=s+t:=by omega
    have e3:(0+(t:Int)).toNat=t:=by omega
    refine⟨_,rfl,_,rfl,_,rfl,_,rfl,_,_,.inl (aq.of vA),fQ (ns:=L') (by omega:(0:Int)<=(s:Int)+(0+(t:Int))) (by omega),?_⟩;refine⟨_,rfl,_,rfl,_,rfl,_,_,.inr (aC.of (g4 _ _ hC)),fQ (ns:=M) (by omega:(0:Int)<=0+(t:Int)) (by omega),?_⟩;refine⟨pU hF (Rm.Bd.getD bC _) (by have:i*124001<=40*124001:=lW _ (by omega);omega),_,_,rfl,rfl,?_⟩;refine⟨b,_,rfl,hb,?_⟩;refine⟨_,rfl,_,rfl,_,rfl,ll,_,_,s+t,rfl,rfl,vA,wH (by omega) (by rw[Z4];omega),?_⟩;refine⟨_,L'.set (s+t) _,rfl,g4.upd aeJ _,(by rw[cC hne];exact Mv),(by rw[aA,HS]),(by rw[oM];exact Li),λk=>?_⟩;rw[Pm.yF _ _ _ _ (by omega),Pm.akB,e2,e3,<-zY k];by_cases ek:k=s+t
    .rw[if_pos ek,if_pos ek,ek];rfl
    .rw[if_neg ek,if_neg ek]
   .rintro σ' H4 ⟨o8,L',rfl,g4,Mv,vA,Li,zY⟩;rw[fW]at zY;refine⟨_,_,_,O.set s f,L',rfl,g4,Mv,vA,?_,λk=>?_,λk=>?_⟩
    .rw[<-hf];rw[<-hf]at zY;exact I.step hM (by omega) Li zY
    .rw[Pm.yF _ _ _ _ (by omega)];split
     .exact hF.mono (by omega)
     .exact(bO k).mono (by omega)
    .rw[zY k];exact(Pm.asy hb hb1 (by omega) hF bL bC k).mono (by omega)
  .rintro σ' H' ⟨o6,o7,o8,O,L,rfl,g,hO,hL,I,bO,bL⟩;have e9:((n:Int)-1-(-1)).toNat=n:=by omega
   rw[e9]at I bO bL;rw[qT]at I;refine⟨_,rfl,lo,O,rfl,aq.of hO,λt1 H3 g3 h3=>?_⟩;refine⟨_,rfl,ll,L,rfl,aq.of (g3 _ _ hL),λt2 H4 g4 h4=>?_⟩;refine⟨(by show 2<=sizeLine;decide),λt ht=>?_⟩;have gt:=Same.new ht (.tup [.ref t1,.ref t2]);have hz:300000+n*124001<=5300000:=by have:n*124001<=40*124001:=lW _ (by omega);omega
   refine q t t1 t2 (Pm.trim O) (Pm.trim L) _ (g.trans (g3.trans (g4.trans gt))) aA (gt _ _ (g4 _ _ h3)) (gt _ _ h4) (I.stop hM) (λz hz'=>(aaD bO z hz').mono hz) (λz hz'=>(aaD bL z hz').mono hz) ?_;have:=Pm.uF O;have:=I.ol;omega
theorem alr(F:Fn K mg "monic" R3 ["prime","poly"])(oK:Bf P w K mg base):ac0 P w K mg base:=by
 refine F.cal X5 (λvs H Q E h=>?_) (λf cdv A outer s H vs Q E hr h=>?_)
 .obtain⟨P,a,p,rfl,_⟩:=h;rfl
 .obtain⟨P',a,p,rfl,hP,hPb,hA,zA,pP,q⟩:=h;refine⟨_,(au (cW (bB (fK K hr) (bZ (dO K) rfl B.dG boot_len (ao (pv 1) aj)) ak (aZ _))
   (aF (aX (fM aj)))
   cZ)
   (au (aD (i:=2) X5.nd rfl (Or.inr rfl) (aO (aQ K) (pv 1) (aB cO (bZ (dO K) rfl B.dG boot_len (ao (pv 1) aj)) ak) (λ_ _=>rfl)))
   (aF (aX (iB (jQ K) rfl B.jD boot_tuple (aM (fY (sc:=ank) (N:=["number","last","prime"]) (ix:=[none,some 2,some 0]) dI rfl (d7 K (pv 1)) (λcl C s₀ H₀ ex=>⟨(aV (i:=0) cX rfl (Or.inl rfl)),dW,(aL oK hr rfl (ao (pv 2) (ao (pv 0) (ao (pv 1) aj))))⟩)) aj)))))),?_⟩
  have hr2:2<=P'/\P'<2097152:=⟨hP.1,hPb⟩;have lP:(p.map V.int).length=p.length:=aG _;refine⟨_,rfl,.ref a,p.length,rfl,.inr ⟨_,aC.of hA,lP.symm⟩,_,rfl,?_⟩;refine cG (λc=>?_) (λc=>?_)
  .have c':(p.length:Int)=0:=dec_true c;have e:p=[]:=u9 (by omega);subst e;exact⟨cJ _,λt ht=>q t [] _ (Same.new ht _) aA (Pm.u6.nil _)⟩
  .have c':¬(p.length:Int)=0:=dec_false c;have hn:p≠[]:=λe=>c' (by rw[e];rfl);have hpos:0<p.length:=by omega
   have e1:((p.length:Int)-1).toNat=p.length-1:=by omega
   refine⟨_,rfl,_,rfl,.ref a,p.length,rfl,.inr ⟨_,aC.of hA,lP.symm⟩,_,_,rfl,rfl,_,_,.inr (aC.of hA),fQ (ns:=p) (by omega:(0:Int)<=(p.length:Int)-1) (by omega),?_⟩;rw[e1];have l0:=Pm.pQ hn pP.tr;have l1:=pP.co (p.length-1);rw[Rm.jN (by omega)]at l1;have r0:0<=Pm.co p (p.length-1):=by rw[<-l1];exact qC _ (by omega)
   have r1:Pm.co p (p.length-1)<(P':Int):=by rw[<-l1];exact rz _ (by omega)
   refine⟨_,rfl,a,rfl,.inr ⟨⟨_,aC.of hA⟩,wN hA (by omega) rfl (λx=>x*(Pm.co p (p.length-1))^(P'-2)%(P':Int)) ?_ ?_⟩⟩
   .intro H2 x g2 hx k hk;exact⟨_,rfl,_,rfl,_,rfl,P',x,_,rfl,hP,hPb,by show 0<Pm.co p (p.length-1);omega,r1,hk⟩
   .intro D hD;refine⟨D,_,rfl,.inl ⟨aq.of aA,λt ht=>?_⟩⟩;exact q t (Pm.rW P' p) _ ((Same.new hD _).trans (Same.new ht _)) aA (Pm.aoq hP pP hn)
theorem alp(F:Fn K mg "greatest" MN ["by","one","other"])(Cd:ac0 P w K mg base)(nQ:Bo P w K mg base):Uo P w K mg base:=by
 refine F.cal yW (λvs H Q E h=>?_) (λf cdv A outer s H vs Q E hr h=>?_)
 .obtain⟨P,a,c,p,r,rfl,_⟩:=h;rfl
 .obtain⟨P',a,c,p,r,rfl,hP,hPb,hA,hC,zA,zC,pP,pR,hne,q⟩:=h;refine⟨_,(au (aD (i:=3) yW.nd rfl (Or.inl rfl) (aL Cd hr rfl (ao (pv 0) (ao (pv 1) aj))))
   (au (aD (i:=4) yW.nd rfl (Or.inl rfl) (aL Cd hr rfl (ao (pv 0) (ao (pv 2) aj))))
   (au (oY PassesOwn.never (bB sW (bZ (dO K) rfl B.dG boot_len (ao (pv 4) aj)) ak (aZ _))
   (au (aD (i:=5) yW.nd rfl (Or.inl rfl) (aO (aQ K) (aL nQ hr rfl (ao (pv 0) (ao (pv 3) (ao (pv 4) aj)))) ak (λ_ _=>rfl)))
   (au (aD (i:=3) yW.nd rfl (Or.inl rfl) (pv 4))
   (aF (aD (i:=4) yW.nd rfl (Or.inl rfl) (aL Cd hr rfl (ao (pv 0) (ao (pv 5) aj))))))))
   (aF (aX (pv 3)))))),?_⟩
  have hr2:2<=P'/\P'<2097152:=⟨hP.1,hPb⟩;refine⟨_,rfl,_,rfl,P',a,p,rfl,hP,hPb,hA,by omega,pP,λtg g0 H1 g1 hG mG=>?_⟩;refine⟨_,rfl,_,rfl,P',c,r,rfl,hP,hPb,g1 _ _ hC,by omega,pR,λts s0 H2 g2 hS' mS=>?_⟩;have lg0:=mG.len;have ls0:=mS.len;refine⟨λm σ' H'=>∃(o5:Option V) (tg ts:Addr) (g s:List Int),m=s.length/\σ'=[some (.int P'),some (.ref a),some (.ref c),some (.ref tg),some (.ref ts),o5]/\Same H H'/\H' tg=some (.tup (g.map V.int))/\H' ts=some (.tup (s.map V.int))/\Pm.tG P' p r g s/\g.length<=max p.length r.length/\s.length<=max p.length r.length,
   ⟨_,_,tg,ts,g0,s0,rfl,rfl,g1.trans g2,g2 _ _ hG,hS',Pm.tG.start mG mS hne,by omega,by omega⟩,?_⟩
  rintro m σ' H' ⟨o5,tg,ts,gg,ss,rfl,rfl,g,hG,hS',I,zg,zs⟩;have lS:(ss.map V.int).length=ss.length:=aG _;refine⟨_,rfl,.ref ts,ss.length,rfl,.inr ⟨_,aC.of hS',lS.symm⟩,_,_,rfl,rfl,_,rfl,?_⟩;refine cG (λcc=>?_) (λcc=>?_)
  .have hs:ss≠[]:=λe=>by have:=dec_true cc;rw[e]at this;simp at this
   have hMs:=I.XD hs;refine⟨_,λ_ _ z=>z,?_⟩;refine⟨_,rfl,_,rfl,_,rfl,P',tg,ts,gg,ss,rfl,by omega,by omega,hG,hS',by omega,by omega,hMs,I.gy.co,(λx hx=>(MK hr2.1 hr2.2 I.gy x hx).mono (by decide)),MK hr2.1 hr2.2 I.sy,λt x y o l H3 g3 hT hX hY D _ _ _=>?_⟩;refine⟨_,_,.inr (aC.of hT),rfl,?_⟩;refine⟨_,rfl,?_⟩;have hsh:=D.short;refine⟨_,rfl,_,rfl,P',y,l,rfl,hP,hPb,hY,by omega,D.ry,λtm m H4 g4 hM mM=>?_⟩;have lm:=mM.len;exact⟨m.length,by omega,_,ts,tm,ss,m,rfl,rfl,g.trans (g3.trans g4),(g3.trans g4) _ _ hS',hM,I.step hs D mM,zs,by omega⟩
  .have hs:ss=[]:=u9 (by have:=dec_false cc;omega);refine⟨_,rfl,?_⟩;exact q tg gg H' g hG (I.stop hs) zg
theorem amA(F:Fn K mg "nearest" Lg ["modulus","number"]):MH P w K mg base:=by
 refine F.cal Zi (λvs H Q E h=>?_) (λf cdv A outer s H vs Q E hr h=>?_)
 .obtain⟨M,x,rfl,_⟩:=h;rfl
 .obtain⟨M,x,rfl,hM,q⟩:=h;refine⟨_,(au (aD (i:=2) Zi.nd rfl (Or.inl rfl) (aB d9 (pv 1) (pv 0)))
   (aF (aX (W5 (bB sW (aB v_mul ak (pv 2)) (pv 0) (aZ _)) (aB cO (pv 2) (pv 0)) (pv 2))))),?_⟩
  refine⟨_,rfl,_,rfl,_,_,rfl,rfl,hM,?_⟩;refine⟨_,rfl,mulL (by decide) (by decide),_,rfl,_,_,rfl,rfl,_,rfl,?_⟩;refine cG (λc=>?_) (λc=>?_)
  .have c':2*(x%M)>M:=dec_true c;refine⟨_,rfl,_,rfl,_,_,rfl,rfl,?_⟩;have e:Pm.nr M x=x%M-M:=if_pos c';rw[e]at q;exact q
  .have c':¬2*(x%M)>M:=dec_false c;refine⟨_,rfl,?_⟩;have e:Pm.nr M x=x%M:=if_neg c';rw[e]at q;exact q
theorem aiI(F:Fn K mg "joined" Q6 ["modulus","number","prime","rest"])(oK:Bf P w K mg base)(dD:m9 P w K mg base)(Ao:MH P w K mg base):adP P w K mg base:=by
 refine F.cal Xh (λvs H Q E h=>?_) (λf cdv A outer s H vs Q E hr h=>?_)
 .obtain⟨M,t,p,s,rfl,_⟩:=h;rfl
 .obtain⟨M,t,p,s',rfl,hp,hpb,hM,wA,q⟩:=h;refine⟨_,(au (aD (i:=4) Xh.nd rfl (Or.inl rfl) (aL oK hr rfl (ao (pv 2) (aM (aL dD hr rfl (ao (pv 2) (dX (aB cO (pv 3) (pv 1)) aj))) (aM (aL dD hr rfl (ao (pv 2) (ao (pv 0) aj))) aj)))))
   (aF (aX (aL Ao hr rfl (dX (aB v_mul (pv 0) (pv 2)) (dX (aB (dB K) (pv 1) (aB v_mul (pv 0) (pv 4))) aj)))))),?_⟩
  have h2:=hp.1;have hp0:(p:Int)≠0:=by omega
  have r0:=qC M hp0;have r1:=rz M (show(0:Int)<p by omega);have rn:M%(p:Int)≠0:=λz=>wA (Av z);have et:Rm.tk (p:Int) M=M%(p:Int):=Rm.jN hp0 M;refine⟨_,rfl,_,rfl,_,rfl,_,rfl,_,_,rfl,rfl,p,_,rfl,by omega,?_⟩;refine⟨_,rfl,_,rfl,p,M,rfl,by omega,?_⟩;refine⟨p,_,_,rfl,hp,hpb,by rw[et];omega,by rw[et];exact r1,?_⟩;have hw:=Pm.akj (M:=M) (t:=t) (s:=s') hp;refine⟨_,rfl,_,rfl,mulR (by omega) (by omega),?_⟩;refine⟨_,rfl,_,rfl,_,rfl,mulR (by show -(2^64)<Pm.jw M t p s';omega) (by show Pm.jw M t p s'<2^64;omega),?_⟩;exact⟨_,_,rfl,Int.mul_pos hM (by omega),q⟩
theorem akT(F:Fn K mg "taken_poly" N7 ["prime","poly"])(qP:GQ P w K mg base)(dD:m9 P w K mg base):X4 P w K mg base:=by
 refine F.cal aoy (λvs H Q E h=>?_) (λf cdv A outer s H vs Q E hr h=>?_)
 .obtain⟨p,a,P,rfl,_⟩:=h;rfl
 .obtain⟨p,a,P',rfl,hp,hA,zA,q⟩:=h;refine⟨_,(aF (aX (aL qP hr rfl (aM (fY (sc:=arG) (N:=["number","prime"]) (ix:=[none,some 0]) dI rfl (d7 K (pv 1)) (λcl C s₀ H₀ ex=>⟨(aV (i:=0) cX rfl (Or.inl rfl)),dW,(aL dD hr rfl (ao (pv 1) (ao (pv 0) aj)))⟩)) aj)))),?_⟩;refine⟨_,rfl,a,rfl,.inr ⟨⟨_,aC.of hA⟩,wN hA (by omega) rfl (λx=>Rm.tk p x) ?_ ?_⟩⟩
  .intro H2 x g2 hx k hk;exact⟨_,rfl,_,rfl,p,x,rfl,by omega,hk⟩
  .intro D hD;refine⟨D,_,rfl,aq.of aA,λt1 H3 g3 h3=>?_⟩;exact q t1 H3 ((Same.new hD _).trans g3) h3
theorem amU(F:Fn K mg "divides" RM ["monic_one","poly"])(nQ:Bo P w K mg base):aaR P w K mg base:=by
 refine F.cal aq9 (λvs H Q E h=>?_) (λf cdv A outer s H vs Q E hr h=>?_)
 .obtain⟨m,a,M,P,rfl,_⟩:=h;rfl
 .obtain⟨m,a,M,P',rfl,hMm,hA,zM,zP,hM,bM,bP,q⟩:=h;refine⟨_,(aF (aX (uO (fK K hr) (aO (aQ K) (aL nQ hr rfl (bU ak (ao (pv 1) (ao (pv 0) aj)))) ak (λ_ _=>rfl)) (fM aj) (aZ _)))),?_⟩;refine⟨_,rfl,_,rfl,0,a,m,P',M,rfl,by decide,by decide,hA,hMm,zP,zM,hM,λk=>Rm.bh _,bP,bM,λt x y o l H3 g3 hT hX hY D _ _ _=>?_⟩;refine⟨_,_,.inr (aC.of hT),rfl,?_⟩;refine⟨cJ _,λt0 ht0=>?_⟩;have g4:=Same.new ht0 (.tup []);refine wY (ns:=l) (ms:=[]) (aC.of (g4 _ _ hY)) (aC.of aA) ?_;exact q _ _ (g3.trans g4) (by show decide (l=[])=true↔_;rw[decide_eq_true_iff];exact D.dv hM)
theorem aqX(F:Fn K mg "whole_greatest" Oh ["one","other"])(Jv:aaR P w K mg base)(Ru:aaZ P w K mg base)(Af:Uo P w K mg base)(Er:X4 P w K mg base)(Ao:MH P w K mg base)(NQ:adP P w K mg base):Vh P w K mg base:=by
 refine F.cal mR (λvs H Q E h=>?_) (λf cdv A outer s H vs Q E hr h=>?_)
 .obtain⟨a,c,P,t,g,N,U,V',rfl,_⟩:=h;rfl
 .obtain⟨a,c,P',t,g,N,U,V',rfl,hA,hC,zP,zt,hP,bP,bt,G,hV,hU,hUV,q⟩:=h;refine⟨_,(au (aD (i:=2) mR.nd rfl (Or.inl rfl) (pv 0))
   (au (aD (i:=3) mR.nd rfl (Or.inr rfl) ak)
   (au (aD (i:=4) mR.nd rfl (Or.inr rfl) (Zz rfl B.J0))
   (au (aD (i:=5) mR.nd rfl (Or.inl rfl) nM)
   (au (oY PassesOwn.never (PW.pt (rH (AZ (uD (pv 5))) (rH (AZ (uD (aL Jv hr rfl (ao (pv 2) (ao (pv 0) aj))))) (Ed (AZ (uD (aL Jv hr rfl (ao (pv 2) (ao (pv 1) aj)))))))))
   (au (aD (i:=4) mR.nd rfl (Or.inr rfl) (aL Ru hr rfl (ao (pv 4) aj)))
   (au (aD (i:=6) mR.nd rfl (Or.inr rfl) (aL Af hr rfl (ao (pv 4) (aM (aL Er hr rfl (ao (pv 4) (ao (pv 0) aj))) (aM (aL Er hr rfl (ao (pv 4) (ao (pv 1) aj))) aj)))))
   (aF (cW (bB tZ (bZ (dO K) rfl B.dG boot_len (ao (pv 6) aj)) (bZ (dO K) rfl B.dG boot_len (ao (pv 2) aj)) (aZ _))
   (au (aD (i:=2) mR.nd rfl (Or.inl rfl) (iB (jQ K) rfl B.jD boot_tuple (aM (fY (sc:=ahd) (N:=["rest","prime"]) (ix:=[none,some 4]) dI rfl (d7 K (pv 6)) (λcl C s₀ H₀ ex=>⟨(aV (i:=0) cX rfl (Or.inl rfl)),dW,(aL Ao hr rfl (ao (pv 1) (ao (pv 0) aj)))⟩)) aj)))
   (au (aD (i:=3) mR.nd rfl (Or.inr rfl) (pv 4))
   (aF (aD (i:=5) mR.nd rfl (Or.inl rfl) nM))))
   (aF (tV (cW (bB (fK K hr) (bZ (dO K) rfl B.dG boot_len (ao (pv 6) aj)) (bZ (dO K) rfl B.dG boot_len (ao (pv 2) aj)) (aZ _))
   (au (aD (i:=7) mR.nd rfl (Or.inr rfl) (pv 2))
   (au (aD (i:=2) mR.nd rfl (Or.inl rfl) (iB (jQ K) rfl B.jD boot_tuple (aM (fY (sc:=ahZ) (N:=["k","before","modulus","prime","seen"]) (ix:=[none,some 7,some 3,some 4,some 6]) dI rfl (iJ rfl B.gJ (aM (bZ (dO K) rfl B.dG boot_len (ao (pv 6) aj)) aj)) (λcl C s₀ H₀ ex=>⟨(aV (i:=0) cX rfl (Or.inl rfl)),dW,(aL NQ hr rfl (ao (pv 2) (aM (aO (aQ K) (pv 1) (pv 0) (λ_ _=>rfl)) (ao (pv 3) (aM (aO (aQ K) (pv 4) (pv 0) (λ_ _=>rfl)) aj)))))⟩)) aj)))
   (au (aD (i:=3) mR.nd rfl (Or.inr rfl) (aB v_mul (pv 3) (pv 4)))
   (aF (aD (i:=5) mR.nd rfl (Or.inl rfl) (uO (fK K hr) (pv 2) (pv 7) (aZ _)))))))
   cZ))))))))
   (aF (aX (pv 2)))))))),?_⟩
  have hgP:g.length<=P'.length:=G.one.len rfl G.mon hP;refine⟨_,rfl,?_⟩;refine⟨abf H a c P' g N,⟨_,_,_,a,P',1,1000000,true,0,0,rfl,rfl,Same.refl _,hA,Pm.jU.start hP hgP _,Om.many,by omega,by omega⟩,?_⟩;rintro m σ' H' ⟨o6,o7,tt,told,M,prime,ripe,bad,good,rfl,rfl,gg,hT,I,W2,hbig,ap6⟩;have bT:=as5 I bP ap6;have zT:=I.le;refine⟨_,rfl,ripe,rfl,?_⟩;refine cG (λcr=>?b1) (λcr=>?n1)
  case' b1=>
   have hne:¬(ripe=true/\told=g):=λz=>by rw[z.1]at cr;exact absurd cr (by decide)
   have gx:=gg;have Ax:=hT;generalize H'=Hx at gx Ax⊢
  case' n1=>
   refine⟨_,rfl,_,rfl,tt,a,told,P',rfl,hT,gg _ _ hA,by omega,zP,I.mon,bT,(λx hx=>(bP x hx).mono (by decide)),λb1 H1 g1 e1=>?_⟩;refine⟨b1,rfl,?_⟩;refine cG (λc1=>?b2) (λc1=>?n2)
  case' b2=>
   have hne:¬(ripe=true/\told=g):=λz=>by
    have:b1=true:=e1.mpr (by rw[z.2];exact G.one);rw[this]at c1;exact absurd c1 (by decide)
   have gx:=gg.trans g1;have Ax:=g1 _ _ hT;generalize H1=Hx at gx Ax⊢
  case' n2=>
   refine⟨_,rfl,_,rfl,tt,c,told,t,rfl,g1 _ _ hT,(gg.trans g1) _ _ hC,by omega,zt,I.mon,bT,bt,λb2 H2 g2 e2=>?_⟩;refine⟨b2,rfl,?_⟩;refine cG (λc2=>?b3) (λc2=>?n3)
  case n3=>
   have hb1:b1=true:=by cases b1<;>first|rfl|exact absurd rfl c1
   have hb2:b2=true:=by cases b2<;>first|rfl|exact absurd rfl c2
   have e:=G.told I.mon (e1.mp hb1) (e2.mp hb2) I.ge;subst e;refine⟨_,rfl,?_⟩;exact q tt H2 (gg.trans (g1.trans g2)) ((g1.trans g2) _ _ hT)
  case' b3=>
   have hne:¬(ripe=true/\told=g):=λz=>by
    have:b2=true:=e2.mpr (by rw[z.2];exact G.two);rw[this]at c2;exact absurd c2 (by decide)
   have gx:=gg.trans (g1.trans g2);have Ax:=(g1.trans g2) _ _ hT;generalize H2=Hx at gx Ax⊢
  all_goals
   have hfew:=I.few G.ne hV hU hne;obtain⟨k,hk'⟩:∃k,500-(bad+good)=k+1:=⟨500-(bad+good)-1,by omega⟩;rw[hk']at W2;obtain⟨q0,hq0,apT,auO,hnext⟩:=W2.next;refine⟨_,λ_ _ z=>z,?_⟩;refine⟨_,rfl,prime,q0,rfl,hq0,apT,by omega,λp hp hlt hle=>?_⟩;have hN:=hnext p hle;refine⟨_,rfl,_,rfl,_,rfl,p,a,P',rfl,by omega,gx _ _ hA,by omega,λt1 H3 g3 h3=>?_⟩;refine⟨_,rfl,_,rfl,p,c,t,rfl,by omega,(gx.trans g3) _ _ hC,by omega,λt2 H4 g4 h4=>?_⟩;have l1:=Uu p P';have l2:=Uu p t;refine⟨p,t1,t2,_,_,rfl,hp,by omega,g4 _ _ h3,h4,by omega,by omega,XQ p P',XQ p t,λ_=>ag0 hp hP,λts s' H5 g5 hS hG hsl=>?_⟩;have sn:=G.seen hp (QT p P') (QT p t) hG;have lS:(s'.map V.int).length=s'.length:=aG _;have lT:(told.map V.int).length=told.length:=aG _;have gy:=gx.trans (g3.trans (g4.trans g5));have hTy:=(g3.trans (g4.trans g5)) _ _ Ax;refine⟨_,rfl,.ref ts,s'.length,rfl,.inr ⟨_,aC.of hS,lS.symm⟩,_,rfl,.ref tt,told.length,rfl,.inr ⟨_,aC.of hTy,lT.symm⟩,_,_,rfl,rfl,_,rfl,?_⟩;refine cG (λd1=>?_) (λd1=>?_)
   .have d1':(s'.length:Int)<told.length:=dec_true d1;refine⟨_,rfl,ts,rfl,.inr ⟨⟨_,aC.of hS⟩,wN hS (by omega) rfl (λx=>Pm.nr p x) ?_ ?_⟩⟩
    .intro H6 x g6 hx kk hk;exact⟨_,rfl,_,rfl,p,x,rfl,by omega,hk⟩
    .intro D hD;refine⟨D,_,rfl,.inl ⟨aq.of aA,λtn ht=>?_⟩⟩;obtain⟨qd,pY,RD,I'⟩:=I.anew hp hlt (by omega) (by omega) sn (by omega);refine⟨_,rfl,?_⟩;exact⟨500-(qd+pY),by omega,_,_,tn,s'.map (Pm.nr p),p,p,true,qd,pY,rfl,rfl,gy.trans ((Same.new hD _).trans (Same.new ht _)),aA,I',(by rw[RD,show 500-(bad+good+1)=k by omega];exact hN),by omega,by omega⟩
   .have d1':¬(s'.length:Int)<told.length:=dec_false d1;refine qR.by (λσ' H2=>∃m',m'<500-(bad+good)/\abf H a c P' g N m' σ' H2) (λN0 Ti=>?_) (λσ' H2 z=>z);refine⟨_,rfl,.ref ts,s'.length,rfl,.inr ⟨_,aC.of hS,lS.symm⟩,_,rfl,.ref tt,told.length,rfl,.inr ⟨_,aC.of hTy,lT.symm⟩,_,rfl,?_⟩;refine cG (λd2=>?_) (λd2=>?_)
    .have d2':(s'.length:Int)=told.length:=dec_true d2;have hl:s'.length=told.length:=by omega
     have wA:¬(p:Int)∣M:=λz=>by have:=I.div p hp z;omega
     refine⟨_,rfl,?_⟩;refine⟨_,rfl,.ref ts,s'.length,rfl,.inr ⟨_,aC.of hS,lS.symm⟩,?_⟩;refine⟨(s'.length:Int),rfl,(by omega:-(2^62)<=(s'.length:Int)),(by omega:(s'.length:Int)<2^62),?_⟩;rw[fW];refine vY (n:=s'.length) (by omega) rfl (λk=>Pm.jn M (told.getD k 0) p (s'.getD k 0)) ?_ ?_
     .intro H6 k6 g6 hk6 kk hk;have e1:(0+(k6:Int)).toNat=k6:=by omega
      refine⟨_,rfl,_,rfl,_,rfl,_,_,.inr (aC.of (g6 _ _ hTy)),fQ (ns:=told) (by omega:(0:Int)<=0+(k6:Int)) (by omega),?_⟩;refine⟨_,rfl,_,rfl,_,rfl,_,_,.inr (aC.of (g6 _ _ hS)),fQ (ns:=s') (by omega:(0:Int)<=0+(k6:Int)) (by omega),?_⟩;rw[e1];exact⟨M,_,p,_,rfl,hp,by omega,I.pos,wA,hk⟩
     .intro D hD;refine⟨D,_,rfl,.inl ⟨aq.of aA,λtn ht=>?_⟩⟩;have gn:=(Same.new hD (.lst ((Pm.aH s'.length λk=>Pm.jn M (told.getD k 0) p (s'.getD k 0)).map V.int))).trans (Same.new ht (.tup ((Pm.aH s'.length λk=>Pm.jn M (told.getD k 0) p (s'.getD k 0)).map V.int)));refine⟨_,rfl,_,rfl,mulR (by omega) (by omega),?_⟩;refine⟨_,rfl,_,rfl,?_⟩;refine wY (ns:=Pm.aH s'.length λk=>Pm.jn M (told.getD k 0) p (s'.getD k 0)) (ms:=told) (aC.of aA) (aC.of (gn _ _ hTy)) ?_;obtain⟨qd,pY,RD,I'⟩:=I.join (jy:=Pm.aH s'.length λk=>Pm.jn M (told.getD k 0) p (s'.getD k 0)) (M4:=decide ((Pm.aH s'.length λk=>Pm.jn M (told.getD k 0) p (s'.getD k 0))=told)) hp hlt (by omega) (by omega) sn hl (by rw[Pm.bG];exact hl) (λk6 hk6=>⟨Pm.jw M (told.getD k6 0) p (s'.getD k6 0),Pm.apV hp wA,by rw[Pm.dw,if_pos (by omega)];rfl⟩) (decide_eq_true_iff);exact Ti _ _ ⟨500-(qd+pY),by omega,_,_,tn,_,M*p,p,_,qd,pY,rfl,rfl,gy.trans gn,aA,I',(by rw[RD,show 500-(bad+good+1)=k by omega];exact hN),by omega,by omega⟩
    .have d2':¬(s'.length:Int)=told.length:=dec_false d2;have I':=I.stay hp hlt (by omega) sn (by omega);exact Ti _ _ ⟨500-(bad+1+good),by omega,_,_,tt,told,M,p,ripe,bad+1,good,rfl,rfl,gy,hTy,I',(by rw[show 500-(bad+1+good)=k by omega];exact hN),by omega,by omega⟩
theorem arh(F:Fn K mg "of_rule" J5 ["by","rule"])(dD:m9 P w K mg base):SM P w K mg base:=by
 refine F.cal Pq (λvs H Q E h=>?_) (λf cdv A outer s H vs Q E hr h=>?_)
 .obtain⟨b,a,c,rfl,_⟩:=h;rfl
 .obtain⟨b,a,c,rfl,hb,hA,zA,q⟩:=h;refine⟨_,(au (aD (i:=2) Pq.nd rfl (Or.inr rfl) (bZ (dO K) rfl B.dG boot_len (ao (pv 1) aj)))
   (au (pH (i:=3) (hN:=Pq.nd) (hi':=rfl) (hx:=(Or.inl rfl)) (sc:=alh) (N:=["k","by","length","rule"]) (ix:=[none,some 0,some 2,some 1]) dI rfl (iJ rfl B.gJ (ao (pv 2) aj)) (λcl C s₀ H₀ ex=>⟨(aV (i:=0) cX rfl (Or.inl rfl)),dW,(aL dD hr rfl (ao (pv 1) (dX (aB cO ak (aO (aQ K) (pv 3) (aB cO (aB cO (pv 2) ak) (pv 0)) (λ_ _=>rfl))) aj)))⟩))
   (aF (aX (iB (jQ K) rfl B.jD boot_tuple (dX (aB (dB K) (pv 3) (fB (bU ak aj))) aj)))))),?_⟩
  have lC:(c.map V.int).length=c.length:=aG _;refine⟨_,rfl,.ref a,c.length,rfl,.inr ⟨_,aC.of hA,lC.symm⟩,?_⟩;refine⟨_,rfl,(c.length:Int),rfl,(by omega:-(2^62)<=(c.length:Int)),(by omega:(c.length:Int)<2^62),?_⟩;rw[fW];refine vY (n:=c.length) (by omega) rfl (λk=>Rm.tk b (0-Pm.co c (c.length-1-k))) ?_ ?_
  .intro H2 k g2 hk kk hkk;have e1:((c.length:Int)-1-(0+(k:Int))).toNat=c.length-1-k:=by omega
   refine⟨_,rfl,_,rfl,_,rfl,_,_,rfl,rfl,_,rfl,_,_,rfl,rfl,_,_,.inr (aC.of (g2 _ _ hA)),fQ (ns:=c) (by omega:(0:Int)<=(c.length:Int)-1-(0+(k:Int))) (by omega),_,_,rfl,rfl,?_⟩;refine⟨b,_,rfl,hb,?_⟩;rw[e1];exact hkk
  .intro D hD;have g1:=Same.new hD (.lst ((Pm.aH c.length λk=>Rm.tk b (0-Pm.co c (c.length-1-k))).map V.int));refine⟨_,rfl,(by show 1<=sizeLine;decide),λl2 hl2=>?_⟩;have g2:=Same.new hl2 (.lst [.int 1]);refine .inl ⟨_,_,g2 _ _ aA,aA,?_,λl3 hl3=>?_⟩
   .rw[aG,Pm.bG];exact fX (eE (by show _+1<=1000;omega))
   refine⟨l3,_,rfl,.inl ⟨aq.of aA,λt ht=>?_⟩⟩;refine q t _ (g1.trans (g2.trans ((Same.new hl3 _).trans (Same.new ht _)))) ?_;rw[aA,Pm.aU,xQ]
theorem amV(F:Fn K mg "rule_of" QZ ["by","poly"])(dD:m9 P w K mg base):UW P w K mg base:=by
 refine F.cal Yx (λvs H Q E h=>?_) (λf cdv A outer s H vs Q E hr h=>?_)
 .obtain⟨b,a,p,rfl,_⟩:=h;rfl
 .obtain⟨b,a,p,rfl,hb,hA,z0,zA,q⟩:=h;refine⟨_,(au (aD (i:=2) Yx.nd rfl (Or.inr rfl) (aB cO (bZ (dO K) rfl B.dG boot_len (ao (pv 1) aj)) ak))
   (aF (aX (iB (jQ K) rfl B.jD boot_tuple (aM (fY (sc:=ahq) (N:=["k","by","length","poly"]) (ix:=[none,some 0,some 2,some 1]) dI rfl (iJ rfl B.gJ (ao (pv 2) aj)) (λcl C s₀ H₀ ex=>⟨(aV (i:=0) cX rfl (Or.inl rfl)),dW,(aL dD hr rfl (ao (pv 1) (dX (aB cO ak (aO (aQ K) (pv 3) (aB cO (aB cO (pv 2) ak) (pv 0)) (λ_ _=>rfl))) aj)))⟩)) aj))))),?_⟩
  have lC:(p.map V.int).length=p.length:=aG _;refine⟨_,rfl,.ref a,p.length,rfl,.inr ⟨_,aC.of hA,lC.symm⟩,_,_,rfl,rfl,?_⟩;refine⟨_,rfl,(p.length:Int)-1,rfl,(by omega:-(2^62)<=(p.length:Int)-1),(by omega:(p.length:Int)-1<2^62),?_⟩;rw[show((p.length:Int)-1).toNat=p.length-1 by omega];refine vY (n:=p.length-1) (by omega) rfl (λk=>Rm.tk b (0-Pm.co p (p.length-1-1-k))) ?_ ?_
  .intro H2 k g2 hk kk hkk;have e1:((p.length:Int)-1-1-(0+(k:Int))).toNat=p.length-1-1-k:=by omega
   refine⟨_,rfl,_,rfl,_,rfl,_,_,rfl,rfl,_,rfl,_,_,rfl,rfl,_,_,.inr (aC.of (g2 _ _ hA)),fQ (ns:=p) (by omega:(0:Int)<=(p.length:Int)-1-1-(0+(k:Int))) (by omega),_,_,rfl,rfl,?_⟩;refine⟨b,_,rfl,hb,?_⟩;rw[e1];exact hkk
  .intro D hD;refine⟨D,_,rfl,.inl ⟨aq.of aA,λt ht=>?_⟩⟩;exact q t _ ((Same.new hD _).trans (Same.new ht _)) aA
theorem auj(F:Fn K mg "top_of" R8 ["row","poly"])(dD:m9 P w K mg base)(qP:GQ P w K mg base):Zg P w K mg base:=by
 refine F.cal zV (λvs H Q E h=>?_) (λf cdv A outer s H vs Q E hr h=>?_)
 .obtain⟨v,r,a,rfl,_⟩:=h;rfl
 .obtain⟨v,r,a,rfl,⟨a0,p,p2,rfl,hA,hR,hS⟩,ok,hP,q⟩:=h;refine⟨_,(au (aD (i:=2) zV.nd rfl (Or.inl rfl) (aO (aQ K) (pv 0) ak (λ_ _=>rfl)))
   (au (aD (i:=3) zV.nd rfl (Or.inr rfl) (aO (aQ K) (pv 0) ak (λ_ _=>rfl)))
   (au (aD (i:=4) zV.nd rfl (Or.inl rfl) (fB aj))
   (au (fZ PassesOwn.never rfl (iJ rfl B.gJ (aM (bZ (dO K) rfl B.dG boot_len (ao (pv 3) aj)) aj)) (aV (i:=5) zV.nd rfl (Or.inr rfl))
   (au (pH (i:=6) (hN:=zV.nd) (hi':=rfl) (hx:=(Or.inl rfl)) (sc:=atd) (N:=["j","k","poly","starts"]) (ix:=[none,some 5,some 1,some 3]) dI rfl (Wv rfl B.gJ (dX (aB (dB K) (pv 5) ak) (aM (bZ (dO K) rfl B.dG boot_len (ao (pv 1) aj)) aj))) (λcl C s₀ H₀ ex=>⟨(aV (i:=0) cX rfl (Or.inl rfl)),dW,(aB v_mul (aO (aQ K) (pv 2) (pv 0) (λ_ _=>rfl)) (aO (aQ K) (pv 3) (aB cO (aB cO (pv 0) ak) (pv 1)) (λ_ _=>rfl)))⟩))
   (aF (n6 (vC K (pv 4) (aL dD hr rfl (ao (pv 2) (aM (bZ (Mh K rfl) rfl B.Np boot_sum (ao (pv 6) aj)) aj))))))))
   (aF (aX (aL qP hr rfl (ao (pv 4) aj)))))))),?_⟩
  have hl:=ok.len;have hs:=ok.short;have lS:(r.starts.map V.int).length=r.starts.length:=aG _;have lP:((Pm.aU r.b r.rule).map V.int).length=r.rule.length+1:=by rw[aG,Pm.kj]
  refine⟨_,rfl,_,_,.inr (aC.of hA),rfl,?_⟩;refine⟨_,rfl,_,_,.inr (aC.of hA),rfl,?_⟩;refine⟨cJ _,λl0 h0=>?_⟩;have g0:=Same.new h0 (.lst []);refine⟨_,rfl,.ref p2,r.starts.length,rfl,.inr ⟨_,aC.of (g0 _ _ hS),lS.symm⟩,?_⟩;refine⟨(r.starts.length:Int),rfl,(by omega:-(2^62)<=(r.starts.length:Int)),(by omega:(r.starts.length:Int)<2^62),?_⟩;refine pq (lo:=0) (n:=(r.starts.length:Int).toNat) (λi σ' H'=>∃o5 o6,σ'=[some (.ref a0),some (.ref a),some (.int r.b),some (.ref p2),some (.ref l0),o5,o6]/\Same H H'/\H' l0=some (.lst ((Pm.aH i λk=>Rm.tk r.b (Pm.tp (Pm.aU r.b r.rule) r.at k)).map V.int)))
   ⟨_,_,rfl,g0,aA⟩ ?_ ?_
  .rintro i σ' H' hi ⟨o5,o6,rfl,g,hL⟩;have hi':i<r.starts.length:=by omega
   refine⟨_,rfl,_,rfl,.ref a,r.rule.length+1,rfl,.inr ⟨_,aC.of (g _ _ hP),lP.symm⟩,?_⟩;refine⟨_,_,rfl,⟨by omega,by omega,by omega,by omega⟩,?_⟩;rw[show(((r.rule.length+1:Nat):Int)-(0+(i:Int)+1)).toNat=r.rule.length-i by omega];refine al8 (lo:=0+(i:Int)+1) (n:=r.rule.length-i) (by omega) rfl (λk=>Pm.co (Pm.aU r.b r.rule) (i+1+k)*r.at k) ?_ ?_
   .intro H2 k g2 hk kk hkk;have e1:(0+(i:Int)+1+(k:Int)).toNat=i+1+k:=by omega
    have e2:(0+(i:Int)+1+(k:Int)-1-(0+(i:Int))).toNat=k:=by omega
    have lq:(Pm.aU r.b r.rule).length=r.rule.length+1:=Pm.kj ..;refine⟨_,rfl,_,rfl,_,_,.inr (aC.of (g2 _ _ (g _ _ hP))),fQ (ns:=Pm.aU r.b r.rule) (by omega:(0:Int)<=0+(i:Int)+1+(k:Int)) (by omega),?_⟩;refine⟨_,rfl,_,rfl,_,_,rfl,rfl,_,rfl,_,_,rfl,rfl,_,_,.inr (aC.of (g2 _ _ (g _ _ hS))),fQ (ns:=r.starts) (by omega:(0:Int)<=0+(i:Int)+1+(k:Int)-1-(0+(i:Int))) (by omega),?_⟩;refine⟨pU (Rm.Bd.getD ok.Bj _) (Rm.Bd.getD ok.uQ _) (by decide),?_⟩;rw[e1,e2];have e3:r.at k=r.starts.getD k 0:=Rm.xZ (by omega);rw[e3]at hkk;exact hkk
   .intro D hD;have g3:=Same.new hD (.lst ((Pm.aH (r.rule.length-i) λk=>Pm.co (Pm.aU r.b r.rule) (i+1+k)*r.at k).map V.int));have iR:=g3 _ _ hL;have lL:((Pm.aH i λk=>Rm.tk r.b (Pm.tp (Pm.aU r.b r.rule) r.at k)).map V.int).length=i:=by rw[aG,Pm.bG]
    refine⟨_,rfl,.inl ⟨rfl,_,aq.of iR⟩,_,rfl,_,rfl,D,_,rfl,aq.of aA,r.b,_,rfl,ok.nJ,?_⟩;refine⟨l0,_,_,rfl,rfl,iR,?_,?_⟩
    .rw[lL];exact eE (by omega)
    .refine⟨_,_,rfl,(g.trans g3).upd h0 _,?_⟩;rw[aA,Pm.Rk,xQ];have e4:Pm.tp (Pm.aU r.b r.rule) r.at i=(Pm.aH (r.rule.length-i) λk=>Pm.co (Pm.aU r.b r.rule) (i+1+k)*r.at k).sum:=by
      unfold Pm.tp;rw[Pm.aH,Pm.abK,Pm.kj,dY]
     rw[e4]
  .rintro σ' H' ⟨o5,o6,rfl,g,hL⟩;refine⟨_,rfl,l0,_,rfl,aq.of hL,λt1 H3 g3 h3=>?_⟩;refine q t1 H3 (g.trans g3) ?_;rw[h3,pC,hl,fW]
theorem ajN(F:Fn K mg "shared_divisor" R7 ["by","one","other"])(Od:Vh P w K mg base)(Af:Uo P w K mg base):Xc P w K mg base:=by
 refine F.cal atQ (λvs H Q E h=>?_) (λf cdv A outer s H vs Q E hr h=>?_)
 .obtain⟨b,a,c,P,t,rfl,_⟩:=h;rfl
 .obtain⟨b,a,c,P',t,rfl,hA,hC,zP,zt,hP,bP,bt,h⟩:=h;refine⟨_,(aF (aX (W5 (bB (fK K hr) (pv 0) ak (aZ _)) (aL Od hr rfl (ao (pv 1) (ao (pv 2) aj))) (aL Af hr rfl (ao (pv 0) (ao (pv 1) (ao (pv 2) aj))))))),?_⟩;refine⟨_,rfl,_,rfl,?_⟩;refine cG (λc0=>?_) (λc0=>?_)
  .have c0':b=0:=dec_true c0;rcases h with⟨_,g,N,U,V',G,hV,hU,hUV,q⟩|⟨p,rfl,hp,_⟩
   .exact⟨_,rfl,_,rfl,a,c,P',t,g,N,U,V',rfl,hA,hC,zP,zt,hP,bP,bt,G,hV,hU,hUV,q⟩
   .have:=hp.1;omega
  .have c0':¬b=0:=dec_false c0;rcases h with⟨z,_⟩|⟨p,rfl,hp,hpb,yP,yt,q⟩
   .exact absurd z c0'
   .exact⟨_,rfl,_,rfl,_,rfl,p,a,c,P',t,rfl,hp,hpb,hA,hC,zP,zt,yP,yt,λ_ z=>by have:=hP.pos;rw[z]at this;exact absurd this (by decide),q⟩
theorem ars(F:Fn K mg "least_of" Tg ["row"])(Ai:SM P w K mg base)(MV:Zg P w K mg base)(nQ:Bo P w K mg base)(Og:Xc P w K mg base):NP P w K mg base:=by
 refine F.cal Fi (λvs H Q E h=>?_) (λf cdv A outer s H vs Q E hr h=>?_)
 .obtain⟨v,r,rfl,_⟩:=h;rfl
 .obtain⟨v,r,rfl,⟨a0,p,p2,rfl,hA,hR,hS⟩,ok,hB,hT,q⟩:=h;refine⟨_,(au (aD (i:=1) Fi.nd rfl (Or.inl rfl) (aO (aQ K) (pv 0) ak (λ_ _=>rfl)))
   (au (aD (i:=2) Fi.nd rfl (Or.inl rfl) (aL Ai hr rfl (ao (pv 1) (aM (aO (aQ K) (pv 0) ak (λ_ _=>rfl)) aj))))
   (au (aD (i:=3) Fi.nd rfl (Or.inl rfl) (aL MV hr rfl (ao (pv 0) (ao (pv 2) aj))))
   (aF (aX (aO (aQ K) (aL nQ hr rfl (ao (pv 1) (ao (pv 2) (aM (aL Og hr rfl (ao (pv 1) (ao (pv 2) (ao (pv 3) aj)))) aj)))) ak (λ_ _=>rfl))))))),?_⟩
  have hs:=ok.short;have hb1:=ok.Bl;have hm:=Pm.uH r.b r.rule;have lq:(Pm.aU r.b r.rule).length=r.rule.length+1:=Pm.kj ..;refine⟨_,rfl,_,_,.inr (aC.of hA),rfl,?_⟩;refine⟨_,rfl,_,rfl,_,_,.inr (aC.of hA),rfl,r.b,p,r.rule,rfl,ok.nJ,hR,by omega,λtP H1 g1 hP=>?_⟩;refine⟨_,rfl,_,rfl,.ref a0,r,tP,rfl,⟨a0,p,p2,rfl,g1 _ _ hA,g1 _ _ hR,g1 _ _ hS⟩,ok,hP,λtT H2 g2 hTp=>?_⟩;have hP2:=g2 _ _ hP;have lt:=ah0 r;refine⟨_,rfl,_,rfl,_,rfl,_,rfl,_,rfl,r.b,tP,tT,Pm.aU r.b r.rule,pC r,rfl,hP2,hTp,by omega,by omega,hm,(λx hx=>(ok.Bj x hx).mono (by decide)),aoS ok,?_⟩;have nP:=afD r.b r.rule hB.one;by_cases h0:r.b=0
  .obtain⟨d,ua,u,aqs,hur,hQ0,hua,hsz⟩:=hT h0;have hK:=ok.kp;rw[h0]at hK;rw[h0]at hm lq;obtain⟨g,L,N,hL,DK,hKL,hall,hlen,hE,G,hV,hU⟩:=Pm.ae6 hm hK hQ0 hua (u:=u) (e:=5) (U:=u+400) (λk=>by have:=Pm.Vs ok.nJ ok.Bl aqs hur;rw[h0]at this;exact Pm.jm this k) (by rw[lq];omega) (by rw[lq];omega);have eT:Pm.co (pC r)=Pm.tp (Pm.aU 0 r.rule) r.at:=funext λk=>by rw[Uq,h0,Rm.bh]
   refine .inl ⟨h0,g,N,_,_,by rw[h0,eT];exact G,hV,hU,by omega,λtg H3 g3 hg=>?_⟩;have hgl:g.length<=r.rule.length+1:=by have:=hL.pos;omega
   have bg:∀x∈g,Rm.Bd 124000 x:=λx hx=>by
    obtain⟨k,hk,e⟩:=jG.mp hx;have:=hU k;rw[Pm.iV hk,e]at this;exact this.mono (by omega)
   refine⟨r.b,tP,tg,Pm.aU r.b r.rule,g,rfl,ok.nJ,by omega,g3 _ _ hP2,hg,by rw[h0];omega,by omega,G.mon,nP,(λx hx=>(ok.Bj x hx).mono (by decide)),bg,λt x y o l H4 g4 ht hx hy D _ _ _=>?_⟩;refine⟨_,_,.inr (aC.of ht),rfl,?_⟩;have D':Pm.Div r.b (Pm.aU r.b r.rule) g L []:=⟨by rw[h0];exact DK,Pm.Py.nil _,G.mon.pos,λk=>by rw[Pm.fL,cU,h0,hE k]⟩;obtain⟨eo,_⟩:=D.uniq G.mon D';subst eo;exact q x o H4 (g1.trans (g2.trans (g3.trans g4))) hx ⟨hL,λk=>by rw[h0];exact Rm.bh _,by rw[h0];exact hKL,by rw[h0];exact hall⟩ (by have:=G.mon.pos;omega)
  .obtain⟨P0,uY,hb⟩:=hB.resolve_left h0;have hp:=an6 uY;have hr:=Ay P0 uY;have yP:Pm.Py (P0:Int) (Pm.aU r.b r.rule):=by rw[<-hb];exact aaS hm nP
   have yt:Pm.Py (P0:Int) (pC r):=by rw[<-hb];exact Pm.Py.aH ..
   refine .inr ⟨P0,hb,hp,by omega,yP,yt,λtg g H3 g3 hg hG hgl=>?_⟩;have bg:∀x∈g,Rm.Bd 124000 x:=MK hr.1 (by omega) hG.py;refine⟨r.b,tP,tg,Pm.aU r.b r.rule,g,rfl,ok.nJ,by omega,g3 _ _ hP2,hg,by omega,by omega,hG.mon,nP,(λx hx=>(ok.Bj x hx).mono (by decide)),bg,λt x y o l H4 g4 ht hx hy D _ _ _=>?_⟩;refine⟨_,_,.inr (aC.of ht),rfl,?_⟩;rw[hb]at D;rw[<-hb]at D;obtain⟨hl1,hl2⟩:=ae0 hp ok hb hG (by rw[hb]at D ⊢;exact D);exact q x o H4 (g1.trans (g2.trans (g3.trans g4))) hx hl1 hl2
theorem am3(F:Fn K mg "shortest" K2 ["row"])(yN:NP P w K mg base)(Mz:UW P w K mg base):abM P w K mg base:=by
 refine F.cal KD (λvs H Q E h=>?_) (λf cdv A outer s H vs Q E hr h=>?_)
 .obtain⟨v,r,rfl,_⟩:=h;rfl
 .obtain⟨v,r,rfl,⟨a0,p,p2,rfl,hA,hR,hS⟩,ok,hB,hT,q⟩:=h;refine⟨_,(au (aD (i:=1) KD.nd rfl (Or.inl rfl) (aL yN hr rfl (ao (pv 0) aj)))
   (au (aD (i:=2) KD.nd rfl (Or.inl rfl) (aL Mz hr rfl (aM (aO (aQ K) (pv 0) ak (λ_ _=>rfl)) (ao (pv 1) aj))))
   (aF (aX (fM (aM (aO (aQ K) (pv 0) ak (λ_ _=>rfl)) (ao (pv 2) (aM (iB (jQ K) rfl B.jD boot_tuple (aM (vU (vB K) (aO (aQ K) (pv 0) ak (λ_ _=>rfl)) wB (sV (bZ (dO K) rfl B.dG boot_len (ao (pv 2) aj)))) aj)) aj)))))))),?_⟩
  have hs:=ok.short;have hl:=ok.len;have lS:(r.starts.map V.int).length=r.starts.length:=aG _;refine⟨_,rfl,.ref a0,r,rfl,⟨a0,p,p2,rfl,hA,hR,hS⟩,ok,hB,hT,λtL L H1 g1 hL lst ll=>?_⟩;have SQ:=lst.mon.pos;refine⟨_,rfl,_,_,.inr (aC.of (g1 _ _ hA)),rfl,_,rfl,r.b,tL,L,rfl,ok.nJ,hL,SQ,by omega,λtR H2 g2 Df=>?_⟩;have lR:((Pm.fR r.b L).map V.int).length=L.length-1:=by rw[aG,Pm.rZ]
  have U4:=(g1.trans g2) _ _ hA;have hS2:=(g1.trans g2) _ _ hS;refine⟨_,rfl,_,_,.inr (aC.of U4),rfl,_,rfl,_,rfl,_,_,.inr (aC.of U4),rfl,?_⟩;refine⟨_,rfl,.ref tR,L.length-1,rfl,.inr ⟨_,aC.of Df,lR.symm⟩,?_⟩;refine⟨_,rfl,?_⟩;by_cases hw:r.starts.length<=L.length-1
  .refine .inr (.inr ⟨_,aC.of hS2,?_,?_⟩)
   .rw[HT.oZ,HT.rG,lS];omega
   .refine⟨p2,_,rfl,.inr ⟨aC.of hS2,?_⟩⟩;refine⟨(by show 3<=sizeLine;decide),λt ht=>?_⟩;have g3:=Same.new ht (.tup [.int r.b,.ref tR,.ref p2]);refine q (.ref t) L _ (g1.trans (g2.trans g3)) ⟨t,tR,p2,rfl,aA,g3 _ _ Df,?_⟩ lst ll;show _=some (HO.tup ((r.starts.take (L.length-1)).map V.int));rw[pO hw];exact g3 _ _ hS2
  .refine .inr (.inl ⟨_,aC.of hS2,?_,λp3 hp3=>?_⟩)
   .rw[HT.oZ,HT.rG,lS];omega
   .refine⟨p3,_,rfl,.inr ⟨aC.of aA,?_⟩⟩;have g3:=Same.new hp3 (.tup (iH (r.starts.map V.int) none (some ((L.length-1:Nat):Int))));refine⟨(by show 3<=sizeLine;decide),λt ht=>?_⟩;have g4:=Same.new ht (.tup [.int r.b,.ref tR,.ref p3]);refine q (.ref t) L _ (g1.trans (g2.trans (g3.trans g4))) ⟨t,tR,p3,rfl,aA,(g3.trans g4) _ _ Df,?_⟩ lst ll;show _=some (HO.tup ((r.starts.take (L.length-1)).map V.int));rw[xW,<-B6];exact g4 _ _ aA
theorem aof(F:Fn K mg "_law_cell_at" PX ["_law_script","_law_k"]):Iu P w K mg base:=by
 refine F.cal agf (λvs H Q E h=>?_) (λf cdv A outer s H vs Q E hr h=>?_)
 .obtain⟨a,ns,k,rfl,_⟩:=h;rfl
 .obtain⟨a,ns,k,rfl,hS,h0,q⟩:=h;refine⟨_,(au (cW (bB tZ (pv 1) (bZ (dO K) rfl B.dG boot_len (ao (pv 0) aj)) (aZ _))
   (aF (aX (aO (aQ K) (pv 0) (pv 1) (λ_ _=>rfl))))
   cZ)
   (aF (aX ak))),?_⟩
  have hl:(ns.map V.int).length=ns.length:=aG _;refine⟨_,rfl,_,rfl,.ref a,ns.length,rfl,.inl ⟨_,hS,hl.symm⟩,_,_,rfl,rfl,_,rfl,?_⟩;refine cG (λc=>?_) (λc=>?_)
  .have c':k<(ns.length:Int):=dec_true c;refine⟨_,rfl,_,rfl,ns.map V.int,.int (ns.getD k.toNat 0),.inl hS,fQ h0 c',?_⟩;have e:cellAt ns k=ns.getD k.toNat 0:=if_pos c';rw[e]at q;exact q
  .have c':¬k<(ns.length:Int):=dec_false c;have e:cellAt ns k=0:=if_neg c';rw[e]at q;exact q
theorem atp(F:Fn K mg "_law_mixed" Le ["_law_cell","_law_k"]):acB P w K mg base:=by
 refine F.cal adZ (λvs H Q E h=>?_) (λf cdv A outer s H vs Q E hr h=>?_)
 .obtain⟨c,k,rfl,_⟩:=h;rfl
 .obtain⟨c,k,rfl,h0,h1,q⟩:=h;refine⟨_,(au (aD (i:=2) adZ.nd rfl (Or.inl rfl) (aB d9 (aB v_mul (aB (dB K) (aB d9 (pv 0) ak) ak) (aB (dB K) (aB v_mul (pv 1) (pv 1)) ak)) ak))
   (aF (aX (aB d9 (aB v_mul (pv 2) (aB (dB K) (pv 2) (aB v_mul ak (pv 1)))) ak)))),?_⟩
  have b1:0<=c%2147483647:=iC _ (by decide);have b2:c%2147483647<2147483647:=iM _ (by decide);refine⟨_,rfl,_,_,rfl,rfl,(by decide:(0:Int)<2147483647),?_⟩;refine⟨_,rfl,_,rfl,mulL (by omega) (by omega),?_⟩;refine⟨mulL (by show -(2^64)<c%2147483647+1;omega) (by show c%2147483647+1<2^64;omega),_,_,rfl,rfl,(by decide:(0:Int)<2147483629),?_⟩;have m0:0<=AH c k:=iC _ (by decide);have m1:AH c k<2147483629:=iM _ (by decide);refine⟨_,rfl,_,rfl,_,rfl,mulL (by decide) (by decide),?_⟩;refine⟨mulL (by show -(2^64)<AH c k;omega) (by show AH c k<2^64;omega),_,_,rfl,rfl,(by decide:(0:Int)<2147483587),?_⟩;exact q
theorem alz(F:Fn K mg "_law_taken" Nj ["_law_by_here","_law_number_here"]):Qm P w K mg base:=by
 refine F.cal auc (λvs H Q E h=>?_) (λf cdv A outer s H vs Q E hr h=>?_)
 .obtain⟨b,n,rfl,_⟩:=h;rfl
 .obtain⟨b,n,rfl,h0,q⟩:=h;refine⟨_,(au (cW (bB (fK K hr) (pv 0) ak (aZ _))
   (aF (aX (pv 1)))
   cZ)
   (aF (aX (aB d9 (pv 1) (pv 0))))),?_⟩
  refine⟨_,rfl,_,rfl,?_⟩;refine cG (λc=>?_) (λc=>?_)
  .refine⟨_,rfl,?_⟩;have c':b=0:=dec_true c;have e:Rm.tk b n=n:=by rw[c',Rm.bh]
   rw[e]at q;exact q
  .have c':¬b=0:=dec_false c;refine⟨_,rfl,_,rfl,_,_,rfl,rfl,(by omega:(0:Int)<b),?_⟩;rw[Rm.jN c']at q;exact q
theorem ahl(F:Fn K mg "_law_number" OL ["_law_by_here","_law_cell","_law_sort"]):adW P w K mg base:=by
 refine F.cal apG (λvs H Q E h=>?_) (λf cdv A outer s H vs Q E hr h=>?_)
 .obtain⟨b,c,s,rfl,_⟩:=h;rfl
 .obtain⟨b,c,so,rfl,q⟩:=h;refine⟨_,(au (cW (bB sW (pv 0) ak (aZ _))
   (aF (aX (aB d9 (pv 1) (pv 0))))
   cZ)
   (au (cW (bB (fK K hr) (pv 2) ak (aZ _))
   (aF (aX (aB cO (aB d9 (pv 1) ak) ak)))
   cZ)
   (au (cW (bB (fK K hr) (pv 2) ak (aZ _))
   (aF (aX (aB cO (aB d9 (pv 1) ak) ak)))
   cZ)
   (aF (aX (aB (dB K) (aB cO (aB d9 (aB v_mul (pv 1) ak) (aB cO (aB v_mul ak (aB MR ak ak)) ak)) (aB MR ak ak)) ak)))))),?_⟩
  refine⟨_,rfl,_,_,rfl,rfl,_,rfl,?_⟩;refine cG (λcc=>?_) (λcc=>?_)
  .have c':0<b:=dec_true cc;refine⟨_,rfl,_,rfl,_,_,rfl,rfl,c',?_⟩;have e:jZ b c so=c%b:=if_pos c';rw[e]at q;exact q
  .have c':¬b>0:=dec_false cc;refine⟨_,rfl,_,rfl,?_⟩;refine cG (λc1=>?_) (λc1=>?_)
   .refine⟨_,rfl,_,_,rfl,rfl,(by decide:(0:Int)<7),_,_,rfl,rfl,?_⟩;have e:jZ b c so=c%7-3:=by rw[jZ,if_neg c',if_pos (dec_true c1)]
    rw[e]at q;exact q
   .have n0:=dec_false c1;refine⟨_,rfl,_,rfl,?_⟩;refine cG (λc2=>?_) (λc2=>?_)
    .refine⟨_,rfl,_,_,rfl,rfl,(by decide:(0:Int)<201),_,_,rfl,rfl,?_⟩;have e:jZ b c so=c%201-100:=by rw[jZ,if_neg c',if_neg n0,if_pos (dec_true c2)]
     rw[e]at q;exact q
    .have e:jZ b c so=c*7919%(2*10^12-1)-10^12+1:=by rw[jZ,if_neg c',if_neg n0,if_neg (dec_false c2)]
     rw[e]at q;refine⟨_,rfl,mulR (by decide) (by decide),?_⟩;refine⟨_,_,rfl,rfl,⟨by decide,by decide,by decide⟩,mulL (by decide) (by decide),_,_,rfl,rfl,_,_,rfl,rfl,(by decide:(0:Int)<2*10^12-1),?_⟩;exact⟨_,_,rfl,rfl,⟨by decide,by decide,by decide⟩,_,_,rfl,rfl,q⟩
theorem amw(F:Fn K mg "_law_gone" RH ["_law_row_here","_law_count"])(zG:Qm P w K mg base):RK P w K mg base:=by
 refine F.cal sS (λvs H Q E h=>?_) (λf cdv A outer s H vs Q E hr h=>?_)
 .obtain⟨v,r,c,rfl,_⟩:=h;rfl
 .obtain⟨v,r,c,rfl,⟨a,p,p2,rfl,hA,hR,hS⟩,ok,hc0,hc1,q⟩:=h;refine⟨_,(au (qM (pv 0) (lK K (n:=3) rfl (eX (aV (i:=2) sS.nd rfl (Or.inl rfl)) (eX (aV (i:=3) sS.nd rfl (Or.inl rfl)) (eX (aV (i:=4) sS.nd rfl (Or.inl rfl)) lH)))))
   (au (aD (i:=5) sS.nd rfl (Or.inl rfl) (Vo (iB (xlist K) rfl B.xU boot_list (aM (vU (vB K) (pv 4) wB (sV (pv 1))) aj))))
   (au (oY PassesOwn.never (bB tZ (bZ (dO K) rfl B.dG boot_len (ao (pv 5) aj)) (pv 1) (aZ _))
   (au (aD (i:=6) sS.nd rfl (Or.inl rfl) ak)
   (au (fZ PassesOwn.never rfl (Dd K rfl B.DL (ao (pv 3) aj)) (lK K (n:=2) rfl (eX (aV (i:=7) sS.nd rfl (Or.inl rfl)) (eX (aV (i:=8) sS.nd rfl (Or.inl rfl)) lH)))
   (aF (aD (i:=6) sS.nd rfl (Or.inl rfl) (aB (dB K) (pv 6) (aB v_mul (pv 8) (aO (aQ K) (pv 5) (aB cO (aB cO (bZ (dO K) rfl B.dG boot_len (ao (pv 5) aj)) ak) (pv 7)) (λ_ _=>rfl)))))))
   (aF (n6 (vC K (pv 5) (aL zG hr rfl (ao (pv 2) (ao (pv 6) aj)))))))))
   (aF (aX (pv 5)))))),?_⟩
  have hl:=ok.len;have hl2:=ok.short;have lS:(r.starts.map V.int).length=r.starts.length:=aG _;have lR:(r.rule.map V.int).length=r.rule.length:=aG _;refine⟨_,rfl,a,_,rfl,aC.of hA,rfl,_,_,rfl,_,_,rfl,_,_,rfl,rfl,?_⟩;have aiS:iH (r.starts.map V.int) none (some c)=(r.row (min c.toNat r.starts.length)).map V.int:=by
   have e:r.row (min c.toNat r.starts.length)=r.starts.take (min c.toNat r.starts.length):=Rm.R5 (Rv _ _);rw[e];have e2:c=((c.toNat:Nat):Int):=by omega
   unfold iH;rw[e2,HT.oZ,HT.rG,List.drop_zero,sY,lS,xW,fW]
  refine Bar.by (λv H1=>∃l,v = .ref l/\Same H H1/\H l=none/\H1 l=some (.lst ((r.row (min c.toNat r.starts.length)).map V.int))) (λkk hkk=>?_) ?_
  .refine⟨_,rfl,_,rfl,_,rfl,?_⟩;by_cases hw:r.starts.length<=c.toNat
   .refine .inr (.inr ⟨_,aC.of hS,?_,?_⟩)
    .have e2:c=((c.toNat:Nat):Int):=by omega
     rw[e2,HT.oZ,HT.rG,lS];omega
    .refine⟨p2,_,rfl,.inr (aC.of hS),λl hl1=>hkk _ _ ⟨l,rfl,Same.new hl1 _,hl1,?_⟩⟩;rw[aA,Nat.min_eq_right hw];have e:r.row r.starts.length=r.starts:=(Rm.R5 (aN _)).trans (kE ..);rw[e]
   .refine .inr (.inl ⟨_,aC.of hS,?_,λp3 hp3=>?_⟩)
    .have e2:c=((c.toNat:Nat):Int):=by omega
     rw[e2,HT.oZ,HT.rG,lS];omega
    .refine⟨p3,_,rfl,.inr (aC.of aA),λl hl1=>?_⟩;have g3:=Same.new hp3 (.tup (iH (r.starts.map V.int) none (some c)));refine hkk _ _ ⟨l,rfl,g3.trans (Same.new hl1 _),g3.free hl1,?_⟩;rw[aA,aiS]
  rintro v H1 ⟨l,rfl,g1,hl1,hr1⟩;refine⟨λm σ' H'=>∃(n:Nat) (o6 o7 o8:Option V),m=c.toNat-n/\min c.toNat r.starts.length<=n/\n<=c.toNat/\σ'=[some (.ref a),some (.int c),some (.int r.b),some (.ref p),some (.ref p2),some (.ref l),o6,o7,o8]/\Same H H'/\H' l=some (.lst ((r.row n).map V.int)),
   ⟨_,min c.toNat r.starts.length,_,_,_,rfl,aN _,Nat.min_le_left _ _,rfl,g1,hr1⟩,?_⟩
  rintro m σ' H' ⟨n,o6,o7,o8,rfl,h1,h2,rfl,g,hL⟩;have lL:((r.row n).map V.int).length=n:=by rw[aG,Rw.oV]
  have lN:(r.row n).length=n:=Rw.oV ..;refine⟨_,rfl,.ref l,n,rfl,.inl ⟨_,aq.of hL,lL.symm⟩,_,rfl,_,_,rfl,rfl,_,rfl,?_⟩;refine cG (λcc=>?_) (λcc=>?_)
  .have hn:n<c.toNat:=by have:=dec_true cc;omega
   refine⟨_,λ_ _ z=>z,?_⟩;refine⟨_,rfl,true,p,_,rfl,aC.of (g _ _ hR),?_⟩;refine R0 (t:=true) (a:=p) (xs:=r.rule.map V.int) (λi σ' H2=>∃(o7 o8:Option V),σ'=[some (.ref a),some (.int c),some (.int r.b),some (.ref p),some (.ref p2),some (.ref l),some (.int (Rm.S r.rule (λi=>(r.row n).getD i 0) n i)),o7,o8]/\Same H' H2) ⟨_,_,rfl,Same.refl _⟩ (λi σ' H2 ⟨_,_,_,z⟩=>aC.of (z _ _ (g _ _ hR))) ?_ ?_
   .rintro i x σ' H2 pt hx ⟨o7,o8,rfl,g2⟩ hpt;obtain⟨rfl,hi⟩:=mH hx;have g3:=Same.new hpt (.tup [.int (i:Int),.int (Pm.co r.rule i)]);have iR:=g3 _ _ (g2 _ _ hL);refine⟨pt,_,rfl,aC.of aA,rfl,_,_,rfl,_,_,rfl,rfl,?_⟩;refine⟨_,rfl,_,rfl,_,rfl,_,rfl,.ref l,n,rfl,.inl ⟨_,aq.of iR,lL.symm⟩,_,_,rfl,rfl,_,rfl,_,_,rfl,rfl,_,_,.inl (aq.of iR),fQ (ns:=r.row n) (by omega:(0:Int)<=(n:Int)-1-(i:Int)) (by omega),?_⟩;refine⟨pU (Pm.jm ok.lY i) (Rm.Bd.getD (ok.WB n (by omega)) _) (by decide),?_⟩;refine⟨some (.int (i:Int)),some (.int (Pm.co r.rule i)),?_,g2.trans g3⟩;rw[show((n:Int)-1-(i:Int)).toNat=n-1-i by omega];rfl
   rintro σ' H2 ⟨o7,o8,rfl,g2⟩;rw[lR];have hL2:=g2 _ _ hL;refine⟨_,rfl,.inl ⟨rfl,_,aq.of hL2⟩,_,rfl,_,rfl,r.b,_,rfl,ok.nJ,?_⟩;refine⟨l,_,_,rfl,rfl,hL2,?_,?_⟩
   .rw[lL];exact eE (by omega)
   .refine⟨c.toNat-(n+1),by omega,n+1,_,_,_,rfl,by omega,by omega,rfl,(g.trans g2).upd hl1 _,?_⟩;rw[aA];have e:r.row (n+1)=r.row n++[Rm.tk r.b (Rm.S r.rule (λi=>(r.row n).getD i 0) n r.rule.length)]:=by
     show _++[if n<r.starts.length then r.starts.getD n 0 else _]=_;rw[if_neg (by omega)];rfl
    rw[e,jq];rfl
  .have hn:n=c.toNat:=by have:=dec_false cc;omega
   subst hn;exact⟨_,rfl,q l H' g hl1 hL⟩
theorem asq(F:Fn K mg "_law_row" MG ["_law_script","_law_start","_law_by_here","_law_most"])(qu:Iu P w K mg base)(Ik:adW P w K mg base)(C8:acB P w K mg base):Xq P w K mg base:=by
 refine F.cal wu (λvs H Q E h=>?_) (λf cdv A outer s H vs Q E hr h=>?_)
 .obtain⟨a,ns,st,b,most,rfl,_⟩:=h;rfl
 .obtain⟨a,ns,st,b,most,rfl,hS,s0,hB,hm,q⟩:=h;refine⟨_,(au (aD (i:=4) wu.nd rfl (Or.inr rfl) (aL qu hr rfl (ao (pv 0) (ao (pv 1) aj))))
   (au (aD (i:=5) wu.nd rfl (Or.inl rfl) (aB d9 (pv 4) (aB (dB K) (pv 3) ak)))
   (au (aD (i:=6) wu.nd rfl (Or.inr rfl) (aO (aQ K) (fB (bU ak (bU ak (bU ak (bU ak (bU ak (bU ak aj))))))) (aB d9 (aB vJ (pv 4) ak) ak) (λ_ _=>rfl)))
   (au (pH (i:=7) (hN:=wu.nd) (hi':=rfl) (hx:=(Or.inl rfl)) (sc:=ata) (N:=["_law_k","_law_by_here","_law_script","_law_sort","_law_start"]) (ix:=[none,some 2,some 0,some 6,some 1]) dI rfl (iJ rfl B.gJ (ao (pv 5) aj)) (λcl C s₀ H₀ ex=>⟨(aV (i:=0) cX rfl (Or.inl rfl)),dW,(aL Ik hr rfl (ao (pv 1) (aM (aL C8 hr rfl (aM (aL qu hr rfl (ao (pv 2) (dX (aB (dB K) (pv 4) ak) aj))) (ao (pv 0) aj))) (ao (pv 3) aj))))⟩))
   (au (pH (i:=8) (hN:=wu.nd) (hi':=rfl) (hx:=(Or.inl rfl)) (sc:=apO) (N:=["_law_k","_law_by_here","_law_script","_law_sort","_law_start"]) (ix:=[none,some 2,some 0,some 6,some 1]) dI rfl (iJ rfl B.gJ (ao (pv 5) aj)) (λcl C s₀ H₀ ex=>⟨(aV (i:=0) cX rfl (Or.inl rfl)),dW,(aL Ik hr rfl (ao (pv 1) (aM (aL C8 hr rfl (aM (aL qu hr rfl (ao (pv 2) (dX (aB (dB K) (pv 4) ak) aj))) (dX (aB (dB K) ak (pv 0)) aj))) (ao (pv 3) aj))))⟩))
   (au (tV (cW (bB (fK K hr) (aB d9 (aB vJ (pv 4) ak) ak) ak (aZ _))
   (aF (pH (i:=7) (hN:=wu.nd) (hi':=rfl) (hx:=(Or.inl rfl)) (sc:=arv) (N:=["_law_k","_law_number_here","_law_cell"]) (ix:=[none,none,some 4]) dI rfl (Dd K rfl B.DL (ao (pv 7) aj)) (λcl C s₀ H₀ ex=>⟨(lK K (n:=2) rfl (eX (aV (i:=0) cX rfl (Or.inl rfl)) (eX (aV (i:=1) cX rfl (Or.inl rfl)) lH))),dW,(aB v_mul (pv 1) (aB d9 (aL C8 hr rfl (ao (pv 2) (dX (aB (dB K) ak (pv 0)) aj))) ak))⟩)))
   cZ))
   (au (tV (cW (PW.pt (vm (bB (fK K hr) (aB d9 (aB vJ (pv 4) ak) ak) ak (aZ _)) (yd (bB sW (pv 5) ak (aZ _)))))
   (aF (aD (i:=8) wu.nd rfl (Or.inl rfl) (aB (dB K) (aB v_mul (fB (bU ak aj)) (aB cO (pv 5) ak)) (fB (aM (aO (aQ K) (pv 8) (qF qZ ak) (λ_ _=>rfl)) aj)))))
   cZ))
   (aF (aX (fM (ao (pv 2) (aM (iB (jQ K) rfl B.jD boot_tuple (ao (pv 7) aj)) (aM (iB (jQ K) rfl B.jD boot_tuple (ao (pv 8) aj)) aj))))))))))))),?_⟩
  obtain⟨hb0,hb1,_⟩:=hB.range;refine⟨_,rfl,_,rfl,a,ns,st,rfl,hS,s0,?_⟩;generalize cellAt ns st=c;refine⟨_,rfl,_,rfl,_,_,rfl,rfl,(by show 0<(most:Int)+1;omega),?_⟩;obtain⟨N,eN,hN⟩:∃N:Nat,c%((most:Int)+1)=(N:Int)/\N<=most:=by
   have h0:=iC c (show 0<(most:Int)+1 by omega);have h1:=iM c (show 0<(most:Int)+1 by omega);exact⟨_,(R4 h0).symm,by omega⟩
  dsimp only;rw[eN];refine⟨(by show 6<=sizeLine;decide),λp6 vQ=>?_⟩;have g1:=Same.new vQ (.lst (CZ.map V.int));have e0:=iC (c/13) (show(0:Int)<6 by decide);have e1:=iM (c/13) (show(0:Int)<6 by decide);refine⟨_,rfl,_,_,rfl,rfl,⟨by decide,by decide⟩,_,_,rfl,rfl,(by decide:(0:Int)<6),_,_,.inl (aq.of aA),fQ (ns:=CZ) e0 e1,?_⟩;generalize CZ.getD (c/13%6).toNat 0=so;have eH:(upd H p6 (.lst [.int 0,.int 0,.int 0,.int 1,.int 0,.int 2]))=upd H p6 (.lst (CZ.map V.int)):=rfl;rw[eH];generalize upd H p6 (.lst (CZ.map V.int))=H1 at g1;have hS1:=g1.seq hS;refine⟨_,rfl,(N:Int),rfl,(by omega:-(2^62)<=(N:Int)),(by omega:(N:Int)<2^62),?_⟩;rw[fW];refine vY (n:=N) (by omega) rfl (λk=>jZ b (kJ (cellAt ns (st+1)) (0+(k:Int))) so) ?_ ?_
  .intro H2 k g2 hk kk hkk;exact⟨_,rfl,_,rfl,_,rfl,a,ns,st+1,rfl,g2.seq hS1,by omega,_,rfl,cellAt ns (st+1),0+(k:Int),rfl,by omega,by omega,_,rfl,b,_,so,rfl,hkk⟩
  intro D1 hD1;generalize hr0:(Pm.aH N λk=>jZ b (kJ (cellAt ns (st+1)) (0+(k:Int))) so)=rule;have lr:rule.length=N:=by rw[<-hr0];exact Pm.bG ..
  have nr:∀x∈rule,lG b x/\Rm.Bd 40 x:=λx hx=>by
   rw[<-hr0]at hx;obtain⟨j,_,rfl⟩:=Pm.nF hx;exact⟨adv hB _ _,abn hb1 _ _⟩
  clear hr0;have g2:=Same.new hD1 (.lst (rule.map V.int));have h1:(upd H1 D1 (.lst (rule.map V.int))) D1=some (.lst (rule.map V.int)):=aA;generalize upd H1 D1 (.lst (rule.map V.int))=H2 at g2 h1;have hS2:=g2.seq hS1;refine⟨_,rfl,(N:Int),rfl,(by omega:-(2^62)<=(N:Int)),(by omega:(N:Int)<2^62),?_⟩;rw[fW];refine vY (n:=N) (by omega) rfl (λk=>jZ b (kJ (cellAt ns (st+2)) (20+(0+(k:Int)))) so) ?_ ?_
  .intro H3 k g3 hk kk hkk;exact⟨_,rfl,_,rfl,_,rfl,a,ns,st+2,rfl,g3.seq hS2,by omega,_,rfl,cellAt ns (st+2),20+(0+(k:Int)),rfl,by omega,by omega,_,rfl,b,_,so,rfl,hkk⟩
  intro D2 hD2;generalize hs0:(Pm.aH N λk=>jZ b (kJ (cellAt ns (st+2)) (20+(0+(k:Int)))) so)=starts;have ls:starts.length=N:=by rw[<-hs0];exact Pm.bG ..
  have wL:∀x∈starts,lG b x/\Rm.Bd 40 x:=λx hx=>by
   rw[<-hs0]at hx;obtain⟨j,_,rfl⟩:=Pm.nF hx;exact⟨adv hB _ _,abn hb1 _ _⟩
  clear hs0;have g3:=Same.new hD2 (.lst (starts.map V.int));have h2:(upd H2 D2 (.lst (starts.map V.int))) D2=some (.lst (starts.map V.int)):=aA;have h1':=g3 _ _ h1;generalize upd H2 D2 (.lst (starts.map V.int))=H3 at g3 h2 h1';have gA:=g1.trans (g2.trans g3);refine qR.by (λσ' H'=>∃(l1:Addr) (rule:List Int),σ'=[some (.ref a),some (.int st),some (.int b),some (.int most),some (.int c),some (.int N),some (.int so),some (.ref l1),some (.ref D2)]/\Same H3 H'/\H' l1=some (.lst (rule.map V.int))/\rule.length=N/\∀x∈rule,lG b x/\Rm.Bd 40 x) (λNN j8=>?_) ?_
  .refine⟨_,rfl,_,_,rfl,rfl,⟨by decide,by decide⟩,_,_,rfl,rfl,(by decide:(0:Int)<3),_,rfl,?_⟩;refine cG (λ_=>?_) (λ_=>j8 _ _ ⟨D1,rule,rfl,Same.refl _,h1',lr,nr⟩);refine⟨_,rfl,false,D1,_,rfl,aq.of h1',?_⟩;refine Y0 (t:=false) (aq.of h1') (by rw[aG,lr];exact fX (eE (by omega))) rfl (λk x=>match x with | .int n=> .int (n*(kJ c (40+(k:Int))%2))|_=> .non) ?_ ?_
   .intro H4 k x g4 hxk kk hkk;obtain⟨rfl,hk⟩:=mH hxk;have m0:=iC (kJ c (40+(k:Int))) (show(0:Int)<2 by decide);have m1:=iM (kJ c (40+(k:Int))) (show(0:Int)<2 by decide);exact⟨_,rfl,_,rfl,_,rfl,c,40+(k:Int),rfl,by omega,by omega,_,_,rfl,rfl,(by decide:(0:Int)<2),mulR (by show -(2^64)<kJ c (40+(k:Int))%2;omega) (by show kJ c (40+(k:Int))%2<2^64;omega),hkk _ (Same.refl _)⟩
   .intro D3 H4 wJ g4 uV;have ed:H4 D3=some (.lst ((Pm.aH rule.length λk=>Pm.co rule k*(kJ c (40+(k:Int))%2)).map V.int)):=uV.trans (congrArg (λz=>some (HO.lst z)) (ah5 rule λk n=>n*(kJ c (40+(k:Int))%2)));refine j8 _ _ ⟨D3,_,rfl,g4,ed,by rw[Pm.bG];exact lr,λx hx=>?_⟩;obtain⟨k,hk,rfl⟩:=Pm.nF hx;have nk:=nr _ (Pm.pN hk);have m0:=iC (kJ c (40+(k:Int))) (show(0:Int)<2 by decide);have m1:=iM (kJ c (40+(k:Int))) (show(0:Int)<2 by decide);rcases(show kJ c (40+(k:Int))%2=0∨kJ c (40+(k:Int))%2=1 by omega)with z|z
    .rw[z,aR];exact⟨lG.zero hB,Rm.Bd.zero _⟩
    .rw[z,iI];exact nk
  clear nr lr h1 h1';rintro σ' H4 ⟨l1,rule,rfl,g4,h1,lr,nr⟩;have h2':=g4 _ _ h2;refine qR.by (λσ' H'=>∃(l2:Addr) (starts:List Int),σ'=[some (.ref a),some (.int st),some (.int b),some (.int most),some (.int c),some (.int N),some (.int so),some (.ref l1),some (.ref l2)]/\Same H4 H'/\H' l2=some (.lst (starts.map V.int))/\starts.length=N/\∀x∈starts,lG b x/\Rm.Bd 40 x) (λNN j8=>?_) ?_
  .refine⟨_,rfl,_,_,rfl,rfl,⟨by decide,by decide⟩,_,_,rfl,rfl,(by decide:(0:Int)<3),_,rfl,?_⟩;refine cG (λ_=>?_) (λ_=>d8 (j8 _ _ ⟨D2,starts,rfl,Same.refl _,h2',ls,wL⟩));refine⟨_,rfl,_,_,rfl,rfl,_,rfl,?_⟩;refine cG (λcc=>?_) (λ_=>j8 _ _ ⟨D2,starts,rfl,Same.refl _,h2',ls,wL⟩);have Ti:0<N:=by have:=dec_true cc;omega
   refine⟨(by show 1<=sizeLine;decide),λm1 hm1=>?_⟩;have k1:=Same.new hm1 (.lst [.int 0]);have e1:(upd H4 m1 (.lst [.int 0])) m1=some (.lst [.int 0]):=aA;generalize upd H4 m1 (.lst [.int 0])=G1 at k1 e1;refine⟨_,rfl,_,_,rfl,rfl,_,e1,by omega,by omega,?_,λm2 hm2=>?_⟩
   .show 1*((N:Int)-1).toNat<=sizeLine;rw[xJ];exact fX (eE (by omega))
   rw[show((N:Int)-1).toNat=N-1 by omega,JB];have k2:=Same.new hm2 (.lst ((Pm.aH (N-1) λ_=>0).map V.int));have e2:(upd G1 m2 (.lst ((Pm.aH (N-1) λ_=>0).map V.int))) m2=some (.lst ((Pm.aH (N-1) λ_=>0).map V.int)):=aA;generalize upd G1 m2 (.lst ((Pm.aH (N-1) λ_=>0).map V.int))=G2 at k2 e2;have h2G:=k2 _ _ (k1 _ _ h2');refine⟨_,rfl,_,rfl,_,_,.inl (aq.of h2G),Rj (ns:=starts) (N-1) (by omega) (by omega),(by show 1<=sizeLine;decide),λm3 hm3=>?_⟩;have k3:=Same.new hm3 (.lst [.int (starts.getD (N-1) 0)]);have e3:(upd G2 m3 (.lst [.int (starts.getD (N-1) 0)])) m3=some (.lst [.int (starts.getD (N-1) 0)]):=aA;have e2':=k3 _ _ e2;generalize upd G2 m3 (.lst [.int (starts.getD (N-1) 0)])=G3 at k3 e3 e2';refine .inl ⟨_,_,e2',e3,?_,λm4 hm4=>?_⟩
   .rw[aG,Pm.bG];exact fX (eE (by show _+1<=1000;omega))
   have k4:=Same.new hm4 (.lst ((Pm.aH (N-1) λ_=>0).map V.int++[.int (starts.getD (N-1) 0)]));refine j8 _ _ ⟨m4,(Pm.aH (N-1) λ_=>0)++[Pm.co starts (N-1)],rfl,k1.trans (k2.trans (k3.trans k4)),by rw[aA,xQ];rfl,by rw[fJ,Pm.bG];show N-1+1=N;omega,λx hx=>?_⟩;rcases eV.mp hx with hx|hx
   .obtain⟨_,_,rfl⟩:=Pm.nF hx;exact⟨lG.zero hB,Rm.Bd.zero _⟩
   .rw[cP.mp hx];exact wL _ (Pm.pN (by omega))
  clear wL ls h2 h2';rintro σ' H5 ⟨l2,starts,rfl,g5,h2,ls,wL⟩;refine⟨_,rfl,_,rfl,l1,_,rfl,.inl ⟨aq.of (g5 _ _ h1),λt1 ht1=>?_⟩⟩;have Ci:=Same.new ht1 (.tup (rule.map V.int));refine⟨_,rfl,l2,_,rfl,.inl ⟨aq.of (Ci _ _ h2),λt2 pF=>?_⟩⟩;have Dh:=Same.new pF (.tup (starts.map V.int));refine⟨(by show 3<=sizeLine;decide),λt3 Ud=>?_⟩;have xH:=Same.new Ud (.tup [.int b,.ref t1,.ref t2]);exact q (.ref t3) ⟨b,rule,starts⟩ _ (gA.trans (g4.trans (g5.trans (Ci.trans (Dh.trans xH))))) ⟨t3,t1,t2,rfl,aA,xH _ _ (Dh _ _ aA),xH _ _ aA⟩ ⟨rfl,lr.trans ls.symm,by show rule.length<=most;omega,λx hx=>(nr x hx).1,λx hx=>(wL x hx).1,λx hx=>(nr x hx).2,λx hx=>(wL x hx).2⟩
theorem aqp(F:Fn K mg "_law_longer" QX ["_law_row_here","_law_number_here"])(wZ:RK P w K mg base)(zG:Qm P w K mg base):Vr P w K mg base:=by
 refine F.cal wG (λvs H Q E h=>?_) (λf cdv A outer s H vs Q E hr h=>?_)
 .obtain⟨v,r,n,rfl,_⟩:=h;rfl
 .obtain⟨v,r,n,rfl,hRI,ok,hsh,hn,q⟩:=h;refine⟨_,(au (qM (pv 0) (lK K (n:=3) rfl (eX (aV (i:=2) wG.nd rfl (Or.inr rfl)) (eX (aV (i:=3) wG.nd rfl (Or.inl rfl)) (eX (aV (i:=4) wG.nd rfl (Or.inl rfl)) lH)))))
   (au (aD (i:=5) wG.nd rfl (Or.inl rfl) (aB (dB K) (fB (bU ak aj)) (fY (sc:=afB) (N:=["_law_part"]) (ix:=[none]) dI rfl (d7 K (pv 3)) (λcl C s₀ H₀ ex=>⟨(aV (i:=0) cX rfl (Or.inl rfl)),dW,(aB cO ak (pv 0))⟩))))
   (au (pH (i:=5) (hN:=wG.nd) (hi':=rfl) (hx:=(Or.inl rfl)) (sc:=aiG) (N:=["_law_one","_law_other","_law_number_here"]) (ix:=[none,none,some 1]) dI rfl (afP K rfl B.afl (dX (aB (dB K) (pv 5) (fB (bU ak aj))) (dX (aB (dB K) (fB (bU ak aj)) (pv 5)) aj))) (λcl C s₀ H₀ ex=>⟨(lK K (n:=2) rfl (eX (aV (i:=0) cX rfl (Or.inl rfl)) (eX (aV (i:=1) cX rfl (Or.inl rfl)) lH))),dW,(aB cO (pv 0) (aB v_mul (pv 2) (pv 1)))⟩))
   (au (aD (i:=6) wG.nd rfl (Or.inl rfl) (aL wZ hr rfl (ao (pv 0) (dX (aB (dB K) (bZ (dO K) rfl B.dG boot_len (ao (pv 3) aj)) ak) aj))))
   (aF (aX (fM (ao (pv 2) (aM (iB (jQ K) rfl B.jD boot_tuple (aM (fY (sc:=aog) (N:=["_law_part","_law_by_here"]) (ix:=[none,some 2]) dI rfl (d7 K (vU (vB K) (pv 5) (sV ak) wB)) (λcl C s₀ H₀ ex=>⟨(aV (i:=0) cX rfl (Or.inl rfl)),dW,(aL zG hr rfl (ao (pv 1) (dX (aB cO ak (pv 0)) aj)))⟩)) aj)) (aM (iB (jQ K) rfl B.jD boot_tuple (ao (pv 6) aj)) aj)))))))))),?_⟩
  obtain⟨a,p,p2,rfl,hA,hR,hS⟩:=id hRI;have lR:(r.rule.map V.int).length=r.rule.length:=aG _;refine⟨_,rfl,a,_,rfl,aC.of hA,rfl,_,_,rfl,_,_,rfl,_,_,rfl,rfl,?_⟩;refine⟨(by show 1<=sizeLine;decide),λl1 hl1=>?_⟩;have g1:=Same.new hl1 (.lst [.int 1]);have h1:(upd H l1 (.lst [.int 1])) l1=some (.lst [.int 1]):=aA;generalize upd H l1 (.lst [.int 1])=H1 at g1 h1;refine⟨_,rfl,p,rfl,.inr ⟨⟨_,aC.of (g1 _ _ hR)⟩,?_⟩⟩;refine wN (g1 _ _ hR) (by omega) rfl (λx=>0-x) ?_ ?_
  .intro H2 x g2 hx k hk;exact⟨_,rfl,_,_,rfl,rfl,hk⟩
  intro D1 hD1;have g2:=Same.new hD1 (.lst ((r.rule.map λx=>0-x).map V.int));have h2:(upd H1 D1 (.lst ((r.rule.map λx=>0-x).map V.int))) D1=some (.lst ((r.rule.map λx=>0-x).map V.int)):=aA;have h1':=g2 _ _ h1;generalize upd H1 D1 (.lst ((r.rule.map λx=>0-x).map V.int))=H2 at g2 h2 h1';refine .inl ⟨_,_,h1',h2,?_,λl2 hl2=>?_⟩
  .rw[aG,aG];exact fX (eE (by show 1+_<=1000;omega))
  have g3:=Same.new hl2 (.lst ([.int 1]++(r.rule.map λx=>0-x).map V.int));have h3:(upd H2 l2 (.lst ([.int 1]++(r.rule.map λx=>0-x).map V.int))) l2=some (.lst ((jt r.rule).map V.int)):=aA;generalize upd H2 l2 (.lst ([.int 1]++(r.rule.map λx=>0-x).map V.int))=H3 at g3 h3;have Nh:=Bx r.rule;refine⟨_,rfl,(by show 1<=sizeLine;decide),λl3 hl3=>?_⟩;have g4:=Same.new hl3 (.lst [.int 0]);have h4:(upd H3 l3 (.lst [.int 0])) l3=some (.lst [.int 0]):=aA;have NS:=g4 _ _ h3;generalize upd H3 l3 (.lst [.int 0])=H4 at g4 h4 NS;refine .inl ⟨_,_,NS,h4,?_,λl4 Ad=>?_⟩
  .rw[aG,Nh];exact fX (eE (by show _+1<=1000;omega))
  have g5:=Same.new Ad (.lst ((jt r.rule).map V.int++[.int 0]));have h5:(upd H4 l4 (.lst ((jt r.rule).map V.int++[.int 0]))) l4=some (.lst ((jt r.rule++[0]).map V.int)):=by rw[aA,xQ]
  have h3b:=g5 _ _ NS;generalize upd H4 l4 (.lst ((jt r.rule).map V.int++[.int 0]))=H5 at g5 h5 h3b;refine⟨(by show 1<=sizeLine;decide),λl5 hl5=>?_⟩;have g6:=Same.new hl5 (.lst [.int 0]);have h6:(upd H5 l5 (.lst [.int 0])) l5=some (.lst [.int 0]):=aA;have h3c:=g6 _ _ h3b;have Wn:=g6 _ _ h5;generalize upd H5 l5 (.lst [.int 0])=H6 at g6 h6 h3c Wn;refine⟨_,rfl,.inl ⟨_,_,h6,h3c,?_,λl6 E4=>?_⟩⟩
  .rw[aG,Nh];exact fX (eE (by show 1+_<=1000;omega))
  have g7:=Same.new E4 (.lst ([.int 0]++(jt r.rule).map V.int));have h7:(upd H6 l6 (.lst ([.int 0]++(jt r.rule).map V.int))) l6=some (.lst (([0]++jt r.rule).map V.int)):=aA;have Kz:=g7 _ _ Wn;generalize upd H6 l6 (.lst ([.int 0]++(jt r.rule).map V.int))=H7 at g7 h7 Kz;refine⟨false,false,l4,l6,_,_,rfl,aq.of Kz,aq.of h7,?_⟩;refine aod (t1:=false) (t2:=false) (aq.of Kz) (aq.of h7) (by rw[aG,fJ,Nh];exact fX (eE (by show _+1+1<=1000;omega))) rfl (Z0 λx y=>x-n*y) ?_ ?_
  .intro H8 k x y g8 hxk hyk kk hkk;obtain⟨rfl,_⟩:=mH hxk;obtain⟨rfl,_⟩:=mH hyk;exact⟨_,rfl,_,rfl,_,rfl,mulL (by have:=hn;unfold Rm.Bd at this;omega) (by have:=hn;unfold Rm.Bd at this;omega),_,_,rfl,rfl,hkk⟩
  intro D2 H8 hD2 g8 qb;rw[abD]at qb;have eM:List.zipWith (λx y=>x-n*y) (jt r.rule++[0]) ([0]++jt r.rule)=oO n r.rule:=rfl;rw[eM]at qb;have gA:=g1.trans (g2.trans (g3.trans (g4.trans (g5.trans (g6.trans (g7.trans g8))))));refine⟨_,rfl,_,rfl,.ref p,r.rule.length,rfl,.inr ⟨_,aC.of (gA _ _ hR),lR.symm⟩,.ref a,r,(r.rule.length:Int)+1,rfl,hRI.same gA,ok,by omega,by omega,λls H9 g9 fs hs=>?_⟩;rw[show((r.rule.length:Int)+1).toNat=r.rule.length+1 by omega]at hs;refine⟨_,rfl,_,rfl,_,rfl,.inl ⟨_,aq.of (g9 _ _ qb),λl7 Jy=>?_⟩⟩;rw[show(1:Int)=((1:Nat):Int)from rfl,aq6,<-List.map_drop];have qp:=Same.new Jy (.lst (((oO n r.rule).drop 1).map V.int));have h10:(upd H9 l7 (.lst (((oO n r.rule).drop 1).map V.int))) l7=some (.lst (((oO n r.rule).drop 1).map V.int)):=aA;have Uy:=qp _ _ hs;generalize upd H9 l7 (.lst (((oO n r.rule).drop 1).map V.int))=rm at qp h10 Uy;refine⟨l7,rfl,.inl ⟨⟨_,aq.of h10⟩,?_⟩⟩;refine CF h10 (by rw[lJ,SY];omega) rfl (λx=>Rm.tk r.b (0-x)) ?_ ?_
  .intro JV x qH hx k hk;exact⟨_,rfl,_,rfl,_,_,rfl,rfl,r.b,_,rfl,ok.nJ,hk⟩
  intro D3 wJ;rw[aoj];have qH:=Same.new wJ (.lst ((oX r.b n r.rule).map V.int));refine⟨D3,_,rfl,.inl ⟨aq.of aA,λt1 ht1=>?_⟩⟩;have Ci:=Same.new ht1 (.tup ((oX r.b n r.rule).map V.int));refine⟨_,rfl,ls,_,rfl,.inl ⟨aq.of (Ci _ _ (qH _ _ Uy)),λt2 pF=>?_⟩⟩;have Dh:=Same.new pF (.tup ((r.row (r.rule.length+1)).map V.int));refine⟨(by show 3<=sizeLine;decide),λt3 Ud=>?_⟩;have xH:=Same.new Ud (.tup [.int r.b,.ref t1,.ref t2]);exact q (.ref t3) _ (gA.trans (g9.trans (qp.trans (qH.trans (Ci.trans (Dh.trans xH)))))) ⟨t3,t1,t2,rfl,aA,xH _ _ (Dh _ _ aA),xH _ _ aA⟩
theorem auu(F:Fn K mg "line_taken" Uj ["by","line"])(dD:m9 P w K mg base):Ut P w K mg base:=by
 refine F.cal aeU (λvs H Q E h=>?_) (λf cdv A outer s H vs Q E hr h=>?_)
 .obtain⟨b,l,p,rfl,_⟩:=h;rfl
 .obtain⟨b,l,p,rfl,hb,hL,z,q⟩:=h;refine⟨_,(aF (aX (fY (sc:=aqI) (N:=["number","by"]) (ix:=[none,some 0]) dI rfl (d7 K (pv 1)) (λcl C s₀ H₀ ex=>⟨(aV (i:=0) cX rfl (Or.inl rfl)),dW,(aL dD hr rfl (ao (pv 1) (ao (pv 0) aj)))⟩)))),?_⟩;refine⟨_,rfl,l,rfl,.inl ⟨⟨_,aq.of hL⟩,CF hL z rfl (Rm.tk b) ?_ ?_⟩⟩
  .intro H2 x g2 hx k hk;exact⟨_,rfl,_,rfl,b,x,rfl,hb,hk⟩
  .intro D hD;exact q D _ (Same.new hD _) hD aA
theorem asM(F:Fn K mg "head_line" Qv ["lines","begin","column"]):Vi P w K mg base:=by
 refine F.cal acA (λvs H Q E h=>?_) (λf cdv A outer s H vs Q E hr h=>?_)
 .obtain⟨ll,xs,L,W,r,c,cI,ex,rfl,_⟩:=h;rfl
 .obtain⟨ll,xs,L,W,r,c,cI,ex,rfl,rfl,hL,hx,hw,hc,z,hr',q1,q2⟩:=h;refine⟨_,(au (fZ PassesOwn.never rfl (Wv rfl B.gJ (ao (pv 1) (aM (bZ (dO K) rfl B.dG boot_len (ao (pv 0) aj)) aj))) (aV (i:=3) acA.nd rfl (Or.inl rfl))
   (aF (cW (bB (iU K hr) (aO (aQ K) (aO (aQ K) (pv 0) (pv 3) (λ_ _=>rfl)) (pv 2) (λ_ _=>rfl)) ak (aZ _))
   (aF (aX (pv 3)))
   cZ)))
   (aF (aX Fw))),?_⟩
  have lx:=hx.len;refine⟨_,rfl,_,rfl,.ref ll,L.length,rfl,.inl ⟨_,aq.of hL,lx.symm⟩,?_⟩;refine⟨(r:Int),(L.length:Int),rfl,⟨by omega,by omega,by omega,by omega⟩,?_⟩;refine pq (lo:=(r:Int)) (n:=((L.length:Int)-(r:Int)).toNat) (λi σ' H'=>∃o,σ'=[some (.ref ll),some (.int r),some (.int c),o]/\H'=H/\∀j,r<=j->j<r+i->Pm.co (Dm.ln L j) c=0) ⟨_,rfl,rfl,λj h1 h2=>absurd h2 (by omega)⟩ ?_ ?_
  .rintro i σ' H' hi ⟨o,rfl,rfl,hz⟩;have hi':r+i<L.length:=by omega
   obtain⟨t,e1,_,e2⟩:=hx.get hi';have ei:(r:Int)+(i:Int)=((r+i:Nat):Int):=by omega
   have wl:=hw (r+i) hi';refine⟨_,rfl,_,rfl,_,.ref t,.inl (aq.of hL),vM (r+i) ei e1,_,rfl,_,_,.inl (aq.of e2),fQ (ns:=Dm.ln L (r+i)) (by omega:(0:Int)<=(c:Int)) (by omega),_,rfl,?_⟩;rw[fW];by_cases hz':(Dm.ln L (r+i)).getD c 0=0
   .refine QF hz' ⟨_,rfl,rfl,λj h1 h2=>?_⟩;by_cases e:j=r+i
    .rw[e];exact hz'
    .exact hz j h1 (by omega)
   .rw[decide_eq_false hz'];refine nq ⟨_,rfl,?_⟩;have:=q1 (r+i) (by omega) hi' hz';rw[<-ei]at this;exact this
  .rintro σ' H' ⟨o,rfl,rfl,hz⟩;exact q2 λi h1 h2=>hz i h1 (by omega)
theorem apq(F:Fn K mg "bring_up" QY ["by","lines","at","top"])(dD:m9 P w K mg base):Yi P w K mg base:=by
 refine F.cal acR (λvs H Q E h=>?_) (λf cdv A outer s H vs Q E hr h=>?_)
 .obtain⟨b,ll,xs,L,a,r,ex,rfl,_⟩:=h;rfl
 .obtain⟨b,ll,xs,L,a,r,ex,rfl,hb,hL,hx,hm,hst,hra,ha,hz,q⟩:=h;refine⟨_,(aF (tV (cW (bB (iU K hr) (pv 2) (pv 3) (aZ _))
   (au (aD (i:=4) acR.nd rfl (Or.inl rfl) (aO (aQ K) (pv 1) (pv 3) (λ_ _=>rfl)))
   (au (qM (aO (aQ K) (pv 1) (pv 2) (λ_ _=>rfl)) (wK (pv 1) (pv 3) set_list))
   (aF (qM (fY (sc:=alW) (N:=["number","by"]) (ix:=[none,some 0]) dI rfl (d7 K (pv 4)) (λcl C s₀ H₀ ex=>⟨(aV (i:=0) cX rfl (Or.inl rfl)),dW,(aL dD hr rfl (ao (pv 1) (dX (aB cO ak (pv 0)) aj)))⟩)) (wK (pv 1) (pv 2) set_list)))))
   cZ))),?_⟩
  have lx:=hx.len;refine⟨_,rfl,_,rfl,_,rfl,?_⟩;by_cases e:a=r
  .exact QF (by rw[e]) (q xs L H (Keep.refl _ _) hL hx (.inl ⟨e,rfl⟩))
  .have hne:¬(a:Int)=(r:Int):=by omega
   rw[decide_eq_false hne];refine nq ?_;obtain⟨tr,r1,r2,r3⟩:=hx.get (show r<L.length by omega);obtain⟨ta,a1,a2,a3⟩:=hx.get ha;refine⟨_,rfl,_,rfl,_,.ref tr,.inl (aq.of hL),vM r rfl r1,?_⟩;refine⟨_,rfl,_,rfl,_,.ref ta,.inl (aq.of hL),vM a rfl a1,?_⟩;refine⟨_,rfl,_,rfl,ll,xs,_,r,rfl,rfl,hL,wH rfl (by rw[lx];omega),?_⟩;have kA:=Keep.upd ll H (.lst (xs.set r (.ref ta)));have hL1:(upd H ll (.lst (xs.set r (.ref ta)))) ll=some (.lst (xs.set r (.ref ta))):=aA;have r3':=kA _ _ (λ(z:tr=ll)=>r2 (by rw[z];exact hm)) r3;have hx1:=(bV.set a2 a3 r hx).keep hm kA;have ZG:=hst.keep kA ⟨_,hL1⟩;generalize upd H ll (.lst (xs.set r (.ref ta)))=H1 at kA hL1 r3' hx1 ZG;refine⟨_,rfl,tr,rfl,.inl ⟨⟨_,aq.of r3'⟩,CF r3' (hz r (by omega)) rfl (λx=>Rm.tk b (0-x)) ?_ ?_⟩⟩
   .intro H2 x g2 hx k hk;exact⟨_,rfl,_,rfl,_,_,rfl,rfl,b,_,rfl,hb,hk⟩
   .intro D hD;have gD:=Same.new hD (.lst (((Dm.ln L r).map λx=>Rm.tk b (0-x)).map V.int));have hDl:D∉ex:=ZG.fresh hD;have Aq:(upd H1 D (.lst (((Dm.ln L r).map λx=>Rm.tk b (0-x)).map V.int))) D=some (.lst (((Dm.ln L r).map λx=>Rm.tk b (0-x)).map V.int)):=aA;have hL2:=gD _ _ hL1;have hx2:=hx1.same gD;have kB:=kA.trans (Keep.same gD);generalize upd H1 D (.lst (((Dm.ln L r).map λx=>Rm.tk b (0-x)).map V.int))=H2 at gD Aq hL2 hx2 kB;refine⟨_,rfl,_,rfl,ll,_,_,a,rfl,rfl,hL2,wH rfl (by rw[oM,lx];omega),?_⟩;have kC:=Keep.upd ll H2 (.lst ((xs.set r (.ref ta)).set a (.ref D)));refine q _ ((L.set r (Dm.ln L a)).set a ((Dm.ln L r).map λx=>Rm.tk b (0-x))) _ (kB.trans kC) aA ((bV.set hDl Aq a hx2).keep hm kC) (.inr ⟨by omega,by rw[oM,oM],?_,?_,?_⟩)
    .rw[wQ _ (by rw[oM];omega),if_neg (by omega),wQ _ (by omega),if_pos rfl]
    .rw[wQ _ (by rw[oM];omega),if_pos rfl]
    .intro i h1 h2;rw[wQ _ (by rw[oM];omega),if_neg h2,wQ _ (by omega),if_neg h1]
theorem afu(F:Fn K mg "freed" SN ["by","line","head","column","last"])(oK:Bf P w K mg base)(dD:m9 P w K mg base):Xa P w K mg base:=by
 refine F.cal Cu (λvs H Q E h=>?_) (λf cdv A outer s H vs Q E hr h=>?_)
 .obtain⟨b,last,l1,l2,p,r,c,cI,rfl,_⟩:=h;rfl
 .obtain⟨b,last,l1,l2,p,r,c,cI,rfl,rfl,hZ,h1,h2,hl,hc,hz,n0,nt,bl,b1,b2,hx,q⟩:=h;refine⟨_,(au (aD (i:=5) Cu.nd rfl (Or.inr rfl) (aO (aQ K) (pv 2) (pv 3) (λ_ _=>rfl)))
   (au (aD (i:=6) Cu.nd rfl (Or.inr rfl) (aO (aQ K) (pv 1) (pv 3) (λ_ _=>rfl)))
   (au (pH (i:=7) (hN:=Cu.nd) (hi':=rfl) (hx:=(Or.inl rfl)) (sc:=alH) (N:=["k","factor","head","line","pivot"]) (ix:=[none,some 6,some 2,some 1,some 5]) dI rfl (iJ rfl B.gJ (aM (bZ (dO K) rfl B.dG boot_len (ao (pv 1) aj)) aj)) (λcl C s₀ H₀ ex=>⟨(aV (i:=0) cX rfl (Or.inl rfl)),dW,(aB cO (aB v_mul (pv 4) (aO (aQ K) (pv 3) (pv 0) (λ_ _=>rfl))) (aB v_mul (pv 1) (aO (aQ K) (pv 2) (pv 0) (λ_ _=>rfl))))⟩))
   (au (cW (bB (fK K hr) (pv 0) ak (aZ _))
   (aF (aX (fY (sc:=atR) (N:=["number","last"]) (ix:=[none,some 4]) dI rfl (d7 K (pv 7)) (λcl C s₀ H₀ ex=>⟨(aV (i:=0) cX rfl (Or.inl rfl)),dW,(aB yD (pv 0) (pv 1))⟩))))
   cZ)
   (au (aD (i:=8) Cu.nd rfl (Or.inr rfl) (aL oK hr rfl (ao (pv 0) (bU ak (ao (pv 4) aj)))))
   (aF (aX (fY (sc:=afX) (N:=["number","by","share"]) (ix:=[none,some 0,some 8]) dI rfl (d7 K (pv 7)) (λcl C s₀ H₀ ex=>⟨(aV (i:=0) cX rfl (Or.inl rfl)),dW,(aL dD hr rfl (ao (pv 1) (dX (aB v_mul (pv 0) (pv 2)) aj)))⟩))))))))),?_⟩
  have lP:(p.map V.int).length=p.length:=aG _;refine⟨_,rfl,_,rfl,_,_,.inl (aq.of h2),fQ (ns:=r) (by omega:(0:Int)<=(c:Int)) (by omega),?_⟩;refine⟨_,rfl,_,rfl,_,_,.inl (aq.of h1),fQ (ns:=p) (by omega:(0:Int)<=(c:Int)) (by omega),?_⟩;rw[fW];have e1:r.getD c 0=Pm.co r c:=rfl;have e2:p.getD c 0=Pm.co p c:=rfl;rw[e1,e2];refine⟨_,rfl,.ref l1,p.length,rfl,.inl ⟨_,aq.of h1,lP.symm⟩,(p.length:Int),rfl,(by omega:-(2^62)<=(p.length:Int)),(by omega:(p.length:Int)<2^62),?_⟩;rw[fW];refine vY (n:=p.length) hz rfl (λk=>Pm.co r c*Pm.co p k-Pm.co p c*Pm.co r k) ?_ ?_
  .intro H2 k g2 hk kk hkk;have ek:(0+(k:Int)).toNat=k:=by omega
   refine⟨_,rfl,_,rfl,_,rfl,_,_,.inl (aq.of (g2 _ _ h1)),fQ (ns:=p) (by omega:(0:Int)<=0+(k:Int)) (by omega),pU (Pm.jm b2 c) (Rm.Bd.getD b1 _) (by decide),?_⟩;refine⟨_,rfl,_,rfl,_,rfl,_,_,.inl (aq.of (g2 _ _ h2)),fQ (ns:=r) (by omega:(0:Int)<=0+(k:Int)) (by omega),pU (Pm.jm b1 c) (Rm.Bd.getD b2 _) (by decide),_,_,rfl,rfl,?_⟩;rw[ek];exact hkk
  .intro D hD;have gD:=Same.new hD (.lst ((Pm.aH p.length λk=>Pm.co r c*Pm.co p k-Pm.co p c*Pm.co r k).map V.int));have Aq:(upd H D (.lst ((Pm.aH p.length λk=>Pm.co r c*Pm.co p k-Pm.co p c*Pm.co r k).map V.int))) D=some (.lst ((Pm.aH p.length λk=>Pm.co r c*Pm.co p k-Pm.co p c*Pm.co r k).map V.int)):=aA;generalize upd H D (.lst ((Pm.aH p.length λk=>Pm.co r c*Pm.co p k-Pm.co p c*Pm.co r k).map V.int))=H1 at gD Aq;have zO:(Pm.aH p.length λk=>Pm.co r c*Pm.co p k-Pm.co p c*Pm.co r k).length<=1000:=by rw[Pm.bG];exact hz
   refine⟨_,rfl,_,rfl,?_⟩;refine cG (λcc=>?_) (λcc=>?_)
   .have hb:b=0:=dec_true cc;refine⟨_,rfl,D,rfl,.inl ⟨⟨_,aq.of Aq⟩,CF Aq zO rfl (λx=>x.fdiv last) ?_ ?_⟩⟩
    .intro H2 x g2 hx' k hk;exact⟨_,rfl,_,rfl,_,_,rfl,rfl,⟨n0,Lx (ajm n0 bl) (by decide)⟩,hk⟩
    .intro D2 hD2;refine q D2 _ _ (gD.trans (Same.new hD2 _)) (gD.free hD2) aA (by rw[aG,Pm.bG]) λk hk=>?_;rw[Pm.lV (by simp),Pm.dw,if_pos hk,hb,Rm.bh,Rm.bh,Rm.bh];obtain⟨e,he⟩:=hx hb k hk;rw[he,Qn _ n0];exact⟨rfl,rfl⟩
   .exact absurd hZ (dec_false cc)
theorem ame(F:Fn K mg "clear" LZ ["by","wide","lines"])(Oi:Vi P w K mg base)(Sq:Yi P w K mg base)(MD:Xa P w K mg base):adb P w K mg base:=by
 refine F.cal uI (λvs H Q E h=>?_) (λf cdv A outer s H vs Q E hr h=>?_)
 .obtain⟨b,wide,ll,xs,L,W,u,ex,rfl,_⟩:=h;rfl
 .obtain⟨b,wide,ll,xs,L,W,u,ex,rfl,hZ,hL,hx,hmx,hst,hwW,hW,hn,hu,hw,hnu,hbd,q⟩:=h;refine⟨_,(au (aD (i:=3) uI.nd rfl (Or.inl rfl) (fB aj))
   (au (aD (i:=4) uI.nd rfl (Or.inl rfl) ak)
   (au (fZ PassesOwn.never rfl (iJ rfl B.gJ (ao (pv 1) aj)) (aV (i:=5) uI.nd rfl (Or.inl rfl))
   (au (aD (i:=6) uI.nd rfl (Or.inl rfl) (bZ (dO K) rfl B.dG boot_len (ao (pv 3) aj)))
   (au (aD (i:=7) uI.nd rfl (Or.inl rfl) (aL Oi hr rfl (ao (pv 2) (ao (pv 6) (ao (pv 5) aj)))))
   (aF (cW (Jp (aeu (pv 7)))
   (au (n6 (aL Sq hr rfl (ao (pv 0) (ao (pv 2) (ao (pv 7) (ao (pv 6) aj))))))
   (au (fZ PassesOwn.never rfl (iJ rfl B.gJ (aM (bZ (dO K) rfl B.dG boot_len (ao (pv 2) aj)) aj)) (aV (i:=8) uI.nd rfl (Or.inl rfl))
   (aF (tV (cW (bB (iU K hr) (pv 8) (pv 6) (aZ _))
   (aF (qM (aL MD hr rfl (ao (pv 0) (aM (aO (aQ K) (pv 2) (pv 8) (λ_ _=>rfl)) (aM (aO (aQ K) (pv 2) (pv 6) (λ_ _=>rfl)) (ao (pv 5) (ao (pv 4) aj)))))) (wK (pv 2) (pv 8) set_list)))
   cZ))))
   (au (aD (i:=4) uI.nd rfl (Or.inl rfl) (aO (aQ K) (aO (aQ K) (pv 2) (pv 6) (λ_ _=>rfl)) (pv 5) (λ_ _=>rfl)))
   (aF (n6 (vC K (pv 3) (pv 5)))))))
   cZ)))))
   (aF (aX (fM (ao (pv 3) (ao (pv 4) aj)))))))),?_⟩
  have hB:j6 b:= .inl hZ;obtain⟨hb0,hb1,hb2⟩:=hB.range;have hD:=hB.dom;refine⟨cJ _,λlh Dw=>?_⟩;have kh:=Same.new Dw (.lst []);have hm:ll∈lh::ex:=dg _ hmx;have hml:lh∈lh::ex:=cQ;have st:∀{H':Hp} {o o':HO},Keep ll H H'->H' ll=some o->H' lh=some o'->Stand H' (lh::ex):=λk e e' a ha=>by
   rcases cj.mp ha with z|z
   .rw[z];exact⟨_,e'⟩
   .exact(hst.keep k ⟨_,e⟩) a z
  have hne:lh≠ll:=λz=>by rw[z,hL]at Dw;cases Dw
  refine⟨_,rfl,(wide:Int),rfl,(by omega:-(2^62)<=(wide:Int)),(by omega:(wide:Int)<2^62),?_⟩;refine pq (lo:=0) (n:=(wide:Int).toNat) (λc σ' H'=>∃(o5 o6 o7 o8:Option V) (A:Nat->Nat->Int) (hd:Nat->Nat) (r:Nat) (L':List (List Int)) (last:Int) (xs':List V),σ'=[some (.int b),some (.int wide),some (.ref ll),some (.ref lh),some (.int last),o5,o6,o7,o8]/\Keep ll H H'/\H' lh=some (.lst ((Pm.aH r λh=>((hd h:Nat):Int)).map V.int))/\H' ll=some (.lst xs')/\bV H' (lh::ex) xs' L'/\Dm.dJ b L.length W u (λi k=>Pm.co (Dm.ln L i) k) c A hd r L' last)
   ⟨_,_,_,_,_,_,0,L,1,xs,rfl,Keep.same kh,aA,kh _ _ hL,(hx.more Dw).same kh,Dm.dJ.start hB.one hw hnu hbd⟩ ?_ ?_
  .rintro c σ' H1 hc ⟨o5,o6,o7,o8,A,hd,r,L1,last,xs1,rfl,k1,hH1,hL1,hx1,I⟩;have lX:c<W:=by omega
   have hrn:=I.rn;have len1:=I.len;have lh1:((Pm.aH r λh=>((hd h:Nat):Int)).map V.int).length=r:=by rw[aG,Pm.bG]
   refine⟨_,rfl,.ref lh,r,rfl,.inl ⟨_,aq.of hH1,lh1.symm⟩,?_⟩;refine⟨_,rfl,_,rfl,_,rfl,ll,xs1,L1,W,r,c,0+(c:Int),_,rfl,by omega,hL1,hx1,λi hi=>I.wd i (by omega),lX,by omega,by omega,λa h1 h2 h3=>?_,λhz=>?_⟩
   ·-- a head
    refine⟨_,rfl,_,rfl,?_⟩;rw[decide_eq_false (show ¬V.int (a:Int)=V.non fromλz=>by cases z)];refine nq ?_;refine⟨_,rfl,_,rfl,_,rfl,_,rfl,b,ll,xs1,L1,a,r,_,rfl,hb0,hL1,hx1,hm,st k1 hL1 hH1,h1,h2,λi hi=>by rw[I.wd i (by omega)];omega,λxs2 L2 H2 k2 hL2 hx2 br=>?_⟩;obtain⟨A2,I2,hp⟩:∃A2,Dm.dJ b L.length W u (λi k=>Pm.co (Dm.ln L i) k) c A2 hd r L2 last/\Pm.co (Dm.ln L2 r) c≠0:=by
     rcases br with⟨e1,e2⟩|⟨e0,e1,e2,e3,e4⟩
     .exact⟨A,by rw[e2];exact I,by rw[e2,<-e1];exact h3⟩
     .exact⟨_,I.bring e0 (by omega) (by omega) e2 e3 e4,by rw[e2];exact h3⟩
    have hrl:r<L.length:=by omega
    have k12:=k1.trans k2;have hH2:=k2 _ _ hne hH1;have len2:=I2.len;have lx2:=hx2.len;obtain⟨bl,be⟩:=hu _ _ _ _ _ _ (fX lX) I2;have amr:last≠0:=by rw[I2.la];exact I2.nz
    have ajq:last=Rm.tk b last:=by
     have:=I2.la;rw[this,Rm.gq]
    refine⟨_,rfl,.ref ll,L.length,rfl,.inl ⟨_,aq.of hL2,by rw[lx2,len2]⟩,(L.length:Int),rfl,(by omega:-(2^62)<=(L.length:Int)),(by omega:(L.length:Int)<2^62),?_⟩;refine pq (lo:=0) (n:=(L.length:Int).toNat) (λi σ' H'=>∃(o8:Option V) (L3:List (List Int)) (vL:List V),σ'=[some (.int b),some (.int wide),some (.ref ll),some (.ref lh),some (.int last),some (.int (0+(c:Int))),some (.int r),some (.int a),o8]/\Keep ll H H'/\H' lh=some (.lst ((Pm.aH r λh=>((hd h:Nat):Int)).map V.int))/\H' ll=some (.lst vL)/\bV H' (lh::ex) vL L3/\L3.length=L.length/\
      (∀j,i<=j∨j=r->Dm.ln L3 j=Dm.ln L2 j)/\∀j,j<i->j≠r->(Dm.ln L3 j).length=W/\∀k,k<W->Pm.co (Dm.ln L3 j) k=Rm.tk b (Pm.co (Dm.ln L3 j) k)/\Rm.tk b (last*Pm.co (Dm.ln L3 j) k)=Rm.tk b (Pm.co (Dm.ln L2 r) c*Pm.co (Dm.ln L2 j) k-Pm.co (Dm.ln L2 j) c*Pm.co (Dm.ln L2 r) k))
     ⟨_,L2,xs2,rfl,k12,hH2,hL2,hx2,len2,λ_ _=>rfl,λj hj=>absurd hj (mF _)⟩ ?_ ?_
    .rintro i σ' H3 hi ⟨o8,L3,vL,rfl,k3,Ar,iR,oN,HC,eq3,Cz⟩;have hi':i<L.length:=by omega
     have Nq:=oN.len;refine⟨_,rfl,_,rfl,_,rfl,?_⟩;by_cases e:i=r
     .refine QF (by omega) ⟨_,L3,vL,rfl,k3,Ar,iR,oN,HC,λj hj=>eq3 j (by omega),λj hj hj'=>Cz j (by omega) hj'⟩
     .have hne':¬(0+(i:Int))=(r:Int):=by omega
      rw[decide_eq_false hne'];refine nq ?_;obtain⟨ti,i1,i2,i3⟩:=oN.get (show i<L3.length by omega);obtain⟨tr,r1,r2,r3⟩:=oN.get (show r<L3.length by omega);rw[eq3 i (by omega)]at i3;rw[eq3 r (by omega)]at r3;have wi:=I2.wd i hi';have wr:=I2.wd r hrl;refine⟨_,rfl,_,rfl,_,rfl,_,.ref ti,.inl (aq.of iR),vM i (by omega) i1,?_⟩;refine⟨_,rfl,_,rfl,_,.ref tr,.inl (aq.of iR),vM r rfl r1,_,rfl,_,rfl,?_⟩;refine⟨b,last,ti,tr,_,_,c,0+(c:Int),rfl,by omega,hZ,i3,r3,by omega,by omega,by omega,amr,ajq,bl,λx hx=>(be i hi' x hx).mono (by decide),λx hx=>(be r hrl x hx).mono (by decide),λhb k hk=>?_,λt m H4 g4 N5 h4 lm hmm=>?_⟩
      .have hen:=λj (hj:j<L.length) k (hk:k<W)=>I2.en j k hj hk;have s:=Dm.Ds (A:=A2) (hd:=hd) (r:=r) (c:=c) (λz=>hp (by rw[hen r hrl c lX,z];exact Pm.tk0 b)) (show i≠r by omega) k;refine⟨Dm.En A2 (Dm.more hd r c) (r+1) i k,?_⟩;rw[hen r hrl c lX,hen i hi' k (by omega),hen i hi' c lX,hen r hrl k (by omega),I2.la,hb];simp only[Rm.bh];exact s.symm
      .have tl:t∉lh::ex:=(st k3 iR Ar).fresh N5;have vA:=g4 _ _ iR;have Ou:=oN.same g4;refine⟨_,rfl,_,rfl,ll,_,_,i,rfl,rfl,vA,wH (by omega) (by rw[Nq];omega),?_⟩;have k5:=Keep.upd ll H4 (.lst (vL.set i (.ref t)));refine⟨_,L3.set i m,vL.set i (.ref t),rfl,(k3.trans (Keep.same g4)).trans k5,k5 _ _ hne (g4 _ _ Ar),aA,(bV.set tl h4 i Ou).keep hm k5,by rw[oM];exact HC,λj hj=>?_,λj hj hj'=>?_⟩
       .rw[wQ _ (by omega),if_neg (by omega)];exact eq3 j (by omega)
       .rw[wQ _ (by omega)];by_cases ej:j=i
        .rw[if_pos ej,ej,lm,wi];exact⟨rfl,λk hk=>hmm k (by omega)⟩
        .rw[if_neg ej];exact Cz j (by omega) hj'
    .rintro σ' H3 ⟨o8,L3,vL,rfl,k3,Ar,iR,oN,HC,eq3,Cz⟩;rw[fW]at eq3 Cz;have auG:=oN;obtain⟨tr,r1,r2,r3⟩:=oN.get (show r<L3.length by omega);rw[eq3 r (.inr rfl)]at r3;have wr:=I2.wd r hrl;refine⟨_,rfl,_,rfl,_,.ref tr,.inl (aq.of iR),vM r rfl r1,_,rfl,_,_,.inl (aq.of r3),fQ (ns:=Dm.ln L2 r) (by omega:(0:Int)<=0+(c:Int)) (by omega),?_⟩;refine⟨_,rfl,.inl ⟨rfl,_,aq.of Ar⟩,_,rfl,lh,_,_,rfl,rfl,Ar,by rw[lh1];exact eE (by omega),?_⟩;have I3:=I2.free hD lX hrl hp HC (eq3 r (.inr rfl)) λj hj hj'=>Cz j hj hj';have ec:(0+(c:Int)).toNat=c:=by omega
     refine⟨some (.int (0+(c:Int))),some (.int r),some (.int a),o8,A2,Dm.more hd r c,r+1,L3,Pm.co (Dm.ln L2 r) c,vL,?_,λx v nx hv=>?_,?_,?_,?_,I3⟩
     .rw[ec];rfl
     .by_cases z:x=lh
      .rw[z,Dw]at hv;cases hv
      .rw[cC z];exact k3 _ _ nx hv
     .rw[aA,Pm.Rk,xQ];have e1:(Pm.aH r λh=>((Dm.more hd r c h:Nat):Int))=Pm.aH r λh=>((hd h:Nat):Int):=wj λh hh=>by
       have:=kW.mp hh;unfold Dm.more;rw[if_neg (by omega)]
      have e2:((Dm.more hd r c r:Nat):Int)=0+(c:Int):=by unfold Dm.more;rw[if_pos rfl];omega
      rw[e1,e2]
     .rw[cC hne.symm];exact iR
     .exact oN.keep hml (Keep.upd lh H3 _)
   ·-- none
    refine⟨_,rfl,_,rfl,?_⟩;rw[decide_eq_true rfl];exact d8 ⟨_,_,_,_,A,hd,r,L1,last,xs1,rfl,k1,hH1,hL1,hx1,I.skip hD lX λi h1 h2=>hz i h1 (by omega)⟩
  .rintro σ' H1 ⟨o5,o6,o7,o8,A,hd,r,L1,last,xs1,rfl,k1,hH1,hL1,hx1,I⟩;rw[fW]at I;refine⟨_,rfl,_,rfl,(by show 2<=sizeLine;decide),λt ht=>?_⟩;have kt:=Same.new ht (.tup [.ref lh,.int last]);exact q t lh A hd r L1 last xs1 _ (k1.trans (Keep.same kt)) aA (kt _ _ hH1) (kt _ _ hL1) ((hx1.less λa ha=>dg _ ha).same kt) I
theorem aqg(F:Fn K mg "common_divisor" Oe ["one","other"]):WQ P w K mg base:=by
 refine F.cal Bc (λvs H Q E h=>?_) (λf cdv A outer s H vs Q E hr h=>?_)
 .obtain⟨x,y,rfl,_⟩:=h;rfl
 .obtain⟨x,y,rfl,q⟩:=h;refine⟨_,(au (aD (i:=2) Bc.nd rfl (Or.inl rfl) (bZ Ab rfl B.zy boot_abs (ao (pv 0) aj)))
   (au (aD (i:=3) Bc.nd rfl (Or.inl rfl) (bZ Ab rfl B.zy boot_abs (ao (pv 1) aj)))
   (au (oY PassesOwn.never (bB sW (pv 3) ak (aZ _))
   (au (aD (i:=4) Bc.nd rfl (Or.inl rfl) (aB d9 (pv 2) (pv 3)))
   (au (aD (i:=2) Bc.nd rfl (Or.inl rfl) (pv 3))
   (aF (aD (i:=3) Bc.nd rfl (Or.inl rfl) (pv 4))))))
   (aF (aX (pv 2)))))),?_⟩
  refine⟨_,rfl,x,rfl,?_⟩;refine⟨_,rfl,y,rfl,?_⟩;rw[JM,JM];refine⟨λt σ' H'=>∃(g w:Nat) (o4:Option V),w=t/\Nat.gcd g w=Nat.gcd x.natAbs y.natAbs/\σ'=[some (.int x),some (.int y),some (.int g),some (.int w),o4]/\H=H',⟨_,x.natAbs,y.natAbs,_,rfl,rfl,rfl,rfl⟩,?_⟩;rintro t σ' H' ⟨g,w,o4,rfl,hg,rfl,rfl⟩;refine⟨_,rfl,_,_,rfl,rfl,_,rfl,?_⟩;refine cG (λc=>?_) (λc=>?_)
  .have hw:0<w:=by have:=dec_true c;omega
   refine⟨_,λ_ _ z=>z,?_⟩;refine⟨_,rfl,_,rfl,_,_,rfl,rfl,(by omega:(0:Int)<(w:Int)),?_⟩;refine⟨_,rfl,?_⟩;refine⟨_,rfl,?_⟩;refine⟨g%w,Nat.mod_lt _ hw,w,g%w,some (.int ((g%w:Nat):Int)),rfl,?_,?_,rfl⟩
   .rw[<-hg,Nat.gcd_comm w,<-Nat.gcd_rec,Nat.gcd_comm]
   .rw[Ge];rfl
  .have hw:w=0:=by have:=dec_false c;omega
   subst hw;rw[Nat.gcd_zero_right]at hg;rw[<-hg]at q;exact⟨_,rfl,q⟩
theorem asF(F:Fn K mg "lowest" Qh ["by","bottom","tops"])(oK:Bf P w K mg base)(Ox:WQ P w K mg base):Mw P w K mg base:=by
 refine F.cal DY (λvs H Q E h=>?_) (λf cdv A outer s H vs Q E hr h=>?_)
 .obtain⟨bt,l,ts,rfl,_⟩:=h;rfl
 .obtain⟨bt,l,ts,rfl,n0,hL,hz,bb,q⟩:=h;refine⟨_,(au (cW (bB (iU K hr) (pv 0) ak (aZ _))
   (aF (aX (fM (bU ak (aM (fY (sc:=ar8) (N:=["top","bottom","by"]) (ix:=[none,some 1,some 0]) dI rfl (d7 K (pv 2)) (λcl C s₀ H₀ ex=>⟨(aV (i:=0) cX rfl (Or.inl rfl)),dW,(aL oK hr rfl (ao (pv 2) (ao (pv 0) (ao (pv 1) aj))))⟩)) aj)))))
   cZ)
   (au (aD (i:=4) DY.nd rfl (Or.inr rfl) (bZ Ab rfl B.zy boot_abs (ao (pv 1) aj)))
   (au (fZ PassesOwn.never rfl (d7 K (pv 2)) (aV (i:=3) DY.nd rfl (Or.inl rfl))
   (aF (aD (i:=4) DY.nd rfl (Or.inr rfl) (aL Ox hr rfl (ao (pv 4) (ao (pv 3) aj))))))
   (au (tV (cW (bB tZ (pv 1) ak (aZ _))
   (aF (aD (i:=4) DY.nd rfl (Or.inr rfl) (aB cO ak (pv 4))))
   cZ))
   (aF (aX (fM (dX (aB yD (pv 1) (pv 4)) (aM (fY (sc:=aqv) (N:=["top","divisor"]) (ix:=[none,some 4]) dI rfl (d7 K (pv 2)) (λcl C s₀ H₀ ex=>⟨(aV (i:=0) cX rfl (Or.inl rfl)),dW,(aB yD (pv 0) (pv 1))⟩)) aj))))))))),?_⟩
  refine⟨_,rfl,_,rfl,?_⟩
  .refine d8 ?_;refine⟨_,rfl,bt,rfl,?_⟩;rw[JM];refine⟨_,rfl,l,rfl,.inl ⟨⟨_,aq.of hL⟩,?_⟩⟩;refine um (kY (aq.of hL)) (λi σ' H'=>∃o3,σ'=[some (.int 0),some (.int bt),some (.ref l),o3,some (.int (Lm.eU bt.natAbs (ts.take i):Nat))]/\H=H') ⟨_,rfl,rfl⟩ (λi σ' H' ⟨_,_,z⟩=>z▸Same.refl _) ?_ ?_
   .rintro i x σ' H' hx ⟨o3,rfl,rfl⟩;obtain⟨rfl,hi⟩:=mH hx;refine⟨_,rfl,_,rfl,_,_,rfl,some (.int (Pm.co ts i)),?_,rfl⟩;rw[Dk (xs:=ts) (n:=i+1) (by omega) (by omega),dY,Lm.MF,tX];rfl
   rintro σ' H' ⟨o3,rfl,rfl⟩;rw[aG,kE];refine qR.by (λσ' H'=>σ'=[some (.int 0),some (.int bt),some (.ref l),o3,some (.int (Lm.low bt ts))]/\H=H') (λNN j8=>?_) ?_
   .refine⟨_,rfl,_,_,rfl,rfl,_,rfl,?_⟩;refine cG (λc=>?_) (λc=>?_)
    .refine⟨_,rfl,_,_,rfl,rfl,j8 _ _ ⟨?_,rfl⟩⟩;unfold Lm.low;rw[if_pos (dec_true c)];rfl
    .refine j8 _ _ ⟨?_,rfl⟩;unfold Lm.low;rw[if_neg (dec_false c)]
   .rintro _ _ ⟨rfl,rfl⟩;have acY:=aoh (ts:=ts) n0 bb;have hne:=Lm.low_ne n0 ts;refine⟨_,rfl,_,rfl,_,_,rfl,rfl,⟨hne,acY⟩,?_⟩;refine⟨_,rfl,l,rfl,.inl ⟨⟨_,aq.of hL⟩,?_⟩⟩;refine CF hL (by omega) rfl (λt=>t.fdiv (Lm.low bt ts)) ?_ ?_
    .intro H2 x g2 hx k hk;exact⟨_,rfl,_,rfl,_,_,rfl,rfl,⟨hne,acY⟩,hk⟩
    .intro D hD;have gD:=Same.new hD (.lst ((ts.map λt=>t.fdiv (Lm.low bt ts)).map V.int));refine⟨(by show 2<=sizeLine;decide),λt ht=>?_⟩;have gt:=Same.new ht (.tup [.int (bt.fdiv (Lm.low bt ts)),.ref D]);exact q t D _ _ _ (gD.trans gt) aA (gt _ _ aA) hD ⟨λP e h=>by have:=(Ay P h).1;omega,λ_=>⟨rfl,rfl⟩,aG _⟩
theorem ah9(F:Fn K mg "free_numbers" Q9 ["by","wide","lines","heads","last"])(dD:m9 P w K mg base)(CY:Mw P w K mg base):Wl P w K mg base:=by
 refine F.cal aiP (λvs H Q E h=>?_) (λf cdv A outer s H vs Q E hr h=>?_)
 .exact False.elim h
 .exact False.elim h
theorem amC(F:Fn K mg "solution" R6 ["by","wide","table","wished"])(Lw:Ut P w K mg base)(Pz:adb P w K mg base)(CY:Mw P w K mg base)(Tw:Wl P w K mg base):MJ P w K mg base:=by
 refine F.cal vK (λvs H Q E h=>?_) (λf cdv A outer s H vs Q E hr h=>?_)
 .obtain⟨u,wide,ta,tw,xs,L,ws,ex,rfl,_⟩:=h;rfl
 .obtain⟨u,wide,ta,tw,xs,L,ws,ex,rfl,hT,hx,hW,lw,hn,hw,hsz,C9,bL,bW,⟨sx,sb,hs0,hs⟩,hI,qo⟩:=h;refine⟨_,(au (pH (i:=4) (hN:=vK.nd) (hi':=rfl) (hx:=(Or.inl rfl)) (sc:=arC) (N:=["i","by","table","wished"]) (ix:=[none,some 0,some 2,some 3]) dI rfl (iJ rfl B.gJ (aM (bZ (dO K) rfl B.dG boot_len (ao (pv 2) aj)) aj)) (λcl C s₀ H₀ ex=>⟨(aV (i:=0) cX rfl (Or.inl rfl)),dW,(aL Lw hr rfl (ao (pv 1) (dX (aB (dB K) (aO (aQ K) (pv 2) (pv 0) (λ_ _=>rfl)) (fB (aM (aO (aQ K) (pv 3) (pv 0) (λ_ _=>rfl)) aj))) aj)))⟩))
   (au (aD (i:=6) vK.nd rfl (Or.inl rfl) (aL Pz hr rfl (ao (pv 0) (ao (pv 1) (ao (pv 4) aj)))))
   (au (aD (i:=7) vK.nd rfl (Or.inl rfl) (aO (aQ K) (pv 6) ak (λ_ _=>rfl)))
   (au (aD (i:=8) vK.nd rfl (Or.inl rfl) (aO (aQ K) (pv 6) ak (λ_ _=>rfl)))
   (au (cW (uD (bZ (Pk K rfl) rfl B.Oo boot_any (aM (fY (sc:=apY) (N:=["line","wide"]) (ix:=[none,some 1]) dI rfl (d7 K (vU (vB K) (pv 4) (sV (bZ (dO K) rfl B.dG boot_len (ao (pv 7) aj))) wB)) (λcl C s₀ H₀ ex=>⟨(aV (i:=0) cX rfl (Or.inl rfl)),dW,(uO (iU K hr) (aO (aQ K) (pv 0) (pv 1) (λ_ _=>rfl)) ak (aZ _))⟩)) aj)))
   (aF (aX Fw))
   cZ)
   (au (aD (i:=9) vK.nd rfl (Or.inl rfl) (aB v_mul (fB (bU ak aj)) (pv 1)))
   (au (fZ PassesOwn.never rfl (iJ rfl B.gJ (aM (bZ (dO K) rfl B.dG boot_len (ao (pv 7) aj)) aj)) (aV (i:=5) vK.nd rfl (Or.inl rfl))
   (aF (qM (aO (aQ K) (aO (aQ K) (pv 4) (pv 5) (λ_ _=>rfl)) (pv 1) (λ_ _=>rfl)) (wK (pv 9) (aO (aQ K) (pv 7) (pv 5) (λ_ _=>rfl)) set_list))))
   (au (aD (i:=10) vK.nd rfl (Or.inl rfl) (aL CY hr rfl (ao (pv 0) (ao (pv 8) (ao (pv 9) aj)))))
   (au (cW (bB (fK K hr) (bZ (dO K) rfl B.dG boot_len (ao (pv 7) aj)) (pv 1) (aZ _))
   (aF (aX (fM (bU DP (aM (aO (aQ K) (pv 10) ak (λ_ _=>rfl)) (aM (aO (aQ K) (pv 10) ak (λ_ _=>rfl)) aj))))))
   cZ)
   (aF (aX (fM (bU DP (aM (aO (aQ K) (pv 10) ak (λ_ _=>rfl)) (aM (aO (aQ K) (pv 10) ak (λ_ _=>rfl)) (aM (aL Tw hr rfl (ao (pv 0) (ao (pv 1) (ao (pv 4) (ao (pv 7) (ao (pv 8) aj)))))) aj)))))))))))))))),?_⟩
  have hB:j6 0:= .inl rfl;have hDm:=hB.dom;have hb0:(0:Int)<=0:=Q5 0;have lx:=hx.len;have lWm:(ws.map V.int).length=ws.length:=aG _;refine⟨_,rfl,.ref ta,L.length,rfl,.inl ⟨_,aq.of hT,by omega⟩,?_⟩;refine⟨(L.length:Int),rfl,(by omega:-(2^62)<=(L.length:Int)),(by omega:(L.length:Int)<2^62),?_⟩;rw[fW];refine YF C4 (by rw[aG,qI];omega) rfl (Ez λi=>(Dm.ln L i++[Pm.co ws i]).map (Rm.tk 0)) ?_ ?_
  .intro H2 x g2 hx2 k hk;obtain⟨j,hj,rfl⟩:=cM.mp hx2;have hj':=kW.mp hj;obtain⟨t,e1,_,e2⟩:=(hx.same g2).get (i:=j) hj';refine⟨_,rfl,_,rfl,_,rfl,_,.ref t,.inl (aq.of (g2 _ _ hT)),vM j (by omega) e1,?_⟩;refine⟨_,rfl,_,rfl,_,_,.inl (aq.of (g2 _ _ hW)),fQ (ns:=ws) (by omega:(0:Int)<=0+(j:Int)) (by omega),(by show 1<=sizeLine;decide),λl1 hl1=>?_⟩;have ej:(0+(j:Int)).toNat=j:=by omega
   rw[ej];have g3:=Same.new hl1 (.lst [.int (ws.getD j 0)]);have h1:(upd H2 l1 (.lst [.int (ws.getD j 0)])) l1=some (.lst [.int (ws.getD j 0)]):=aA;have e3:=g3 _ _ e2;generalize upd H2 l1 (.lst [.int (ws.getD j 0)])=H3 at g3 h1 e3;refine .inl ⟨_,_,e3,h1,?_,λl2 hl2=>?_⟩
   .rw[aG,C9 j hj'];exact fX (eE (by show wide+1<=1000;omega))
   have g4:=Same.new hl2 (.lst ((Dm.ln L j).map V.int++[.int (ws.getD j 0)]));refine⟨0,l2,Dm.ln L j++[Pm.co ws j],rfl,hb0,by rw[aA,jq];rfl,by rw[fJ,C9 j hj'];show wide+1<=1000;omega,λt' H5 g5 hn5 h5=>?_⟩;refine hk t' H5 ((g3.trans g4).trans g5) ((g3.trans g4).free hn5) ?_;show H5 t'=some (.lst (((Dm.ln L (0+(j:Int)).toNat++[Pm.co ws (0+(j:Int)).toNat]).map (Rm.tk 0)).map V.int));rw[ej];exact h5
  intro D ys H1 hD g1 hD1 hy;rw[anO]at hy;have ly:=hy.len;rw[Dm.xK]at ly;have akX:∀i k,Rm.Bd u (Dm.aug 0 L ws i k):=λi k=>by
   by_cases hi:i<L.length
   .unfold Dm.aug;rw[Dm.BP hi,Pm.lV (Pm.tk0 0)];refine Rm.rK hb0 (Rm.Bd.zero _) (Pm.jm (λx hx=>?_) k);rcases eV.mp hx with hx|hx
    .exact bL _ (arQ hi) x hx
    .rw[cP.mp hx];exact Pm.jm bW i
   .have e:Dm.ln (Dm.pZ 0 L ws) i=[]:=by
     unfold Dm.ln;rw[dh,ud (by rw[Dm.xK];omega)];rfl
    unfold Dm.aug;rw[e,Pm.fL];exact Rm.Bd.zero _
  refine⟨_,rfl,_,rfl,_,rfl,0,wide,D,ys,Dm.pZ 0 L ws,wide+1,u,[D],rfl,rfl,hD1,hy,cP.mpr rfl,(λa' ha=>by rw[cP.mp ha];exact⟨_,hD1⟩),by omega,by omega,by rw[Dm.xK];omega,by rw[Dm.xK];exact hsz.2,λi hi=>?_,λi k=>Dm.agL i k,λi k=>akX i k,λt th A hd r L' last xs' H2 k2 hTt hTh hL' hx' I=>?_⟩
  .rw[Dm.xK]at hi;rw[Dm.BP hi,aG,fJ,C9 i hi];rfl
  rw[Dm.xK]at I;have gS:Same H H2:=λc u hu=>k2 _ _ (λz=>by rw[z,hD]at hu;cases hu) (g1 _ _ hu);have lh:((Pm.aH r λh=>((hd h:Nat):Int)).map V.int).length=r:=by rw[aG,Pm.bG]
  have lh0:(Pm.aH r λh=>((hd h:Nat):Int)).length=r:=Pm.bG ..;have lx':=hx'.len;have Z4:=I.len;have hrn:=I.rn;refine⟨_,rfl,_,_,.inr (aC.of hTt),rfl,?_⟩;refine⟨_,rfl,_,_,.inr (aC.of hTt),rfl,?_⟩;refine⟨_,rfl,_,rfl,.ref th,r,rfl,.inl ⟨_,aq.of hTh,lh.symm⟩,_,rfl,.inl ⟨_,aq.of hL',λps hps=>?_⟩⟩;rw[ano xs' (by omega)];have gp:=Same.new hps (.lst (xs'.drop r));have hp3:(upd H2 ps (.lst (xs'.drop r))) ps=some (.lst (xs'.drop r)):=aA;have oN:=(bV.drop r hx').same gp;generalize upd H2 ps (.lst (xs'.drop r))=H3 at gp hp3 oN;refine⟨ps,rfl,.inl ⟨⟨_,aq.of hp3⟩,?_⟩⟩;refine aqj hp3 oN (by rw[lJ];omega) rfl (λp=> .bl (not (decide (p.getD wide 0=0)))) ?_ ?_
  .intro H4 t p g4 hp rQ k hk;obtain⟨i,h1,h2,rfl⟩:=abZ hp;have:=I.wd i (by omega);refine⟨_,rfl,_,rfl,_,_,.inl (aq.of rQ),fQ (ns:=Dm.ln L' i) (by omega:(0:Int)<=(wide:Int)) (by omega),?_⟩;rw[fW];exact hk _ (Same.refl _)
  intro D2 H4 hD2 g4 uV;have gg:=(gS.trans gp).trans g4;have hbs:((L'.drop r).map λp=>V.bl (not (decide (p.getD wide 0=0))))=((L'.drop r).map λp=>not (decide (p.getD wide 0=0))).map V.bl:=by rw[fj];rfl
  rw[hbs]at uV;refine⟨D2,_,rfl,aq.of uV,_,rfl,?_⟩;refine cG (λc=>?_) (λc=>?_)
  .obtain⟨x,hx1,hx2⟩:=tH.mp c;obtain⟨p,hp,rfl⟩:=cM.mp hx1;obtain⟨i,h1,h2,rfl⟩:=abZ hp;have hne:Rm.tk 0 (Dm.En A hd r i wide)≠0:=by
    rw[<-I.en i wide (by omega) (by omega)];intro z;have z':(Dm.ln L' i).getD wide 0=0:=z;rw[decide_eq_true z']at hx2;cases hx2
   exact absurd (I.ae2 hDm hs0 hs i h1 (by omega)) hne
  have hz:∀i,r<=i->i<L.length->Rm.tk 0 (Dm.En A hd r i wide)=0:=λi h1 h2=>by
   rw[<-I.en i wide (by omega) (by omega)];by_cases z:Pm.co (Dm.ln L' i) wide=0
   .exact z
   .refine absurd (tH.mpr ⟨true,cM.mpr ⟨_,an9 h1 (by omega),?_⟩,rfl⟩) c;have z':¬(Dm.ln L' i).getD wide 0=0:=z;rw[decide_eq_false z'];rfl
  have vA:=g4 _ _ (gp _ _ hL');have Ou:=(hx'.same gp).same g4;have Qd:=g4 _ _ (gp _ _ hTh);refine⟨(by show 1<=sizeLine;decide),λl1 hl1=>?_⟩;have g5:=Same.new hl1 (.lst [.int 0]);have h1:(upd H4 l1 (.lst [.int 0])) l1=some (.lst [.int 0]):=aA;generalize upd H4 l1 (.lst [.int 0])=H5 at g5 h1;refine⟨_,rfl,_,h1,by omega,by omega,?_,λl2 hl2=>?_⟩
  .show 1*(wide:Int).toNat<=sizeLine;rw[xJ];exact fX (eE (by omega))
  rw[fW,JB];have g6:=Same.new hl2 (.lst ((Pm.aH wide λ_=>0).map V.int));have h2:(upd H5 l2 (.lst ((Pm.aH wide λ_=>0).map V.int))) l2=some (.lst ((Dm.pJ (λh=>Rm.tk 0 (Dm.En A hd r h wide)) hd wide 0).map V.int)):=by rw[aA,Dm.akk]
  have LD:=g5.trans g6;have f2:H4 l2=none:=g5.free hl2;generalize upd H5 l2 (.lst ((Pm.aH wide λ_=>0).map V.int))=H6 at g6 h2 LD;refine⟨_,rfl,.ref th,r,rfl,.inl ⟨_,aq.of (LD _ _ Qd),lh.symm⟩,?_⟩;refine⟨(r:Int),rfl,(by omega:-(2^62)<=(r:Int)),(by omega:(r:Int)<2^62),?_⟩;refine pq (lo:=0) (n:=(r:Int).toNat) (λi σ' H'=>∃(o5:Option V),σ'=[some (.int 0),some (.int wide),some (.ref ta),some (.ref tw),some (.ref D),o5,some (.ref t),some (.ref th),some (.int last),some (.ref l2),none]/\Same H4 H'/\H' l2=some (.lst ((Dm.pJ (λh=>Rm.tk 0 (Dm.En A hd r h wide)) hd wide i).map V.int))) ⟨_,rfl,LD,h2⟩ ?_ ?_
  .rintro i σ' H' hi ⟨o5,rfl,g,hU⟩;have hi':i<r:=by omega
   obtain⟨t4,e1,_,e2⟩:=(Ou.same g).get (i:=i) (by omega);have hwi:=I.wd i (by omega);refine⟨_,rfl,_,rfl,_,.ref t4,.inl (aq.of (g _ _ vA)),vM i (by omega) e1,_,rfl,_,_,.inl (aq.of e2),fQ (ns:=Dm.ln L' i) (by omega:(0:Int)<=(wide:Int)) (by omega),?_⟩;refine⟨_,rfl,_,rfl,_,rfl,_,_,.inl (aq.of (g _ _ Qd)),fQ (ns:=Pm.aH r λh=>((hd h:Nat):Int)) (by omega:(0:Int)<=0+(i:Int)) (by rw[lh0];omega),?_⟩;have eh:(Pm.aH r λh=>((hd h:Nat):Int)).getD (0+(i:Int)).toNat 0=((hd i:Nat):Int):=by
    rw[show(0+(i:Int)).toNat=i by omega];have:=Pm.dw r (λh=>((hd h:Nat):Int)) i;rw[if_pos hi']at this;exact this
   rw[eh,fW];have hc:=I.hc i hi';refine⟨l2,_,_,hd i,rfl,rfl,hU,wH rfl (by rw[aG,Dm.yU];exact hc),?_⟩;rw[HS];refine⟨_,rfl,g.upd f2 _,?_⟩;have en:(Dm.ln L' i).getD wide 0=Rm.tk 0 (Dm.En A hd r i wide):=I.en i wide (by omega) (by omega);rw[aA,en,Dm.alA hc (λh hh e=>by have:=I.up h i hh hi';omega)]
  rintro σ' H7 ⟨o5,rfl,g7,hU⟩;rw[fW]at hU;refine⟨_,rfl,_,rfl,_,rfl,last,l2,_,rfl,I.pQ.1,hU,by rw[Dm.yU];omega,(hsz.2 _ _ _ _ _ _ (by omega) I).1,λtl lt bot us H8 g8 htl hlt frl low=>?_⟩;have so:Dm.wC u 0 L.length wide (Dm.aug 0 L ws) bot us:=⟨A,hd,r,L',last,I,hz,low⟩;have aru:=g8 _ _ (g7 _ _ Qd);have gA:=(gg.trans g7).trans g8;refine⟨_,rfl,.ref th,r,rfl,.inl ⟨_,aq.of aru,lh.symm⟩,_,rfl,_,rfl,?_⟩;rw[(I.anh hI).1,decide_eq_true rfl];refine nq ?_;refine⟨_,rfl,_,_,.inr (aC.of htl),rfl,_,rfl,_,_,.inr (aC.of htl),rfl,(by show 3<=sizeLine;decide),λt2 pF=>?_⟩;have g9:=Same.new pF (.tup [.str ("one" : Str),.int bot,.ref lt]);exact qo _ _ so t2 lt _ (gA.trans g9) aA (g9 _ _ hlt)
theorem agn(F:Fn K mg "refuse_big" OX ["poly"]):ac7 P w K mg base dN:=by
 refine F.Ii af0 (λvs H Q E h=>?_) (λf cdv A outer s H vs Q E hr h=>?_)
 .obtain⟨a,P,rfl,_⟩:=h;rfl
 .obtain⟨a,P',rfl,hA,zP,q1,q2⟩:=h;refine⟨_,(aF (cW (uD (bZ (Pk K rfl) rfl B.Oo boot_any (aM (fY (sc:=ago) (N:=["number"]) (ix:=[none]) dI rfl (d7 K (pv 0)) (λcl C s₀ H₀ ex=>⟨(aV (i:=0) cX rfl (Or.inl rfl)),dW,(uO aeK (bZ Ab rfl B.zy boot_abs (ao (pv 0) aj)) (Zz rfl B.R9) (aZ _))⟩)) aj)))
   (aF (XR M.agV rfl (bU DP aj)))
   cZ)),?_⟩
  refine⟨_,rfl,a,rfl,.inr ⟨⟨_,aC.of hA⟩,?_⟩⟩;refine vd (PB (aC.of hA)) (by rw[aG];exact fX (eE (by omega))) rfl (λ_=>true) (λx=>match x with | .int k=> .bl (decide ((1000000:Int)<=(if k<0 then -k else k)))|_=> .non) ?_ ?_ ?_
  .intro H2 x g2 hx k hk;exact hk
  .intro H2 x g2 hx _ k hk;obtain⟨y,hy,rfl⟩:=cM.mp hx;exact⟨_,rfl,y,rfl,_,_,rfl,rfl,hk⟩
  intro D hD;have el:(((P'.map V.int).filter λ_=>true).map λx=>match x with | .int k=>V.bl (decide ((1000000:Int)<=(if k<0 then -k else k)))|_=>V.non)=(P'.map λk=>decide ((1000000:Int)<=(if k<0 then -k else k))).map V.bl:=by
   rw[wz.mpr (by simp),fj,fj];rfl
  rw[el];refine⟨D,_,rfl,aq.of aA,_,rfl,?_⟩;refine cG (λc=>⟨(by show 1<=sizeLine;decide),q2 ?_ _ (Same.new hD _)⟩) (λc=>q1 (λx hx=>?_) _ (Same.new hD _))
  .obtain⟨b,hb,e⟩:=tH.mp c;obtain⟨x,hx,rfl⟩:=cM.mp hb;refine⟨x,hx,?_⟩;have:(1000000:Int)<=(if x<0 then -x else x):=of_decide_eq_true e;split at this<;>omega
  .by_cases z:x.natAbs<1000000
   .exact z
   .refine absurd (tH.mpr ⟨true,cM.mpr ⟨x,hx,decide_eq_true ?_⟩,rfl⟩) c;split<;>omega
theorem afU(F:Fn K mg "whole_divisors" Lb ["number"]):aer P w K mg base:=by
 refine F.cal Cr (λvs H Q E h=>?_) (λf cdv A outer s H vs Q E hr h=>?_)
 .obtain⟨n,rfl,_⟩:=h;rfl
 .obtain⟨n,rfl,hn,q⟩:=h;refine⟨_,(au (aD (i:=1) Cr.nd rfl (Or.inl rfl) (fB aj))
   (au (aD (i:=2) Cr.nd rfl (Or.inl rfl) (fB aj))
   (au (aD (i:=3) Cr.nd rfl (Or.inl rfl) ak)
   (au (oY PassesOwn.never (bB Mj (aB v_mul (pv 3) (pv 3)) (pv 0) (aZ _))
   (au (cW (bB (fK K hr) (aB d9 (pv 0) (pv 3)) ak (aZ _))
   (au (n6 (vC K (pv 1) (pv 3)))
   (aF (cW (bB tZ (aB v_mul (pv 3) (pv 3)) (pv 0) (aZ _))
   (aF (n6 (vC K (pv 2) (aB vJ (pv 0) (pv 3)))))
   cZ)))
   cZ)
   (aF (aD (i:=3) Cr.nd rfl (Or.inl rfl) (aB (dB K) (pv 3) ak)))))
   (aF (aX (aB (dB K) (pv 1) (afy rfl rfl B.xU rfl B.aej (ao (pv 2) aj))))))))),?_⟩
  refine⟨cJ _,λls hls=>?_⟩;have g1:=Same.new hls (.lst []);refine⟨cJ _,λlg Ib=>?_⟩;have hne:ls≠lg:=λz=>by rw[z,aA]at Ib;cases Ib
  have g2:=Same.new Ib (.lst []);have h1:(upd (upd H ls (.lst [])) lg (.lst [])) ls=some (.lst (([]:List Int).map V.int)):=g2 _ _ aA;have h2:(upd (upd H ls (.lst [])) lg (.lst [])) lg=some (.lst (([]:List Int).map V.int)):=aA;have aop:H lg=none:=g1.free Ib;have iu:=g1.trans g2;generalize upd (upd H ls (.lst [])) lg (.lst [])=H2 at h1 h2 iu;refine⟨λm σ' H'=>∃(t:Nat) (s g:List Int),m=n+2-t/\1<=t/\t<=n+1/\σ'=[some (.int n),some (.ref ls),some (.ref lg),some (.int (t:Int))]/\Same H H'/\H' ls=some (.lst (s.map V.int))/\H' lg=some (.lst (g.map V.int))/\s.length+g.length<=2*t/\s.length<=t/\g.length<=t/\(t-1)*(t-1)<=n/\Pm.o9 n (n+2-t) t s g=Pm.divs n,
   ⟨_,1,[],[],rfl,aN _,by omega,rfl,iu,h1,h2,by decide,by decide,by decide,by omega,rfl⟩,?_⟩
  rintro m σ' H' ⟨t,s1,g,rfl,ht1,htn,rfl,gg,hs,hg,lsg,lss,lgg,Il,hw⟩;have YV:t<=1001:=by
   by_cases c:t<=1001
   .exact c
   .have:1001*1001<=(t-1)*(t-1):=jh (by omega) (by omega);omega
  refine⟨_,rfl,_,rfl,mulR (by omega) (by omega),_,rfl,_,_,rfl,rfl,_,rfl,?_⟩;obtain⟨f,hf⟩:∃f,n+2-t=f+1:=⟨n+1-t,by omega⟩;have hf2:n+2-(t+1)=f:=by omega
  rw[hf]at hw;unfold Pm.o9 at hw;have htt:((t:Int)*(t:Int))=((t*t:Nat):Int):=(Int.natCast_mul ..).symm;have hts:t<=t*t:=Qa t ht1;rw[htt];refine cG (λc=>?_) (λc=>?_)
  .have c':t*t<=n:=by have:=dec_true c;omega
   rw[if_pos c']at hw;have tn:t<=n:=by omega
   refine⟨_,λ_ _ z=>z,?_⟩;refine⟨_,rfl,_,rfl,_,_,rfl,rfl,(by omega:(0:Int)<(t:Int)),_,rfl,?_⟩;have em:((n:Int)%(t:Int))=((n%t:Nat):Int):=(Ge ..).symm;rw[em];have Ls:(t+1-1)*(t+1-1)<=n:=by rw[dY];exact c'
   refine cG (λc2=>?_) (λc2=>?_)
   .have c2':n%t=0:=by have:=dec_true c2;omega
    rw[if_pos c2']at hw;refine⟨_,rfl,.inl ⟨rfl,_,aq.of hs⟩,_,rfl,ls,_,_,rfl,rfl,hs,(by rw[aG];exact n8 lss (n8 YV (by decide))),?_⟩;dsimp only;rw[<-xQ];have ga:=gg.upd hls (.lst ((s1++[(t:Int)]).map V.int));have hs2:(upd H' ls (.lst ((s1++[(t:Int)]).map V.int))) ls=some (.lst ((s1++[(t:Int)]).map V.int)):=aA;have hg2:(upd H' ls (.lst ((s1++[(t:Int)]).map V.int))) lg=some (.lst (g.map V.int)):=by rw[cC hne.symm];exact hg
    generalize upd H' ls (.lst ((s1++[(t:Int)]).map V.int))=H3 at ga hs2 hg2;refine⟨_,rfl,_,rfl,mulR (by omega) (by omega),_,rfl,_,_,rfl,rfl,_,rfl,?_⟩;rw[htt];refine cG (λc3=>?_) (λc3=>?_)
    .have tW:t*t<n:=by have:=dec_true c3;omega
     rw[if_pos tW]at hw;refine⟨_,rfl,.inl ⟨rfl,_,aq.of hg2⟩,_,rfl,_,rfl,_,_,rfl,rfl,⟨(by omega:(0:Int)<(t:Int)),(by omega:(t:Int)<1073741824)⟩,lg,_,_,rfl,rfl,hg2,(by rw[aG];exact n8 lgg (n8 YV (by decide))),?_⟩;dsimp only;have ed:((n:Int)/(t:Int))=((n/t:Nat):Int):=(Int.natCast_ediv ..).symm;rw[ed,<-xQ];refine⟨_,rfl,?_⟩;refine⟨f,by omega,t+1,s1++[(t:Int)],g++[((n/t:Nat):Int)],by omega,by omega,by omega,rfl,ga.upd aop _,(by rw[cC hne];exact hs2),aA,?_,?_,?_,Ls,(by rw[hf2];exact hw)⟩
     .rw[fJ,fJ];show s1.length+1+(g.length+1)<=_;omega
     .rw[fJ];show s1.length+1<=_;omega
     .rw[fJ];show g.length+1<=_;omega
    .have tW:¬t*t<n:=by have:=dec_false c3;omega
     rw[if_neg tW]at hw;refine⟨_,rfl,?_⟩;refine⟨f,by omega,t+1,s1++[(t:Int)],g,by omega,by omega,by omega,rfl,ga,hs2,hg2,?_,?_,by omega,Ls,(by rw[hf2];exact hw)⟩
     .rw[fJ];show s1.length+1+g.length<=_;omega
     .rw[fJ];show s1.length+1<=_;omega
   .have c2':¬n%t=0:=by have:=dec_false c2;omega
    rw[if_neg c2']at hw;refine⟨_,rfl,?_⟩;exact⟨f,by omega,t+1,s1,g,by omega,by omega,by omega,rfl,gg,hs,hg,by omega,by omega,by omega,Ls,(by rw[hf2];exact hw)⟩
  .have c':¬t*t<=n:=by have:=dec_false c;omega
   rw[if_neg c']at hw;refine⟨_,rfl,_,rfl,lg,_,rfl,hg,λl1 hl1=>?_⟩;have g3:=Same.new hl1 (.lst (g.map V.int).reverse);have hs3:=g3 _ _ hs;have h3:(upd H' l1 (.lst (g.map V.int).reverse)) l1=some (.lst (g.reverse.map V.int)):=by rw[aA,List.map_reverse]
   generalize upd H' l1 (.lst (g.map V.int).reverse)=H3 at g3 hs3 h3;refine .inl ⟨_,_,hs3,h3,?_,λl2 hl2=>?_⟩
   .rw[aG,aG,qQ];exact iT (show s1.length+g.length<=5000 by omega) (by decide)
   refine q l2 _ (gg.trans (g3.trans (Same.new hl2 _))) ?_ ?_
   .rw[aA,<-jq,hw]
   .rw[<-hw,fJ,qQ];omega
theorem aif(F:Fn K mg "perhaps_roots" QJ ["poly"])(SJ:aer P w K mg base):Ww P w K mg base:=by
 refine F.cal Fd (λvs H Q E h=>?_) (λf cdv A outer s H vs Q E hr h=>?_)
 .obtain⟨a,P,rfl,_⟩:=h;rfl
 .obtain⟨a,P',rfl,hA,zP,hx,hs,q⟩:=h;refine⟨_,(au (aD (i:=1) Fd.nd rfl (Or.inl rfl) (aO (aQ K) (fY (sc:=amh) (N:=["number"]) (ix:=[none]) dI rfl (d7 K (pv 0)) (λcl C s₀ H₀ ex=>⟨(aV (i:=0) cX rfl (Or.inl rfl)),(Zm (bB (iU K hr) (pv 0) ak (aZ _))),(pv 0)⟩)) ak (λ_ _=>rfl)))
   (au (aD (i:=2) Fd.nd rfl (Or.inl rfl) (aL SJ hr rfl (aM (bZ Ab rfl B.zy boot_abs (ao (pv 1) aj)) aj)))
   (au (pH (i:=3) (hN:=Fd.nd) (hi':=rfl) (hx:=(Or.inl rfl)) (sc:=atG) (N:=["divisor"]) (ix:=[none]) dI rfl (ag7 K rfl B.aej (ao (pv 2) aj)) (λcl C s₀ H₀ ex=>⟨(aV (i:=0) cX rfl (Or.inl rfl)),dW,(aB cO ak (pv 0))⟩))
   (aF (aX (aB (dB K) (aB (dB K) (pv 3) (fB (bU ak aj))) (pv 2))))))),?_⟩
  refine⟨_,rfl,a,rfl,.inr ⟨⟨_,aC.of hA⟩,?_⟩⟩;refine vd (PB (aC.of hA)) (by rw[aG];exact fX (eE (by omega))) rfl (λx=>match x with | .int k=>decide (k≠0)|_=>false) (λx=>x) ?_ ?_ ?_
  .intro H2 x g2 hx k hk;obtain⟨y,hy,rfl⟩:=cM.mp hx;refine⟨_,rfl,_,rfl,?_⟩;have e:(not (decide (y=0)))=decide (y≠0):=by by_cases z:y=0<;>simp[z]
   rw[e];exact hk
  .intro H2 x g2 hx _ k hk;exact⟨_,rfl,hk⟩
  intro D hD;have el:(((P'.map V.int).filter λx=>match x with | .int k=>decide (k≠0)|_=>false).map λx=>x)=(P'.filter λx=>decide (x≠0)).map V.int:=by
   rw[List.map_id',List.filter_map];rfl
  rw[el];have hlow:Pm.gH P'=(P'.filter λx=>decide (x≠0)).headD 0:=rfl;obtain⟨y0,ys,hf⟩:∃y0 ys,(P'.filter λx=>decide (x≠0))=y0::ys:=by
   cases e:P'.filter λx=>decide (x≠0)with
   |nil=>
    obtain⟨x,hx1,hx2⟩:=hx;exact absurd (decide_eq_true hx2) (Wy.mp e x hx1)
   |cons y ys=>exact⟨y,ys,rfl⟩
  have hy0:y0∈P':=(rJ.mp (hf▸cQ ..:y0∈P'.filter λx=>decide (x≠0))).1;rw[hf,List.headD_cons]at hlow;rw[hf];have g1:=Same.new hD (.lst ((y0::ys).map V.int));refine⟨_,.int y0,.inl (aq.of aA),fQ (ns:=y0::ys) (by decide) (by show(0:Int)<((ys.length+1:Nat):Int);omega),?_⟩;generalize upd H D (.lst ((y0::ys).map V.int))=H1 at g1;have hsm:=hs y0 hy0;have ea:(if y0<0 then -y0 else y0)=((y0.natAbs:Nat):Int):=by split<;>omega
  refine⟨_,rfl,y0,rfl,?_⟩;refine⟨y0.natAbs,(by rw[ea];rfl),by omega,λla H2 g2 h2 ld=>?_⟩;have ln2:((Pm.divs y0.natAbs).map V.int).reverse.length=(Pm.divs y0.natAbs).length:=by rw[qQ,aG]
  refine⟨_,rfl,la,(Pm.divs y0.natAbs).map V.int,rfl,aq.of h2,?_⟩;refine vd (asd (aq.of h2)) (by rw[ln2];exact iT ld (by decide)) rfl (λ_=>true) (λx=>match x with | .int k=> .int (0-k)|_=> .non) ?_ ?_ ?_
  .intro H3 x g3 hx k hk;exact hk
  .intro H3 x g3 hx _ k hk;obtain⟨y,hy,rfl⟩:=cM.mp (pX.mp hx);exact⟨_,rfl,_,_,rfl,rfl,hk⟩
  intro D2 hD2;have el2:((((Pm.divs y0.natAbs).map V.int).reverse.filter λ_=>true).map λx=>match x with | .int k=>V.int (0-k)|_=>V.non)=((Pm.divs y0.natAbs).reverse.map λx=>0-x).map V.int:=by
   rw[wz.mpr (by simp),<-List.map_reverse,fj,fj];rfl
  rw[el2];have g3:=Same.new hD2 (.lst (((Pm.divs y0.natAbs).reverse.map λx=>0-x).map V.int));have h3:(upd H2 D2 (.lst (((Pm.divs y0.natAbs).reverse.map λx=>0-x).map V.int))) D2=some (.lst (((Pm.divs y0.natAbs).reverse.map λx=>0-x).map V.int)):=aA;have h23:=g3 _ _ h2;generalize upd H2 D2 (.lst (((Pm.divs y0.natAbs).reverse.map λx=>0-x).map V.int))=H3 at g3 h3 h23;refine⟨_,rfl,(by show 1<=sizeLine;decide),λl0 hl0=>?_⟩;have g4:=Same.new hl0 (.lst [.int 0]);have h4:(upd H3 l0 (.lst [.int 0])) l0=some (.lst [.int 0]):=aA;have Yp:=g4 _ _ h3;have Wo:=g4 _ _ h23;generalize upd H3 l0 (.lst [.int 0])=H4 at g4 h4 Yp Wo;have lb:(((Pm.divs y0.natAbs).reverse.map λx=>0-x).map V.int).length=(Pm.divs y0.natAbs).length:=by rw[aG,aG,qQ]
  refine .inl ⟨_,_,Yp,h4,?_,λl1 hl1=>?_⟩
  .rw[lb];exact iT (show _+1<=5000 by omega) (by decide)
  have g5:=Same.new hl1 (.lst (((Pm.divs y0.natAbs).reverse.map λx=>0-x).map V.int++[.int 0]));have h5:(upd H4 l1 (.lst (((Pm.divs y0.natAbs).reverse.map λx=>0-x).map V.int++[.int 0]))) l1=some (.lst (((Pm.divs y0.natAbs).reverse.map λx=>0-x).map V.int++[.int 0])):=aA;have Yl:=g5 _ _ Wo;generalize upd H4 l1 (.lst (((Pm.divs y0.natAbs).reverse.map λx=>0-x).map V.int++[.int 0]))=H5 at g5 h5 Yl;refine⟨_,rfl,.inl ⟨_,_,h5,Yl,?_,λl2 hl2=>?_⟩⟩
  .rw[fJ,lb,aG];exact iT (show(Pm.divs y0.natAbs).length+1+(Pm.divs y0.natAbs).length<=5000 by omega) (by decide)
  have ec:Pm.cands P'=((Pm.divs y0.natAbs).reverse.map λx=>0-x)++[0]++Pm.divs y0.natAbs:=by unfold Pm.cands;rw[hlow]
  refine q l2 _ (g1.trans (g2.trans (g3.trans (g4.trans (g5.trans (Same.new hl2 _)))))) ?_ ?_
  .rw[aA,ec,jq,jq];rfl
  .rw[ec,fJ,fJ,aG,qQ];show _+1+_<=_;omega
theorem apo(F:Fn K mg "divided_out" NW ["poly","root"])(nQ:Bo P w K mg base):abx P w K mg base:=by
 refine F.cal yg (λvs H Q E h=>?_) (λf cdv A outer s H vs Q E hr h=>?_)
 .obtain⟨a,r,P,u,rfl,_⟩:=h;rfl
 .obtain⟨a,r,P',u,rfl,hA,zP,hP,hrb,bP,hu,q⟩:=h;refine⟨_,(au (aD (i:=2) yg.nd rfl (Or.inl rfl) ak)
   (au (aD (i:=3) yg.nd rfl (Or.inl rfl) (pv 0))
   (au (aD (i:=4) yg.nd rfl (Or.inl rfl) (aL nQ hr rfl (bU ak (ao (pv 3) (WW (fM (dX (aB cO ak (pv 1)) (bU ak aj))) aj)))))
   (au (oY PassesOwn.never (bB (fK K hr) (aO (aQ K) (pv 4) ak (λ_ _=>rfl)) (fM aj) (aZ _))
   (au (aD (i:=2) yg.nd rfl (Or.inl rfl) (aB (dB K) (pv 2) ak))
   (au (aD (i:=3) yg.nd rfl (Or.inl rfl) (aO (aQ K) (pv 4) ak (λ_ _=>rfl)))
   (aF (aD (i:=4) yg.nd rfl (Or.inl rfl) (aL nQ hr rfl (bU ak (ao (pv 3) (WW (fM (dX (aB cO ak (pv 1)) (bU ak aj))) aj)))))))))
   (aF (aX (fM (ao (pv 2) (ao (pv 3) aj))))))))),?_⟩
  have hM:Pm.Mon [0-r,1]:=⟨by show 0<2;decide,rfl⟩;have bM:∀x∈[0-r,1],Rm.Bd 124000 x:=λx hx=>by
   rcases cj.mp hx with rfl|hx
   .have:Rm.Bd 40 (0-r):=by unfold Rm.Bd at hrb ⊢;omega
    exact this.mono (by decide)
   .rw[cP.mp hx];exact(Rm.Bd.of (n:=10) (by omega) (by omega)).mono (by decide)
  have one:∀{H1:Hp} {tl:Addr} {L:List Int} {Q1:VK} {E1:XK} {tm:Addr},H1 tl=some (.tup (L.map V.int))->H1 tm=some (.tup ([0-r,1].map V.int))->L.length<=40->(∀x∈L,Rm.Bd 200000 x)->(∀t x y H2,Same H1 H2->H2 t=some (.tup [.ref x,.ref y])->H2 x=some (.tup ((Pm.gW L r).map V.int))->H2 y=some (.tup ((Pm.trim [Pm.oW L r]).map V.int))->Q1 (.ref t) H2)->acr [.int 0,.ref tl,.ref tm] H1 Q1 E1:=λ{H1 tl L Q1 E1 tm} h1 h2 zL bL hq=>by
   refine⟨0,tl,tm,L,[0-r,1],rfl,by decide,by decide,h1,h2,zL,(by show 2<=40;decide),hM,λk=>Rm.bh _,(λx hx=>(bL x hx).mono (by decide)),bM,λt x y o l H2 g2 hT hX hY D _ _ _=>?_⟩;obtain⟨rfl,rfl⟩:=D.uniq hM (Pm.QB L r);exact hq t x y H2 g2 hT hX hY
  refine⟨_,rfl,?_⟩;refine⟨_,rfl,_,rfl,_,_,rfl,rfl,(by show 2<=sizeLine;decide),λtm Ub=>?_⟩;have g0:=Same.new Ub (.tup ([0-r,1].map V.int));refine one (g0 _ _ hA) aA zP (λx hx=>(bP x hx).mono (by omega)) λtt x y H1 g1 hT hX hY=>?_;refine⟨λm σ' H'=>∃(i:Nat) (L:List Int) (tl tt x y:Addr),m=L.length/\σ'=[some (.ref a),some (.int r),some (.int (i:Int)),some (.ref tl),some (.ref tt)]/\Same H H'/\H' tl=some (.tup (L.map V.int))/\H' tt=some (.tup [.ref x,.ref y])/\H' x=some (.tup ((Pm.gW L r).map V.int))/\H' y=some (.tup ((Pm.trim [Pm.oW L r]).map V.int))/\Pm.Mon L/\L.length+i=P'.length/\(Pm.outF P'.length P' r).1=(Pm.outF L.length L r).1+i/\(Pm.outF P'.length P' r).2=(Pm.outF L.length L r).2/\∀z∈L,Rm.Bd (u+i*1640) z,
   ⟨_,0,P',a,tt,x,y,rfl,rfl,g0.trans g1,g1 _ _ (g0 _ _ hA),hT,hX,hY,hP,rfl,rfl,rfl,λz hz=>(bP z hz).mono (by omega)⟩,?_⟩
  rintro m σ' H' ⟨i,L,tl,tt,x,y,rfl,rfl,gg,hL,hT,hX,hY,hMo,hlen,o1,o2,bL⟩;have hi:u+i*1640<=200000:=by
   have:i*1640<=P'.length*1640:=lW _ (by omega);omega
  refine⟨_,rfl,_,_,.inr (aC.of hT),rfl,?_⟩;refine⟨cJ _,λt0 ht0=>?_⟩;have g2:=Same.new ht0 (.tup []);refine wY (ns:=Pm.trim [Pm.oW L r]) (ms:=[]) (aC.of (g2 _ _ hY)) (aC.of aA) ⟨_,rfl,?_⟩;have hX2:=g2 _ _ hX;have hT2:=g2 _ _ hT;have hL2:=g2 _ _ hL;have Oc:=gg.trans g2;generalize upd H' t0 (.tup [])=H2 at hX2 hT2 hL2 Oc;have et:Pm.trim [Pm.oW L r]=[]↔Pm.oW L r=0:=by
   rw[Pm.trim,Pm.trim];by_cases z:Pm.oW L r=0
   .rw[if_pos ⟨z,rfl⟩];exact⟨λ_=>z,λ_=>rfl⟩
   .rw[if_neg (λw=>z w.1)];exact⟨λw=>(by cases w),λw=>absurd w z⟩
  refine cG (λc=>?_) (λc=>?_)
  .have hz:=et.mp (dec_true c);have h2:2<=L.length:=by
    by_cases z:2<=L.length
    .exact z
    .exact absurd hz (Pm.JT hMo (by omega) r)
   obtain⟨m1,l1⟩:=Pm.G5 (r:=r) hMo h2;have bQ:∀z∈Pm.gW L r,Rm.Bd (u+(i+1)*1640) z:=λz hz=>(Pm.PL hrb bL z hz).mono (by
    have:L.length*(40+1)<=40*41:=lW _ (by omega);rw[pW];omega)
   have hi1:u+(i+1)*1640<=200000:=by
    have:(i+1)*1640<=P'.length*1640:=lW _ (by omega);omega
   have eo:Pm.outF L.length L r=((Pm.outF (Pm.gW L r).length (Pm.gW L r) r).1+1,(Pm.outF (Pm.gW L r).length (Pm.gW L r) r).2):=by
    obtain⟨k,hk⟩:∃k,L.length=k+1:=⟨L.length-1,by omega⟩;rw[l1,hk,dY,Pm.outF,if_pos hz]
   refine⟨_,λ_ _ z=>z,?_⟩;refine⟨_,rfl,?_⟩;refine⟨_,rfl,_,_,.inr (aC.of hT2),rfl,?_⟩;refine⟨_,rfl,_,rfl,_,_,rfl,rfl,(by show 2<=sizeLine;decide),λtm Ub=>?_⟩;have g3:=Same.new Ub (.tup ([0-r,1].map V.int));refine one (g3 _ _ hX2) aA (by omega) (λz hz=>(bQ z hz).mono hi1) λtt' x' y' H3 g4 hT' hX' hY'=>?_;refine⟨(Pm.gW L r).length,by omega,i+1,Pm.gW L r,x,tt',x',y',rfl,?_,Oc.trans (g3.trans g4),g4 _ _ (g3 _ _ hX2),hT',hX',hY',m1,by omega,?_,?_,bQ⟩
   .rw[Int.natCast_add];rfl
   .rw[o1,eo];show _+1+i=_+(i+1);omega
   .rw[o2,eo]
  .have hz:¬Pm.oW L r=0:=λw=>(dec_false c) (et.mpr w);have eo:Pm.outF L.length L r=(0,L):=by
    cases hl:L.length with
    |zero=>rfl
    |succ k=>rw[Pm.outF,if_neg hz]
   rw[eo]at o1 o2;refine⟨_,rfl,_,rfl,(by show 2<=sizeLine;decide),λtz sX=>?_⟩;have gz:=Same.new sX (.tup [.int (i:Int),.ref tl]);refine q tz tl _ (Oc.trans gz) ?_ ?_
   .rw[aA,o1];show some (HO.tup [V.int (i:Int),V.ref tl])=some (HO.tup [V.int ((0+i:Nat):Int),V.ref tl]);rw[Cg]
   .rw[o2];exact gz _ _ hL2
theorem aoM(F:Fn K mg "whole_roots" Tp ["poly"])(Ph:ac7 P w K mg base dN)(M9:Ww P w K mg base)(Tt:abx P w K mg base):Mq P w K mg base dN:=by
 refine F.Ii Ac (λvs H Q E h=>?_) (λf cdv A outer s H vs Q E hr h=>?_)
 .obtain⟨a,P,rfl,_⟩:=h;rfl
 .obtain⟨a,P',rfl,hA,zP,hP,q1,q2⟩:=h;refine⟨_,(au (n6 (Nb Ph hr rfl (ao (pv 0) aj)))
   (au (aD (i:=1) Ac.nd rfl (Or.inl rfl) (fB aj))
   (au (aD (i:=2) Ac.nd rfl (Or.inl rfl) (pv 0))
   (au (fZ PassesOwn.leaving rfl (d7 K (aL M9 hr rfl (ao (pv 0) aj))) (aV (i:=3) Ac.nd rfl (Or.inl rfl))
   (au (aD (i:=4) Ac.nd rfl (Or.inl rfl) (aL Tt hr rfl (ao (pv 2) (ao (pv 3) aj))))
   (aF (cW (bB sW (aO (aQ K) (pv 4) ak (λ_ _=>rfl)) ak (aZ _))
   (au (n6 (vC K (pv 1) (fM (ao (pv 3) (aM (aO (aQ K) (pv 4) ak (λ_ _=>rfl)) aj)))))
   (aF (aD (i:=2) Ac.nd rfl (Or.inl rfl) (aO (aQ K) (pv 4) ak (λ_ _=>rfl)))))
   cZ))))
   (aF (aX (fM (ao (pv 1) (ao (pv 2) aj))))))))),?_⟩
  have hx1:∃x∈P',x≠0:=⟨Pm.co P' (P'.length-1),Pm.pN (by have:=hP.pos;omega),by rw[hP.one];decide⟩;refine⟨_,rfl,a,P',rfl,hA,by omega,λhs H1 g1=>?_,λhb H1 g1=>q2 hb H1 g1⟩;refine⟨cJ _,λlr hlr=>?_⟩;have g2:=Same.new hlr (.lst []);have h2:(upd H1 lr (.lst [])) lr=some (.lst []):=aA;have iu:=g1.trans g2;have Tc:H lr=none:=g1.free hlr;generalize upd H1 lr (.lst [])=H2 at g2 h2 iu;refine⟨_,rfl,?_⟩;refine⟨_,rfl,a,P',rfl,iu _ _ hA,by omega,hx1,hs,λlc H3 g3 h3 hcl=>?_⟩;refine⟨lc,rfl,.inl ⟨⟨_,aq.of h3⟩,?_⟩⟩;have h23:=g3 _ _ h2;have rP:=iu.trans g3;have b0:∀z∈P',Rm.Bd 20 z:=λz hz=>by
   have:=hs z hz;exact Rm.Bd.of (by omega) (by omega)
  have hcm:∀z∈Pm.cands P',Rm.Bd 40 z:=asp hs;refine Io (xs:=(Pm.cands P').map V.int) (λi σ' H'=>∃(o3 o4:Option V) (tl:Addr) (L:List Int) (rs:List (List Int)) (xs:List V),σ'=[some (.ref a),some (.ref lr),some (.ref tl),o3,o4]/\Same H H'/\H' lc=some (.lst ((Pm.cands P').map V.int))/\H' lr=some (.lst xs)/\cT H' xs rs/\H' tl=some (.tup (L.map V.int))/\Pm.Mon L/\L.length<=P'.length/\(∀z∈L,Rm.Bd (20+(P'.length-L.length)*1640) z)/\xs.length<=i/\Pm.oE ((Pm.cands P').drop i) rs L=Pm.wr P')
   ⟨_,_,a,P',[],[],rfl,rP,h3,h23,.nil,rP _ _ hA,hP,aN _,λz hz=>(b0 z hz).mono (by omega),aN _,rfl⟩ (λi σ' H' ⟨_,_,_,_,_,_,_,_,z,_⟩=>aq.of z) ?_ ?_
  .rintro i x σ' H4 hx ⟨o3,o4,tl,L,rs,xs,rfl,g4,hc4,BR,rQ,Ad,Je,hle,GF,Vw,hw⟩;obtain⟨rfl,hi⟩:=mH hx;obtain⟨c,hcd⟩:∃c,c=Pm.co (Pm.cands P') i:=⟨_,rfl⟩;rw[<-hcd];have hcB:Rm.Bd 40 c:=hcm c (hcd▸Pm.pN hi);have ed:(Pm.cands P').drop i=c::(Pm.cands P').drop (i+1):=by
    rw[hcd,List.drop_eq_getElem_cons hi,<-Pm.iV hi]
   rw[ed,Pm.oE]at hw;have hu:20+(P'.length-L.length)*1640+L.length*1640<=200000:=by
    have:(P'.length-L.length)*1640+L.length*1640<=13*1640:=by rw[<-Kg];exact lW _ (by omega)
    omega
   have hok:=Pm.abg hcB L.length (u:=20+(P'.length-L.length)*1640) Je (by omega) GF;refine⟨_,rfl,_,rfl,tl,c,L,20+(P'.length-L.length)*1640,rfl,Ad,by omega,Je,hcB,GF,hu,λt tl' H5 g5 ht htl=>?_⟩;generalize ho:Pm.outF L.length L c=oo at hw hok ht htl;obtain⟨o1,o2⟩:=oo;obtain⟨ok1,ok2,Nf⟩:=hok;replace ok2:o2.length+o1=L.length:=ok2;have IL:=g5 _ _ BR;refine⟨_,rfl,_,_,.inr (aC.of ht),rfl,_,_,rfl,rfl,_,rfl,?_⟩;have auA:∀b ts,H5 b=some (HO.tup ts)->b≠lr:=λb ts e z=>by rw[z,IL]at e;cases e
   refine cG (λcc=>?_) (λcc=>?_)
   .have c':0<o1:=by have:=dec_true cc;omega
    rw[if_pos c']at hw;refine⟨_,rfl,.inl ⟨rfl,_,aq.of IL⟩,_,rfl,_,rfl,_,_,.inr (aC.of ht),rfl,(by show 2<=sizeLine;decide),λtp htp=>?_⟩;have g6:=Same.new htp (.tup [.int c,.int (o1:Int)]);have h6:(upd H5 tp (.tup [.int c,.int (o1:Int)])) tp=some (.tup [.int c,.int (o1:Int)]):=aA;have Bb:=g6 _ _ IL;have vG:=g6 _ _ ht;have GZ:=g6 _ _ htl;have hc6:=g6 _ _ (g5 _ _ hc4);have uy:=(rQ.same g5).same g6;have u5:=g4.trans (g5.trans g6);generalize upd H5 tp (.tup [.int c,.int (o1:Int)])=H6 at g6 h6 Bb vG GZ hc6 uy u5;have hlc:lc≠lr:=λz=>by
     rw[z,h23]at h3;have e1:(Pm.cands P').map V.int=[]:=by injection h3 with h3;injection h3 with h3;exact h3.symm
     have e2:=congrArg List.length e1;rw[aG]at e2;simp at e2;rw[e2]at hi;exact absurd hi (by simp)
    refine⟨lr,_,_,rfl,rfl,Bb,(n8 Vw (jd hi (iT hcl (by decide)))),?_⟩;have tU:cT (upd H6 lr (.lst (xs++[.ref tp]))) (xs++[.ref tp]) (rs++[[c,(o1:Int)]]):=cT.append (uy.set Bb) (.cons (by rw[cC (λz=>by rw[z,Bb]at h6;cases h6)];exact h6) .nil);refine⟨_,rfl,_,_,.inr (aC.of (by rw[cC (λz=>by rw[z,Bb]at vG;cases vG)];exact vG)),rfl,?_⟩;refine⟨some (.int c),some (.ref t),tl',o2,rs++[[c,(o1:Int)]],xs++[.ref tp],rfl,u5.upd Tc _,(by rw[cC hlc];exact hc6),aA,tU,(by rw[cC (λz=>by rw[z,Bb]at GZ;cases GZ)];exact GZ),ok1,by omega,λz hz=>(Nf z hz).mono ?_,by rw[fJ];show xs.length+1<=_;omega,hw⟩;have:o1*1640+(P'.length-L.length)*1640=(P'.length-o2.length)*1640:=by rw[<-Kg];congr 1;omega
    omega
   .have c':¬0<o1:=by have:=dec_false cc;omega
    rw[if_neg c']at hw;exact⟨some (.int c),some (.ref t),tl,L,rs,xs,rfl,g4.trans g5,g5 _ _ hc4,IL,rQ.same g5,g5 _ _ Ad,Je,hle,GF,by omega,hw⟩
  .rintro σ' H4 ⟨o3,o4,tl,L,rs,xs,rfl,g4,hc4,BR,rQ,Ad,Je,hle,GF,Vw,hw⟩;rw[aG,List.drop_length,Pm.oE]at hw;refine⟨_,rfl,_,rfl,(by show 2<=sizeLine;decide),λtz sX=>?_⟩;have gz:=Same.new sX (.tup [.ref lr,.ref tl]);refine q1 hs tz lr tl xs _ (g4.trans gz) aA (gz _ _ BR) Tc ?_ ?_
   .rw[<-hw];exact rQ.same gz
   .rw[<-hw];exact gz _ _ Ad
theorem aqM(F:Fn K mg "refuse_prime" PN ["row"]):abb P w K mg base eO:=by
 refine F.Ii ajH (λvs H Q E h=>?_) (λf cdv A outer s H vs Q E hr h=>?_)
 .obtain⟨v,r,rfl,_⟩:=h;rfl
 .obtain⟨v,r,rfl,⟨a,p,p2,rfl,hA,hR,hS⟩,q1,q2⟩:=h;refine⟨_,(aF (cW (bB (iU K hr) (aO (aQ K) (pv 0) ak (λ_ _=>rfl)) ak (aZ _))
   (aF (XR M.afE rfl (bU DP aj)))
   cZ)),?_⟩
  refine⟨_,rfl,_,_,.inr (aC.of hA),rfl,_,rfl,?_⟩;refine cG (λc=>⟨(by show 1<=sizeLine;decide),q2 λz=>?_⟩) (λc=>q1 ?_)
  .rw[z]at c;exact absurd c (by decide)
  .by_cases z:r.b=0
   .exact z
   .exact absurd (by rw[decide_eq_false z];rfl) c
theorem ane(F:Fn K mg "power" Kc ["number","exponent"]):ZX P w K mg base:=by
 refine F.cal Fv (λvs H Q E h=>?_) (λf cdv A outer s H vs Q E hr h=>?_)
 .obtain⟨a,e,u,rfl,_⟩:=h;rfl
 .obtain⟨a,e,u,rfl,e0,e1,hb,hu,q⟩:=h;refine⟨_,(au (aD (i:=2) Fv.nd rfl (Or.inl rfl) ak)
   (au (fZ PassesOwn.never rfl (iJ rfl B.gJ (ao (pv 1) aj)) (aV (i:=3) Fv.nd rfl (Or.inl rfl))
   (aF (aD (i:=2) Fv.nd rfl (Or.inl rfl) (aB v_mul (pv 2) (pv 0)))))
   (aF (aX (pv 2))))),?_⟩
  refine⟨_,rfl,e,rfl,(by omega:-(2^62)<=e),(by omega:e<2^62),?_⟩;refine pq (lo:=0) (n:=e.toNat) (λi σ' H'=>∃o,σ'=[some (.int a),some (.int e),some (.int (a^i)),o]/\H=H') ⟨_,by rw[oB];rfl,rfl⟩ ?_ ?_
  .rintro i σ' H' hi ⟨o,rfl,rfl⟩;exact⟨_,rfl,_,rfl,Vb hb hu (by omega),some (.int (0+(i:Int))),by rw[gZ];rfl,rfl⟩
  .rintro σ' H' ⟨o,rfl,rfl⟩;exact⟨_,rfl,q⟩
theorem ag1(F:Fn K mg "form_line" TR ["roots","n"])(Jh:ZX P w K mg base):Xg P w K mg base:=by
 refine F.cal O1 (λvs H Q E h=>?_) (λf cdv A outer s H vs Q E hr h=>?_)
 .obtain⟨lr,n,xs,l,rfl,_⟩:=h;rfl
 .obtain⟨lr,n,xs,l,rfl,hR,hT,n0,n1,hl,hb,q⟩:=h;refine⟨_,(au (aD (i:=2) O1.nd rfl (Or.inl rfl) (fB aj))
   (au (fZ PassesOwn.never rfl (d7 K (pv 0)) (aV (i:=3) O1.nd rfl (Or.inr rfl))
   (aF (n6 (as4 K (pv 2) (fY (sc:=aiv) (N:=["j","n","pair"]) (ix:=[none,some 1,some 3]) dI rfl (iJ rfl B.gJ (aM (aO (aQ K) (pv 3) ak (λ_ _=>rfl)) aj)) (λcl C s₀ H₀ ex=>⟨(aV (i:=0) cX rfl (Or.inl rfl)),dW,(aB v_mul (aL Jh hr rfl (aM (aO (aQ K) (pv 2) ak (λ_ _=>rfl)) (ao (pv 1) aj))) (aL Jh hr rfl (ao (pv 1) (ao (pv 0) aj))))⟩))))))
   (aF (aX (pv 2))))),?_⟩
  have lx:=hT.len;rw[aG]at lx;refine⟨cJ _,λD hD=>?_⟩;have g0:=Same.new hD (.lst []);have h0:(upd H D (.lst [])) D=some (.lst []):=aA;generalize upd H D (.lst [])=H0 at g0 h0;refine⟨_,rfl,lr,rfl,.inl ⟨⟨_,aq.of (g0 _ _ hR)⟩,?_⟩⟩;refine Io (xs:=xs) (λi σ' H'=>∃o3,σ'=[some (.ref lr),some (.int n),some (.ref D),o3]/\Same H H'/\H' D=some (.lst ((Cf.gF (l.take i) n.toNat).map V.int))) ⟨_,rfl,g0,h0⟩ (λi σ' H' ⟨_,_,g,_⟩=>aq.of (g _ _ hR)) ?_ ?_
  .rintro i x σ' H1 hx ⟨o3,rfl,g1,h1⟩;obtain⟨t,p,rfl,ep,ht⟩:=hT.get hx;obtain⟨⟨r,m⟩,el,rfl⟩:=Km ep;have hm:=hb _ (jF el);have hrb:Rm.Bd 20 r:=hm.1;have auM:m<=10:=hm.2;have ht1:H1 t=some (.tup [.int r,.int (m:Int)]):=g1 _ _ ht;refine⟨_,rfl,.inl ⟨rfl,_,aq.of h1⟩,?_⟩;refine⟨_,rfl,_,_,.inr (aC.of ht1),rfl,(m:Int),rfl,(by omega:-(2^62)<=(m:Int)),(by omega:(m:Int)<2^62),?_⟩;rw[fW];refine vY (n:=m) (by omega) rfl (λj=>r^n.toNat*n^j) ?_ ?_
   .intro H2 k g2 hk kk hkk;refine⟨_,rfl,_,_,.inr (aC.of (g2 _ _ ht1)),rfl,_,rfl,r,n,20,rfl,n0,by omega,hrb,by decide,?_⟩;refine⟨_,rfl,_,rfl,n,0+(k:Int),10,rfl,by omega,by omega,Rm.Bd.of (by omega) (by omega),by decide,?_⟩;rw[show(0+(k:Int)).toNat=k by omega];refine⟨pU (Cf.uw hrb _) (Cf.uw (n:=10) (Rm.Bd.of (by omega) (by omega)) k) (by omega),hkk⟩
   intro D2 hD2;have g2:=Same.new hD2 (.lst ((Pm.aH m λj=>r^n.toNat*n^j).map V.int));have h2:(upd H1 D2 (.lst ((Pm.aH m λj=>r^n.toNat*n^j).map V.int))) D2=some (.lst ((Pm.aH m λj=>r^n.toNat*n^j).map V.int)):=aA;have h12:=g2 _ _ h1;have iu:=g1.trans g2;generalize upd H1 D2 (.lst ((Pm.aH m λj=>r^n.toNat*n^j).map V.int))=H2 at g2 h2 h12 iu;refine⟨D,D2,_,_,rfl,rfl,h12,h2,?_,_,rfl,iu.upd hD _,?_⟩
   .rw[aG,aG,Pm.bG];have:=alq n.toNat (l:=l.take i) (by rw[jl];omega) λx hx=>hb x (QD hx);exact fX (eE (by omega))
   .rw[aA,take_one el,ab1,jq];congr 3;refine congrArg (List.map V.int) ?_;show _=((List.range m).map λj=>r^n.toNat*((n.toNat:Nat):Int)^j)++[];rw[xY,R4 n0];rfl
  .rintro σ' H1 ⟨o3,rfl,g1,h1⟩;rw[pO (by omega)]at h1;exact⟨_,rfl,q D H1 g1 hD h1⟩
theorem arw(F:Fn K mg "parts_of" SW ["roots","tops"]):ad4 P w K mg base:=by
 refine F.cal Ah (λvs H Q E h=>?_) (λf cdv A outer s H vs Q E hr h=>?_)
 .obtain⟨lr,lt,xs,l,us,rfl,_⟩:=h;rfl
 .obtain⟨lr,lt,xs,l,us,rfl,hR,hT,hU,lu,hl,q⟩:=h;refine⟨_,(au (aD (i:=2) Ah.nd rfl (Or.inl rfl) (fB aj))
   (au (aD (i:=3) Ah.nd rfl (Or.inl rfl) ak)
   (au (fZ PassesOwn.never rfl (d7 K (pv 0)) (aV (i:=4) Ah.nd rfl (Or.inl rfl))
   (au (aD (i:=5) Ah.nd rfl (Or.inl rfl) (aB (dB K) (pv 3) (aO (aQ K) (pv 4) ak (λ_ _=>rfl))))
   (au (n6 (vC K (pv 2) (fM (aM (aO (aQ K) (pv 4) ak (λ_ _=>rfl)) (aM (vU (vB K) (pv 1) (sV (pv 3)) (sV (pv 5))) aj)))))
   (aF (aD (i:=3) Ah.nd rfl (Or.inl rfl) (pv 5))))))
   (aF (aX (pv 2)))))),?_⟩
  have lx:=hT.len;rw[aG]at lx;have lU:(us.map V.int).length=us.length:=aG _;refine⟨cJ _,λD hD=>?_⟩;have g0:=Same.new hD (.lst []);have h0:(upd H D (.lst [])) D=some (.lst []):=aA;generalize upd H D (.lst [])=H0 at g0 h0;refine⟨_,rfl,lr,rfl,.inl ⟨⟨_,aq.of (g0 _ _ hR)⟩,?_⟩⟩;refine Io (xs:=xs) (λi σ' H'=>∃o4 o5 ys,σ'=[some (.ref lr),some (.ref lt),some (.ref D),some (.int (Cf.aJ (l.take i):Nat)),o4,o5]/\Same H H'/\H' D=some (.lst ys)/\cF H' [D] ys (Cf.dR (l.take i) us)/\ys.length=i) ⟨_,_,[],rfl,g0,h0,.nil,rfl⟩ (λi σ' H' ⟨_,_,_,_,g,_⟩=>aq.of (g _ _ hR)) ?_ ?_
  .rintro i x σ' H1 hx ⟨o4,o5,ys,rfl,g1,h1,hy,ly⟩;obtain⟨t,p,rfl,ep,ht⟩:=hT.get hx;obtain⟨⟨r,m⟩,el,rfl⟩:=Km ep;have hi:i<l.length:=by
    have:=(uT.mp el).1;exact this
   have ht1:H1 t=some (.tup [.int r,.int (m:Int)]):=g1 _ _ ht;have e2:Cf.aJ (l.take (i+1))=Cf.aJ (l.take i)+m:=by rw[take_one el,yV];rfl
   have e3:=Lq l (i+1);refine⟨_,rfl,_,rfl,_,_,.inr (aC.of ht1),rfl,?_⟩;refine⟨_,rfl,.inl ⟨rfl,_,aq.of h1⟩,?_⟩;refine⟨_,rfl,_,_,.inr (aC.of ht1),rfl,?_⟩;refine⟨_,rfl,_,rfl,_,rfl,_,rfl,_,rfl,.inl ⟨_,aq.of (g1 _ _ hU),λa ha=>?_⟩⟩;have ec:iH (us.map V.int) (some ((Cf.aJ (l.take i):Nat):Int)) (some (((Cf.aJ (l.take i):Nat):Int)+(m:Int)))=((us.drop (Cf.aJ (l.take i))).take m).map V.int:=by
    rw[show((Cf.aJ (l.take i):Nat):Int)+(m:Int)=((Cf.aJ (l.take i)+m:Nat):Int)by omega,atu _ (by omega),show Cf.aJ (l.take i)+m-Cf.aJ (l.take i)=m by omega,xW,List.map_drop]
   rw[ec];have g2:=Same.new ha (.lst (((us.drop (Cf.aJ (l.take i))).take m).map V.int));have h2:(upd H1 a (.lst (((us.drop (Cf.aJ (l.take i))).take m).map V.int))) a=some (.lst (((us.drop (Cf.aJ (l.take i))).take m).map V.int)):=aA;have na:a≠D:=λz=>by rw[z,h1]at ha;cases ha
   have h12:=g2 _ _ h1;have iu:=g1.trans g2;have hy2:=hy.same g2;generalize upd H1 a (.lst (((us.drop (Cf.aJ (l.take i))).take m).map V.int))=H2 at g2 h2 h12 iu hy2;refine⟨(by show 2<=sizeLine;decide),λt2 pF=>?_⟩;have g3:=Same.new pF (.tup [.int r,.ref a]);have h3:(upd H2 t2 (.tup [.int r,.ref a])) t2=some (.tup [.int r,.ref a]):=aA;have h13:=g3 _ _ h12;have h23:=g3 _ _ h2;have rP:=iu.trans g3;have Yy:=hy2.same g3;generalize upd H2 t2 (.tup [.int r,.ref a])=H3 at g3 h3 h13 h23 rP Yy;refine⟨D,_,_,rfl,rfl,h13,eE (by omega),?_⟩;refine⟨_,rfl,?_⟩;refine⟨some (.ref t),some (.int (((Cf.aJ (l.take i):Nat):Int)+(m:Int))),ys++[.ref t2],?_,rP.upd hD _,aA,?_,by rw[fJ];show ys.length+1=i+1;omega⟩
   .rw[e2,Int.natCast_add];rfl
   .rw[take_one el,abu];exact(Yy.append (.cons h3 (λz=>na (cP.mp z)) h23 .nil)).set h13 (cP.mpr rfl)
  .rintro σ' H1 ⟨o4,o5,ys,rfl,g1,h1,hy,ly⟩;rw[pO (by omega)]at hy;exact⟨_,rfl,q D ys H1 g1 hD h1 hy⟩
theorem agE(F:Fn K mg "column_of" NV ["table","column"]):abh P w K mg base:=by
 refine F.cal afR (λvs H Q E h=>?_) (λf cdv A outer s H vs Q E hr h=>?_)
 .exact False.elim h
 .exact False.elim h
theorem aqt(F:Fn K mg "paper_against" Ra ["by","wide","table","wished"])(abF:abh P w K mg base)(Dn:MJ P w K mg base):Xj P w K mg base:=by
 refine F.cal af3 (λvs H Q E h=>?_) (λf cdv A outer s H vs Q E hr h=>?_)
 .exact False.elim h
 .exact False.elim h
theorem aiN(F:Fn K mg "solved" Qp ["by","wide","table","wished"])(Dn:MJ P w K mg base)(TY:Xj P w K mg base):W6 P w K mg base:=by
 refine F.cal adF (λvs H Q E h=>?_) (λf cdv A outer s H vs Q E hr h=>?_)
 .obtain⟨u,wide,ta,tw,xs,L,ws,ex,rfl,_⟩:=h;rfl
 .obtain⟨u,wide,ta,tw,xs,L,ws,ex,rfl,hA,hx,hW,lw,lL,hw,cap,C9,bL,bW,hI,q⟩:=h;refine⟨_,(au (aD (i:=4) adF.nd rfl (Or.inl rfl) (aL Dn hr rfl (ao (pv 0) (ao (pv 1) (ao (pv 2) (ao (pv 3) aj))))))
   (au (cW (Jp (acv (pv 4)))
   (aF (aX (fM (bU DP (aM (aL TY hr rfl (ao (pv 0) (ao (pv 1) (ao (pv 2) (ao (pv 3) aj))))) aj)))))
   cZ)
   (aF (aX (pv 4))))),?_⟩
  refine⟨_,rfl,_,rfl,_,rfl,_,rfl,u,wide,ta,tw,xs,L,ws,ex,rfl,hA,hx,hW,by omega,by omega,by omega,by rw[lL];exact cap,C9,bL,bW,by rw[lL];exact Cf.auq hI,by rw[lL];exact hI,λbot us so t lt H' g ht hlt=>?_⟩;rw[lL]at so;refine⟨_,rfl,_,rfl,d8 ?_⟩;exact⟨_,rfl,q bot us so t lt H' g ht hlt⟩
theorem ahY(F:Fn K mg "closed" La ["row"])(RV:abb P w K mg base eO)(za:Mq P w K mg base dN)(yN:NP P w K mg base)(KN:Xg P w K mg base)(Qg:W6 P w K mg base)(KZ:ad4 P w K mg base):Yb P w K mg base eO dN:=by
 refine F.Ii yJ (λvs H Q E h=>?_) (λf cdv A outer s H vs Q E hr h=>?_)
 .obtain⟨v,r,rfl,_⟩:=h;rfl
 .obtain⟨v,r,rfl,hR,h0,ok,tm,hat,hsm,qn,qf⟩:=h;refine⟨_,(au (n6 (Nb RV hr rfl (ao (pv 0) aj)))
   (au (aD (i:=1) yJ.nd rfl (Or.inl rfl) (Nb za hr rfl (aM (aL yN hr rfl (ao (pv 0) aj)) aj)))
   (au (aD (i:=2) yJ.nd rfl (Or.inr rfl) (aO (aQ K) (pv 1) ak (λ_ _=>rfl)))
   (au (cW (PW.pt (rH (bB (iU K hr) (aO (aQ K) (pv 1) ak (λ_ _=>rfl)) (fM (bU ak aj)) (aZ _)) (Ed (uD (bZ (Pk K rfl) rfl B.Oo boot_any (aM (fY (sc:=asY) (N:=["pair"]) (ix:=[none]) dI rfl (d7 K (pv 2)) (λcl C s₀ H₀ ex=>⟨(aV (i:=0) cX rfl (Or.inl rfl)),dW,(uO (fK K hr) (aO (aQ K) (pv 0) ak (λ_ _=>rfl)) ak (aZ _))⟩)) aj))))))
   (aF (aX Fw))
   cZ)
   (au (aD (i:=3) yJ.nd rfl (Or.inl rfl) (bZ (Mh K rfl) rfl B.Np boot_sum (aM (fY (sc:=ao5) (N:=["pair"]) (ix:=[none]) dI rfl (d7 K (pv 2)) (λcl C s₀ H₀ ex=>⟨(aV (i:=0) cX rfl (Or.inl rfl)),dW,(aO (aQ K) (pv 0) ak (λ_ _=>rfl))⟩)) aj)))
   (au (pH (i:=4) (hN:=yJ.nd) (hi':=rfl) (hx:=(Or.inl rfl)) (sc:=aqE) (N:=["n","roots"]) (ix:=[none,some 2]) dI rfl (iJ rfl B.gJ (ao (pv 3) aj)) (λcl C s₀ H₀ ex=>⟨(aV (i:=0) cX rfl (Or.inl rfl)),dW,(aL KN hr rfl (ao (pv 1) (ao (pv 0) aj)))⟩))
   (au (aD (i:=5) yJ.nd rfl (Or.inl rfl) (aL Qg hr rfl (bU ak (ao (pv 3) (ao (pv 4) (aM (iB (xlist K) rfl B.xU boot_list (aM (vU (vB K) (aO (aQ K) (pv 0) ak (λ_ _=>rfl)) wB (sV (pv 3))) aj)) aj))))))
   (aF (aX (fM (aM (aO (aQ K) (pv 5) ak (λ_ _=>rfl)) (aM (aL KZ hr rfl (ao (pv 2) (aM (aO (aQ K) (pv 5) ak (λ_ _=>rfl)) aj))) aj)))))))))))),?_⟩
  have hB:j6 r.b:=by rw[h0];exact .inl rfl
  refine⟨_,rfl,v,r,rfl,hR,λ_=>?_,λhne=>absurd h0 hne⟩;refine⟨_,rfl,v,r,rfl,hR,ok,hB,tm,λtL L H1 g1 hL lst ll=>?_⟩;rw[h0]at lst;obtain⟨l7,s7⟩:=hsm L lst;refine⟨tL,L,rfl,hL,by omega,lst.mon,λ_ t lr tl xs H2 g2 ht hlr _ hT htl=>?_,λ⟨x,hx,hx2⟩ H2 g2=>absurd (s7 x hx) (by omega)⟩;obtain⟨l,w1,w2,w3,w4,w5,w6,w7⟩:=Pm.LV lst.mon;have iu:=g1.trans g2;refine⟨_,rfl,_,_,.inr (aC.of ht),rfl,?_⟩;refine⟨_,rfl,_,_,.inr (aC.of ht),rfl,(by show 1<=sizeLine;decide),λt1 ht1=>?_⟩;have g3:=Same.new ht1 (.tup [.int 1]);refine wY (ns:=(Pm.wr L).2) (ms:=[1]) (aC.of (g3 _ _ htl)) (aC.of aA) ⟨_,rfl,?_⟩;by_cases c:(Pm.wr L).2=[1];case neg=>
   rw[decide_eq_false c];refine nq ?_;exact qn L lst (.inl c) _ (iu.trans g3)
  rw[decide_eq_true c];refine d8 ?_;have uZ:=g3 _ _ hlr;have Dr:=hT.same g3;have rP:=iu.trans g3;generalize upd H2 t1 (.tup [.int 1])=H3 at g3 uZ Dr rP;rw[c]at w2;rw[w1]at Dr;have hlen:(Pm.RP l [1]).length=Cf.aJ l+1:=(Cf.qW l).2;have hN:Cf.aJ l<=6:=by rw[<-w2]at hlen;omega
  have E4:=JX w5;have Nq:=Dr.len;rw[aG]at Nq;have two:∀{c:List Int},c∈l.map Pm.gh->∃x∈l,c=[x.1,(x.2:Int)]:=λ{c} hc=>by
   obtain⟨x,hx,rfl⟩:=cM.mp hc;exact⟨x,hx,rfl⟩
  refine⟨_,rfl,lr,rfl,.inl ⟨⟨_,aq.of uZ⟩,?_⟩⟩;refine aii uZ Dr (fX (eE (by omega))) rfl (λx=>decide (x.headD 0=0)) ?_ ?_
  .intro H4 tt cc g4 hcc htt k hk;obtain⟨x,_,rfl⟩:=two hcc;exact⟨_,rfl,_,_,.inr (aC.of htt),rfl,hk⟩
  intro D hD;have g4:=Same.new hD (.lst (((l.map Pm.gh).map λx=>decide (x.headD 0=0)).map V.bl));refine⟨D,_,rfl,aq.of aA,_,rfl,?_⟩;by_cases c2:((l.map Pm.gh).map λx=>decide (x.headD 0=0)).any id=true
  .rw[c2];refine nq ?_;refine qn L lst (.inr ?_) _ (rP.trans g4);obtain⟨b,hb,e⟩:=tH.mp c2;obtain⟨x,hx,rfl⟩:=cM.mp hb;exact⟨x,by rw[w1];exact hx,of_decide_eq_true e⟩
  have c2':((l.map Pm.gh).map λx=>decide (x.headD 0=0)).any id=false:=by
   cases e:((l.map Pm.gh).map λx=>decide (x.headD 0=0)).any id with
   |false=>rfl
   |true=>exact absurd e c2
  rw[c2'];refine d8 ?_;have hne:∀x∈l,x.1≠0:=λx hx z=>c2 (tH.mpr ⟨true,cM.mpr ⟨Pm.gh x,mX hx,decide_eq_true z⟩,rfl⟩);have hrb:=YQ s7 w7;have xM:=g4 _ _ uZ;have rQ:=Dr.same g4;have DF:=rP.trans g4;generalize upd H3 D (.lst (((l.map Pm.gh).map λx=>decide (x.headD 0=0)).map V.bl))=H4 at g4 xM rQ DF;refine⟨_,rfl,lr,rfl,.inl ⟨⟨_,aq.of xM⟩,?_⟩⟩;refine aeN xM rQ (fX (eE (by omega))) rfl (λx=>x.getD 1 0) ?_ ?_
  .intro H5 tt cc g5 hcc htt k hk;obtain⟨x,_,rfl⟩:=two hcc;exact⟨_,rfl,_,_,.inr (aC.of htt),rfl,hk⟩
  intro D2 hD2;have g5:=Same.new hD2 (.lst (((l.map Pm.gh).map λx=>x.getD 1 0).map V.int));have h5:(upd H4 D2 (.lst (((l.map Pm.gh).map λx=>x.getD 1 0).map V.int))) D2=some (.lst (((l.map Pm.gh).map λx=>x.getD 1 0).map V.int)):=aA;have qX:=g5 _ _ xM;have hT5:=rQ.same g5;have EV:=DF.trans g5;generalize upd H4 D2 (.lst (((l.map Pm.gh).map λx=>x.getD 1 0).map V.int))=H5 at g5 h5 qX hT5 EV;have es:=amT l;refine⟨D2,_,rfl,aq.of h5,?_⟩;rw[es];refine⟨_,rfl,(Cf.aJ l:Int),rfl,(by omega:-(2^62)<=((Cf.aJ l:Nat):Int)),(by omega:((Cf.aJ l:Nat):Int)<2^62),?_⟩;rw[fW];refine YF C4 (by rw[aG,qI];omega) rfl (Ez λi=>Cf.gF l i) ?_ ?_
  .intro H6 x g6 hx k hk;obtain⟨j,hj,rfl⟩:=cM.mp hx;have hj':=kW.mp hj;refine⟨_,rfl,_,rfl,lr,0+(j:Int),xs,l,rfl,g6 _ _ qX,hT5.same g6,by omega,by omega,by omega,λx hx=>⟨hrb x hx,?_⟩,λD3 H7 g7 hn7 h7=>hk D3 H7 g7 hn7 h7⟩;have:=E5 hx;omega
  intro D3 ys H6 wJ g6 h6 hy;have et:((List.range (Cf.aJ l)).map λi=>V.int (0+(i:Nat))).map (Ez λi=>Cf.gF l i)=Cf.qj l:=by
   rw[fj];refine wj λi _=>?_;show Cf.gF l (0+(i:Int)).toNat=_;rw[show(0+(i:Int)).toNat=i by omega]
  rw[et]at hy;have u5:=EV.trans g6;obtain⟨xa,xp,xq,rfl,hxA,hxR,O9⟩:=hR.same u5;have lS:(r.starts.map V.int).length=r.rule.length:=by rw[aG];exact ok.len.symm
  have hLr:Cf.aJ l<=r.starts.length:=by
   rw[<-w2]at hlen;have:=ok.len;omega
  have Ky:(r.starts.take (Cf.aJ l)).length=Cf.aJ l:=by rw[jl];omega
  have hco:∀n,n<Cf.aJ l->Pm.co (r.starts.take (Cf.aJ l)) n=r.at n:=λn hn=>by
   have e:r.at n=r.starts.getD n 0:=Rm.xZ (by omega);rw[e];unfold Pm.co;rw[dh,NZ,if_pos hn,<-dh]
  have hd:=Cf.yw w4;have hI:=Cf.ahP (ws:=r.starts.take (Cf.aJ l)) hd hne;have hSz:Dm.Ag (Cf.aJ l) 600:=⟨by decide,by
   have:(Cf.aJ l+1)*(600+(Cf.aJ l+1))<=7*607:=jh (by omega) (by omega);omega⟩
  have hcap:QG 0 (Cf.aJ l) (Cf.aJ l+1) 600 (Dm.aug 0 (Cf.qj l) (r.starts.take (Cf.aJ l))):=⟨by decide,aq3 (.inl rfl) (l:=6) (λc A hd r L last hc I=>by have:=I.rn;omega) (by decide)⟩;have bL:∀p∈Cf.qj l,∀x∈p,Rm.Bd 600 x:=λp hp=>by
   obtain⟨n,hn,rfl⟩:=cM.mp hp;have:=kW.mp hn;exactλx hx=>(ajW (by omega) hrb (λx hx=>by have:=E5 hx;omega) x hx).mono (by decide)
  have bW:∀x∈r.starts.take (Cf.aJ l),Rm.Bd 600 x:=λx hx=>by
   obtain⟨n,hn,e⟩:=jG.mp hx;rw[Ky]at hn;have:=hco n hn;rw[Pm.iV (by rw[Ky];exact hn),e]at this;rw[this];exact(hat n (by omega)).mono (by decide)
  have fin:∀(H7:Hp) (lw:Addr) (Q7:VK) (E7:XK),Same H6 H7->H7 lw=some (.lst ((r.starts.take (Cf.aJ l)).map V.int))->(∀bot us,Form r.at L l bot us->∀t lt H8,Same H7 H8->H8 t=some (.tup [.str ("one" : Str),.int bot,.ref lt])->H8 lt=some (.lst (us.map V.int))->Q7 (.ref t) H8)->YT [.int 0,.int ((Cf.aJ l:Nat):Int),.ref D3,.ref lw] H7 Q7 E7:=λH7 lw Q7 E7 g7 hlw hq=>by
   refine⟨600,Cf.aJ l,D3,lw,ys,Cf.qj l,r.starts.take (Cf.aJ l),[D3],rfl,g7 _ _ h6,hy.same g7,hlw,Ky,Cf.FZ l,by omega,hcap,λi hi=>?_,bL,bW,hI,λbot us so t lt H8 g8 ht hlt=>hq bot us ?_ t lt H8 g8 ht hlt⟩
   .rw[Cf.FZ]at hi;rw[Cf.Ji hi];exact Cf.zu l i
   .have k:=so.ok (.inl rfl);obtain⟨b1,b2⟩:=so.bd (.inl rfl) hSz;refine⟨lst,Prod.ext w1 c,w2,w4,w5,hne,hrb,hN,k.len,k.pos,k.ze rfl,λn=>?_,b1,b2⟩;exact Cf.atk (Cf.qW l).1 (Cf.qW l).2 k.len (λn=>by have:=lst.kp n;rwa [w2,Rm.bh]at this) (Cf.anK k.len hco k.sums) n
  have fin2:∀(H8:Hp) (t lt:Addr) (bot:Int) (us:List Int),Form r.at L l bot us->Same H6 H8->H8 t=some (.tup [.str ("one" : Str),.int bot,.ref lt])->H8 lt=some (.lst (us.map V.int))->∀lp yp H9,Same H8 H9->H9 lp=some (.lst yp)->cF H9 [lp] yp (Cf.dR l us)->∀tz,H9 tz=none->Q (.ref tz) (upd H9 tz (.tup [.int bot,.ref lp])):=λH8 t lt bot us F g8 ht hlt lp yp H9 g9 hlp hp tz sX=>by
   have gz:=Same.new sX (.tup [.int bot,.ref lp]);exact qf L l bot us F tz lp yp [lp] _ (u5.trans (g8.trans (g9.trans gz))) aA (gz _ _ hlp) (hp.same gz)
  have tY:=g6 _ _ qX;have uy:=hT5.same g6;refine⟨_,rfl,_,rfl,_,rfl,_,_,.inr (aC.of hxA),rfl,_,rfl,_,rfl,?_⟩;by_cases hw:r.starts.length<=Cf.aJ l
  .refine .inr (.inr ⟨_,aC.of O9,?_,?_⟩)
   .rw[HT.oZ,HT.rG,aG];omega
   refine⟨xq,_,rfl,.inr (aC.of O9),λl8 M8=>?_⟩;have g8:=Same.new M8 (.lst (r.starts.map V.int));refine fin _ l8 _ _ g8 (by rw[aA,pO hw]) λbot us F ta lt H9 g9 wV hlt=>?_;refine⟨_,rfl,_,_,.inr (aC.of wV),rfl,_,rfl,_,rfl,_,_,.inr (aC.of wV),rfl,lr,lt,xs,l,us,rfl,g9 _ _ (g8 _ _ tY),(uy.same g8).same g9,hlt,F.len,by omega,λlp yp rm qp _ hlp hp=>?_⟩;exact⟨(by show 2<=sizeLine;decide),λtz sX=>fin2 H9 ta lt bot us F (g8.trans g9) wV hlt lp yp rm qp hlp hp tz sX⟩
  .refine .inr (.inl ⟨_,aC.of O9,?_,λp3 hp3=>?_⟩)
   .rw[HT.oZ,HT.rG,aG];omega
   rw[B6,<-xW];have g7:=Same.new hp3 (.tup ((r.starts.take (Cf.aJ l)).map V.int));refine⟨p3,_,rfl,.inr (aC.of aA),λl8 M8=>?_⟩;have g8:=Same.new M8 (.lst ((r.starts.take (Cf.aJ l)).map V.int));have FP:=g7.trans g8;refine fin _ l8 _ _ FP aA λbot us F ta lt H9 g9 wV hlt=>?_;refine⟨_,rfl,_,_,.inr (aC.of wV),rfl,_,rfl,_,rfl,_,_,.inr (aC.of wV),rfl,lr,lt,xs,l,us,rfl,g9 _ _ (FP _ _ tY),(uy.same FP).same g9,hlt,F.len,by omega,λlp yp rm qp _ hlp hp=>?_⟩;exact⟨(by show 2<=sizeLine;decide),λtz sX=>fin2 H9 ta lt bot us F (FP.trans g9) wV hlt lp yp rm qp hlp hp tz sX⟩
theorem ak9(F:Fn K mg "_law_divisor" Ss ["_law_one","_law_other"]):Qo P w K mg base:=by
 refine F.cal adf (λvs H Q E h=>?_) (λf cdv A outer s H vs Q E hr h=>?_)
 .obtain⟨x,y,rfl,_⟩:=h;rfl
 .obtain⟨x,y,rfl,q⟩:=h;refine⟨_,(au (oY PassesOwn.never (bB (iU K hr) (pv 1) ak (aZ _))
   (aF (aq0 (i:=0) (j:=1) rfl adf.nd rfl rfl (by decide) rfl rfl (ao (pv 1) (dX (aB aki (pv 0) (pv 1)) aj)) (by rfl))))
   (aF (aX (bZ Ab rfl B.zy boot_abs (ao (pv 0) aj))))),?_⟩
  refine⟨λt σ' H'=>∃u v:Int,v.natAbs=t/\Nat.gcd u.natAbs v.natAbs=Nat.gcd x.natAbs y.natAbs/\σ'=[some (.int u),some (.int v)]/\H=H',⟨_,x,y,rfl,rfl,rfl,rfl⟩,?_⟩;rintro t σ' H' ⟨u,v,rfl,hg,rfl,rfl⟩;refine⟨_,rfl,_,rfl,?_⟩;by_cases hv:v=0
  .rw[decide_eq_true hv];refine d8 ?_;subst hv;rw[Int.natAbs_zero,Nat.gcd_zero_right]at hg;refine⟨_,rfl,u,rfl,?_⟩;rw[JM,hg];exact q
  .rw[decide_eq_false hv];refine nq ?_;refine⟨_,λ_ _ z=>z,?_⟩;refine⟨_,rfl,_,rfl,_,rfl,_,_,rfl,rfl,hv,?_⟩;exact⟨_,_,rfl,(u.fmod v).natAbs,Lm.apR hv,v,u.fmod v,rfl,(Lm.aqw u v).trans hg,rfl,rfl⟩
theorem ahE(F:Fn K mg "_law_power" Sv ["_law_root","_law_n"]):aa5 P w K mg base:=by
 refine F.cal JW (λvs H Q E h=>?_) (λf cdv A outer s H vs Q E hr h=>?_)
 .obtain⟨a,e,u,rfl,_⟩:=h;rfl
 .obtain⟨a,e,u,rfl,e0,e1,hb,hu,q⟩:=h;refine⟨_,(au (aD (i:=2) JW.nd rfl (Or.inl rfl) ak)
   (au (fZ PassesOwn.never rfl (iJ rfl B.gJ (ao (pv 1) aj)) (aV (i:=3) JW.nd rfl (Or.inl rfl))
   (aF (aD (i:=2) JW.nd rfl (Or.inl rfl) (aB v_mul (pv 2) (pv 0)))))
   (aF (aX (pv 2))))),?_⟩
  refine⟨_,rfl,e,rfl,(by omega:-(2^62)<=e),(by omega:e<2^62),?_⟩;refine pq (lo:=0) (n:=e.toNat) (λi σ' H'=>∃o,σ'=[some (.int a),some (.int e),some (.int (a^i)),o]/\H=H') ⟨_,by rw[oB];rfl,rfl⟩ ?_ ?_
  .rintro i σ' H' hi ⟨o,rfl,rfl⟩;exact⟨_,rfl,_,rfl,Vb hb hu (by omega),some (.int (0+(i:Int))),by rw[gZ];rfl,rfl⟩
  .rintro σ' H' ⟨o,rfl,rfl⟩;exact⟨_,rfl,q⟩
theorem al3(F:Fn K mg "_law_value" J2 ["_law_parts_here","_law_n"])(FD:aa5 P w K mg base):Kh P w K mg base:=by
 refine F.cal CK (λvs H Q E h=>?_) (λf cdv A outer s H vs Q E hr h=>?_)
 .obtain⟨lp,n,ys,ps,ex,rfl,_⟩:=h;rfl
 .obtain⟨lp,n,ys,ps,ex,rfl,hL,hp,n0,n1,⟨hl,hb⟩,q⟩:=h;refine⟨_,(au (aD (i:=2) CK.nd rfl (Or.inl rfl) ak)
   (au (fZ PassesOwn.never rfl (d7 K (pv 0)) (lK K (n:=2) rfl (eX (aV (i:=3) CK.nd rfl (Or.inl rfl)) (eX (aV (i:=4) CK.nd rfl (Or.inl rfl)) lH)))
   (aF (aD (i:=2) CK.nd rfl (Or.inl rfl) (aB (dB K) (pv 2) (aB v_mul (aL FD hr rfl (ao (pv 3) (ao (pv 1) aj))) (bZ (Mh K rfl) rfl B.Np boot_sum (aM (fY (sc:=aeO) (N:=["_law_j","_law_top","_law_n"]) (ix:=[none,none,some 1]) dI rfl (Dd K rfl B.DL (ao (pv 4) aj)) (λcl C s₀ H₀ ex=>⟨(lK K (n:=2) rfl (eX (aV (i:=0) cX rfl (Or.inl rfl)) (eX (aV (i:=1) cX rfl (Or.inl rfl)) lH))),dW,(aB v_mul (pv 1) (aL FD hr rfl (ao (pv 2) (ao (pv 0) aj))))⟩)) aj)))))))
   (aF (aX (pv 2))))),?_⟩
  have ly:=hp.len;have bn:Rm.Bd 10 n:=Rm.Bd.of (by omega) (by omega);refine⟨_,rfl,lp,rfl,.inl ⟨⟨_,aq.of hL⟩,?_⟩⟩;refine um (kY (aq.of hL)) (λi σ' H'=>∃o3 o4,σ'=[some (.ref lp),some (.int n),some (.int (Cf.bJ (ps.take i) n.toNat)),o3,o4]/\Same H H') ⟨_,_,rfl,Same.refl _⟩ (λi σ' H' ⟨_,_,_,z⟩=>z) ?_ ?_
  .rintro i x σ' H1 hx ⟨o3,o4,rfl,g1⟩;obtain⟨t,a,r,ts,rfl,ep,ht,ha⟩:=(hp.same g1).get hx;obtain⟨b1,b2,b3⟩:=hb _ (jF ep);replace b1:Rm.Bd 20 r:=b1;replace b2:ts.length<=10:=b2;replace b3:∀c∈ts,Rm.Bd 8000 c:=b3;refine⟨t,[.int r,.ref a],rfl,aC.of ht,rfl,_,_,rfl,_,_,rfl,rfl,?_⟩;refine⟨_,rfl,_,rfl,_,rfl,r,n,20,rfl,n0,by omega,b1,by decide,?_⟩;refine⟨_,rfl,false,a,_,rfl,aq.of ha,?_⟩;refine Y0 (t:=false) (aq.of ha) (by rw[aG];exact fX (eE (by omega))) rfl (λj x=>match x with | .int c=> .int (c*n^j)|_=> .non) ?_ ?_
   .intro H2 j x g2 hx k hk;obtain⟨rfl,hj⟩:=mH hx;refine⟨_,rfl,_,rfl,_,rfl,n,(j:Int),10,rfl,by omega,by omega,bn,by decide,?_⟩;rw[fW];exact⟨pU (Pm.jm b3 j) (Cf.uw bn j) (by omega),hk _ (Same.refl _)⟩
   intro D H2 hD g2 h2;have em:((ts.map V.int).mapIdx λj x=>match x with | .int c=>V.int (c*n^j)|_=>V.non)=(ts.mapIdx λj c=>c*n^(j+0)).map V.int:=by
    refine Nz (by simp) λk h1 h2=>?_;simp
   rw[em]at h2;refine⟨D,_,rfl,aq.of h2,?_⟩;rw[XS,oB,gM];refine⟨pU (Cf.uw b1 _) (Ue bn b3) ?_,some (.int r),some (.ref a),?_,g1.trans g2⟩
   .have:20*n.toNat<=20*30:=vf _ (by omega);omega
   .rw[take_one ep,ak1,R4 n0];rfl
  .rintro σ' H1 ⟨o3,o4,rfl,g1⟩;rw[pO (by omega)];exact⟨_,rfl,q H1 g1⟩
theorem ajx(F:Fn K mg "_law_times" ML ["_law_one","_law_other"]):Ny P w K mg base:=by
 refine F.cal AX (λvs H Q E h=>?_) (λf cdv A outer s H vs Q E hr h=>?_)
 .obtain⟨a,c,p,r,rfl,_⟩:=h;rfl
 .obtain⟨a,c,p,r,rfl,hA,hC,p0,r0,zA,zC,bA,bC,q⟩:=h;refine⟨_,(au (aD (i:=2) AX.nd rfl (Or.inl rfl) (aB v_mul (fB (bU ak aj)) (aB cO (aB (dB K) (bZ (dO K) rfl B.dG boot_len (ao (pv 0) aj)) (bZ (dO K) rfl B.dG boot_len (ao (pv 1) aj))) ak)))
   (au (fZ PassesOwn.never rfl (Dd K rfl B.DL (ao (pv 0) aj)) (lK K (n:=2) rfl (eX (aV (i:=3) AX.nd rfl (Or.inl rfl)) (eX (aV (i:=4) AX.nd rfl (Or.inl rfl)) lH)))
   (aF (fZ PassesOwn.never rfl (Dd K rfl B.DL (ao (pv 1) aj)) (lK K (n:=2) rfl (eX (aV (i:=5) AX.nd rfl (Or.inl rfl)) (eX (aV (i:=6) AX.nd rfl (Or.inl rfl)) lH)))
   (aF (qM (aB (dB K) (aO (aQ K) (pv 2) (aB (dB K) (pv 3) (pv 5)) (λ_ _=>rfl)) (aB v_mul (pv 4) (pv 6))) (wK (pv 2) (aB (dB K) (pv 3) (pv 5)) set_list))))))
   (aF (aX (pv 2))))),?_⟩
  have lP:(p.map V.int).length=p.length:=aG _;have lR:(r.map V.int).length=r.length:=aG _;refine⟨(by show 1<=sizeLine;decide),λl0 h0=>?_⟩;have g0:=Same.new h0 (.lst [.int 0]);have en:((p.length:Int)+(r.length:Int)-1).toNat=p.length+r.length-1:=by omega
  refine⟨_,rfl,.ref a,p.length,rfl,.inl ⟨_,aq.of (g0 _ _ hA),lP.symm⟩,_,rfl,.ref c,r.length,rfl,.inl ⟨_,aq.of (g0 _ _ hC),lR.symm⟩,_,_,rfl,rfl,_,aA,(by omega:-(2^63)<=(p.length:Int)+(r.length:Int)-1),(by omega:(p.length:Int)+(r.length:Int)-1<2^63),?_,λl hl=>?_⟩
  .rw[en];show 1*(p.length+r.length-1)<=sizeLine;rw[xJ];exact fX (eE (by omega))
  have g1:=g0.trans (Same.new hl (.lst (List.replicate ((p.length:Int)+(r.length:Int)-1).toNat [V.int 0]).flatten));have hl0:H l=none:=g0.free hl;have hL0:(upd (upd H l0 (.lst [.int 0])) l (.lst (List.replicate ((p.length:Int)+(r.length:Int)-1).toNat [V.int 0]).flatten)) l=some (.lst ((Pm.aH (p.length+r.length-1) λ_=>0).map V.int)):=by rw[aA,en,JB]
  generalize upd (upd H l0 (.lst [.int 0])) l (.lst (List.replicate ((p.length:Int)+(r.length:Int)-1).toNat [V.int 0]).flatten)=H1 at g1 hL0;refine⟨_,rfl,false,a,_,rfl,aq.of (g1 _ _ hA),?_⟩;refine R0 (t:=false) (λi σ' H'=>∃o4 o5 o6 o7 L,σ'=[some (.ref a),some (.ref c),some (.ref l),o4,o5,o6,o7]/\Same H H'/\H' l=some (.lst (List.map V.int L))/\L.length=p.length+r.length-1/\∀k,Pm.co L k=Pm.W (Pm.co p) (Pm.co r) i 0 k)
   ⟨_,_,_,_,_,rfl,g1,hL0,Pm.bG _ _,λk=>by rw[Pm.dw,Pm.afw];split<;>rfl⟩ (λi σ' H' ⟨_,_,_,_,_,_,g,_⟩=>aq.of (g _ _ hA)) ?_ ?_
  .rintro i x σ' H' pp hx ⟨o4,o5,o6,o7,L,rfl,g,hL,zL,hW⟩ hpp;obtain⟨rfl,hi⟩:=mH hx;refine⟨pp,[.int (i:Int),.int (Pm.co p i)],rfl,aC.of aA,rfl,_,_,rfl,_,_,rfl,rfl,?_⟩;have g2:=Same.new hpp (.tup [.int (i:Int),.int (Pm.co p i)]);have hL2:=g2 _ _ hL;have gA:=g.trans g2;generalize upd H' pp (.tup [.int (i:Int),.int (Pm.co p i)])=H2 at g2 hL2 gA;refine⟨_,rfl,false,c,_,rfl,aq.of (gA _ _ hC),?_⟩;refine R0 (t:=false) (λk σ' H'=>∃o6 o7 L,σ'=[some (.ref a),some (.ref c),some (.ref l),some (.int (i:Int)),some (.int (Pm.co p i)),o6,o7]/\Same H H'/\H' l=some (.lst (List.map V.int L))/\L.length=p.length+r.length-1/\∀j,Pm.co L j=Pm.W (Pm.co p) (Pm.co r) i k j)
    ⟨_,_,L,rfl,gA,hL2,zL,hW⟩ (λi σ' H' ⟨_,_,_,_,g,_⟩=>aq.of (g _ _ hC)) ?_ ?_
   .rintro k y σ' H3 p3 hy ⟨o6,o7,L,rfl,g,hL,zL,hW⟩ hp3;obtain⟨rfl,hk⟩:=mH hy;refine⟨p3,[.int (k:Int),.int (Pm.co r k)],rfl,aC.of aA,rfl,_,_,rfl,_,_,rfl,rfl,?_⟩;have g3:=Same.new hp3 (.tup [.int (k:Int),.int (Pm.co r k)]);have iR:=g3 _ _ hL;have gB:=g.trans g3;generalize upd H3 p3 (.tup [.int (k:Int),.int (Pm.co r k)])=H4 at g3 iR gB;have lL:(L.map V.int).length=L.length:=aG _;have e1:((i:Int)+(k:Int)).toNat=i+k:=by omega
    refine⟨_,rfl,_,rfl,_,rfl,_,_,.inl (aq.of iR),fQ (ns:=L) (by omega:(0:Int)<=(i:Int)+(k:Int)) (by omega),?_⟩;refine⟨_,rfl,_,rfl,pU (Pm.jm bA i) (Pm.jm bC k) (by decide),?_⟩;refine⟨_,rfl,_,rfl,_,rfl,l,_,_,i+k,rfl,rfl,iR,wH (by omega) (by rw[lL];omega),?_⟩;refine⟨_,_,L.set (i+k) _,rfl,gB.upd hl0 _,(by rw[aA,HS]),(by rw[oM];exact zL),λj=>?_⟩;rw[Pm.yF _ _ _ _ (by omega),Pm.alk,e1];by_cases ej:j=i+k
    .have hw:=hW j;rw[if_pos ej,if_pos ej];rw[ej]at hw⊢;rw[<-hw];rfl
    .rw[if_neg ej,if_neg ej,cU];exact hW j
   .rintro σ' H3 ⟨o6,o7,L,rfl,g,hL,zL,hW⟩;refine⟨_,_,_,_,L,rfl,g,hL,zL,λk=>?_⟩;rw[hW k,lR,Pm.ail λk hk=>Pm.aY hk]
  .rintro σ' H' ⟨o4,o5,o6,o7,L,rfl,g,hL,zL,hW⟩;have e:L=Pm.rN p r:=by
    refine Pm.qK (by rw[zL,Pm.rN,Pm.bG]) λk=>?_;rw[Pm.rN,Pm.dw];split
    .rw[hW k,lP,Pm.abl λk hk=>Pm.aY hk]
    .exact Pm.aY (by omega)
   exact⟨_,rfl,q l H' g hl0 (e▸hL)⟩
theorem af2(F:Fn K mg "_law_parts" Rp ["_law_script"])(qu:Iu P w K mg base):WG P w K mg base:=by
 refine F.cal zW (λvs H Q E h=>?_) (λf cdv A outer s H vs Q E hr h=>?_)
 .obtain⟨a,ns,rfl,_⟩:=h;rfl
 .obtain⟨a,ns,rfl,hS,q⟩:=h;refine⟨_,(au (aD (i:=1) zW.nd rfl (Or.inl rfl) (fB aj))
   (au (aD (i:=2) zW.nd rfl (Or.inl rfl) (aL qu hr rfl (ao (pv 0) (bU ak aj))))
   (au (fZ PassesOwn.never rfl (d7 K (fB (xO (qF qZ ak) (xO (qF qZ ak) (xO (qF qZ ak) (xO (qF qZ ak) (bU ak (bU ak (bU ak (bU ak aj)))))))))) (aV (i:=3) zW.nd rfl (Or.inl rfl))
   (au (aD (i:=2) zW.nd rfl (Or.inl rfl) (aB d9 (aB v_mul (aB (dB K) (aB d9 (pv 2) ak) ak) ak) ak))
   (au (aD (i:=4) zW.nd rfl (Or.inl rfl) (vU (vB K) (fB (dX (aB cO (aB d9 (aB vJ (pv 2) ak) ak) ak) (dX (aB cO (aB d9 (aB vJ (pv 2) ak) ak) ak) aj))) wB (sV (aB (dB K) ak (aB d9 (aB vJ (pv 2) ak) ak)))))
   (au (oY PassesOwn.never (PW.pt (vm (bB (iU K hr) (pv 4) (fB aj) (aZ _)) (yd (bB (fK K hr) (aO (aQ K) (pv 4) (qF qZ ak) (λ_ _=>rfl)) ak (aZ _)))))
   (aF (n6 (aeH K (pv 4)))))
   (aF (cW (PW.pt (vm (bB tZ (aB d9 (pv 2) ak) ak (aZ _)) (vm (bB (iU K hr) (pv 4) (fB aj) (aZ _)) (yd (bB tZ (bZ (dO K) rfl B.dG boot_len (ao (pv 1) aj)) ak (aZ _))))))
   (aF (n6 (vC K (pv 1) (fM (ao (pv 3) (ao (pv 4) aj))))))
   cZ))))))
   (aF (aX (pv 1)))))),?_⟩
  refine⟨cJ _,λD hD=>?_⟩;have g0:=Same.new hD (.lst []);have h0:(upd H D (.lst [])) D=some (.lst []):=aA;generalize upd H D (.lst [])=H0 at g0 h0;refine⟨_,rfl,a,ns,1,rfl,g0.seq hS,by decide,?_⟩;refine⟨_,rfl,_,rfl,_,rfl,_,rfl,(by show 8<=sizeLine;decide),λlr hlr=>?_⟩;have g1:=Same.new hlr (.lst (gb.map V.int));have h1:(upd H0 lr (.lst (gb.map V.int))) lr=some (.lst (gb.map V.int)):=aA;have h01:=g0.trans g1;have hD1:=g1 _ _ h0;have Tc:=g0.free hlr;have nlr:lr≠D:=λz=>by rw[z,h0]at hlr;cases hlr
  have e8:upd H0 lr (.lst [V.int (-4),V.int (-3),V.int (-2),V.int (-1),V.int 1,V.int 2,V.int 3,V.int 4])=upd H0 lr (.lst (gb.map V.int)):=rfl;rw[e8];generalize upd H0 lr (.lst (gb.map V.int))=H1 at g1 h1 h01 hD1;refine⟨lr,rfl,.inl ⟨⟨_,aq.of h1⟩,?_⟩⟩;refine Io (xs:=gb.map V.int) (λi σ' H'=>∃(cell:Int) (o3 o4:Option V) (ys:List V) (ps:List (Int×List Int)),σ'=[some (.ref a),some (.ref D),some (.int cell),o3,o4]/\Same H H'/\H' lr=some (.lst (gb.map V.int))/\H' D=some (.lst ys)/\cF H' [D] ys ps/\Fm ps/\∀p∈ps,p.1∈gb.take i)
   ⟨_,_,_,[],[],rfl,h01,h1,hD1,.nil,⟨List.Pairwise.nil,λ_ h=>(by cases h),by decide,λ_ h=>(by cases h)⟩,λ_ h=>(by cases h)⟩ (λi σ' H' ⟨_,_,_,_,_,_,_,z,_⟩=>aq.of z) ?_ ?_
  .rintro i x σ' H2 hx ⟨cell,o3,o4,ys,ps,rfl,g2,acd,hD2,hp,F,hb⟩;obtain⟨rfl,hi⟩:=mH hx;have ei:gb[i]?=some (Pm.co gb i):=by rw[eY hi,Pm.iV hi]
   generalize Pm.co gb i=r at ei;have hbS:∀p∈ps,p.1∈gb.take (i+1):=λp hp=>by rw[take_one ei];exact Rt _ (hb p hp)
   have lps:=hp.len;have c0:=iC cell (show(0:Int)<2147483647 by decide);have c1:=iM cell (show(0:Int)<2147483647 by decide);refine⟨_,rfl,_,_,rfl,rfl,(by decide:(0:Int)<2147483647),mulR (by decide) (by decide),_,_,rfl,rfl,(by decide:(0:Int)<2147483629),?_⟩;have d0:=iC ((cell%2147483647+1)*48271) (show(0:Int)<2147483629 by decide);generalize (cell%2147483647+1)*48271%2147483629=cl at d0;refine⟨_,rfl,_,_,rfl,rfl,⟨by decide,by decide⟩,_,_,rfl,rfl,(by decide:(0:Int)<9),_,_,rfl,rfl,?_⟩;refine⟨_,rfl,_,_,rfl,rfl,⟨by decide,by decide⟩,_,_,rfl,rfl,(by decide:(0:Int)<5),_,_,rfl,rfl,?_⟩;have x0:=iC (cl/8) (show(0:Int)<9 by decide);have x1:=iM (cl/8) (show(0:Int)<9 by decide);have y0:=iC (cl/72) (show(0:Int)<5 by decide);have y1:=iM (cl/72) (show(0:Int)<5 by decide);have z0:=iC (cl/360) (show(0:Int)<2 by decide);have z1:=iM (cl/360) (show(0:Int)<2 by decide);generalize cl/8%9=x at x0 x1;generalize cl/72%5=y at y0 y1;refine⟨(by show 2<=sizeLine;decide),λl2 hl2=>?_⟩;have g3:=Same.new hl2 (.lst [.int (x-4),.int (y-2)]);have h3:(upd H2 l2 (.lst [.int (x-4),.int (y-2)])) l2=some (.lst [.int (x-4),.int (y-2)]):=aA;have Rf:=g2.trans g3;have uZ:=g3 _ _ acd;have wJ:=g3 _ _ hD2;have hp3:=hp.same g3;generalize upd H2 l2 (.lst [.int (x-4),.int (y-2)])=H3 at g3 h3 Rf uZ wJ hp3;refine⟨_,rfl,_,_,rfl,rfl,⟨by decide,by decide⟩,_,_,rfl,rfl,(by decide:(0:Int)<2),?_⟩;refine⟨_,rfl,.inl ⟨_,aq.of h3,λtl htl=>?_⟩⟩;obtain⟨T,eT,lT,mT⟩:=amv (x-4) (y-2) z0 (show cl/360%2<=1 by omega);rw[eT];have g4:=Same.new htl (.lst (T.map V.int));have h4:(upd H3 tl (.lst (T.map V.int))) tl=some (.lst ((T.take T.length).map V.int)):=by rw[aA,kE]
   have xM:=g4 _ _ uZ;have uV:=g4 _ _ wJ;have hp4:=hp3.same g4;have g24:=Rf.trans g4;have aq4:=Rf.free htl;have Qy:tl≠D:=λz=>by rw[z,wJ]at htl;cases htl
   have ahv:tl≠lr:=λz=>by rw[z,uZ]at htl;cases htl
   generalize upd H3 tl (.lst (T.map V.int))=H4 at g4 h4 xM uV hp4 g24;have hpX:cF H4 [D,tl] ys ps:=(hp3.more htl).same g4;refine⟨λm σ' H'=>∃n,m=n/\n<=T.length/\σ'=[some (.ref a),some (.ref D),some (.int cl),some (.int r),some (.ref tl)]/\Same H H'/\H' lr=some (.lst (gb.map V.int))/\H' D=some (.lst ys)/\cF H' [D,tl] ys ps/\H' tl=some (.lst ((T.take n).map V.int))/\Pm.trim (T.take n)=Pm.trim T,⟨_,T.length,rfl,aN _,rfl,g24,xM,uV,hpX,h4,by rw[kE]⟩,?_⟩;rintro m σ' H5 ⟨n,rfl,hn,rfl,g5,qX,hD5,hp5,h5,tQ⟩;have BW:(T.take m).length=m:=by rw[jl];omega
   refine⟨_,rfl,cJ _,λe1 PZ=>?_⟩;have g6:=Same.new PZ (.lst []);have h6:(upd H5 e1 (.lst [])) e1=some (.lst (([]:List Int).map V.int)):=aA;have uW:=g6 _ _ h5;have tY:=g6 _ _ qX;have zK:=g6 _ _ hD5;have vQ:=hp5.same g6;have yu:=g5.trans g6;generalize upd H5 e1 (.lst [])=H6 at g6 h6 uW tY zK vQ yu;have VB:Pm.trim T≠[]->(Pm.trim T≠[]/\(Pm.trim T).length<=2/\Pm.co (Pm.trim T) ((Pm.trim T).length-1)≠0/\∀c∈Pm.trim T,-4<=c/\c<=4):=λc2=>⟨c2,by have:=Pm.uF T;omega,apx c2,λc hc=>by
    have:=mT c (Pm.KC hc);omega⟩
   have V0:∀p∈ps++[(r,Pm.trim T)],p.1∈gb.take (i+1):=λp hp=>by
    rcases eV.mp hp with hp|hp
    .exact hbS p hp
    .rw[cP.mp hp,take_one ei];exact nZ _ (cP.mpr rfl)
   refine FJ (ns:=T.take m) (ms:=[]) (aq.of uW) (aq.of h6) ⟨_,rfl,?_⟩;by_cases cm:m=0
   .subst cm;refine d8 (d8 ?_);have uy:H6 tl=some (.lst ((Pm.trim T).map V.int)):=by rw[<-tQ];exact uW
    refine⟨_,rfl,_,_,rfl,rfl,(by decide:(0:Int)<8),_,_,rfl,rfl,_,rfl,?_⟩;refine cG (λ_=>?_) (λ_=>?_)
    .refine⟨_,rfl,cJ _,λe2 he2=>?_⟩;have g7:=Same.new he2 (.lst []);have h7:(upd H6 e2 (.lst [])) e2=some (.lst (([]:List Int).map V.int)):=aA;have tU:=g7 _ _ uy;have rT:=g7 _ _ tY;have nj:=g7 _ _ zK;have ux:=vQ.same g7;have tu:=yu.trans g7;generalize upd H6 e2 (.lst [])=H7 at g7 h7 tU rT nj ux tu;refine FJ (ns:=Pm.trim T) (ms:=[]) (aq.of tU) (aq.of h7) ⟨_,rfl,?_⟩;refine cG (λc2=>?_) (λ_=>?_)
     .have c2':Pm.trim T≠[]:=λz=>by rw[decide_eq_true z]at c2;cases c2
      refine⟨_,rfl,.ref D,ys.length,rfl,.inl ⟨_,aq.of nj,rfl⟩,_,_,rfl,rfl,_,rfl,?_⟩;refine cG (λc3=>?_) (λ_=>?_)
      .have tW:ys.length<3:=by have:=dec_true c3;omega
       refine⟨_,rfl,.inl ⟨rfl,_,aq.of nj⟩,_,rfl,_,rfl,(by show 2<=sizeLine;decide),λt8 K7=>?_⟩;have g8:=Same.new K7 (.tup [.int r,.ref tl]);have h8:(upd H7 t8 (.tup [.int r,.ref tl])) t8=some (.tup [.int r,.ref tl]):=aA;have hT8:=g8 _ _ tU;have BK:=g8 _ _ rT;have qb:=g8 _ _ nj;have hp8:=ux.same g8;have Cj:=tu.trans g8;generalize upd H7 t8 (.tup [.int r,.ref tl])=H8 at g8 h8 hT8 BK qb hp8 Cj;refine⟨D,_,_,rfl,rfl,qb,eE (by omega),?_⟩;exact⟨cl,some (.int r),some (.ref tl),ys++[.ref t8],ps++[(r,Pm.trim T)],rfl,Cj.upd hD _,(by rw[cC nlr];exact BK),aA,(hp8.less.append (.cons h8 (λz=>Qy (cP.mp z)) hT8 .nil)).set qb (cP.mpr rfl),F.snoc ei hb (by omega) (VB c2'),V0⟩
      .exact⟨cl,some (.int r),some (.ref tl),ys,ps,rfl,tu,rT,nj,ux.less,F,hbS⟩
     .exact d8 ⟨cl,some (.int r),some (.ref tl),ys,ps,rfl,tu,rT,nj,ux.less,F,hbS⟩
    .exact d8 ⟨cl,some (.int r),some (.ref tl),ys,ps,rfl,yu,tY,zK,vQ.less,F,hbS⟩
   .have cn:¬T.take m=[]:=λz=>by rw[z]at BW;exact cm BW.symm
    rw[decide_eq_false cn];refine nq ?_;refine⟨_,rfl,_,rfl,_,_,.inl (aq.of uW),Rj (ns:=T.take m) (m-1) (by decide) (by rw[BW];omega),_,rfl,?_⟩;have eg:(T.take m).getD (m-1) 0=T.getD (m-1) 0:=by rw[dh,NZ,if_pos (by omega),<-dh]
    rw[eg];refine cG (λc=>?_) (λc=>?_)
    .have hz:=dec_true c;refine⟨_,λ_ _ z=>z,?_⟩;refine⟨_,rfl,.inl ⟨rfl,_,aq.of uW⟩,tl,_,.int (Pm.co T (m-1)),rfl,rfl,uW,?_,?_⟩
     .rw[aG,BW,jV,NZ,if_pos (by omega),eY (by omega),Pm.iV (by omega)];rfl
     refine⟨m-1,by omega,m-1,rfl,by omega,rfl,yu.upd aq4 _,(by rw[cC ahv.symm];exact tY),(by rw[cC Qy.symm];exact zK),vQ.set uW (dg _ (cP.mpr rfl)),?_,UZ (by omega) hn tQ hz⟩;rw[aA,<-List.map_dropLast,List.dropLast_eq_take,BW,List.take_take,CV (by omega)]
    .have uy:H6 tl=some (.lst ((Pm.trim T).map V.int)):=by rw[<-Ld hn tQ (.inr (dec_false c))];exact uW
     refine⟨_,rfl,_,_,rfl,rfl,(by decide:(0:Int)<8),_,_,rfl,rfl,_,rfl,?_⟩;refine cG (λ_=>?_) (λ_=>?_)
     .refine⟨_,rfl,cJ _,λe2 he2=>?_⟩;have g7:=Same.new he2 (.lst []);have h7:(upd H6 e2 (.lst [])) e2=some (.lst (([]:List Int).map V.int)):=aA;have tU:=g7 _ _ uy;have rT:=g7 _ _ tY;have nj:=g7 _ _ zK;have ux:=vQ.same g7;have tu:=yu.trans g7;generalize upd H6 e2 (.lst [])=H7 at g7 h7 tU rT nj ux tu;refine FJ (ns:=Pm.trim T) (ms:=[]) (aq.of tU) (aq.of h7) ⟨_,rfl,?_⟩;refine cG (λc2=>?_) (λ_=>?_)
      .have c2':Pm.trim T≠[]:=λz=>by rw[decide_eq_true z]at c2;cases c2
       refine⟨_,rfl,.ref D,ys.length,rfl,.inl ⟨_,aq.of nj,rfl⟩,_,_,rfl,rfl,_,rfl,?_⟩;refine cG (λc3=>?_) (λ_=>?_)
       .have tW:ys.length<3:=by have:=dec_true c3;omega
        refine⟨_,rfl,.inl ⟨rfl,_,aq.of nj⟩,_,rfl,_,rfl,(by show 2<=sizeLine;decide),λt8 K7=>?_⟩;have g8:=Same.new K7 (.tup [.int r,.ref tl]);have h8:(upd H7 t8 (.tup [.int r,.ref tl])) t8=some (.tup [.int r,.ref tl]):=aA;have hT8:=g8 _ _ tU;have BK:=g8 _ _ rT;have qb:=g8 _ _ nj;have hp8:=ux.same g8;have Cj:=tu.trans g8;generalize upd H7 t8 (.tup [.int r,.ref tl])=H8 at g8 h8 hT8 BK qb hp8 Cj;refine⟨D,_,_,rfl,rfl,qb,eE (by omega),?_⟩;exact⟨cl,some (.int r),some (.ref tl),ys++[.ref t8],ps++[(r,Pm.trim T)],rfl,Cj.upd hD _,(by rw[cC nlr];exact BK),aA,(hp8.less.append (.cons h8 (λz=>Qy (cP.mp z)) hT8 .nil)).set qb (cP.mpr rfl),F.snoc ei hb (by omega) (VB c2'),V0⟩
       .exact⟨cl,some (.int r),some (.ref tl),ys,ps,rfl,tu,rT,nj,ux.less,F,hbS⟩
      .exact d8 ⟨cl,some (.int r),some (.ref tl),ys,ps,rfl,tu,rT,nj,ux.less,F,hbS⟩
     .exact d8 ⟨cl,some (.int r),some (.ref tl),ys,ps,rfl,yu,tY,zK,vQ.less,F,hbS⟩
  .rintro σ' H2 ⟨cell,o3,o4,ys,ps,rfl,g2,acd,hD2,hp,F,hb⟩;exact⟨_,rfl,q D ys ps H2 g2 hD2 hp F⟩
theorem ao2(F:Fn K mg "_law_made" QW ["_law_parts_here"])(wR:Ny P w K mg base)(Ba:Kh P w K mg base):adl P w K mg base:=by
 refine F.cal vZ (λvs H Q E h=>?_) (λf cdv A outer s H vs Q E hr h=>?_)
 .obtain⟨lp,ys,ps,ex,rfl,_⟩:=h;rfl
 .obtain⟨lp,ys,ps,ex,rfl,hL,hp,F,q⟩:=h;refine⟨_,(au (aD (i:=1) vZ.nd rfl (Or.inr rfl) (fB (bU ak aj)))
   (au (fZ PassesOwn.never rfl (d7 K (pv 0)) (lK K (n:=2) rfl (eX (aV (i:=2) vZ.nd rfl (Or.inl rfl)) (eX (aV (i:=3) vZ.nd rfl (Or.inl rfl)) lH)))
   (aF (fZ PassesOwn.never rfl (d7 K (pv 3)) (aV (i:=4) vZ.nd rfl (Or.inl rfl))
   (aF (aD (i:=1) vZ.nd rfl (Or.inr rfl) (aL wR hr rfl (ao (pv 1) (W3 (fB (dX (aB cO ak (pv 2)) (bU ak aj))) aj))))))))
   (au (aD (i:=5) vZ.nd rfl (Or.inr rfl) (aB cO (bZ (dO K) rfl B.dG boot_len (ao (pv 1) aj)) ak))
   (au (aD (i:=6) vZ.nd rfl (Or.inl rfl) (iB (jQ K) rfl B.jD boot_tuple (aM (fY (sc:=aum) (N:=["_law_k","_law_poly","_law_size"]) (ix:=[none,some 1,some 5]) dI rfl (iJ rfl B.gJ (ao (pv 5) aj)) (λcl C s₀ H₀ ex=>⟨(aV (i:=0) cX rfl (Or.inl rfl)),dW,(aB cO ak (aO (aQ K) (pv 1) (aB cO (aB cO (pv 2) ak) (pv 0)) (λ_ _=>rfl)))⟩)) aj)))
   (aF (aX (fM (bU ak (ao (pv 6) (aM (iB (jQ K) rfl B.jD boot_tuple (aM (fY (sc:=ap4) (N:=["_law_n","_law_parts_here"]) (ix:=[none,some 0]) dI rfl (iJ rfl B.gJ (ao (pv 5) aj)) (λcl C s₀ H₀ ex=>⟨(aV (i:=0) cX rfl (Or.inl rfl)),dW,(aL Ba hr rfl (ao (pv 1) (ao (pv 0) aj)))⟩)) aj)) aj)))))))))),?_⟩
  have ly:=hp.len;have l6:=F.JQ;refine⟨(by show 1<=sizeLine;decide),λl0 h0=>?_⟩;have g0:=Same.new h0 (.lst [.int 1]);have hL0:=g0 _ _ hL;refine⟨_,rfl,lp,rfl,.inl ⟨⟨_,aq.of hL0⟩,?_⟩⟩;refine um (kY (aq.of hL0)) (λi σ' H'=>∃(lq:Addr) (o2 o3 o4:Option V),σ'=[some (.ref lp),some (.ref lq),o2,o3,o4,none,none]/\Same (upd H l0 (.lst [.int 1])) H'/\H' lq=some (.lst ((Pm.iw ((lens ps).take i) [1]).map V.int))/\∀z∈Pm.iw ((lens ps).take i) [1],Rm.Bd (1+50*Cf.aJ ((lens ps).take i)) z)
   ⟨l0,_,_,_,rfl,Same.refl _,aA,λz hz=>by rw[cP.mp hz];exact(Rm.Bd.of (n:=1) (by decide) (by decide)).mono (by omega)⟩ (λi σ' H' ⟨_,_,_,_,_,g,_⟩=>g) ?_ ?_
  .rintro i x σ' H1 hx ⟨lq,o2,o3,o4,rfl,g1,hq,bz⟩;obtain⟨t,a,r,ts,rfl,ep,ht,ha⟩:=((hp.same g0).same g1).get hx;have el:=afv ep;have hrb:Rm.Bd 20 r:=(F.ok.2 _ (jF ep)).1;have e2:Cf.aJ ((lens ps).take (i+1))=Cf.aJ ((lens ps).take i)+ts.length:=by rw[take_one el,yV];rfl
   have e3:=Lq (lens ps) (i+1);obtain⟨mA,zA⟩:=Pm.uK ((lens ps).take i) Pm.rY;replace zA:(Pm.iw ((lens ps).take i) [1]).length=1+Cf.aJ ((lens ps).take i):=zA;refine⟨t,[.int r,.ref a],rfl,aC.of ht,rfl,_,_,rfl,_,_,rfl,rfl,?_⟩;refine⟨_,rfl,a,rfl,.inl ⟨⟨_,aq.of ha⟩,?_⟩⟩;rw[take_one el,M5,yV];show _;generalize Pm.iw ((lens ps).take i) [1]=AA at hq bz mA zA;refine um (kY (aq.of ha)) (λj σ' H'=>∃(lq:Addr) (o4:Option V),σ'=[some (.ref lp),some (.ref lq),some (.int r),some (.ref a),o4,none,none]/\Same H1 H'/\H' lq=some (.lst ((Pm.cN r j AA).map V.int))/\∀z∈Pm.cN r j AA,Rm.Bd (1+50*(Cf.aJ ((lens ps).take i)+j)) z)
    ⟨lq,_,rfl,Same.refl _,hq,bz⟩ (λj σ' H' ⟨_,_,_,z,_⟩=>z) ?_ ?_
   .rintro j y σ' H2 hy ⟨lq,o4,rfl,g2,hq,bz⟩;obtain⟨rfl,hj⟩:=mH hy;obtain⟨mJ,zJ⟩:=Pm.Dj (r:=r) mA j;refine⟨_,rfl,_,rfl,_,_,rfl,rfl,(by show 2<=sizeLine;decide),λl1 h1=>?_⟩;have g3:=Same.new h1 (.lst [.int (0-r),.int 1]);refine⟨lq,l1,Pm.cN r j AA,Pm.lin r,rfl,g3 _ _ hq,aA,mJ.pos,(by show 0<2;decide),by omega,(by show 2<=100;decide),λz hz=>(bz z hz).mono (by omega),V6 hrb,λl2 H3 g4 _ h2=>?_⟩;have ee:=(Pm.E8 mJ (Pm.C0 r)).1;rw[ee]at h2;exact⟨l2,some (.int (Pm.co ts j)),rfl,(g2.trans g3).trans g4,h2,λz hz=>(Wi bz (hrb.mono (by decide)) z hz).mono (by omega)⟩
   .rintro σ' H2 ⟨lq,o4,rfl,g2,hq,bz⟩;rw[aG]at hq bz;exact⟨lq,_,_,_,rfl,g1.trans g2,hq,bz⟩
  .rintro σ' H1 ⟨lq,o2,o3,o4,rfl,g1,hq,bz⟩;have xu:(lens ps).length=ps.length:=aG _;rw[ly,<-xu,kE,aqZ]at hq;have hlen:=(Cf.qW (lens ps)).2;have lQ:((Pm.RP (lens ps) [1]).map V.int).length=Cf.aJ (lens ps)+1:=by rw[aG,hlen]
   generalize hN:Cf.aJ (lens ps)=N at l6 hlen lQ;have g01:=g0.trans g1;refine⟨_,rfl,.ref lq,N+1,rfl,.inl ⟨_,aq.of hq,lQ.symm⟩,_,_,rfl,rfl,?_⟩;rw[show((N+1:Nat):Int)-1=(N:Int)by omega];refine⟨_,rfl,(N:Int),rfl,(by omega:-(2^62)<=(N:Int)),(by omega:(N:Int)<2^62),?_⟩;rw[fW];refine vY (n:=N) (by omega) rfl (λk=>0-Pm.co (Pm.RP (lens ps) [1]) (N-1-k)) ?_ ?_
   .intro H2 k g2 hk kk hkk;refine⟨_,rfl,_,rfl,_,_,rfl,rfl,_,rfl,_,_,rfl,rfl,_,_,.inl (aq.of (g2 _ _ hq)),fQ (ns:=Pm.RP (lens ps) [1]) (by omega:(0:Int)<=(N:Int)-1-(0+(k:Int))) (by omega),_,_,rfl,rfl,?_⟩;rw[show((N:Int)-1-(0+(k:Int))).toNat=N-1-k by omega];exact hkk
   intro D hD;have er:(Pm.aH N λk=>0-Pm.co (Pm.RP (lens ps) [1]) (N-1-k))=Pm.fR 0 (Pm.RP (lens ps) [1]):=by
    rw[Pm.fR,hlen,dY];exact congrArg (Pm.aH N) (funext λk=>(Rm.bh _).symm)
   rw[er];have g2:=Same.new hD (.lst ((Pm.fR 0 (Pm.RP (lens ps) [1])).map V.int));refine⟨D,_,rfl,.inl ⟨aq.of aA,λtr htr=>?_⟩⟩;have g3:=Same.new htr (.tup ((Pm.fR 0 (Pm.RP (lens ps) [1])).map V.int));have h3:(upd (upd H1 D (.lst ((Pm.fR 0 (Pm.RP (lens ps) [1])).map V.int))) tr (.tup ((Pm.fR 0 (Pm.RP (lens ps) [1])).map V.int))) tr=some (.tup ((Pm.fR 0 (Pm.RP (lens ps) [1])).map V.int)):=aA;have Fg:=g01.trans (g2.trans g3);generalize upd (upd H1 D (.lst ((Pm.fR 0 (Pm.RP (lens ps) [1])).map V.int))) tr (.tup ((Pm.fR 0 (Pm.RP (lens ps) [1])).map V.int))=H3 at h3 Fg;refine⟨_,rfl,_,rfl,(N:Int),rfl,(by omega:-(2^62)<=(N:Int)),(by omega:(N:Int)<2^62),?_⟩;rw[fW];refine apF C4 (by rw[aG,qI];exact fX (eE (by omega))) rfl (λx=>match x with | .int k=> .int (Cf.bJ ps k.toNat)|_=> .non) ?_ ?_
   .intro H4 x g4 hx k hk;obtain⟨j,hj,rfl⟩:=cM.mp hx;have hj':=kW.mp hj;exact⟨_,rfl,_,rfl,lp,0+(j:Int),ys,ps,ex,rfl,g4 _ _ (Fg _ _ hL),(hp.same Fg).same g4,by omega,by omega,F.ok,λH5 g5=>hk H5 g5⟩
   intro D4 H4 uV g4 h4;have es:(((List.range N).map λi=>V.int (0+(i:Nat))).map λx=>match x with | .int k=>V.int (Cf.bJ ps k.toNat)|_=>V.non)=(Pm.aH N (Cf.bJ ps)).map V.int:=by
    rw[fj,Pm.aH,fj];refine wj λk _=>?_;show V.int (Cf.bJ ps (0+(k:Int)).toNat)=V.int (Cf.bJ ps k);rw[show(0+(k:Int)).toNat=k by omega]
   rw[es]at h4;refine⟨D4,_,rfl,.inl ⟨aq.of h4,λt5 tQ=>?_⟩⟩;have g5:=Same.new tQ (.tup ((Pm.aH N (Cf.bJ ps)).map V.int));refine⟨(by show 3<=sizeLine;decide),λt6 vG=>?_⟩;have g6:=Same.new vG (.tup [.int 0,.ref tr,.ref t5]);refine q (.ref t6) _ (Fg.trans (g4.trans (g5.trans g6))) ⟨t6,tr,t5,rfl,aA,(g4.trans (g5.trans g6)) _ _ h3,?_⟩;show _=some (HO.tup ((Pm.aH (Cf.aJ (lens ps)) (Cf.bJ ps)).map V.int));rw[hN];exact g6 _ _ aA
theorem arF(F:Fn K mg "_law_form_right" MQ ["_law_found","_law_some"])(Aa:Qo P w K mg base)(Ba:Kh P w K mg base):aaP P w K mg base:=by
 refine F.cal uz (λvs H Q E h=>?_) (λf cdv A outer s H vs Q E hr h=>?_)
 .obtain⟨t,lp,ls,ys,ps,ex,bot,sm,rfl,_⟩:=h;rfl
 .obtain⟨t,lp,ls,ys,ps,ex,bot,sm,rfl,hT,hL,hp,hS,R,q⟩:=h;refine⟨_,(au (cW (PW.pt (rH (AZ (uD (bZ Wb rfl B.abm boot_isinstance (ao (pv 0) (ao (Ym rfl B.jD boot_tuple) aj))))) (rH (bB (iU K hr) (bZ (dO K) rfl B.dG boot_len (ao (pv 0) aj)) ak (aZ _)) (rH (AZ (uD (bZ Wb rfl B.abm boot_isinstance (aM (aO (aQ K) (pv 0) ak (λ_ _=>rfl)) (ao (Ym rfl B.xU boot_list) aj))))) (Ed (bB tZ (aO (aQ K) (pv 0) ak (λ_ _=>rfl)) ak (aZ _)))))))
   (aF (aX nM))
   cZ)
   (au (aD (i:=2) uz.nd rfl (Or.inl rfl) (aO (aQ K) (pv 0) ak (λ_ _=>rfl)))
   (au (aD (i:=3) uz.nd rfl (Or.inl rfl) Fw)
   (au (fZ PassesOwn.never rfl (d7 K (aO (aQ K) (pv 0) ak (λ_ _=>rfl))) (lK K (n:=2) rfl (eX (aV (i:=4) uz.nd rfl (Or.inl rfl)) (eX (aV (i:=5) uz.nd rfl (Or.inl rfl)) lH)))
   (au (cW (PW.pt (rH (bB (fK K hr) (pv 4) ak (aZ _)) (rH (bB (fK K hr) (pv 5) (fB aj) (aZ _)) (rH (bB (fK K hr) (aO (aQ K) (pv 5) (qF qZ ak) (λ_ _=>rfl)) ak (aZ _)) (Ed (PW.pt (vm (Jp (aeu (pv 3))) (yd (bB Mj (pv 4) (pv 3) (aZ _))))))))))
   (aF (aX nM))
   cZ)
   (au (aD (i:=3) uz.nd rfl (Or.inl rfl) (pv 4))
   (aF (fZ PassesOwn.never rfl (d7 K (pv 5)) (aV (i:=6) uz.nd rfl (Or.inl rfl))
   (aF (aD (i:=2) uz.nd rfl (Or.inl rfl) (aL Aa hr rfl (ao (pv 2) (ao (pv 6) aj))))))))))
   (au (cW (bB (iU K hr) (pv 2) ak (aZ _))
   (aF (aX nM))
   cZ)
   (au (fZ PassesOwn.never rfl (iJ rfl B.gJ (bU ak aj)) (aV (i:=7) uz.nd rfl (Or.inl rfl))
   (aF (cW (bB (iU K hr) (aB v_mul (aO (aQ K) (pv 0) ak (λ_ _=>rfl)) (aO (aQ K) (pv 1) (pv 7) (λ_ _=>rfl))) (aL Ba hr rfl (aM (aO (aQ K) (pv 0) ak (λ_ _=>rfl)) (ao (pv 7) aj))) (aZ _))
   (aF (aX nM))
   cZ)))
   (aF (aX nM)))))))),?_⟩
  have ly:=hp.len;have b1:=R.pos;have ty:wF H (.ref t)=some "tuple" := by simp only[wF,hT]
  have ty2:wF H (.ref lp)=some "list" := by simp only[wF,hL]
  refine⟨_,rfl,.ref t,"tuple","tuple",rfl,ty,by simp,_,rfl,d8 ?_⟩;refine⟨_,rfl,.ref t,2,rfl,.inr ⟨_,aC.of hT,rfl⟩,_,rfl,d8 ?_⟩;refine⟨_,rfl,_,_,.inr (aC.of hT),rfl,.ref lp,"list","list",rfl,ty2,by simp,_,rfl,d8 ?_⟩;refine⟨_,rfl,_,_,.inr (aC.of hT),rfl,_,_,rfl,rfl,_,rfl,?_⟩;rw[decide_eq_false (by omega:¬bot<1)];refine d8 ?_;refine⟨_,rfl,_,_,.inr (aC.of hT),rfl,?_⟩;refine⟨_,rfl,_,_,.inr (aC.of hT),rfl,lp,rfl,.inl ⟨⟨_,aq.of hL⟩,?_⟩⟩;have nb:((bot.natAbs:Nat):Int)=bot:=by omega
  refine um (kY (aq.of hL)) (λi σ' H'=>∃(o4 o5 o6:Option V),σ'=[some (.ref t),some (.ref ls),some (.int (Lm.eU bot.natAbs (je (ps.take i)):Nat)),some (before ps i),o4,o5,o6,none]/\Same H H') ⟨_,_,_,by rw[show je (ps.take 0)=[]from rfl];show _=[some (V.ref t),some (V.ref ls),some (V.int ((bot.natAbs:Nat):Int)),some V.non,_,_,_,none];rw[nb];rfl,Same.refl _⟩ (λi σ' H' ⟨_,_,_,_,z⟩=>z) ?_ ?_
  .rintro i x σ' H1 hx ⟨o4,o5,o6,rfl,g1⟩;obtain⟨t1,a,r,ts,rfl,ep,ht,ha⟩:=(hp.same g1).get hx;obtain⟨n1,n2,n3⟩:=R.ne _ (jF ep);replace n1:r≠0:=n1;replace n2:ts≠[]:=n2;replace n3:Pm.co ts (ts.length-1)≠0:=n3;have lt:=vW.mpr n2;have lt10:ts.length<=10:=(R.ok.2 _ (jF ep)).2.1;refine⟨t1,[.int r,.ref a],rfl,aC.of ht,rfl,_,_,rfl,_,_,rfl,rfl,?_⟩;refine⟨_,rfl,_,rfl,?_⟩;rw[decide_eq_false n1];refine d8 ?_;refine⟨_,rfl,cJ _,λe1 PZ=>?_⟩;have g2:=Same.new PZ (.lst []);have h2:(upd H1 e1 (.lst [])) e1=some (.lst (([]:List Int).map V.int)):=aA;have ha2:=g2 _ _ ha;have iu:=g1.trans g2;generalize upd H1 e1 (.lst [])=H2 at g2 h2 ha2 iu;refine FJ (ns:=ts) (ms:=[]) (aq.of ha2) (aq.of h2) ⟨_,rfl,?_⟩;rw[decide_eq_false n2];refine d8 ?_;refine⟨_,rfl,_,rfl,_,_,.inl (aq.of ha2),Rj (ns:=ts) (ts.length-1) (by decide) (by omega),_,rfl,?_⟩;rw[decide_eq_false (show ¬ts.getD (ts.length-1) 0=0 from n3)];refine d8 ?_;cases i with
   |zero=>
    refine⟨_,rfl,_,rfl,?_⟩;rw[show before ps 0 = .non from rfl,decide_eq_true rfl];refine d8 (d8 ?_);refine⟨_,rfl,?_⟩;refine⟨_,rfl,a,rfl,.inl ⟨⟨_,aq.of ha2⟩,?_⟩⟩;refine um (kY (aq.of ha2)) (λj σ' H'=>∃(o6:Option V),σ'=[some (.ref t),some (.ref ls),some (.int (Lm.eU bot.natAbs (je (ps.take 0)++ts.take j):Nat)),some (.int r),some (.int r),some (.ref a),o6,none]/\H2=H') ⟨_,by rw[show ts.take 0=[]from rfl,xY];rfl,rfl⟩ (λj σ' H' ⟨_,_,z⟩=>z▸Same.refl _) ?_ ?_
    .rintro j y σ' H3 hy ⟨o6,rfl,rfl⟩;obtain⟨rfl,hj⟩:=mH hy;refine⟨_,rfl,_,rfl,_,_,rfl,some (.int (Pm.co ts j)),?_,rfl⟩;rw[Dk (xs:=ts) (n:=j+1) (by omega) (by omega),dY,<-Gw,Lm.MF,tX];rfl
    .rintro σ' H3 ⟨o6,rfl,rfl⟩;rw[aG,kE];refine⟨some (.int r),some (.ref a),o6,?_,iu⟩;rw[take_one ep];show _=[some (V.ref t),some (V.ref ls),some (V.int ((Lm.eU bot.natAbs (je (ps.take 0++[(r,ts)])):Nat):Int)),some (before ps (0+1)),some (.int r),some (.ref a),o6,none];have e1:before ps (0+1) = .int r:=by show(match ps[0]? with|some p=>V.int p.1|none=>V.non)=_;rw[ep]
     have e2:je (ps.take 0++[(r,ts)])=je (ps.take 0)++ts:=by unfold je;rw[adL];show _++(ts++[])=_;rw[xY]
     rw[e1,e2]
   |succ k=>
    have hk:k<ps.length:=by have:=(uT.mp ep).1;omega
    have eb:before ps (k+1) = .int ps[k].1:=by show(match ps[k]? with|some p=>V.int p.1|none=>V.non)=_;rw[eY hk]
    have up:ps[k].1<r:=by
     obtain⟨h1,e⟩:=uT.mp ep;have:=ac8.mp R.up k (k+1) (by rw[aG];exact hk) (by rw[aG];exact h1) (by omega);rw[QN,QN,e]at this;exact this
    rw[eb];refine⟨_,rfl,_,rfl,?_⟩;rw[decide_eq_false (by simp)];refine nq ?_;refine⟨_,rfl,_,rfl,_,_,rfl,rfl,_,rfl,?_⟩;rw[decide_eq_false (by omega:¬r<=ps[k].1)];refine d8 ?_;refine⟨_,rfl,?_⟩;refine⟨_,rfl,a,rfl,.inl ⟨⟨_,aq.of ha2⟩,?_⟩⟩;refine um (kY (aq.of ha2)) (λj σ' H'=>∃(o6:Option V),σ'=[some (.ref t),some (.ref ls),some (.int (Lm.eU bot.natAbs (je (ps.take (k+1))++ts.take j):Nat)),some (.int r),some (.int r),some (.ref a),o6,none]/\H2=H') ⟨_,by rw[show ts.take 0=[]from rfl,xY];rfl,rfl⟩ (λj σ' H' ⟨_,_,z⟩=>z▸Same.refl _) ?_ ?_
    .rintro j y σ' H3 hy ⟨o6,rfl,rfl⟩;obtain⟨rfl,hj⟩:=mH hy;refine⟨_,rfl,_,rfl,_,_,rfl,some (.int (Pm.co ts j)),?_,rfl⟩;rw[Dk (xs:=ts) (n:=j+1) (by omega) (by omega),dY,<-Gw,Lm.MF,tX];rfl
    .rintro σ' H3 ⟨o6,rfl,rfl⟩;rw[aG,kE];refine⟨some (.int r),some (.ref a),o6,?_,iu⟩;rw[take_one ep];show _=[some (V.ref t),some (V.ref ls),some (V.int ((Lm.eU bot.natAbs (je (ps.take (k+1)++[(r,ts)])):Nat):Int)),some (before ps ((k+1)+1)),some (.int r),some (.ref a),o6,none];have e1:before ps ((k+1)+1) = .int r:=by show(match ps[(k+1)]? with|some p=>V.int p.1|none=>V.non)=_;rw[ep]
     have e2:je (ps.take (k+1)++[(r,ts)])=je (ps.take (k+1))++ts:=by unfold je;rw[adL];show _++(ts++[])=_;rw[xY]
     rw[e1,e2]
  .rintro σ' H1 ⟨o4,o5,o6,rfl,g1⟩;rw[pO (by omega),R.gcd];refine⟨_,rfl,_,rfl,d8 ?_⟩;refine⟨(30:Int),rfl,by decide,by decide,?_⟩;refine pq (lo:=0) (n:=(30:Int).toNat) (λi σ' H'=>∃(o7:Option V),σ'=[some (.ref t),some (.ref ls),some (.int ((1:Nat):Int)),some (before ps ys.length),o4,o5,o6,o7]/\Same H H') ⟨_,rfl,g1⟩ ?_ ?_
   .rintro i σ' H2 hi ⟨o7,rfl,g2⟩;have hi':i<30:=by omega
    have lS:sm.length=30:=R.len;refine⟨_,rfl,_,_,.inr (aC.of (g2 _ _ hT)),rfl,_,rfl,_,rfl,_,_,.inl (aq.of (g2 _ _ hS)),fQ (ns:=sm) (by omega:(0:Int)<=0+(i:Int)) (by omega),pU R.bb (Rm.Bd.getD R.Qi _) (by decide),?_⟩;refine⟨_,rfl,_,_,.inr (aC.of (g2 _ _ hT)),rfl,_,rfl,lp,0+(i:Int),ys,ps,ex,rfl,g2 _ _ hL,hp.same g2,by omega,by omega,R.ok,λH3 g3=>?_⟩;refine⟨_,rfl,?_⟩;rw[show(0+(i:Int)).toNat=i by omega];rw[decide_eq_true (show bot*sm.getD i 0=Cf.bJ ps i from R.at_ i hi')];exact d8 ⟨_,rfl,g2.trans g3⟩
   .rintro σ' H2 ⟨o7,rfl,g2⟩;exact q H2 g2
theorem aov{f:Addr}{fd:FuncData}(F:sH K "law" "law" xP f fd)(qu:Iu P w K mg base)(KH:WG P w K mg base)(Td:adl P w K mg base)(Pn:Xq P w K mg base)(wZ:RK P w K mg base)(Aa:Qo P w K mg base)(Ow:Vr P w K mg base)(SG:Yb P w K mg base eO dN)(Ai:SM P w K mg base)(Oz:abM P w K mg base)(za:Mq P w K mg base dN)(wR:Ny P w K mg base)(Mi:aaP P w K mg base):qJ P w K mg base (qY P w) Qt f fd ["_law_script"] (N6 K):=by
 refine F.okN (k:=11) gQ (λvs H Q E h=>?_) (λcdv A outer s H vs Q E hr h=>?_)
 .obtain⟨a,ns,rfl,_⟩:=h;rfl
 .obtain⟨a,ns,rfl,hS,hlen,q⟩:=h;refine⟨_,(au (aD (i:=1) gQ.nd rfl (Or.inl rfl) (aL qu hr rfl (ao (pv 0) (bU ak aj))))
   (au (aD (i:=2) gQ.nd rfl (Or.inl rfl) (aL KH hr rfl (ao (pv 0) aj)))
   (au (aD (i:=3) gQ.nd rfl (Or.inl rfl) (aL Td hr rfl (ao (pv 2) aj)))
   (au (tV (cW (bB (fK K hr) (aB d9 (pv 1) ak) ak (aZ _))
   (au (aD (i:=3) gQ.nd rfl (Or.inl rfl) (aL Pn hr rfl (ao (pv 0) (bU ak (bU ak (bU ak aj))))))
   (aF (aD (i:=3) gQ.nd rfl (Or.inl rfl) (fM (bU ak (aM (iB (jQ K) rfl B.jD boot_tuple (aM (fY (sc:=aiH) (N:=["_law_number_here"]) (ix:=[none]) dI rfl (d7 K (aO (aQ K) (pv 3) ak (λ_ _=>rfl))) (λcl C s₀ H₀ ex=>⟨(aV (i:=0) cX rfl (Or.inl rfl)),dW,(aB cO (aB d9 (pv 0) ak) ak)⟩)) aj)) (aM (iB (jQ K) rfl B.jD boot_tuple (aM (fY (sc:=aeE) (N:=["_law_number_here"]) (ix:=[none]) dI rfl (d7 K (aO (aQ K) (pv 3) ak (λ_ _=>rfl))) (λcl C s₀ H₀ ex=>⟨(aV (i:=0) cX rfl (Or.inl rfl)),dW,(aB cO (aB d9 (pv 0) ak) ak)⟩)) aj)) aj)))))))
   cZ))
   (au (tV (cW (PW.pt (vm (bB (fK K hr) (aB d9 (pv 1) ak) ak (aZ _)) (yd (bB sW (bZ (dO K) rfl B.dG boot_len (aM (aO (aQ K) (pv 3) ak (λ_ _=>rfl)) aj)) ak (aZ _)))))
   (au (aD (i:=5) gQ.nd rfl (Or.inr rfl) ak)
   (au (fZ PassesOwn.never rfl (d7 K (aL wZ hr rfl (ao (pv 3) (dX (aB v_mul ak (bZ (dO K) rfl B.dG boot_len (aM (aO (aQ K) (pv 3) ak (λ_ _=>rfl)) aj))) aj)))) (aV (i:=4) gQ.nd rfl (Or.inl rfl))
   (aF (aD (i:=5) gQ.nd rfl (Or.inr rfl) (aL Aa hr rfl (ao (pv 5) (ao (pv 4) aj))))))
   (aF (aD (i:=3) gQ.nd rfl (Or.inl rfl) (fM (bU ak (aM (aO (aQ K) (pv 3) ak (λ_ _=>rfl)) (aM (iB (jQ K) rfl B.jD boot_tuple (aM (fY (sc:=am0) (N:=["_law_number_here","_law_shared"]) (ix:=[none,some 5]) dI rfl (d7 K (aO (aQ K) (pv 3) ak (λ_ _=>rfl))) (λcl C s₀ H₀ ex=>⟨(aV (i:=0) cX rfl (Or.inl rfl)),dW,(aB yD (pv 0) (bZ (WK rfl) rfl B.VH boot_max (bU ak (ao (pv 1) aj))))⟩)) aj)) aj))))))))
   cZ))
   (au (fZ PassesOwn.never rfl (iJ rfl B.gJ (dX (aB d9 (aB yD (pv 1) ak) ak) aj)) (aV (i:=6) gQ.nd rfl (Or.inl rfl))
   (aF (aD (i:=3) gQ.nd rfl (Or.inl rfl) (aL Ow hr rfl (ao (pv 3) (aM (aO (aQ K) (fB (bU ak (bU ak (dX (aB MR ak ak) (xO (qF qZ ak) aj))))) (aB d9 (aB v_mul (aB d9 (aB yD (pv 1) ak) ak) (aB (dB K) (pv 6) ak)) ak) (λ_ _=>rfl)) aj))))))
   (au (aD (i:=7) gQ.nd rfl (Or.inl rfl) (aL wZ hr rfl (ao (pv 3) (bU ak aj))))
   (au (aD (i:=8) gQ.nd rfl (Or.inl rfl) (Vo (aL SG hr rfl (ao (pv 3) aj))))
   (au (aD (i:=9) gQ.nd rfl (Or.inl rfl) (aL Ai hr rfl (bU ak (aM (aO (aQ K) (aL Oz hr rfl (ao (pv 3) aj)) ak (λ_ _=>rfl)) aj))))
   (au (qM (aL za hr rfl (ao (pv 9) aj)) (lK K (n:=2) rfl (eX (aV (i:=10) gQ.nd rfl (Or.inl rfl)) (eX (aV (i:=11) gQ.nd rfl (Or.inl rfl)) lH))))
   (au (aD (i:=12) gQ.nd rfl (Or.inl rfl) (fB (bU ak aj)))
   (au (fZ PassesOwn.never rfl (d7 K (pv 10)) (lK K (n:=2) rfl (eX (aV (i:=13) gQ.nd rfl (Or.inl rfl)) (eX (aV (i:=14) gQ.nd rfl (Or.inl rfl)) lH)))
   (aF (fZ PassesOwn.never rfl (iJ rfl B.gJ (ao (pv 14) aj)) (aV (i:=6) gQ.nd rfl (Or.inl rfl))
   (aF (aD (i:=12) gQ.nd rfl (Or.inl rfl) (aL wR hr rfl (ao (pv 12) (W3 (fB (dX (aB cO ak (pv 13)) (bU ak aj))) aj))))))))
   (au (cW (bB (iU K hr) (iB (jQ K) rfl B.jD boot_tuple (aM (aL wR hr rfl (ao (pv 12) (aM (iB (xlist K) rfl B.xU boot_list (ao (pv 11) aj)) aj))) aj)) (pv 9) (aZ _))
   (aF (aX nM))
   cZ)
   (au (cW (Jp (acv (pv 8)))
   (au (pH (i:=15) (hN:=gQ.nd) (hi':=rfl) (hx:=(Or.inl rfl)) (sc:=aj5) (N:=["_law_pair"]) (ix:=[none]) dI rfl (d7 K (pv 10)) (λcl C s₀ H₀ ex=>⟨(aV (i:=0) cX rfl (Or.inl rfl)),(Zm (bB (fK K hr) (aO (aQ K) (pv 0) ak (λ_ _=>rfl)) ak (aZ _))),(pv 0)⟩))
   (aF (aX (an7 (uO (fK K hr) (aB d9 (pv 1) ak) ak (aZ _)) (Vz (ao7 (uO (iU K hr) (pv 11) (fM (bU ak aj)) (aZ _)) (Vz (uO (iU K hr) (pv 15) (fB aj) (aZ _)))))))))
   cZ)
   (au (cW (PW.pt (rH (bB (iU K hr) (pv 11) (fM (bU ak aj)) (aZ _)) (Ed (bB (iU K hr) (fY (sc:=apf) (N:=["_law_root","_law_tops"]) (ix:=[none,none]) dI rfl (d7 K (aO (aQ K) (pv 8) ak (λ_ _=>rfl))) (λcl C s₀ H₀ ex=>⟨(lK K (n:=2) rfl (eX (aV (i:=0) cX rfl (Or.inl rfl)) (eX (aV (i:=1) cX rfl (Or.inl rfl)) lH))),dW,(fM (ao (pv 0) (aM (bZ (dO K) rfl B.dG boot_len (ao (pv 1) aj)) aj)))⟩)) (pv 10) (aZ _)))))
   (aF (aX nM))
   cZ)
   (au (cW (PW.pt (vm (bB (fK K hr) (aB d9 (pv 1) ak) ak (aZ _)) (yd (bB (iU K hr) (pv 8) (fM (bU ak (aM (fY (sc:=agO) (N:=["_law_root","_law_tops"]) (ix:=[none,none]) dI rfl (d7 K (pv 2)) (λcl C s₀ H₀ ex=>⟨(lK K (n:=2) rfl (eX (aV (i:=0) cX rfl (Or.inl rfl)) (eX (aV (i:=1) cX rfl (Or.inl rfl)) lH))),dW,(fM (ao (pv 0) (aM (iB (xlist K) rfl B.xU boot_list (ao (pv 1) aj)) aj)))⟩)) aj))) (aZ _)))))
   (aF (aX nM))
   cZ)
   (aF (aX (aL Mi hr rfl (ao (pv 8) (ao (pv 7) aj))))))))))))))))))))),?_⟩
  refine⟨_,rfl,a,ns,0,rfl,hS,by decide,?_⟩;generalize cellAt ns 0=c;refine⟨_,rfl,a,ns,rfl,hS,λlp ys ps H1 g1 hL1 hp1 F=>?_⟩;refine⟨_,rfl,lp,ys,ps,[lp],rfl,hL1,hp1,F,λv2 H2 g2 Df=>?_⟩;have iu:=g1.trans g2;refine qR.by (λσ' H'=>∃v r,σ'=[some (.ref a),some (.int c),some (.ref lp),some v,none,none,none,none,none,none,none,none,none,none,none,none]/\Same H2 H'/\jH H' v r/\gw c r/\(c%3≠1->r=f9 ps)) (λNN j8=>?_) ?_
  .refine⟨_,rfl,_,_,rfl,rfl,(by decide:(0:Int)<3),_,rfl,?_⟩;refine cG (λcc=>?_) (λcc=>?_)
   .have c1:c%3=1:=dec_true cc;refine⟨_,rfl,a,ns,2,0,3,rfl,iu.seq hS,by decide,.inl rfl,by decide,λv3 r3 H3 g3 A8 hl3=>?_⟩;obtain⟨a3,p3,q3,rfl,yS,Gy,DX⟩:=A8;have s3:=hl3.short;have e3:=hl3.len;have f4:∀n:Int,(n%9-4).natAbs<=4:=λn=>by
     have x0:=iC n (show(0:Int)<9 by decide);have x1:=iM n (show(0:Int)<9 by decide);omega
    refine⟨_,rfl,_,_,.inr (aC.of yS),rfl,p3,rfl,.inr ⟨⟨_,aC.of Gy⟩,wN Gy (by omega) rfl (λn=>n%9-4) ?_ ?_⟩⟩
    .intro H4 n g4 hn k hk;exact⟨_,rfl,_,_,rfl,rfl,(by decide:(0:Int)<9),_,_,rfl,rfl,hk⟩
    intro D hD;have k1:=Same.new hD (.lst ((r3.rule.map λn=>n%9-4).map V.int));refine⟨D,_,rfl,.inl ⟨aq.of aA,λu1 hu1=>?_⟩⟩;have k2:=Same.new hu1 (.tup ((r3.rule.map λn=>n%9-4).map V.int));have j2:(upd (upd H3 D (.lst ((r3.rule.map λn=>n%9-4).map V.int))) u1 (.tup ((r3.rule.map λn=>n%9-4).map V.int))) u1=some (.tup ((r3.rule.map λn=>n%9-4).map V.int)):=aA;have k12:=k1.trans k2;have DN:=k12 _ _ yS;have AF:=k12 _ _ DX;generalize upd (upd H3 D (.lst ((r3.rule.map λn=>n%9-4).map V.int))) u1 (.tup ((r3.rule.map λn=>n%9-4).map V.int))=H4 at j2 k12 DN AF;refine⟨_,rfl,_,_,.inr (aC.of DN),rfl,q3,rfl,.inr ⟨⟨_,aC.of AF⟩,wN AF (by omega) rfl (λn=>n%9-4) ?_ ?_⟩⟩
    .intro H5 n g5 hn k hk;exact⟨_,rfl,_,_,rfl,rfl,(by decide:(0:Int)<9),_,_,rfl,rfl,hk⟩
    intro D2 hD2;have k3:=Same.new hD2 (.lst ((r3.starts.map λn=>n%9-4).map V.int));refine⟨D2,_,rfl,.inl ⟨aq.of aA,λu2 hu2=>?_⟩⟩;have k4:=Same.new hu2 (.tup ((r3.starts.map λn=>n%9-4).map V.int));refine⟨(by show 3<=sizeLine;decide),λu3 SR=>?_⟩;have k5:=Same.new SR (.tup [.int 0,.ref u1,.ref u2]);refine j8 _ _ ⟨.ref u3,⟨0,r3.rule.map λn=>n%9-4,r3.starts.map λn=>n%9-4⟩,rfl,g3.trans (k12.trans (k3.trans (k4.trans k5))),⟨u3,u1,u2,rfl,aA,(k3.trans (k4.trans k5)) _ _ j2,k5 _ _ aA⟩,?_,λz=>absurd c1 z⟩;refine⟨rfl,by show(r3.rule.map _).length=(r3.starts.map _).length;rw[aG,aG];exact e3,by show(r3.rule.map _).length<=6;rw[aG];omega,λx hx=>?_,λx hx=>?_,.inr ⟨c1,by show(r3.rule.map _).length<=3;rw[aG];exact s3,λx hx=>?_⟩⟩
    .obtain⟨n,_,rfl⟩:=cM.mp hx;have:=f4 n;exact(Rm.Bd.of (n:=10) (by omega) (by omega)).mono (by decide)
    .obtain⟨n,_,rfl⟩:=cM.mp hx;have:=f4 n;exact(Rm.Bd.of (n:=10) (by omega) (by omega)).mono (by decide)
    .obtain⟨n,_,rfl⟩:=cM.mp hx;exact f4 n
   .exact j8 _ _ ⟨v2,f9 ps,rfl,Same.refl _,Df,F.made c,λ_=>rfl⟩
  rintro σ' H3 ⟨v3,r3,rfl,g3,A8,B3,e3⟩;have rP:=iu.trans g3;have Nf:=B3.ok;have aj7:(3:Int)≠0/\(3:Int).natAbs.log2<9000:=⟨by decide,by decide +kernel⟩;have amB:(9:Int)≠0/\(9:Int).natAbs.log2<9000:=⟨by decide,by decide +kernel⟩;refine qR.by (λσ' H'=>∃v r o4 o5,σ'=[some (.ref a),some (.int c),some (.ref lp),some v,o4,o5,none,none,none,none,none,none,none,none,none,none]/\Same H3 H'/\jH H' v r/\gw c r/\(c%3=0->r=f9 ps)) (λNN j8=>?_) ?_
  .refine⟨_,rfl,_,_,rfl,rfl,(by decide:(0:Int)<3),_,rfl,?_⟩;refine cG (λcc=>?_) (λcc=>?_)
   .have c2:c%3=2:=dec_true cc;obtain rfl:=e3 (by omega);obtain⟨a3,p3,q3,rfl,yS,Gy,DX⟩:=id A8;have lQ:(f9 ps).starts.length=Cf.aJ (lens ps):=Pm.bG ..;have l6:=F.JQ;have lM:((f9 ps).starts.map V.int).length=(f9 ps).starts.length:=aG _;refine⟨_,rfl,_,_,.inr (aC.of yS),rfl,.ref q3,(f9 ps).starts.length,rfl,.inr ⟨_,aC.of DX,lM.symm⟩,_,_,rfl,rfl,_,rfl,?_⟩;refine cG (λ_=>?_) (λ_=>j8 _ _ ⟨.ref a3,f9 ps,_,_,rfl,Same.refl _,A8,B3,λ_=>rfl⟩);refine⟨_,rfl,_,rfl,_,_,.inr (aC.of yS),rfl,.ref q3,(f9 ps).starts.length,rfl,.inr ⟨_,aC.of DX,lM.symm⟩,mulL (by decide) (by decide),.ref a3,f9 ps,_,rfl,A8,Nf,(by omega:(0:Int)<=2*((f9 ps).starts.length:Int)),(by omega:2*((f9 ps).starts.length:Int)<=900),λl4 H4 g4 _ h4=>?_⟩;refine⟨l4,rfl,.inl ⟨⟨_,aq.of h4⟩,?_⟩⟩;have b4:∀x∈(f9 ps).row (2*((f9 ps).starts.length:Int)).toNat,Rm.Bd 600 x:=λx hx=>by
     obtain⟨n,hn,rfl⟩:=afd hx;exact B3.IZ (by omega)
    generalize (f9 ps).row (2*((f9 ps).starts.length:Int)).toNat=rw4 at h4 b4;refine um (kY (aq.of h4)) (λi σ' H'=>∃(o4:Option V) (s:Nat),σ'=[some (.ref a),some (.int c),some (.ref lp),some (.ref a3),o4,some (.int (s:Int)),none,none,none,none,none,none,none,none,none,none]/\s<2^600/\H4=H') ⟨_,0,rfl,SX (by decide),rfl⟩ (λi σ' H' ⟨_,_,_,_,z⟩=>z▸Same.refl _) ?_ ?_
    .rintro i x σ' H' hx ⟨o4,s,rfl,hs,rfl⟩;obtain⟨rfl,hi⟩:=mH hx;refine⟨_,rfl,_,rfl,(s:Int),_,rfl,some (.int (Pm.co rw4 i)),_,rfl,?_,rfl⟩;rw[tX];by_cases z:s=0
     .rw[z,Nat.gcd_zero_left];exact b4 _ (Pm.pN hi)
     .exact n8 (Nat.gcd_le_left _ (by omega)) hs
    rintro σ' H' ⟨o4,s,rfl,hs,rfl⟩;obtain⟨m,hm⟩:∃m,m=(if(s:Int)>1 then(s:Int)else 1):=⟨_,rfl⟩;have m1:1<=m:=by rw[hm];split<;>omega
    have aq2:m.natAbs.log2<9000:=by
     refine Lx ((Ly (by omega)).mpr (?_:m.natAbs<2^600)) (by decide);rw[hm];split
     .rw[tX];exact hs
     .exact Nat.one_lt_two_pow (by decide)
    have DN:=g4 _ _ yS;have AF:=g4 _ _ DX;refine⟨_,rfl,_,_,.inr (aC.of DN),rfl,_,rfl,_,_,.inr (aC.of DN),rfl,q3,rfl,.inr ⟨⟨_,aC.of AF⟩,wN AF (by omega) rfl (λx=>x.fdiv m) ?_ ?_⟩⟩
    .intro H5 n g5 hn k hk;refine⟨_,rfl,_,rfl,1,(s:Int),rfl,?_⟩;rw[<-hm];exact⟨_,_,rfl,rfl,⟨by omega,aq2⟩,hk⟩
    intro D hD;have k1:=Same.new hD (.lst (((f9 ps).starts.map λx=>x.fdiv m).map V.int));refine⟨D,_,rfl,.inl ⟨aq.of aA,λu1 hu1=>?_⟩⟩;have k2:=Same.new hu1 (.tup (((f9 ps).starts.map λx=>x.fdiv m).map V.int));refine⟨(by show 3<=sizeLine;decide),λu3 SR=>?_⟩;have k3:=Same.new SR (.tup [.int 0,.ref p3,.ref u1]);refine j8 _ _ ⟨.ref u3,⟨0,(f9 ps).rule,(f9 ps).starts.map λx=>x.fdiv m⟩,_,_,rfl,g4.trans (k1.trans (k2.trans k3)),⟨u3,p3,u1,rfl,aA,(g4.trans (k1.trans (k2.trans k3))) _ _ Gy,k3 _ _ aA⟩,F.base c (by rw[aG];exact lQ) (λx hx=>?_),λz=>by omega⟩;obtain⟨y,hy,rfl⟩:=cM.mp hx;have by_:=B3.uQ y hy;unfold Rm.Bd at by_⊢;rw[Vx _ (by omega)];exact n8 (Int.natAbs_ediv_le_natAbs _ _) by_
   .exact j8 _ _ ⟨v3,r3,_,_,rfl,Same.refl _,A8,B3,λz=>e3 (by omega)⟩
  rintro σ' H4 ⟨v4,r4,o4,o5,rfl,g4,hR4,B4,e4⟩;have d0:=iC (c.fdiv 3) (show(0:Int)<3 by decide);have d1:=iM (c.fdiv 3) (show(0:Int)<3 by decide);refine⟨_,rfl,_,_,rfl,rfl,aj7,_,_,rfl,rfl,(by decide:(0:Int)<3),c.fdiv 3%3,rfl,(by omega:-(2^62)<=c.fdiv 3%3),(by omega:c.fdiv 3%3<2^62),?_⟩;generalize hst:(c.fdiv 3%3).toNat=st;have hst2:st<=2:=by omega
  refine pq (lo:=0) (n:=st) (λi σ' H'=>∃v r o6,σ'=[some (.ref a),some (.int c),some (.ref lp),some v,o4,o5,o6,none,none,none,none,none,none,none,none,none]/\Same H4 H'/\jH H' v r/\pI r4 i r) ⟨v4,r4,_,rfl,Same.refl _,hR4,pI.start B4⟩ ?_ ?_
  .rintro i σ' H5 hi ⟨v,r,o6,rfl,g5,hR,lg⟩;have ok:=lg.ok B4 (by omega);have ll:=lg.len;have ls:=B4.short;refine⟨_,rfl,_,_,rfl,rfl,⟨by decide,by decide,by decide⟩,_,rfl,(by show 4<=sizeLine;decide),λl6 E4=>?_⟩;have g6:=Same.new E4 (.lst (zm.map V.int));have eH:(upd H5 l6 (.lst [.int 0,.int 5,.int (10^7),.int (-1)]))=upd H5 l6 (.lst (zm.map V.int)):=rfl;obtain⟨ii,Pu⟩:∃ii,ii=c.fdiv 9%7*(0+(i:Int)+1)%4:=⟨_,rfl⟩;have i0:0<=ii:=by rw[Pu];exact iC _ (by decide)
   have i1:ii<4:=by rw[Pu];exact iM _ (by decide)
   have i7:=iM (c.fdiv 9) (show(0:Int)<7 by decide);have i70:=iC (c.fdiv 9) (show(0:Int)<7 by decide);refine⟨_,rfl,_,_,rfl,rfl,amB,_,_,rfl,rfl,(by decide:(0:Int)<7),_,rfl,mulL (by omega) (by omega),_,_,rfl,rfl,(by decide:(0:Int)<4),?_⟩;refine⟨_,_,.inl (aq.of (xs:=zm.map V.int) aA),(by rw[<-Pu];exact fQ (ns:=zm) i0 i1),v,r,_,rfl,hR.same g6,ok,by omega,(Yg i0 i1).mono (by decide),λv' H7 g7 hR'=>?_⟩;exact⟨v',_,_,rfl,g5.trans (g6.trans g7),hR',lg.step B4 (by omega) (Yg i0 i1)⟩
  rintro σ' H5 ⟨v5,r5,o6,rfl,g5,Oa,lg⟩;have yC:=lg.ok B4 (by omega);have Wd:=lg.tame B4 (by omega);have ea:r5.at=r4.at:=funext lg.same;have hB5:j6 r5.b:=by rw[lg.by_];exact .inl rfl
  have ls5:=yC.short;refine⟨_,rfl,v5,r5,30,rfl,Oa,yC,by decide,by decide,λls H6 g6 _ h6=>?_⟩;replace h6:H6 ls=some (.lst ((r5.row 30).map V.int)):=h6;refine Bar.by (λv H'=>Same H6 H'/\Found c r5.at H' v) (λkk hkk=>?_) ?_
  .refine⟨_,rfl,v5,r5,rfl,Oa.same g6,lg.by_,yC,Wd,λn hn=>?_,λL lst=>?_,λL lst hc H7 g7=>hkk _ _ ⟨g7,.inl ⟨rfl,?_,L,lst,hc⟩⟩,λL l bot us Fo t xu ys' ex H7 g7 ht hl hp=>hkk _ _ ⟨g7,.inr ⟨L,l,bot,us,t,xu,ys',ex,rfl,Fo,ht,hl,hp⟩⟩⟩
   .rw[lg.same];exact B4.IZ (by omega)
   .rw[ea]at lst;exact B4.small lst
   .rw[ea]at lst;exact B4.some_ lst hc
  rintro v8 H7 ⟨g7,hF⟩;refine⟨_,rfl,v5,r5,rfl,Oa.same (g6.trans g7),yC,hB5,Wd,λv9 L H8 g8 hR8 lst ll=>?_⟩;obtain⟨a9,p9,q9,rfl,hA9,hP9,hQ9⟩:=hR8;have lrl:(Hj r5 L).rule.length=L.length-1:=Pm.rZ ..;refine⟨_,_,.inr (aC.of hA9),rfl,0,p9,(Hj r5 L).rule,rfl,by decide,hP9,by omega,λtL H9 g9 hL9=>?_⟩;rw[lg.by_]at lst;have eL:Pm.aU 0 (Hj r5 L).rule=L:=by
   show Pm.aU 0 (Pm.fR r5.b L)=L;rw[lg.by_,Pm.G9 (λk=>Rm.bh _) lst.mon]
  rw[eL]at hL9;have XI:j7 0 r4.at L:=by rw[<-ea];exact lst
  obtain⟨l7,s7⟩:=B4.small XI;refine⟨_,rfl,tL,L,rfl,hL9,by omega,lst.mon,λ_ t lr tl xs rm qp ht hlr _ hT htl=>?_,λ⟨x,hx,hx2⟩ rm qp=>absurd (s7 x hx) (by omega)⟩;refine⟨t,_,rfl,aC.of ht,rfl,_,_,rfl,_,_,rfl,rfl,?_⟩;obtain⟨l,w1,w2,w3,w4,w5,w6,w7⟩:=Pm.LV lst.mon;generalize hRr:(Pm.wr L).2=R at w2 w3 w6 htl;rw[w1]at hT;have hrb:=YQ s7 w7;obtain⟨mk1,_,mk3⟩:=Pm.made w6 l;have pR:=w6.pos;have hN:Cf.aJ l+R.length=L.length:=by rw[w2];exact mk3.symm
  have hN6:Cf.aJ l<=6:=by omega
  have Y6:=hT.len;rw[aG]at Y6;refine⟨(by show 1<=sizeLine;decide),λl0 h0=>?_⟩;have qH:=Same.new h0 (.lst [.int 1]);have h11:(upd rm l0 (.lst [.int 1])) l0=some (.lst (([1]:List Int).map V.int)):=aA;have Hr:=qH _ _ hlr;have hT1:=hT.same qH;have RQ:=qH _ _ htl;have Bm:=g8.trans (g9.trans (qp.trans qH));have hF1:=hF.same Bm;have Zn:=Bm _ _ (g7 _ _ h6);have UC:=(qp.trans qH) _ _ hL9;have abR:=(g2.trans (g3.trans (g4.trans (g5.trans (g6.trans (g7.trans Bm)))))) _ _ hL1;have aaf:=hp1.same (g2.trans (g3.trans (g4.trans (g5.trans (g6.trans (g7.trans Bm))))));generalize upd rm l0 (.lst [.int 1])=JV at qH h11 Hr hT1 RQ Bm hF1 Zn UC abR aaf;refine⟨_,rfl,lr,rfl,.inl ⟨⟨_,aq.of Hr⟩,?_⟩⟩;refine um (kY (aq.of Hr)) (λi σ' H'=>∃(lq:Addr) (o6 yr yh:Option V),σ'=[some (.ref a),some (.int c),some (.ref lp),some v5,o4,o5,o6,some (.ref ls),some v8,some (.ref tL),some (.ref lr),some (.ref tl),some (.ref lq),yr,yh,none]/\Same JV H'/\H' lq=some (.lst ((Pm.iw (l.take i) [1]).map V.int))/\∀z∈Pm.iw (l.take i) [1],Rm.Bd (1+50*Cf.aJ (l.take i)) z)
   ⟨l0,_,_,_,rfl,Same.refl _,h11,λz hz=>by rw[cP.mp hz];exact(Rm.Bd.of (n:=1) (by decide) (by decide)).mono (by omega)⟩ (λi σ' H' ⟨_,_,_,_,_,g,_⟩=>g) ?_ ?_
  .rintro i x σ' H12 hx ⟨lq,o6,yr,yh,rfl,W9,hq,bz⟩;obtain⟨t2,p2,rfl,ep,pF⟩:=(hT1.same W9).get hx;obtain⟨⟨r,m⟩,el,rfl⟩:=Km ep;replace pF:H12 t2=some (.tup [.int r,.int (m:Int)]):=pF;have Y5:Rm.Bd 20 r:=hrb _ (jF el);have hm6:m<=Cf.aJ l:=E5 (jF el);have e2:Cf.aJ (l.take (i+1))=Cf.aJ (l.take i)+m:=by rw[take_one el,yV];rfl
   have e3':=Lq l (i+1);obtain⟨mA,zA⟩:=Pm.uK (l.take i) Pm.rY;replace zA:(Pm.iw (l.take i) [1]).length=1+Cf.aJ (l.take i):=zA;refine⟨t2,_,rfl,aC.of pF,rfl,_,_,rfl,_,_,rfl,rfl,?_⟩;refine⟨_,rfl,(m:Int),rfl,(by omega:-(2^62)<=(m:Int)),(by omega:(m:Int)<2^62),?_⟩;rw[fW,take_one el,M5,yV];generalize Pm.iw (l.take i) [1]=AA at hq bz mA zA;refine pq (lo:=0) (n:=m) (λj σ' H'=>∃(lq:Addr) (o6:Option V),σ'=[some (.ref a),some (.int c),some (.ref lp),some v5,o4,o5,o6,some (.ref ls),some v8,some (.ref tL),some (.ref lr),some (.ref tl),some (.ref lq),some (.int r),some (.int (m:Int)),none]/\Same JV H'/\H' lq=some (.lst ((Pm.cN r j AA).map V.int))/\∀z∈Pm.cN r j AA,Rm.Bd (1+50*(Cf.aJ (l.take i)+j)) z)
    ⟨lq,_,rfl,W9,hq,bz⟩ ?_ ?_
   .rintro j σ' H13 hj ⟨lq,o6,rfl,Ry,hq,bz⟩;obtain⟨mJ,zJ⟩:=Pm.Dj (r:=r) mA j;refine⟨_,rfl,_,rfl,_,_,rfl,rfl,(by show 2<=sizeLine;decide),λl1 h1=>?_⟩;have DF:=Same.new h1 (.lst [.int (0-r),.int 1]);refine⟨lq,l1,Pm.cN r j AA,Pm.lin r,rfl,DF _ _ hq,aA,mJ.pos,(by show 0<2;decide),by omega,(by show 2<=100;decide),λz hz=>(bz z hz).mono (by omega),V6 Y5,λl2 H15 EV _ h2=>?_⟩;have ee:=(Pm.E8 mJ (Pm.C0 r)).1;rw[ee]at h2;exact⟨l2,_,rfl,(Ry.trans DF).trans EV,h2,λz hz=>(Wi bz (Y5.mono (by decide)) z hz).mono (by omega)⟩
   .rintro σ' H13 ⟨lq,o6,rfl,Ry,hq,bz⟩;exact⟨lq,_,_,_,rfl,Ry,hq,bz⟩
  rintro σ' H12 ⟨lq,o6',yr,yh,rfl,acV,hq,bz⟩;rw[Y6,kE]at hq bz;obtain⟨mP,zP⟩:=Pm.uK l Pm.rY;replace zP:(Pm.iw l [1]).length=1+Cf.aJ l:=zP;have hR6:=B4.rest XI w6 w2;refine⟨_,rfl,_,rfl,tl,_,rfl,.inr (aC.of (acV _ _ RQ)),λl2 hl2=>?_⟩;have k1:=Same.new hl2 (.lst (R.map V.int));refine⟨lq,l2,Pm.iw l [1],R,rfl,k1 _ _ hq,aA,mP.pos,pR,by omega,by omega,λz hz=>(bz z hz).mono (by omega),λz hz=>?_,λl3 H14 k2 _ h3=>?_⟩
  .have:=hR6 z hz;exact(Rm.Bd.of (n:=20) (by omega) (by omega)).mono (by decide)
  rw[mk1,<-w2]at h3;refine⟨l3,_,rfl,.inl ⟨aq.of h3,λt4 N5=>?_⟩⟩;have k3:=Same.new N5 (.tup (L.map V.int));have k13:=acV.trans (k1.trans (k2.trans k3));refine⟨_,rfl,wY (ns:=L) (ms:=L) (aC.of aA) (aC.of (k13 _ _ UC)) ⟨_,rfl,?_⟩⟩;rw[decide_eq_true rfl];refine d8 ?_;have qX:=k13 _ _ Hr;have hT5:=hT1.same k13;have KR:=k13 _ _ RQ;have V7:=hF1.same k13;have N8:=k13 _ _ Zn;have LQ:=k13 _ _ abR;have OV:=aaf.same k13;generalize upd H14 t4 (.tup (L.map V.int))=H15 at qX hT5 KR V7 N8 LQ OV;rcases V7 with⟨rfl,c1,L',amZ,hc⟩|⟨L',l',bot,us,t',xu,ys',ex,rfl,Fo,ht',DB,hp'⟩
  .refine⟨_,rfl,_,rfl,?_⟩;rw[decide_eq_true rfl];refine nq ?_;obtain rfl:=amZ.uniq rfl lst;refine⟨_,rfl,lr,rfl,.inl ⟨⟨_,aq.of qX⟩,?_⟩⟩;refine aeG qX hT5 (by have:=JX w5;omega) rfl (λx=>decide (x.headD 0=0)) ?_ ?_ ?_
   .intro QC tt cc u5 hcc htt kk hkk;obtain⟨x,_,rfl⟩:=cM.mp hcc;exact⟨_,rfl,_,_,.inr (aC.of htt),rfl,_,rfl,hkk _ (Same.refl _)⟩
   .intro QC tt k hk;exact⟨_,rfl,hk⟩
   intro D QC zs hD u5 h16 afe;refine⟨_,rfl,_,_,rfl,rfl,(by decide:(0:Int)<3),_,rfl,?_⟩;rw[show id (decide (c%3=1))=true from decide_eq_true c1];refine nq ?_;refine⟨_,rfl,(by show 1<=sizeLine;decide),λt5 tQ=>?_⟩;have k5:=Same.new tQ (.tup [.int 1]);refine wY (ns:=R) (ms:=[1]) (aC.of (k5 _ _ (u5 _ _ KR))) (aC.of aA) ⟨_,rfl,?_⟩;by_cases cR:R=[1]
   .rw[decide_eq_true cR];refine d8 ?_;refine⟨_,rfl,cJ _,λe5 he5=>?_⟩;have k6:=Same.new he5 (.lst []);refine Wm (L:=(l.map Pm.gh).filter λx=>decide (x.headD 0=0)) (M:=[]) ((k5.trans k6) _ _ h16) (afe.same (k5.trans k6)) aA .nil ?_;have en:¬((l.map Pm.gh).filter λx=>decide (x.headD 0=0))=[]:=λz=>by
     rcases hc with hc|⟨x,hx,hz⟩
     .exact hc (hRr.trans cR)
     .rw[w1]at hx;exact absurd (decide_eq_true hz) (Wy.mp z x hx)
    rw[decide_eq_false en];exact q _
   .rw[decide_eq_false cR];exact nq (q _)
  .refine⟨_,rfl,_,rfl,?_⟩;rw[decide_eq_false (by simp)];refine d8 ?_;obtain rfl:=Fo.least.uniq rfl lst;have hR1:R=[1]:=by rw[<-hRr,Fo.wr]
   have em:(Cf.dR l' us).map (λp=>Pm.gh (p.1,p.2.length))=l.map Pm.gh:=by
    have:=congrArg (List.map Pm.gh) (Cf.Di l' us Fo.len);rw[fj]at this;rw[<-w1,Fo.wr];exact this
   have lpp:ys'.length<=6:=by
    have e1:=hp'.len;have e2:=congrArg List.length (Cf.Di l' us Fo.len);rw[aG]at e2;have:=JX Fo.pos;have:=Fo.few;omega
   refine⟨_,rfl,(by show 1<=sizeLine;decide),λt5 tQ=>?_⟩;have k5:=Same.new tQ (.tup [.int 1]);refine wY (ns:=R) (ms:=[1]) (aC.of (k5 _ _ KR)) (aC.of aA) ⟨_,rfl,?_⟩;rw[decide_eq_true hR1];refine d8 ?_;generalize upd H15 t5 (.tup [.int 1])=QC at k5;refine⟨_,rfl,_,_,.inr (aC.of (k5 _ _ ht')),rfl,xu,rfl,.inl ⟨⟨_,aq.of (k5 _ _ DB)⟩,?_⟩⟩;refine akZ (k5 _ _ DB) (hp'.same k5) (by omega) rfl (λp=>Pm.gh (p.1,p.2.length)) ?_ ?_
   .intro H17 r ts b g17 hb _ k hk;refine⟨_,rfl,_,rfl,.ref b,ts.length,rfl,.inl ⟨_,aq.of hb,(aG _).symm⟩,(by show 2<=sizeLine;decide),λt6 vG=>?_⟩;exact hk t6 _ (Same.new vG _) aA
   intro D6 H17 zs g17 h17 YL;rw[em]at YL;have qN:=k5.trans g17;refine⟨_,rfl,Wm h17 YL (qN _ _ qX) (hT5.same qN) ⟨_,rfl,?_⟩⟩;rw[decide_eq_true rfl];refine d8 ?_;refine⟨_,rfl,_,_,rfl,rfl,(by decide:(0:Int)<3),_,rfl,?_⟩;refine cG (λcc=>?_) (λcc=>d8 ?_)
   .have c0:c%3=0:=dec_true cc;have er4:=e4 c0;subst er4;obtain⟨rs,er,hrs⟩:∃rs,Pm.aU 0 (f9 ps).rule=Cf.dZ rs/\∀x∈rs,x∈gb:=by
     rcases B4.kind with z|⟨z,_⟩
     .exact z
     .omega
    obtain⟨b1,ep⟩:=Form.made F B4 er hrs (ea▸Fo) (ahr ps);have lps:=OV.len;have:=F.few;refine⟨_,rfl,_,rfl,lp,rfl,.inl ⟨⟨_,aq.of (qN _ _ LQ)⟩,?_⟩⟩;refine aml (qN _ _ LQ) (OV.same qN) (by omega) rfl ?_ ?_
    .intro MX r ts b IY hb k hk;refine⟨_,rfl,_,rfl,b,_,rfl,.inl (aq.of hb),λl7 Jy=>?_⟩;have j1:=Same.new Jy (.lst (ts.map V.int));refine⟨(by show 2<=sizeLine;decide),λt7 ht7=>?_⟩;have j2:=Same.new ht7 (.tup [.int r,.ref l7]);exact hk t7 l7 _ (j1.trans j2) Jy aA (j2 _ _ aA)
    intro D8 MX zs8 IY h18 ahW;refine⟨(by show 2<=sizeLine;decide),λt9 ht9=>?_⟩;have j9:=Same.new ht9 (.tup [.int 1,.ref D8]);have yj:=qN.trans (IY.trans j9);refine ak8 (n:=1) (ps:=ps) (by have:=yj _ _ ht';rwa [b1]at this) (yj _ _ DB) (by rw[<-ep];exact hp'.same yj) aA (j9 _ _ h18) (ahW.same j9) ⟨_,rfl,d8 ?_⟩;refine⟨_,rfl,_,rfl,t',xu,ls,ys',Cf.dR l' us,ex,bot,r5.row 30,rfl,yj _ _ ht',yj _ _ DB,hp'.same yj,yj _ _ N8,Fo.right yC,λMX IY=>q _⟩
   .refine⟨_,rfl,_,rfl,t',xu,ls,ys',Cf.dR l' us,ex,bot,r5.row 30,rfl,qN _ _ ht',qN _ _ DB,hp'.same qN,qN _ _ N8,Fo.right yC,λMX IY=>q _⟩
end
def all_mk{P:Program}{w:World}{K:W.Frag}{h:Heap}{mg:Str->Option Value}{fa:Addr}(X:K.In h)(G:h.Ns mainGlobals mg)(hfa:mg "law" = some (.ref fa))
  (F0:bF K "is_prime" Qc) (F1:bF K "taken" Kw) (F2:bF K "inverse" Lp) (F3:bF K "over" K9) (F4:bF K "refuse_prime" PN) (F5:bF K "trimmed" Oq) (F6:bF K "divided" SV) (F7:bF K "monic" R3) (F8:bF K "greatest" MN) (F9:bF K "of_rule" J5) (F10:bF K "rule_of" QZ) (F11:bF K "prime_above" Kd) (F12:bF K "divides" RM) (F13:bF K "taken_poly" N7) (F14:bF K "nearest" Lg) (F15:bF K "joined" Q6) (F16:bF K "whole_greatest" Oh) (F17:bF K "shared_divisor" R7) (F18:bF K "top_of" R8) (F19:bF K "least_of" Tg) (F20:bF K "shortest" K2) (F21:bF K "line_taken" Uj) (F22:bF K "head_line" Qv) (F23:bF K "bring_up" QY) (F24:bF K "freed" SN) (F25:bF K "clear" LZ) (F26:bF K "common_divisor" Oe) (F27:bF K "lowest" Qh) (F28:bF K "free_numbers" Q9) (F29:bF K "solution" R6) (F30:bF K "column_of" NV) (F31:bF K "paper_against" Ra) (F32:bF K "solved" Qp) (F33:bF K "refuse_big" OX) (F34:bF K "whole_divisors" Lb) (F35:bF K "perhaps_roots" QJ) (F36:bF K "divided_out" NW) (F37:bF K "whole_roots" Tp) (F38:bF K "power" Kc) (F39:bF K "form_line" TR) (F40:bF K "parts_of" SW) (F41:bF K "closed" La) (F42:bF K "_law_cell_at" PX) (F43:bF K "_law_mixed" Le) (F44:bF K "_law_taken" Nj) (F45:bF K "_law_number" OL) (F46:bF K "_law_gone" RH) (F47:bF K "_law_row" MG) (F48:bF K "_law_longer" QX) (F49:bF K "_law_divisor" Ss) (F50:bF K "_law_power" Sv) (F51:bF K "_law_value" J2) (F52:bF K "_law_times" ML) (F53:bF K "_law_parts" Rp) (F54:bF K "_law_made" QW) (F55:bF K "_law_form_right" MQ) (FL:bF K "law" xP) (aiC:W.nsIn K mainGlobals "abs" = some none) (amD:W.nsIn K mainGlobals "any" = some none) (ahM:W.nsIn K mainGlobals "enumerate" = some none) (akG:W.nsIn K mainGlobals "isinstance" = some none) (anb:W.nsIn K mainGlobals "len" = some none) (aix:W.nsIn K mainGlobals "list" = some none) (asS:W.nsIn K mainGlobals "max" = some none) (aeS:W.nsIn K mainGlobals "range" = some none) (aoL:W.nsIn K mainGlobals "reversed" = some none) (atO:W.nsIn K mainGlobals "sum" = some none) (ahw:W.nsIn K mainGlobals "tuple" = some none) (arP:W.nsIn K mainGlobals "zip" = some none) (R9:∃t,W.nsIn K mainGlobals "ABOVE_ALL_NUMBERS" = some (some (.int 1000000 t))) (J0:∃t,W.nsIn K mainGlobals "BELOW_THE_PRIMES" = some (some (.int 1000000 t))) {eO:Addr} (abB:W.nsIn K mainGlobals "NoBy" = some (some (.ref eO))) {dN:Addr} (Zk:W.nsIn K mainGlobals "TooBig" = some (some (.ref dN))) (alQ:W.excIn K eO [.type "ValueError",.type "Exception",.type "BaseException",.type "object"] "ValueError.__new__" = true) (afi:W.findIn K (.ref eO) "__getattribute__" = some (some (.builtin "BaseException.__getattribute__"))) (agt:W.findIn K (.ref eO) "__getattr__" = some none) (afW:W.findIn K (.ref eO) "__class__" = some (some (.builtin "object.__class__"))) (arI:W.mroIn K eO (.type "BaseException")=some true) (afn:W.mroIn K eO (.type "object")=some true) (apc:(W.clsIn K eO).isSome=true) (abI:W.kitOne K (.ref eO) (.ref eO)=some true) (ada:W.kitOne K (.ref eO) (.ref dN)=some false) (YC:W.kitOne K (.ref eO) (.type "ValueError")=some true) (aqy:W.excIn K dN [.type "ValueError",.type "Exception",.type "BaseException",.type "object"] "ValueError.__new__" = true) (amW:W.findIn K (.ref dN) "__getattribute__" = some (some (.builtin "BaseException.__getattribute__"))) (ajd:W.findIn K (.ref dN) "__getattr__" = some none) (arM:W.findIn K (.ref dN) "__class__" = some (some (.builtin "object.__class__"))) (asB:W.mroIn K dN (.type "BaseException")=some true) (an5:W.mroIn K dN (.type "object")=some true) (aeR:(W.clsIn K dN).isSome=true) (aey:W.kitOne K (.ref dN) (.ref eO)=some false) (acH:W.kitOne K (.ref dN) (.ref dN)=some true) (adC:W.kitOne K (.ref dN) (.type "ValueError")=some true):
  ∃fd:FuncData,(∀(s:Shared) (v:Value),BindsTo s fd ⟨[v],[]⟩ [("_law_script",v)])/\∀base:Heap,K.In base->base.Ns mainGlobals mg->qJ P w K mg base (qY P w) Qt fa fd ["_law_script"] (N6 K):=by
 obtain⟨f,oc,od,kV,doc,pm,an,cdv,ct,sl,e1,e2,e3,e4⟩:=FL.ex;have e:=hfa.symm.trans (xV X G e1);cases e;have FF:=ado (st:=xP) e2 e3 e4;have B:Bt mg:=⟨oR X G aiC,oR X G amD,oR X G ahM,oR X G akG,oR X G anb,oR X G aix,oR X G asS,oR X G aeS,oR X G aoL,oR X G atO,oR X G ahw,oR X G arP,(let⟨t,q⟩:=R9;⟨t,xV X G q⟩),(let⟨t,q⟩:=J0;⟨t,xV X G q⟩)⟩;refine⟨W.fnOf "law" "law" (qe xP) (lD xP) (aW xP) .none kV doc pm an cdv ct,λs v=> .of_eq rfl,λbase kB gB=>?_⟩;have M:Ms K mg base eO dN:=⟨xV X G abB,xV X G Zk,Zj kB gB abB alQ TQ (by decide),⟨afi,agt,afW,arI,afn,apc⟩,abI,ada,YC,Zj kB gB Zk aqy TQ (by decide),⟨amW,ajd,arM,asB,an5,aeR⟩,aey,acH,adC⟩;have KL:=arW (P:=P) (w:=w) B M (F0.bR X G);have dD:=ako (P:=P) (w:=w) B M (F1.bR X G);have J6:=aji (P:=P) (w:=w) B M (F2.bR X G) dD;have oK:=akq (P:=P) (w:=w) B M (F3.bR X G) dD J6;have RV:=aqM (P:=P) (w:=w) B M (F4.bR X G);have qP:=ahk (P:=P) (w:=w) B M (F5.bR X G);have nQ:=aga (P:=P) (w:=w) B M (F6.bR X G) dD qP;have Cd:=alr (P:=P) (w:=w) B M (F7.bR X G) oK;have Af:=alp (P:=P) (w:=w) B M (F8.bR X G) Cd nQ;have Ai:=arh (P:=P) (w:=w) B M (F9.bR X G) dD;have Mz:=amV (P:=P) (w:=w) B M (F10.bR X G) dD;have Ru:=afA (P:=P) (w:=w) B M (F11.bR X G) KL;have Jv:=amU (P:=P) (w:=w) B M (F12.bR X G) nQ;have Er:=akT (P:=P) (w:=w) B M (F13.bR X G) qP dD;have Ao:=amA (P:=P) (w:=w) B M (F14.bR X G);have NQ:=aiI (P:=P) (w:=w) B M (F15.bR X G) oK dD Ao;have Od:=aqX (P:=P) (w:=w) B M (F16.bR X G) Jv Ru Af Er Ao NQ;have Og:=ajN (P:=P) (w:=w) B M (F17.bR X G) Od Af;have MV:=auj (P:=P) (w:=w) B M (F18.bR X G) dD qP;have yN:=ars (P:=P) (w:=w) B M (F19.bR X G) Ai MV nQ Og;have Oz:=am3 (P:=P) (w:=w) B M (F20.bR X G) yN Mz;have Lw:=auu (P:=P) (w:=w) B M (F21.bR X G) dD;have Oi:=asM (P:=P) (w:=w) B M (F22.bR X G);have Sq:=apq (P:=P) (w:=w) B M (F23.bR X G) dD;have MD:=afu (P:=P) (w:=w) B M (F24.bR X G) oK dD;have Pz:=ame (P:=P) (w:=w) B M (F25.bR X G) Oi Sq MD;have Ox:=aqg (P:=P) (w:=w) B M (F26.bR X G);have CY:=asF (P:=P) (w:=w) B M (F27.bR X G) oK Ox;have Tw:=ah9 (P:=P) (w:=w) B M (F28.bR X G) dD CY;have Dn:=amC (P:=P) (w:=w) B M (F29.bR X G) Lw Pz CY Tw;have abF:=agE (P:=P) (w:=w) B M (F30.bR X G);have TY:=aqt (P:=P) (w:=w) B M (F31.bR X G) abF Dn;have Qg:=aiN (P:=P) (w:=w) B M (F32.bR X G) Dn TY;have Ph:=agn (P:=P) (w:=w) B M (F33.bR X G);have SJ:=afU (P:=P) (w:=w) B M (F34.bR X G);have M9:=aif (P:=P) (w:=w) B M (F35.bR X G) SJ;have Tt:=apo (P:=P) (w:=w) B M (F36.bR X G) nQ;have za:=aoM (P:=P) (w:=w) B M (F37.bR X G) Ph M9 Tt;have Jh:=ane (P:=P) (w:=w) B M (F38.bR X G);have KN:=ag1 (P:=P) (w:=w) B M (F39.bR X G) Jh;have KZ:=arw (P:=P) (w:=w) B M (F40.bR X G);have SG:=ahY (P:=P) (w:=w) B M (F41.bR X G) RV za yN KN Qg KZ;have qu:=aof (P:=P) (w:=w) B M (F42.bR X G);have C8:=atp (P:=P) (w:=w) B M (F43.bR X G);have zG:=alz (P:=P) (w:=w) B M (F44.bR X G);have Ik:=ahl (P:=P) (w:=w) B M (F45.bR X G);have wZ:=amw (P:=P) (w:=w) B M (F46.bR X G) zG;have Pn:=asq (P:=P) (w:=w) B M (F47.bR X G) qu Ik C8;have Ow:=aqp (P:=P) (w:=w) B M (F48.bR X G) wZ zG;have Aa:=ak9 (P:=P) (w:=w) B M (F49.bR X G)
 have FD:=ahE (P:=P) (w:=w) B M (F50.bR X G);have Ba:=al3 (P:=P) (w:=w) B M (F51.bR X G) FD;have wR:=ajx (P:=P) (w:=w) B M (F52.bR X G);have KH:=af2 (P:=P) (w:=w) B M (F53.bR X G) qu;have Td:=ao2 (P:=P) (w:=w) B M (F54.bR X G) wR Ba;have Mi:=arF (P:=P) (w:=w) B M (F55.bR X G) Aa Ba;exact aov B M FF qu KH Td Pn wZ Aa Ow SG Ai Oz za wR Mi
end K60
namespace L2
open PySem PySem.W W.X
def atx{q:Program}{loose:List Str}{XP:(Str->Option Value)->Heap->Prop}{K:Params->Frag}{as:List Addr}{n t:Nat}{r:RowW}{d:DefRec}{kwd:List (Str×PySem.Expr)}{run:Value->List Value->Sem Value}(keys:∀P,as=(K P).map (·.1))
  (W:WalkO q loose XP (λw h=>(K w.params).In h) r d kwd run):WalkX q loose XP (obsZ as) (valZ K n t) r d kwd run:=
 λw s0 s1 mg mb G y a o pm cd doc dV kV h1 h2 h3 h4 h5 h6 args vals as' L p1 p2 p3 p4 p5=>W w s0 s1 mg mb G (InK.keeps w _ _ (z_facts keys y).2.1 L.keeps) a o pm cd doc dV kV h1 h2 h3 h4 h5 h6 args vals as' p1 p2 p3 p4 p5
end L2
namespace K60
def topF(i:Nat):PySem.Stmt:=PySem.Challenge.pw_nextbyrule_k60_whole_closed_forms.main.body.getD i (.Pass ⟨0,0,0,0⟩)
def pwL:PySem.Program:={ PySem.Challenge.pw_nextbyrule_k60_whole_closed_forms with main:={ PySem.Challenge.pw_nextbyrule_k60_whole_closed_forms.main with body:=[topF 0,topF 1,topF 2,topF 3,topF 4,topF 5,topF 6,topF 7,topF 8,topF 9,topF 10,topF 11,topF 12,topF 13,topF 14,topF 15,topF 16,topF 17,topF 18,topF 19,topF 20,topF 21,topF 22,topF 23,topF 24,topF 25,topF 26,topF 27,topF 28,topF 29,topF 30,topF 31,topF 32,topF 33,topF 34,topF 35,topF 36,topF 37,topF 38,topF 39,topF 40,topF 41,topF 42,topF 43,topF 44,topF 45,topF 46,topF 47,topF 48,topF 49,topF 50,topF 51,topF 52,topF 53,topF 54,topF 55,topF 56,topF 57,topF 58,topF 59,topF 60,topF 61,topF 62,topF 63,topF 64,topF 65,topF 66,topF 67,topF 68,topF 69,topF 70,topF 71,topF 72] } }
def rwL:PySem.W.OpenLaw:={ PySem.Challenge.rw_nextbyrule_k60_whole_closed_forms with prog:=pwL }
end K60
namespace K60
namespace H
noncomputable section
open PySem PySem.W PySem.Calls PyProof.Rows
theorem warm:(K60.pwL.main.body.isEmpty||true)=true:=by k_qdec
abbrev kh:=PyData.keyHash
abbrev tt(i:Nat):Stmt:=PySem.W.Fast.tw14956418425115194242 i
def zs(n:Nat):Str:=⟨⟨Nat.rec (motive:=λ_=>Nat->List Nat) (λ_=>[]) (λ_ f n=>cond (Nat.beq n 0) [] (Nat.mod n 128::f (Nat.div n 128))) 64 n⟩⟩
def z0:=zs 53901559791857631
def z1:=zs 838469144913515345943878124200401068839150989690277264922432874483967808368876
def z2:=zs 421105403244511
def z3:=zs 113039760542812094607327
def z4:=zs 883130438894441148383
def z5:=zs 53901488956436447
def z6:=zs 30344151541145318921183520387039
def z7:=zs 14469218985635115783729119
def z8:=zs 53901559540068319
def z9:=zs 2357460733860917196365705647
def FT:=zs 883122557733039566815
def iZ:=zs 8277558478201633490
def vN:=zs 64623894148134862
def vh:=zs 254851022
def u0:=zs 3567379019732
def JD:=zs 57340970975885801
def Iw:=zs 29741478132
def GD:=zs 448184882935657
def JL:=zs 240745327
def Gu:=zs 15392349691394191890428658
def HM:=zs 443304474474868
def Ij:=zs 443302050378980
def Jz:=zs 26797127661
def Gz:=zs 65811471622830439
def Hh:=zs 447945196958575
def GR:=zs 452440390056690
def z26:=zs 3388939034338339719930224380682946
def Hg:=zs 120336165584743079508336
def GP:=zs 509272748045540
def Hy:=zs 1123873219935479722228
def Jx:=zs 514152117859054
def Eu:=zs 3463318239210
def JF:=zs 289441913161409316528838145143
def IG:=zs 284414884579460083709784913011
def Fy:=zs 3534690727924
def Gk:=zs 57912373968138988
def Jq:=zs 65811471658644595
def Fb:=zs 1021909407318828365036
def Hf:=zs 7340207024155161320
def Fz:=zs 63568258281404770
def EA:=zs 27057027430
def G7:=zs 30806734435
def Hq:=zs 284414884579460084056056362979
def JC:=zs 4016813504492
def E9:=zs 17513834785821938975078758
def FN:=zs 62416317197268979
def Et:=zs 7412783660194805731
def Ip:=zs 2261275470442055200019329264
def EG:=zs 3463335065587
def XG:=zs 434308986316663104229769186100109633
def EW:=zs 957628957581328888562
def Gd:=zs 286948200321414495131064333431
def E3:=zs 2242085010208081143823905520
def Gs:=zs 138035814848017555371236
def Eo:=zs 136846008923829311370359
def C5:=zs 30815418352
def Ew:=zs 7340207024174315494
def E6:=zs 57912373702078704
def Gr:=zs 3463328822883
def G6:=zs 17644825835431594263344735
def Gp:=zs 929683040243566540383
def JK:=zs 535556634736223
def EB:=zs 1021909407318865901151
def JH:=zs 135526128861644626359903
def Ho:=zs 7340233240675382879
def EY:=zs 67483170382575199
def IW:=zs 135526489686107770877535
def JR:=zs 17359306920133061789644383
def GC:=zs 1058809712300938262111
def Ih:=zs 940052543510452663903
def Jd:=zs 1068027428587418711647
def Fe:=zs 1069111071925943694943
def Gj:=zs 7334542374648444511
def Iz:=zs 37021367247163703142515769636447
def Ju:=zs 1962220
def z75:=zs 35350842279982780
def z76:=zs 53901867955744735
def j5:=zs 883123151916293124063
def lE:=zs 601773989896021678643699154943881966
def vg:=zs 14469089781839015725264863
def jT:=zs 30344074158132277796980072755167
def jW:=zs 133454983862861831018029446609853876543483871
def Ql:=zs 113039831549272488013791
def wg:=zs 3944329476846
def z84:=zs 505222325449956
def Fq:=zs 77026659975835991945842263041131819758
def vD:=zs 15586
def z87:=zs 27342305648
def z88:=zs 3501140572403
def yZ:=zs 244953836
def Ec:=zs 1668975
def Dz:=zs 30815173231
def Ml:=zs 1964018
def z93:=zs 36741748820606704607921507807982
def z94:=zs 509719678253806
def Vn:=zs 1652581
def wW:=zs 4703570198577737512948329283990254
def Ka:=zs 1849332
def Uz:=zs 29741626223
def z99:=zs 31354156147
def aiA:=zs 3947051413734
def aud:=zs 107
def J8:=zs 31343606119
def Qw:=zs 29219124979
def RG:=zs 27076163558
def v7:=zs 601245688890028280284136002178396910
def af4:=zs 7340232966842071021
def Gg:=zs 255539184
def VR:=zs 509824676214765
def XC:=zs 245166834
def an8:=zs 213694445
def Ov:=zs 9945148414371482049252864243888973296366
def ahp:=zs 31381287660
def apb:=zs 213596914
def mW:=zs 601245656567734219885054901293560558
def WD:=zs 31083705580
def Ve:=zs 29749801698
def aag:=zs 3809077835747
def Y7:=zs 105
def acL:=zs 213464311
def asR:=zs 31081394920
def aik:=zs 245166316
def aiy:=zs 14945
def aeM:=zs 27340091636
def asa:=zs 3463305819383
def uG:=zs 4701993063269919393381765093405422
def YB:=zs 27057092980
def VF:=zs 245102578
def abq:=zs 31115180018
def al1:=zs 65789479809203301
def aeF:=zs 513606627883376
def aot:=zs 232569588
def afs:=zs 243021812
def amY:=zs 31115227376
def asu:=zs 240808176
def Zd:=zs 137989276334399845594719
def FW:=zs 3702244537951
def GJ:=zs 7843466381129971295
def KW:=zs 4133426872076161685923843211294303
def J3:=zs 15398215025977782705878623
def aqP:=zs 8423349363374847583
def aun:=zs 1970971523324088107488802399
def anv:=zs 1077903848374405723743
def afk:=zs 7339134107004728927
def akS:=zs 136846217224793777272415
def HX:=zs 930329895887808525919
def atn:=zs 1003179560991236585055
def aaj:=zs 57345570095265375
def aeB:=zs 1058801290007509759583
def Rz:=zs 8421660479154845279
def W4:=zs 3805323753055
def ams:=zs 3633525061215
def agh:=zs 3358647154271
def aqA:=zs 3667884799583
def agz:=zs 3393006892639
def aoQ:=zs 32292397438105326361474370139743
def aaG:=zs 8350165903789815391
def atc:=zs 7339670703038821983
def ap3:=zs 8423287687644477023
def ahV:=zs 120299274366089149576799
def alP:=zs 63542589428102751
noncomputable abbrev t0:String:=PySem.W.SL.s14018661285674007319x4
noncomputable abbrev t1:String:=PySem.W.SL.s7097527257260152453x26
noncomputable abbrev t2:String:=PySem.W.SL.s2766695959194262286x5
noncomputable abbrev t3:String:=PySem.W.SL.s5856160107412720595x4
noncomputable abbrev t4:String:=PySem.W.SL.s658472552662922059x5
noncomputable abbrev t5:String:=PySem.W.SL.s6070975301684473832x10
noncomputable abbrev t6:String:=PySem.W.SL.s11030030927630378310x26
noncomputable abbrev t7:String:=PySem.W.SL.s10062305145149207511x16
noncomputable abbrev t8:String:=PySem.W.SL.s17162191345867700912x4
noncomputable abbrev t9:String:=PySem.W.SL.s4209523147560561109x18
noncomputable abbrev t10:String:=PySem.W.SL.s5946037652744460706x9
noncomputable abbrev t11:String:=PySem.W.SL.s4278001404047624695x13
noncomputable abbrev yq:String:=PySem.W.SL.s2742458400755230247x6
noncomputable abbrev t13:String:=PySem.W.SL.s14755015743595814543x17
noncomputable abbrev t14:String:=PySem.W.SL.s10220274742760427390x26
noncomputable abbrev Es:String:=PySem.W.SL.s4290257624100764138x5
noncomputable abbrev Ft:String:=PySem.W.SL.s4860613602091757760x24
noncomputable abbrev t17:String:=PySem.W.SL.s7174869446012820540x8
def cd(z:Str)(i:Nat):Obj:=⟨.none,.none,.func ⟨z,z,L2.qe (tt i),.stmts (L2.lD (tt i)),L2.aW (tt i),0,[],.none,.none,.none,.none,.none,.none,.none,0⟩,⟨[]⟩⟩
def fo(z:Str)(i:Nat)(y:Str)(t c:Nat):Obj:=⟨.type t17,.none,.func ⟨z,z,L2.qe (tt i),.stmts (L2.lD (tt i)),L2.aW (tt i),3,[],.none,.none,.none,.str y t,.none,.ref c,.none,0⟩,⟨[]⟩⟩
def cf(z:Str)(a:Nat)(l n:Int)(r:Nat)(x y:Value)(c e:Nat):Obj:=⟨.type t3,.none,.fields ⟨[.str z a,.str z (a+1),.str z9 (a+2),.int l 0,.int n 0,.int 0 0,.int 0 0,.int 3 0,.ref r,.bool true,.int 181 0,.ref (r+1),.none,x,y,.ref c,.int e 0,.int l 0,.str z9 (e+1)]⟩,⟨[]⟩⟩
def cg(z:Str)(a:Nat)(l n:Int)(r c e:Nat):Obj:=cf z a l n r (.ref (r+2)) (.ref (r+3)) c e
def ts(l:List Str)(a:Nat):Obj:=⟨.type t2,.none,.seq ⟨List.rec (motive:=λ_=>Nat->List Value) (λ_=>[]) (λz _ f a=> .str z a::f (a+1)) l a⟩ 0,⟨[]⟩⟩
def er(P:Params)(z:Str)(t r:Nat):DictEntry:=⟨kh P z,.str z t,.ref r⟩
def l3(P:Params):List DictEntry:=[⟨kh P z0,.str z0 165,.str z1 624⟩,⟨kh P z2,.str z2 166,.none⟩,⟨kh P z3,.str z3 167,.none⟩,⟨kh P z4,.str z4 168,.builtin t1⟩,⟨kh P z5,.str z5 169,.none⟩,er P z6 170 6,er P z7 171 4,⟨kh P z8,.str z8 173,.str z9 172⟩,⟨kh P FT,.str FT 174,.none⟩,er P iZ 206 24,er P vN 222 37,er P vh 238 49,er P u0 254 61,er P JD 264 70,er P Iw 272 77,er P GD 283 84,er P JL 292 91,er P Gu 301 98,er P HM 311 105,er P Ij 326 112,er P Jz 332 117,er P Gz 344 124,er P Hh 350 129,er P GR 356 134,⟨kh P z26,.str z26 360,.int 1000000 359⟩,er P Hg 368 141,er P GP 376 148,er P Hy 382 153,er P Jx 391 160,er P Eu 402 167,er P JF 408 172,er P IG 417 179,er P Fy 425 184,er P Gk 435 191,er P Jq 444 198,er P Fb 452 203,er P Hf 462 210,er P Fz 468 215,er P EA 474 220,er P G7 489 227,er P Hq 500 234,er P JC 506 239,er P E9 512 244,er P FN 518 249,er P Et 524 254,er P Ip 530 259,er P EG 541 266,⟨kh P XG,.str XG 545,.int 1000000 544⟩,er P EW 551 271,er P Gd 561 278,er P E3 567 283,er P Gs 578 290,er P Eo 589 297,er P C5 599 304,er P Ew 605 309,er P E6 617 316,er P Gr 623 321,er P G6 633 328,er P Gp 642 335,er P JK 649 342,er P EB 657 349,er P JH 666 356,er P Ho 681 363,er P EY 687 368,er P IW 693 373,er P JR 701 380,er P GC 711 387,er P Ih 717 392,er P Jd 730 399,er P Fe 741 406,er P Gj 747 411,er P Iz 761 418,er P Ju 767 423]
def hv(P:Params)(z:Str)(t n:Nat):Obj:=⟨.type t0,.none,.dict ⟨⟨kh P z0,.str z0 165,.str z t⟩::((l3 P).take n).drop 1⟩ n,⟨[]⟩⟩
def o3(P:Params):Obj:=⟨.type t0,.none,.dict ⟨l3 P⟩ 73,⟨[]⟩⟩
def aht(P:Params):=hv P lE 187 10
def amm(P:Params):=hv P lE 187 11
def ajZ(P:Params):=hv P lE 187 12
def ah1(P:Params):=hv P wW 302 18
def aoa(P:Params):=hv P v7 357 31
def alM(P:Params):=hv P mW 445 44
def aiL(P:Params):Obj:=⟨.type t0,.none,.dict ⟨(l3 P).take 57⟩ 57,⟨[]⟩⟩
def aoz(P:Params):Obj:=⟨.type t0,.none,.dict ⟨(l3 P).take 70⟩ 70,⟨[]⟩⟩
def aK:Obj:=⟨.type t2,.none,.seq ⟨[]⟩ 0,⟨[]⟩⟩
def fl(l:List (Int×Nat)):List Value:=l.flatMap λx=>[.int x.1 0,.int 0 0,.ref x.2]
def qL:=fl [(2,20),(4,33),(6,45),(8,57),(11,69),(20,76),(24,83),(34,90),(41,97),(45,104),(50,111),(60,116),(65,123),(73,128),(77,133),(82,140),(87,147),(89,152),(91,159),(94,166),(97,171),(115,178),(118,183),(126,190),(131,197),(136,202),(138,209),(143,214),(148,219),(156,226),(170,233),(178,238),(187,243),(194,248),(208,253),(210,258),(216,265),(223,270),(226,277),(237,282),(242,289),(251,296),(261,303),(266,308),(271,315),(279,320),(290,327),(294,334),(297,341),(299,348),(303,355),(311,362),(320,367),(331,372),(337,379),(341,386),(346,391),(351,398),(357,405),(368,410),(376,417),(393,422)]
def o12:Obj:=⟨.none,.none,.fields ⟨qL⟩,⟨[]⟩⟩
def Yz:Obj:=⟨.none,.none,.fields ⟨qL.take 0⟩,⟨[]⟩⟩
def anI:Obj:=⟨.none,.none,.fields ⟨qL.take 3⟩,⟨[]⟩⟩
def agF:Obj:=⟨.none,.none,.fields ⟨qL.take 6⟩,⟨[]⟩⟩
def ajl:Obj:=⟨.none,.none,.fields ⟨qL.take 9⟩,⟨[]⟩⟩
def aiU:Obj:=⟨.none,.none,.fields ⟨qL.take 27⟩,⟨[]⟩⟩
def as8:Obj:=⟨.none,.none,.fields ⟨qL.take 63⟩,⟨[]⟩⟩
def aqe:Obj:=⟨.none,.none,.fields ⟨qL.take 102⟩,⟨[]⟩⟩
def apr:Obj:=⟨.none,.none,.fields ⟨qL.take 138⟩,⟨[]⟩⟩
def ark:Obj:=⟨.none,.none,.fields ⟨qL.take 177⟩,⟨[]⟩⟩
def yr:Obj:=⟨.type t3,.none,.fields ⟨[.str z75 182,.str z75 183,.str z9 184,.int 1 0,.int 0 0,.int 0 0,.int 0 0,.int 0 0,.ref 11,.bool false,.int 181 0,.ref 12,.none,.none,.none,.none,.int 185 0,.int 1 0,.str z9 186]⟩,⟨[]⟩⟩
def yh:Obj:=⟨.type t4,.none,.plain,⟨[.some (.ref 13),.some (.ref 3),.some (.ref 3),.none,.some (.str z76 164),.none,.some (.ref 0)]⟩⟩
def WC:Obj:=⟨.type t2,.none,.seq ⟨[.type t5]⟩ 0,⟨[]⟩⟩
def FY:Obj:=⟨.type t6,.none,.fields ⟨[.builtin t7,.type t8]⟩,⟨[]⟩⟩
def o17(P:Params):Obj:=⟨.type t0,.none,.dict ⟨[⟨kh P j5,.str j5 196,.str lE 187⟩,⟨kh P vg,.str vg 198,.str iZ 197⟩,⟨kh P jT,.str jT 200,.int 2 199⟩,⟨kh P jW,.str jW 201,.ref 22⟩]⟩ 4,⟨[]⟩⟩
def bH:Obj:=⟨.none,.none,.fields ⟨[]⟩,⟨[]⟩⟩
def o20:Obj:=⟨.type t3,.none,.fields ⟨[.str iZ 191,.str iZ 192,.str z9 193,.int 2 0,.int 0 0,.int 0 0,.int 0 0,.int 0 0,.ref 18,.bool false,.int 181 0,.ref 19,.none,.none,.none,.none,.int 194 0,.int 2 0,.str z9 195]⟩,⟨[]⟩⟩
def o21:Obj:=⟨.type t4,.none,.plain,⟨[.some (.ref 20),.some (.ref 3),.some (.ref 17),.none,.some (.str lE 187),.none,.some (.ref 0)]⟩⟩
def W7(P:Params):Obj:=⟨.type t0,.none,.dict ⟨[⟨kh P j5,.str j5 196,.str lE 187⟩,⟨kh P jT,.str jT 200,.int 2 199⟩,⟨kh P jW,.str jW 201,.ref 22⟩,⟨kh P Ql,.str Ql 203,.ref 25⟩,⟨kh P z2,.str z2 204,.none⟩]⟩ 3,⟨[]⟩⟩
def o24:Obj:=⟨.type t8,.none,.cls ⟨iZ,[.type t5],[.ref 24,.type t5,.type t10,.type t11,.type yq],23,iZ,true,[],[.ref 37,.ref 49,.ref 61],false,.none,false⟩,⟨[.some (.ref 15),.none,.some (.str iZ 189),.some (.str iZ 197),.some (.builtin t9),.some (.bool true)]⟩⟩
def amI:Obj:=⟨.type t8,.none,.cls ⟨iZ,[.type t5],[.ref 24,.type t5,.type t10,.type t11,.type yq],23,iZ,true,[],[],false,.none,false⟩,⟨[.some (.ref 15),.none,.some (.str iZ 189),.some (.str iZ 197),.some (.builtin t9),.some (.bool true)]⟩⟩
def akn:Obj:=⟨.type t8,.none,.cls ⟨iZ,[.type t5],[.ref 24,.type t5,.type t10,.type t11,.type yq],23,iZ,true,[],[.ref 37],false,.none,false⟩,⟨[.some (.ref 15),.none,.some (.str iZ 189),.some (.str iZ 197),.some (.builtin t9),.some (.bool true)]⟩⟩
def ali:Obj:=⟨.type t8,.none,.cls ⟨iZ,[.type t5],[.ref 24,.type t5,.type t10,.type t11,.type yq],23,iZ,true,[],[.ref 37,.ref 49],false,.none,false⟩,⟨[.some (.ref 15),.none,.some (.str iZ 189),.some (.str iZ 197),.some (.builtin t9),.some (.bool true)]⟩⟩
def Vy:Obj:=⟨.type t13,.none,.fields ⟨[.str Ql 202,.ref 24,.builtin t14,.none]⟩,⟨[]⟩⟩
def o26:Obj:=⟨.type Es,.none,.fields ⟨[.ref 24,.ref 24,.ref 24]⟩,⟨[]⟩⟩
def o27:Obj:=⟨.type t6,.none,.fields ⟨[.builtin Ft,.ref 24]⟩,⟨[]⟩⟩
def AJ:Obj:=⟨.type t2,.none,.seq ⟨[.ref 24]⟩ 0,⟨[]⟩⟩
def o30(P:Params):Obj:=⟨.type t0,.none,.dict ⟨[⟨kh P j5,.str j5 214,.str lE 187⟩,⟨kh P vg,.str vg 216,.str vN 215⟩,⟨kh P jT,.str jT 218,.int 4 217⟩,⟨kh P jW,.str jW 219,.ref 35⟩]⟩ 4,⟨[]⟩⟩
def o33:Obj:=⟨.type t3,.none,.fields ⟨[.str vN 209,.str vN 210,.str z9 211,.int 4 0,.int 0 0,.int 0 0,.int 0 0,.int 0 0,.ref 31,.bool false,.int 181 0,.ref 32,.none,.none,.none,.none,.int 212 0,.int 4 0,.str z9 213]⟩,⟨[]⟩⟩
def o34:Obj:=⟨.type t4,.none,.plain,⟨[.some (.ref 33),.some (.ref 3),.some (.ref 30),.none,.some (.str lE 187),.none,.some (.ref 0)]⟩⟩
def Ys(P:Params):Obj:=⟨.type t0,.none,.dict ⟨[⟨kh P j5,.str j5 214,.str lE 187⟩,⟨kh P jT,.str jT 218,.int 4 217⟩,⟨kh P jW,.str jW 219,.ref 35⟩,⟨kh P z2,.str z2 220,.none⟩]⟩ 2,⟨[]⟩⟩
def Xn:Obj:=⟨.type t8,.none,.cls ⟨vN,[.ref 24],[.ref 37,.ref 24,.type t5,.type t10,.type t11,.type yq],36,vN,true,[],[],false,.none,false⟩,⟨[.some (.ref 28),.none,.some (.str vN 207),.some (.str vN 215),.some (.builtin t9),.some (.bool true)]⟩⟩
def o38:Obj:=⟨.type Es,.none,.fields ⟨[.ref 37,.ref 37,.ref 37]⟩,⟨[]⟩⟩
def o39:Obj:=⟨.type t6,.none,.fields ⟨[.builtin Ft,.ref 37]⟩,⟨[]⟩⟩
def o42(P:Params):Obj:=⟨.type t0,.none,.dict ⟨[⟨kh P j5,.str j5 230,.str lE 187⟩,⟨kh P vg,.str vg 232,.str vh 231⟩,⟨kh P jT,.str jT 234,.int 6 233⟩,⟨kh P jW,.str jW 235,.ref 47⟩]⟩ 4,⟨[]⟩⟩
def o45:Obj:=⟨.type t3,.none,.fields ⟨[.str vh 225,.str vh 226,.str z9 227,.int 6 0,.int 0 0,.int 0 0,.int 0 0,.int 0 0,.ref 43,.bool false,.int 181 0,.ref 44,.none,.none,.none,.none,.int 228 0,.int 6 0,.str z9 229]⟩,⟨[]⟩⟩
def o46:Obj:=⟨.type t4,.none,.plain,⟨[.some (.ref 45),.some (.ref 3),.some (.ref 42),.none,.some (.str lE 187),.none,.some (.ref 0)]⟩⟩
def YD(P:Params):Obj:=⟨.type t0,.none,.dict ⟨[⟨kh P j5,.str j5 230,.str lE 187⟩,⟨kh P jT,.str jT 234,.int 6 233⟩,⟨kh P jW,.str jW 235,.ref 47⟩,⟨kh P z2,.str z2 236,.none⟩]⟩ 2,⟨[]⟩⟩
def o49:Obj:=⟨.type t8,.none,.cls ⟨vh,[.ref 24],[.ref 49,.ref 24,.type t5,.type t10,.type t11,.type yq],48,vh,true,[],[],false,.none,false⟩,⟨[.some (.ref 40),.none,.some (.str vh 223),.some (.str vh 231),.some (.builtin t9),.some (.bool true)]⟩⟩
def o50:Obj:=⟨.type Es,.none,.fields ⟨[.ref 49,.ref 49,.ref 49]⟩,⟨[]⟩⟩
def o51:Obj:=⟨.type t6,.none,.fields ⟨[.builtin Ft,.ref 49]⟩,⟨[]⟩⟩
def o54(P:Params):Obj:=⟨.type t0,.none,.dict ⟨[⟨kh P j5,.str j5 246,.str lE 187⟩,⟨kh P vg,.str vg 248,.str u0 247⟩,⟨kh P jT,.str jT 250,.int 8 249⟩,⟨kh P jW,.str jW 251,.ref 59⟩]⟩ 4,⟨[]⟩⟩
def o57:Obj:=⟨.type t3,.none,.fields ⟨[.str u0 241,.str u0 242,.str z9 243,.int 8 0,.int 0 0,.int 0 0,.int 0 0,.int 0 0,.ref 55,.bool false,.int 181 0,.ref 56,.none,.none,.none,.none,.int 244 0,.int 8 0,.str z9 245]⟩,⟨[]⟩⟩
def o58:Obj:=⟨.type t4,.none,.plain,⟨[.some (.ref 57),.some (.ref 3),.some (.ref 54),.none,.some (.str lE 187),.none,.some (.ref 0)]⟩⟩
def o60(P:Params):Obj:=⟨.type t0,.none,.dict ⟨[⟨kh P j5,.str j5 246,.str lE 187⟩,⟨kh P jT,.str jT 250,.int 8 249⟩,⟨kh P jW,.str jW 251,.ref 59⟩,⟨kh P z2,.str z2 252,.none⟩]⟩ 2,⟨[]⟩⟩
def o61:Obj:=⟨.type t8,.none,.cls ⟨u0,[.ref 24],[.ref 61,.ref 24,.type t5,.type t10,.type t11,.type yq],60,u0,true,[],[],false,.none,false⟩,⟨[.some (.ref 52),.none,.some (.str u0 239),.some (.str u0 247),.some (.builtin t9),.some (.bool true)]⟩⟩
def o62:Obj:=⟨.type Es,.none,.fields ⟨[.ref 61,.ref 61,.ref 61]⟩,⟨[]⟩⟩
def o63:Obj:=⟨.type t6,.none,.fields ⟨[.builtin Ft,.ref 61]⟩,⟨[]⟩⟩
def o66:=ts [wg,z84] 260
def o68:=cd JD 6
def Yq:=cg JD 257 11 1 64 68 262
def o70:=fo JD 6 Fq 255 69
def o73:=ts [vD,wg] 268
def o75:=cd Iw 7
def o76:=cg Iw 265 20 2 71 75 270
def o77:=fo Iw 7 Fq 255 76
def o80:=ts [z87,wg,C5,z88,yZ] 276
def o82:=cd GD 8
def Yt:=cg GD 273 24 2 78 82 281
def Zr:=fo GD 8 Fq 255 83
def o87:=ts [vD,Ec,Dz] 287
def o89:=cd JL 9
def o90:=cg JL 284 34 3 85 89 290
def Y4:=fo JL 9 Fq 255 90
def o94:=ts [Ml] 298
def o96:=cd Gu 11
def Zv:=cg Gu 295 41 1 92 96 299
def o98:=fo Gu 11 z93 293 97
def ari:=ts [z94,Vn] 307
def anQ:=cd HM 13
def adK:=cg HM 304 45 1 99 103 309
def Xl:=fo HM 13 wW 302 104
def asL:=ts [vD,Ec,Dz,Ka,Uz,yZ,z99,aiA,aud] 315
def als:=cd Ij 14
def o111:=cg Ij 312 50 3 106 110 324
def acg:=fo Ij 14 wW 302 111
def apP:=cd Jz 15
def aaV:=cf Jz 327 60 2 113 .none .none 115 330
def ab8:=fo Jz 15 wW 302 116
def alT:=ts [vD,Ec,Dz,J8,Qw,yZ] 336
def anT:=cd Gz 16
def ZR:=cg Gz 333 65 3 118 122 342
def aa7:=fo Gz 16 wW 302 123
def ap8:=cd Hh 17
def aen:=cf Hh 345 73 2 125 .none .none 127 348
def Yo:=fo Hh 17 wW 302 128
def anw:=cd GR 18
def abA:=cf GR 351 77 2 130 .none .none 132 354
def Yj:=fo GR 18 wW 302 133
def ake:=ts [wg,RG] 364
def alo:=cd Hg 21
def Xo:=cg Hg 361 82 1 135 139 366
def ab3:=fo Hg 21 v7 357 140
def atv:=ts [af4,Gg] 372
def alw:=cd GP 22
def adk:=cg GP 369 87 2 142 146 374
def aax:=fo GP 22 v7 357 147
def apg:=cd Hy 23
def Zu:=cf Hy 377 89 2 149 .none .none 151 380
def aek:=fo Hy 23 v7 357 152
def atZ:=ts [VR,wg,XC] 386
def am4:=cd Jx 24
def aei:=cg Jx 383 91 2 154 158 389
def VJ:=fo Jx 24 v7 357 159
def aus:=ts [VR,wg,z87,XC,an8] 395
def asQ:=cd Eu 25
def Vj:=cg Eu 392 94 4 161 165 400
def U3:=fo Eu 25 v7 357 166
def ain:=cd JF 26
def aa6:=cf JF 403 97 2 168 .none .none 170 406
def adS:=fo JF 26 v7 357 171
def ate:=ts [vD,Ec,Dz] 412
def arB:=cd IG 27
def aee:=cg IG 409 115 3 173 177 415
def Wt:=fo IG 27 v7 357 178
def ajE:=cd Fy 29
def UL:=cf Fy 420 118 2 180 .none .none 182 423
def ab7:=fo Fy 29 Ov 418 183
def asz:=ts [Ml,vD,Gg,Ka] 429
def al0:=cd Gk 30
def ad3:=cg Gk 426 126 1 185 189 433
def Xk:=fo Gk 30 Ov 418 190
def aqu:=ts [Ml,ahp,apb] 439
def ahD:=cd Jq 31
def UJ:=cg Jq 436 131 1 192 196 442
def aev:=fo Jq 31 Ov 418 197
def aqK:=cd Fb 33
def Zf:=cf Fb 447 136 2 199 .none .none 201 450
def adB:=fo Fb 33 mW 445 202
def ajK:=ts [WD,Ve,aag,Y7] 456
def aky:=cd Hf 34
def Ws:=cg Hf 453 138 3 204 208 460
def acI:=fo Hf 34 mW 445 209
def am7:=cd Fz 35
def aar:=cf Fz 463 143 4 211 .none .none 213 466
def Yn:=fo Fz 35 mW 445 214
def alI:=cd EA 36
def VX:=cf EA 469 148 5 216 .none .none 218 472
def Yu:=fo EA 36 mW 445 219
def alF:=ts [vD,acL,WD,asR,aik,aag,Ka,aiy,Y7] 478
def ao8:=cd G7 37
def YM:=cg G7 475 156 3 221 225 487
def aaW:=fo G7 37 mW 445 226
def alu:=ts [Ec,Dz,J8,Qw,yZ] 493
def apk:=cd Hq 38
def adG:=cg Hq 490 170 2 228 232 498
def abY:=fo Hq 38 mW 445 233
def alL:=cd JC 39
def acK:=cf JC 501 178 3 235 .none .none 237 504
def adg:=fo JC 39 mW 445 238
def aeZ:=cd E9 40
def aap:=cf E9 507 187 5 240 .none .none 242 510
def aaI:=fo E9 40 mW 445 243
def ajs:=cd FN 41
def aep:=cf FN 513 194 4 245 .none .none 247 516
def YZ:=fo FN 41 mW 445 248
def aub:=cd Et 42
def aes:=cf Et 519 208 2 250 .none .none 252 522
def abW:=fo Et 42 mW 445 253
def asO:=cd Ip 43
def WV:=cf Ip 525 210 4 255 .none .none 257 528
def VL:=fo Ip 43 mW 445 258
def anL:=ts [vD,acL,aeM,asa,RG] 534
def afZ:=cd EG 44
def Ye:=cg EG 531 216 4 260 264 539
def VN:=fo EG 44 mW 445 265
def alV:=cd EW 47
def XM:=cf EW 546 223 1 267 .none .none 269 549
def V5:=fo EW 47 uG 542 270
def ale:=ts [wg,Qw,J8,YB] 555
def akt:=cd Gd 48
def adh:=cg Gd 552 226 1 272 276 559
def UY:=fo Gd 48 uG 542 277
def amc:=cd E3 49
def aaX:=cf E3 562 237 1 279 .none .none 281 565
def Zt:=fo E3 49 uG 542 282
def ajh:=ts [Gg,VF,Uz,yZ,YB] 571
def ajo:=cd Gs 50
def aad:=cg Gs 568 242 2 284 288 576
def Za:=fo Gs 50 uG 542 289
def aui:=ts [Gg,abq,yZ,VF,RG] 582
def atU:=cd Eo 51
def aa4:=cg Eo 579 251 1 291 295 587
def Vl:=fo Eo 51 uG 542 296
def o300:=ts [wg,al1,aeF,aot] 593
def amF:=cd C5 52
def ade:=cg C5 590 261 2 298 302 597
def ab4:=fo C5 52 uG 542 303
def aps:=cd Ew 53
def aaJ:=cf Ew 600 266 2 305 .none .none 307 603
def U9:=fo Ew 53 uG 542 308
def amz:=ts [abq,afs,amY,Ve,asu,Vn] 609
def ajw:=cd E6 54
def XE:=cg E6 606 271 2 310 314 615
def adH:=fo E6 54 uG 542 315
def ar7:=cd Gr 55
def Xw:=cf Gr 618 279 1 317 .none .none 319 621
def XH:=fo Gr 55 uG 542 320
def auv:=ts [Zd,FW] 629
def aob:=cd G6 57
def UH:=cg G6 626 290 2 322 326 631
def Yw:=fo G6 57 z1 624 327
def aqB:=ts [GJ,FW,KW] 637
def amj:=cd Gp 58
def abz:=cg Gp 634 294 2 329 333 640
def V9:=fo Gp 58 z1 624 334
def apv:=ts [GJ] 646
def aeW:=cd JK 59
def apU:=cg JK 643 297 1 336 340 647
def aq7:=fo JK 59 z1 624 341
def arK:=ts [J3,KW] 653
def afY:=cd EB 60
def ZS:=cg EB 650 299 2 343 347 655
def aaH:=fo EB 60 z1 624 348
def aol:=ts [J3,GJ,aqP] 661
def ahs:=cd JH 61
def VG:=cg JH 658 303 3 350 354 664
def Vf:=fo JH 61 z1 624 355
def anV:=ts [aun,anv,J3,afk,akS,HX,atn,FW,KW] 670
def ant:=cd Ho 62
def aau:=cg Ho 667 311 2 357 361 679
def abQ:=fo Ho 62 z1 624 362
def at7:=cd EY 63
def aa1:=cf EY 682 320 4 364 .none .none 366 685
def V8:=fo EY 63 z1 624 367
def anx:=cd IW 64
def adN:=cf IW 688 331 2 369 .none .none 371 691
def aeh:=fo IW 64 z1 624 372
def aja:=ts [aaj,aeB] 697
def ajD:=cd JR 65
def Xd:=cg JR 694 337 2 374 378 699
def Vv:=fo JR 65 z1 624 379
def anR:=ts [Rz,W4,HX,FW] 705
def agR:=cd GC 66
def Wr:=cg GC 702 341 2 381 385 709
def aa2:=fo GC 66 z1 624 386
def ahg:=cd Ih 67
def YX:=cf Ih 712 346 2 388 .none .none 390 715
def Zq:=fo Ih 67 z1 624 391
def agU:=ts [aaj,aeB,HX,ams,agh,aqA,agz] 721
def alG:=cd Jd 68
def ac4:=cg Jd 718 351 2 393 397 728
def Y8:=fo Jd 68 z1 624 398
def afQ:=ts [Zd,aoQ,GJ,Rz,aaG] 734
def aoY:=cd Fe 69
def adu:=cg Fe 731 357 1 400 404 739
def acz:=fo Fe 69 z1 624 405
def aj8:=cd Gj 70
def Xv:=cf Gj 742 368 1 407 .none .none 409 745
def ab0:=fo Gj 70 z1 624 410
def asZ:=ts [HX,atc,ap3,ahV,Rz,aaG,alP,W4] 751
def atg:=cd Iz 71
def Vp:=cg Iz 748 376 2 412 416 759
def adV:=fo Iz 71 z1 624 417
def aow:=cd Ju 72
def abP:=cf Ju 762 393 1 419 .none .none 421 765
def VW:=fo Ju 72 z1 624 422
def HL(P:Params):List Obj:=[PySem.W.boot_o_0 P,PySem.W.boot_o_1 P,PySem.W.boot_o_2 P,o3 P,PySem.W.boot_o_4 P,PySem.W.boot_o_5 P,PySem.W.boot_o_6 P,PySem.W.boot_o_7 P,PySem.W.boot_o_8 P,PySem.W.boot_o_9 P,PySem.W.boot_o_10 P,aK,o12,yr,yh,WC,FY,o17 P,aK,bH,o20,o21,aK,W7 P,o24,Vy,o26,o27,AJ,FY,o30 P,aK,bH,o33,o34,aK,Ys P,Xn,o38,o39,AJ,FY,o42 P,aK,bH,o45,o46,aK,YD P,o49,o50,o51,AJ,FY,o54 P,aK,bH,o57,o58,aK,o60 P,o61,o62,o63,aK,bH,o66,aK,o68,Yq,o70,aK,bH,o73,aK,o75,o76,o77,aK,bH,o80,aK,o82,Yt,Zr,aK,bH,o87,aK,o89,o90,Y4,aK,bH,o94,aK,o96,Zv,o98,aK,bH,ari,aK,anQ,adK,Xl,aK,bH,asL,aK,als,o111,acg,aK,bH,apP,aaV,ab8,aK,bH,alT,aK,anT,ZR,aa7,aK,bH,ap8,aen,Yo,aK,bH,anw,abA,Yj,aK,bH,ake,aK,alo,Xo,ab3,aK,bH,atv,aK,alw,adk,aax,aK,bH,apg,Zu,aek,aK,bH,atZ,aK,am4,aei,VJ,aK,bH,aus,aK,asQ,Vj,U3,aK,bH,ain,aa6,adS,aK,bH,ate,aK,arB,aee,Wt,aK,bH,ajE,UL,ab7,aK,bH,asz,aK,al0,ad3,Xk,aK,bH,aqu,aK,ahD,UJ,aev,aK,bH,aqK,Zf,adB,aK,bH,ajK,aK,aky,Ws,acI,aK,bH,am7,aar,Yn,aK,bH,alI,VX,Yu,aK,bH,alF,aK,ao8,YM,aaW,aK,bH,alu,aK,apk,adG,abY,aK,bH,alL,acK,adg,aK,bH,aeZ,aap,aaI,aK,bH,ajs,aep,YZ,aK,bH,aub,aes,abW,aK,bH,asO,WV,VL,aK,bH,anL,aK,afZ,Ye,VN,aK,bH,alV,XM,V5,aK,bH,ale,aK,akt,adh,UY,aK,bH,amc,aaX,Zt,aK,bH,ajh,aK,ajo,aad,Za,aK,bH,aui,aK,atU,aa4,Vl,aK,bH,o300,aK,amF,ade,ab4,aK,bH,aps,aaJ,U9,aK,bH,amz,aK,ajw,XE,adH,aK,bH,ar7,Xw,XH,aK,bH,auv,aK,aob,UH,Yw,aK,bH,aqB,aK,amj,abz,V9,aK,bH,apv,aK,aeW,apU,aq7,aK,bH,arK,aK,afY,ZS,aaH,aK,bH,aol,aK,ahs,VG,Vf,aK,bH,anV,aK,ant,aau,abQ,aK,bH,at7,aa1,V8,aK,bH,anx,adN,aeh,aK,bH,aja,aK,ajD,Xd,Vv,aK,bH,anR,aK,agR,Wr,aa2,aK,bH,ahg,YX,Zq,aK,bH,agU,aK,alG,ac4,Y8,aK,bH,afQ,aK,aoY,adu,acz,aK,bH,aj8,Xv,ab0,aK,bH,asZ,aK,atg,Vp,adV,aK,bH,aow,abP,VW]
def ev(l:List Obj):Bool->List Obj:=List.rec (motive:=λ_=>Bool->List Obj) (λ_=>[]) (λo _ f b=>cond b (o::f false) (f true)) l
def bt(n:Nat):List Obj->BT:=Nat.rec (motive:=λ_=>List Obj->BT) (λ_=> .nil) (λ_ f l=>List.casesOn l .nil λo l=> .node o (f (ev l true)) (f (ev l false))) n
def TF(P:Params):BT:=bt 16 (HL P)
def HF(P:Params):Heap:=⟨⟨HL P⟩,{}⟩
def K(P:Params):Frag:=(nat_lit 0,PySem.W.boot_o_0 P)::(nat_lit 1,PySem.W.boot_o_1 P)::(nat_lit 2,PySem.W.boot_o_2 P)::(nat_lit 3,o3 P)::(nat_lit 4,PySem.W.boot_o_4 P)::(nat_lit 5,PySem.W.boot_o_5 P)::(nat_lit 6,PySem.W.boot_o_6 P)::(nat_lit 7,PySem.W.boot_o_7 P)::(nat_lit 8,PySem.W.boot_o_8 P)::(nat_lit 9,PySem.W.boot_o_9 P)::(nat_lit 10,PySem.W.boot_o_10 P)::(nat_lit 11,aK)::(nat_lit 12,o12)::(nat_lit 13,yr)::(nat_lit 14,yh)::(nat_lit 15,WC)::(nat_lit 22,aK)::(nat_lit 23,W7 P)::(nat_lit 24,o24)::(nat_lit 25,Vy)::(nat_lit 28,AJ)::(nat_lit 35,aK)::(nat_lit 36,Ys P)::(nat_lit 37,Xn)::(nat_lit 40,AJ)::(nat_lit 47,aK)::(nat_lit 48,YD P)::(nat_lit 49,o49)::(nat_lit 52,AJ)::(nat_lit 59,aK)::(nat_lit 60,o60 P)::(nat_lit 61,o61)::(nat_lit 69,Yq)::(nat_lit 70,o70)::(nat_lit 76,o76)::(nat_lit 77,o77)::(nat_lit 83,Yt)::(nat_lit 84,Zr)::(nat_lit 90,o90)::(nat_lit 91,Y4)::(nat_lit 97,Zv)::(nat_lit 98,o98)::(nat_lit 104,adK)::(nat_lit 105,Xl)::(nat_lit 111,o111)::(nat_lit 112,acg)::(nat_lit 116,aaV)::(nat_lit 117,ab8)::(nat_lit 123,ZR)::(nat_lit 124,aa7)::(nat_lit 128,aen)::(nat_lit 129,Yo)::(nat_lit 133,abA)::(nat_lit 134,Yj)::(nat_lit 140,Xo)::(nat_lit 141,ab3)::(nat_lit 147,adk)::(nat_lit 148,aax)::(nat_lit 152,Zu)::(nat_lit 153,aek)::(nat_lit 159,aei)::(nat_lit 160,VJ)::(nat_lit 166,Vj)::(nat_lit 167,U3)::(nat_lit 171,aa6)::(nat_lit 172,adS)::(nat_lit 178,aee)::(nat_lit 179,Wt)::(nat_lit 183,UL)::(nat_lit 184,ab7)::(nat_lit 190,ad3)::(nat_lit 191,Xk)::(nat_lit 197,UJ)::(nat_lit 198,aev)::(nat_lit 202,Zf)::(nat_lit 203,adB)::(nat_lit 209,Ws)::(nat_lit 210,acI)::(nat_lit 214,aar)::(nat_lit 215,Yn)::(nat_lit 219,VX)::(nat_lit 220,Yu)::(nat_lit 226,YM)::(nat_lit 227,aaW)::(nat_lit 233,adG)::(nat_lit 234,abY)::(nat_lit 238,acK)::(nat_lit 239,adg)::(nat_lit 243,aap)::(nat_lit 244,aaI)::(nat_lit 248,aep)::(nat_lit 249,YZ)::(nat_lit 253,aes)::(nat_lit 254,abW)::(nat_lit 258,WV)::(nat_lit 259,VL)::(nat_lit 265,Ye)::(nat_lit 266,VN)::(nat_lit 270,XM)::(nat_lit 271,V5)::(nat_lit 277,adh)::(nat_lit 278,UY)::(nat_lit 282,aaX)::(nat_lit 283,Zt)::(nat_lit 289,aad)::(nat_lit 290,Za)::(nat_lit 296,aa4)::(nat_lit 297,Vl)::(nat_lit 303,ade)::(nat_lit 304,ab4)::(nat_lit 308,aaJ)::(nat_lit 309,U9)::(nat_lit 315,XE)::(nat_lit 316,adH)::(nat_lit 320,Xw)::(nat_lit 321,XH)::(nat_lit 327,UH)::(nat_lit 328,Yw)::(nat_lit 334,abz)::(nat_lit 335,V9)::(nat_lit 348,ZS)::(nat_lit 349,aaH)::(nat_lit 355,VG)::(nat_lit 356,Vf)::(nat_lit 362,aau)::(nat_lit 363,abQ)::(nat_lit 367,aa1)::(nat_lit 368,V8)::(nat_lit 372,adN)::(nat_lit 373,aeh)::(nat_lit 379,Xd)::(nat_lit 380,Vv)::(nat_lit 386,Wr)::(nat_lit 387,aa2)::(nat_lit 391,YX)::(nat_lit 392,Zq)::(nat_lit 398,ac4)::(nat_lit 399,Y8)::(nat_lit 405,adu)::(nat_lit 406,acz)::(nat_lit 410,Xv)::(nat_lit 411,ab0)::(nat_lit 417,Vp)::(nat_lit 418,adV)::(nat_lit 422,abP)::(nat_lit 423,VW)::[]
def as:List Nat:=[0,1,2,3,4,5,6,7,8,9,10,11,12,13,14,15,22,23,24,25,28,35,36,37,40,47,48,49,52,59,60,61,69,70,76,77,83,84,90,91,97,98,104,105,111,112,116,117,123,124,128,129,133,134,140,141,147,148,152,153,159,160,166,167,171,172,178,179,183,184,190,191,197,198,202,203,209,210,214,215,219,220,226,227,233,234,238,239,243,244,248,249,253,254,258,259,265,266,270,271,277,278,282,283,289,290,296,297,303,304,308,309,315,316,320,321,327,328,334,335,348,349,355,356,362,363,367,368,372,373,379,380,386,387,391,392,398,399,405,406,410,411,417,418,422,423]
def cut(n:Nat)(t:BT):Nat->Nat->BT:=BT.rec (motive:=λ_=>Nat->Nat->BT) (λ_ _=> .nil) (λv _ _ l r a b=>cond (Nat.blt b n) (.node v (l (Nat.mul 2 a) (Nat.add a b)) (r (Nat.mul 2 a) (Nat.add (Nat.mul 2 a) b))) .nil) t
def HA(P:Params):Heap:=⟨⟨[PySem.W.boot_o_0 P,PySem.W.boot_o_1 P,PySem.W.boot_o_2 P,PySem.W.boot_o_3 P,PySem.W.boot_o_4 P,PySem.W.boot_o_5 P,PySem.W.boot_o_6 P,PySem.W.boot_o_7 P,PySem.W.boot_o_8 P,PySem.W.boot_o_9 P,PySem.W.boot_o_10 P,aK,Yz,yr,yh]⟩,{}⟩
def SA(w:World)(os:OsState):Shared:=⟨HA w.params,⟨[]⟩,{},187,os⟩
def T1(P:Params):BT:=((cut 15 (TF P) 1 0).set 3 λ_=>PySem.W.boot_o_3 P).set 12 λ_=>Yz
def S1(w:World)(os:OsState):SharedT:=⟨T1 w.params,15,{},⟨[]⟩,{},187,os⟩
def T2(P:Params):BT:=(((cut 28 (TF P) 1 0).set 3 λ_=>aht P).set 12 λ_=>anI).set 24 λ_=>amI
def S2(w:World)(os:OsState):SharedT:=⟨T2 w.params,28,{},⟨[]⟩,{},207,os⟩
def T3(P:Params):BT:=(((cut 40 (TF P) 1 0).set 3 λ_=>amm P).set 12 λ_=>agF).set 24 λ_=>akn
def S3(w:World)(os:OsState):SharedT:=⟨T3 w.params,40,{},⟨[]⟩,{},223,os⟩
def T4(P:Params):BT:=(((cut 52 (TF P) 1 0).set 3 λ_=>ajZ P).set 12 λ_=>ajl).set 24 λ_=>ali
def S4(w:World)(os:OsState):SharedT:=⟨T4 w.params,52,{},⟨[]⟩,{},239,os⟩
def T5(P:Params):BT:=((cut 99 (TF P) 1 0).set 3 λ_=>ah1 P).set 12 λ_=>aiU
def S5(w:World)(os:OsState):SharedT:=⟨T5 w.params,99,{},⟨[]⟩,{},304,os⟩
def T6(P:Params):BT:=((cut 173 (TF P) 1 0).set 3 λ_=>aoa P).set 12 λ_=>as8
def S6(w:World)(os:OsState):SharedT:=⟨T6 w.params,173,{},⟨[]⟩,{},409,os⟩
def T7(P:Params):BT:=((cut 250 (TF P) 1 0).set 3 λ_=>alM P).set 12 λ_=>aqe
def S7(w:World)(os:OsState):SharedT:=⟨T7 w.params,250,{},⟨[]⟩,{},519,os⟩
def T8(P:Params):BT:=((cut 322 (TF P) 1 0).set 3 λ_=>aiL P).set 12 λ_=>apr
def S8(w:World)(os:OsState):SharedT:=⟨T8 w.params,322,{},⟨[]⟩,{},626,os⟩
def T9(P:Params):BT:=((cut 407 (TF P) 1 0).set 3 λ_=>aoz P).set 12 λ_=>ark
def S9(w:World)(os:OsState):SharedT:=⟨T9 w.params,407,{},⟨[]⟩,{},742,os⟩
def T10(P:Params):BT:=cut 424 (TF P) 1 0
def S10(w:World)(os:OsState):SharedT:=⟨T10 w.params,424,{},⟨[]⟩,{},768,os⟩
def SF(w:World)(os:OsState):Shared:=⟨HF w.params,⟨[]⟩,{},768,os⟩
def ann:Option Value:=some (.ref 6)
def env:Env:={ scope:=pwL.main.scope,locals:=mainNs,globals:=mainNs,cells:=[],code:= .ref 13,frame:=some 14 }
def cE:Code:= .body (behindTheImports pwL) env
abbrev BB:List Frame:=[topFrame ⟨0,0,0,0⟩]
def q:Program:={ pwL with main:={ pwL.main with body:=[topF 1,topF 2,topF 3,topF 4,topF 6,topF 7,topF 8,topF 9,topF 11,topF 13,topF 14,topF 15,topF 16,topF 17,topF 18,topF 20,topF 21,topF 22,topF 23,topF 24,topF 25,topF 26,topF 27,topF 29,topF 30,topF 31,topF 33,topF 34,topF 35,topF 36,topF 37,topF 38,topF 39,topF 40,topF 41,topF 42,topF 43,topF 44,topF 46,topF 47,topF 48,topF 49,topF 50,topF 51,topF 52,topF 53,topF 54,topF 55,topF 57,topF 58,topF 59,topF 60,topF 61,topF 62,topF 63,topF 64,topF 65,topF 66,topF 67,topF 68,topF 69,topF 70,topF 71,topF 72] } }
theorem warm2:((λ(_:Env) (_:Code) (_:Program)=>true) env cE q)=true:=by k_qdec
theorem a0:@segRunT=PySem.W.Fast.tw10110043849684766642:=PySem.W.Fast.te10110043849684766642
theorem a1:@treeTable=PySem.W.Fast.tw14364793385576792824:=PySem.W.Fast.te14364793385576792824
theorem a2:@topGo=PySem.W.Fast.tw15667345088766844465:=PySem.W.Fast.te15667345088766844465
theorem a3:@topRun=PySem.W.Fast.tw14082659384304107361:=PySem.W.Fast.te14082659384304107361
theorem a4:@segRun=PySem.W.Fast.tw14374325043358763698:=PySem.W.Fast.te14374325043358763698
theorem a5:@denote=PySem.W.Fast.tw11892475500146522536:=PySem.W.Fast.te11892475500146522536
theorem a6:@cE=PySem.W.Fast.tw3850051298556268051:=PySem.W.Fast.te3850051298556268051
theorem a7:@env=PySem.W.Fast.tw14261075797214043944:=PySem.W.Fast.te14261075797214043944
theorem a8:@q=PySem.W.Fast.tw585554009502572568:=PySem.W.Fast.te585554009502572568
theorem a9:@pwL=PySem.W.Fast.tw3557686234480297960:=PySem.W.Fast.te3557686234480297960
theorem a10:@topF=PySem.W.Fast.tw14956418425115194242:=PySem.W.Fast.te14956418425115194242
theorem a11:@importedModules=PySem.W.Fast.tw5923862056798008813:=PySem.W.Fast.te5923862056798008813
theorem a12:@openSeen=PySem.W.Fast.tw4187177175401517315:=PySem.W.Fast.te4187177175401517315
theorem a13:@Heap.nsMap=PySem.W.Fast.tw8920871248978507458:=PySem.W.Fast.te8920871248978507458
set_option maxHeartbeats 0
theorem pre(w:World)(os:OsState):topGo treeTable pwL w 11 ann 12 ⟨boot_heap w.params,⟨[]⟩,boot_drawn,boot_toks,os⟩ (topStub pwL)=some (SA w os,⟨denote treeTable cE,cE,⟨0,0,0,0⟩,BB⟩):=by
 (try rw[a0]);(try rw[a1]);(try rw[a2]);(try rw[a3]);(try rw[a4]);(try rw[a5]);(try rw[a6]);(try rw[a7]);(try rw[a8]);(try rw[a9]);(try rw[a10]);kernel_rfl
theorem blk(w:World)(os:OsState):segRun treeTable pwL w 11 ann 1 1 (SA w os) (blockOf (behindTheImports pwL) env cE ⟨0,0,0,0⟩ BB)=some (.next,(S1 w os).abs,cE,⟨0,0,0,0⟩):=by
 (try rw[a0]);(try rw[a1]);(try rw[a2]);(try rw[a3]);(try rw[a4]);(try rw[a5]);(try rw[a6]);(try rw[a7]);(try rw[a8]);(try rw[a9]);(try rw[a10]);kernel_rfl
abbrev c1:List Stmt:=[topF 0,topF 1]
theorem p1(w:World)(os:OsState):segRunT treeTable pwL w 11 ann 1 196 (S1 w os) (piecesOf c1 env cE ⟨0,0,0,0⟩ BB)=some (.next,S2 w os,cE,⟨2,0,3,8⟩):=by
 unfold c1;(try rw[a0]);(try rw[a1]);(try rw[a2]);(try rw[a3]);(try rw[a4]);(try rw[a5]);(try rw[a6]);(try rw[a7]);(try rw[a8]);(try rw[a9]);(try rw[a10]);kernel_rfl
abbrev c2:List Stmt:=[topF 2]
theorem p2(w:World)(os:OsState):segRunT treeTable pwL w 11 ann 1 214 (S2 w os) (piecesOf c2 env cE ⟨2,0,3,8⟩ BB)=some (.next,S3 w os,cE,⟨4,0,5,8⟩):=by
 unfold c2;(try rw[a0]);(try rw[a1]);(try rw[a2]);(try rw[a3]);(try rw[a4]);(try rw[a5]);(try rw[a6]);(try rw[a7]);(try rw[a8]);(try rw[a9]);(try rw[a10]);kernel_rfl
abbrev c3:List Stmt:=[topF 3]
theorem p3(w:World)(os:OsState):segRunT treeTable pwL w 11 ann 1 214 (S3 w os) (piecesOf c3 env cE ⟨4,0,5,8⟩ BB)=some (.next,S4 w os,cE,⟨6,0,7,8⟩):=by
 unfold c3;(try rw[a0]);(try rw[a1]);(try rw[a2]);(try rw[a3]);(try rw[a4]);(try rw[a5]);(try rw[a6]);(try rw[a7]);(try rw[a8]);(try rw[a9]);(try rw[a10]);kernel_rfl
abbrev c4:List Stmt:=[topF 4,topF 5,topF 6,topF 7,topF 8,topF 9,topF 10,topF 11,topF 12]
theorem p4(w:World)(os:OsState):segRunT treeTable pwL w 11 ann 1 394 (S4 w os) (piecesOf c4 env cE ⟨6,0,7,8⟩ BB)=some (.next,S5 w os,cE,⟨44,0,44,8⟩):=by
 unfold c4;(try rw[a0]);(try rw[a1]);(try rw[a2]);(try rw[a3]);(try rw[a4]);(try rw[a5]);(try rw[a6]);(try rw[a7]);(try rw[a8]);(try rw[a9]);(try rw[a10]);kernel_rfl
abbrev c5:List Stmt:=[topF 13,topF 14,topF 15,topF 16,topF 17,topF 18,topF 19,topF 20,topF 21,topF 22,topF 23,topF 24,topF 25,topF 26]
theorem p5(w:World)(os:OsState):segRunT treeTable pwL w 11 ann 1 374 (S5 w os) (piecesOf c5 env cE ⟨44,0,44,8⟩ BB)=some (.next,S6 w os,cE,⟨97,0,114,15⟩):=by
 unfold c5;(try rw[a0]);(try rw[a1]);(try rw[a2]);(try rw[a3]);(try rw[a4]);(try rw[a5]);(try rw[a6]);(try rw[a7]);(try rw[a8]);(try rw[a9]);(try rw[a10]);kernel_rfl
abbrev c6:List Stmt:=[topF 27,topF 28,topF 29,topF 30,topF 31,topF 32,topF 33,topF 34,topF 35,topF 36,topF 37,topF 38,topF 39,topF 40,topF 41]
theorem p6(w:World)(os:OsState):segRunT treeTable pwL w 11 ann 1 397 (S6 w os) (piecesOf c6 env cE ⟨97,0,114,15⟩ BB)=some (.next,S7 w os,cE,⟨194,0,207,79⟩):=by
 unfold c6;(try rw[a0]);(try rw[a1]);(try rw[a2]);(try rw[a3]);(try rw[a4]);(try rw[a5]);(try rw[a6]);(try rw[a7]);(try rw[a8]);(try rw[a9]);(try rw[a10]);kernel_rfl
abbrev c7:List Stmt:=[topF 42,topF 43,topF 44,topF 45,topF 46,topF 47,topF 48,topF 49,topF 50,topF 51,topF 52,topF 53,topF 54,topF 55,topF 56]
theorem p7(w:World)(os:OsState):segRunT treeTable pwL w 11 ann 1 381 (S7 w os) (piecesOf c7 env cE ⟨194,0,207,79⟩ BB)=some (.next,S8 w os,cE,⟨289,0,289,8⟩):=by
 unfold c7;(try rw[a0]);(try rw[a1]);(try rw[a2]);(try rw[a3]);(try rw[a4]);(try rw[a5]);(try rw[a6]);(try rw[a7]);(try rw[a8]);(try rw[a9]);(try rw[a10]);kernel_rfl
abbrev c8:List Stmt:=[topF 57,topF 58,topF 59,topF 60,topF 61,topF 62,topF 63,topF 64,topF 65,topF 66,topF 67,topF 68,topF 69]
theorem p8(w:World)(os:OsState):segRunT treeTable pwL w 11 ann 1 397 (S8 w os) (piecesOf c8 env cE ⟨289,0,289,8⟩ BB)=some (.next,S9 w os,cE,⟨357,0,367,26⟩):=by
 unfold c8;(try rw[a0]);(try rw[a1]);(try rw[a2]);(try rw[a3]);(try rw[a4]);(try rw[a5]);(try rw[a6]);(try rw[a7]);(try rw[a8]);(try rw[a9]);(try rw[a10]);kernel_rfl
abbrev c9:List Stmt:=[topF 70,topF 71,topF 72]
theorem p9(w:World)(os:OsState):segRunT treeTable pwL w 11 ann 1 89 (S9 w os) (piecesOf c9 env cE ⟨357,0,367,26⟩ BB)=some (.next,S10 w os,cE,⟨393,0,424,49⟩):=by
 unfold c9;(try rw[a0]);(try rw[a1]);(try rw[a2]);(try rw[a3]);(try rw[a4]);(try rw[a5]);(try rw[a6]);(try rw[a7]);(try rw[a8]);(try rw[a9]);(try rw[a10]);kernel_rfl
theorem fin(w:World)(os:OsState):topRun treeTable pwL w 11 ann 2 (S10 w os).abs ⟨doneF .next,cE,⟨393,0,424,49⟩,BB⟩=some (SF w os):=by
 (try rw[a0]);(try rw[a1]);(try rw[a2]);(try rw[a3]);(try rw[a4]);(try rw[a5]);(try rw[a6]);(try rw[a7]);(try rw[a8]);(try rw[a9]);(try rw[a10]);kernel_rfl
theorem body:behindTheImports pwL=c1++(c2++(c3++(c4++(c5++(c6++(c7++(c8++(c9++([]))))))))):=by
 (try rw[a6]);(try rw[a7]);(try rw[a8]);(try rw[a9]);(try rw[a10]);kernel_rfl
theorem run(w:World)(os:OsState):topRun treeTable pwL w 11 ann (12+(1+(196+(214+(214+(394+(374+(397+(381+(397+(89+(2)))))))))))) ⟨boot_heap w.params,⟨[]⟩,boot_drawn,boot_toks,os⟩ (topStub pwL)=some (SF w os):=
 go_top (pre w os) (piece_block (blk w os) (by rw[body];exact piece_app (segRun_of (p1 w os)) (piece_app (segRun_of (p2 w os)) (piece_app (segRun_of (p3 w os)) (piece_app (segRun_of (p4 w os)) (piece_app (segRun_of (p5 w os)) (piece_app (segRun_of (p6 w os)) (piece_app (segRun_of (p7 w os)) (piece_app (segRun_of (p8 w os)) (piece_app (segRun_of (p9 w os)) (piece_nil (fin w os))))))))))))
theorem size(w:World):((boot_heap w.params).isNs mainGlobals&&(Array.mk ([]:List GenState)).size==0,(boot_heap w.params).objs.size,(boot_heap w.params).nsMap mainGlobals "__annotations__")=(true,11,ann):=by
 (try rw[a11]);(try rw[a12]);(try rw[a13]);kernel_rfl
abbrev Xt(s:Shared):Bool:=xlAt q [] s&&recOk [] s
theorem lk1(w:World)(os:OsState):(staticsOk (importedModules pwL.main.body) (boot_heap w.params) (HF w.params)&&namesBound pwL (HF w.params)&&gensDone (SF w os)&&laidKept (boot_heap w.params) (HF w.params))=true:=by
 (try rw[a11]);(try rw[a12]);(try rw[a13]);(try rw[a6]);(try rw[a7]);(try rw[a8]);(try rw[a9]);(try rw[a10]);kernel_rfl
theorem lk2(w:World)(os:OsState):openSeen q [] (importedModules pwL.main.body) Xt true (SF w os)=openGood q []:=by
 (try rw[a11]);(try rw[a12]);(try rw[a13]);(try rw[a6]);(try rw[a7]);(try rw[a8]);(try rw[a9]);(try rw[a10]);kernel_rfl
theorem lk3(w:World)(os:OsState):PySem.W.X.obsZ as (SF w os)=PySem.W.X.valZ K 424 768 w:=by
 (try rw[a11]);(try rw[a12]);(try rw[a13]);(try rw[a6]);(try rw[a7]);(try rw[a8]);(try rw[a9]);(try rw[a10]);kernel_rfl
theorem imports:opening pwL=plainProg pwL.main.scope.names:=by kernel_rfl
theorem left:LeftO pwL q [] Xt (PySem.W.X.obsZ as) (PySem.W.X.valZ K 424 768) 5420:=
 LeftO.of_pieces (boot_open imports (by rfl) (λs=>by kernel_rfl)) size run (by rfl) λw=>funext λos=>looks_pair (lk1 w os) (looks_pair (lk2 w os) (lk3 w os))
end
end H
end K60
open PySem PySem.W PyProof.Rows
set_option maxRecDepth 100000 in
set_option maxHeartbeats 0 in
theorem PySem.Challenge.cw_nextbyrule_k60_whole_closed_forms_holds : PySem.Challenge.rw_nextbyrule_k60_whole_closed_forms.Holds := by
 change K60.rwL.Holds
 w_on;o_law;rename_i said
 refine holds_openX (d:=?d) (kwd:=?kwd) K60.H.left (λs h=>xl_of s (HZ.mp h).1) XL.keeps (by rfl) (by rfl) (by rfl) (λs h=>recFacts_of (HZ.mp h).2) (by rfl) said (by decide +kernel) ⟨rfl,rfl,rfl,rfl,rfl,by decide +kernel⟩ ?hw ?hc;case hw=>w_witness2
 k_fill
 refine L2.atx (λ_=>by kernel_rfl) ?_;refine L2.alR (l:=K60.rwL) (n:=63) (k:=K60.Qt) (x:= "_law_script") (CX:=λw=>L2.qY K60.rwL.prog w) (sp:=λ_=>K60.N6 _) rfl (by decide) rfl ⟨rfl,by decide,by decide⟩ (λw h Y=>Y) ?F (λw H a ns hl _ hS=>⟨a,ns,rfl,hS,hl,λ_=>rfl⟩) (λ_ _ _ _ _ z=>L2.Wq z);case F=>
  intro w mg fa h KX G hmg;apply K60.all_mk KX G hmg;all_goals first|(refine' L2.arN ?a ?l ?c ?k;(case a|l|c|k=>k_is))|k_is|exact⟨_,by k_is⟩|k_exc|kernel_rfl|kit_is
