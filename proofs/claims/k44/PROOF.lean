import PyProof.Rows.All
import Wide.All
import OpenK.AllK
import Wide.FinOn
import Lean
import PyProof.EqAt
import PyProof.EqKinds
import PyProof.TupleCall
import PySem.Challenge.RW_nextbyrule_k44_whole_far_by_rounds
local macro_rules | `(tactic| omega)=>`(tactic| lia)
local macro_rules | `(⋯)=>`(by omega)
local macro_rules | `(∅)=>`(by decide)
set_option Elab.async false
set_option linter.all false
set_option maxRecDepth 100000
noncomputable section
open List renaming length_map->aM,size_toArray->cI,range->bQ,append_assoc->fG,mem_cons_of_mem->gO,mem_append_right->iK,length_append->gK,eq_nil_of_length_eq_zero->oV,mem_append->fK,replicate->fu,pairwise_append->jM,length_take->iB,map_append->iJ,mem_map->fB,length_range->kI,mem_cons_self->mU,map_map->gj,map_cons->iY,map_congr_left->pN,mem_range->jW,mem_cons->jg,all_eq_true->oZ,mem_reverse->oG,take_of_length_le->uI,length_drop->pD,drop_sublist->sZ,replicate_succ->v8,getElem_of_mem->v7,reverse_append->vO,length_cons->tu,take_length->sG,getElem_mem->sI,extract->oB,pairwise_iff_getElem->Fp,map->gW,filter_eq_self->zQ,mem_singleton->xK,map_take->sY,flatten_cons->w6,pairwise_map->zy,take_append_drop->Du,mem_iff_getElem->D9,any_cons->vq,filterMap_cons->Dt,nodup_cons->zV,length_set->yI,range_succ->zW,length_pos_iff->Ed,mem_filterMap->Gi,drop_eq_getElem_cons->MG,take_add_one->Fv,reverse_perm->Ej,range_succ_eq_map->JR,mem_filter->CG,of_mem_zip->Bc,map_nil->Ay,length_filter_le->Jt,perm_append_comm->GQ,pairwise_reverse->Im,mem_append_left->Lj,reverse_reverse->Hs,mem_of_mem_take->N8,drop_zero->DY,filter_append->KL,take_sublist->GB,getElem_drop->Ra,getElem_take->Hu,nodup_append->GR,any_eq_true->Mq,nodup_range->Rn,foldl_cons->JG,nil_append->Hw,length_nil->Ox,forIn_cons->Q7,filter_map->Nb,drop_drop->M9,foldl->Er,map_drop->Ml,length->RX
open Nat renaming le_refl->aO,lt_of_lt_of_le->dI,le_trans->cJ,zero_le->cZ,zero_add->eO,add_sub_cancel->jO,ne_of_lt->gP,lt_irrefl->jw,add_sub_cancel_left->wu,le_of_lt->jK,sub_zero->lU,add_mul_mod_self_left->E7,sub_self->pK,pow_succ->qC,mul_comm->tZ,strongRecOn->xU,lt_of_le_of_lt->C7,add_assoc->yx,mul_add->uy,min_le_right->Bu,mod_eq_of_lt->AX,succ_mul->wO,add_comm->Ah,le_of_eq->yu,not_lt_zero->Bb,add_zero->yF,pow_zero->zB,mul_one->wF,one_mul->Aa,mul_le_mul_left->K5,dvd_mul_right->K2,lt_trichotomy->Ig,lt_of_not_le->Qt,le_max_right->Iu,not_le_of_gt->K9,le_succ->BL,one_pos->C6,min_eq_left->Hr,le_max_left->Ot,min_le_left->Hg,add_le_add->IV,mul_le_mul->GF,le_of_dvd->MX,zero_mul->RG
open Bool renaming false_ne_true->cV,false_eq_true->pC,and_eq_true->pJ,eq_iff_iff->uz,not_eq_true'->Aj,or_eq_true->yW,not_eq_false'->B3,and_eq_true_iff->Gv
open Int renaming toNat_natCast->dw,mul_zero->cO,toNat_of_nonneg->kW,emod_emod_of_dvd->mY,mul_comm->fj,add_zero->fL,le_of_lt->gJ,zero_mul->gC,zero_add->gk,le_trans->iI,mul_one->iu,add_comm->j6,emod_lt_of_pos->tH,dvd_refl->m6,emod_nonneg->rN,one_mul->mD,not_lt->j4,mul_assoc->qH,emod_eq_of_lt->u6,mul_emod->pU,pow_succ->qd,lt_of_lt_of_le->yH,mul_left_comm->Al,le_refl->sO,natCast_add->yG,fdiv_eq_ediv_of_nonneg->NS,mul_add->vB,natCast_emod->B4,sub_zero->Ad,neg_one_mul->Bf,lt_of_le_of_lt->OG,zero_sub->FY,add_mul->DM,natCast_mul->PJ,natCast_sub->Pz,add_assoc->KZ,ediv_one->Jv
open PySem.W renaming Frag->aA,mg_none_of->n8,kitOne->iW,nsIn->fH,findIn->mR,fnOf->jr,mg_of->oO,keepIn->rM,cellsFrom_some->Ja,codeIn->vG,methodObj->Em,hideAll->yh,mroIn->rF,excIn->wI
open PySem.Heap renaming lt_size->cu,SameBut->Bh
open Array renaming length_toList->gh,toList_append->iC,size_extract->qT,perm_iff_toList_perm->Cu,size_append->yK,size_push->Ba,toList_reverse->Lq,append_assoc->Ij,size_reverse->Np,toList->G3
open PySem.Builtin.Int renaming intBits->pA
open PyProof.Rows renaming slot_tuple_getitem->rJ,callWith_type1->sH,callWith_builtin1->adz
open PySem renaming mem_of_lookup->nR,Builtin->agr,call->Ku
open Option.some renaming inj->kY
open PySem.Obj renaming mapSeq->jA
open PySem.F renaming args_tuple_add_2->EG,entry_tuple_add->Eb,slot_tuple_add->Bo,excBase_ValueError->Ds,slot_dict_len->Qw,slot_dict_eq_refl->GK,slot_int_rmul->HY
open Option renaming map_some->uT,isSome_iff_exists->Rg,isSome_map->Qz,getD_none->Qh,none->RN
open List.Perm renaming append_left->DK,append_right->KW,refl->B5,trans->Hq
open PySem.Calls renaming Name_function_global->Ni,callWith_builtin->Pr,evalArgs_plain->KR,spliced_cons->N7,spliced_nil->MQ
open PyProof renaming noPylong_small->Mz
open PySem.PyData renaming depthAll->Gn,eqv->u9,canLayAll0->QN,canLay0->Ik,int->Eh,depth->HC
open Or renaming inr->jq,inl->mz
open Ne renaming symm->nY
open Sum renaming inl->qY,inr->qw
open PySem.EqNone renaming eq_none_none->aeu,eq_none_bool->aaB,eq_bool_none->afp,ne_none_none->XO,ne_none_bool->ZW,ne_bool_none->Vo,eq_none_int->WM,eq_none_str->WT,eq_int_none->ac9,eq_str_none->aai,ne_none_int->afM,ne_none_str->Vm,ne_int_none->acI,ne_str_none->af0
open PySem.EqMixed renaming eq_bool_str->adD,eq_str_bool->Z6,ne_bool_str->UJ,ne_str_bool->VD,eq_int_str->adS,eq_str_int->Zg,ne_int_str->YX,ne_str_int->VP
open PySem.W.X renaming obsZ->QF,valZ->Nm
open PySem.Heap.IsSliceOf renaming new->Zt
open List.Pairwise renaming nil->Uh
namespace L2
open PySem PySem.Spec PyProof.Rows
abbrev Key:=Sum Int Str
def tX:Key->Value->Bool
 |.inl k,v=>Value.isInt k v
 |.inr x,v=>Value.isStrOf x v
def aea(w:World):Key->Int
 |.inl k=>hashInt k
 |.inr x=>hashStr w x
def nj:∀{k:Key} {v:Value},tX k v=true->(∃i t,k=qY i/\v=Value.int i t)∨(∃x t,k=qw x/\v=Value.str x t)
 |.inl i,v,h=>by
  obtain⟨t,e⟩:=Value.isInt_shape (k:=i) (v:=v) h;exact .inl ⟨i,t,rfl,e⟩
 |.inr x,v,h=>by
  obtain⟨t,e⟩:=Value.isStrOf_shape (x:=x) (v:=v) h;exact .inr ⟨x,t,rfl,e⟩
def aej(i:Int)(t:Tok):tX (.inl i) (.int i t)=true:=by simp[tX,Value.isInt]
def Yq(x:Str)(t:Tok):tX (.inr x) (.str x t)=true:=by simp[tX,Value.isStrOf]
def aeT(a b:Int):decide ((qY a:Key)=qY b)=(a==b):=by
 by_cases e:a=b
 .subst e;simp
 .have h:¬(qY a:Key)=qY b:=λq=>e (Sum.inl.inj q);rw[decide_eq_false h];exact(beq_eq_false_iff_ne.mpr e).symm
def afo(a b:Str):decide ((qw a:Key)=qw b)=decide (a=b):=by
 by_cases e:a=b
 .subst e;simp
 .have h:¬(qw a:Key)=qw b:=λq=>e (Sum.inr.inj q);rw[decide_eq_false h,decide_eq_false e]
def Y9(a:Int)(b:Str):decide ((qY a:Key)=qw b)=false:=decide_eq_false (λq=>nomatch q)
def afQ(a:Str)(b:Int):decide ((qw a:Key)=qY b)=false:=decide_eq_false (λq=>nomatch q)
def dN(prog:Program)(w:World):PySem.KeyKind prog w Key where
 is:=tX
 hash:=aea w
 inj:=λv a b ha hb=>by
  rcases nj ha with⟨i,t,rfl,rfl⟩|⟨x,t,rfl,rfl⟩
  .rcases nj hb with⟨j,u,rfl,e⟩|⟨y,u,rfl,e⟩
   .injection e with e1 _;rw[e1]
   .exact nomatch e
  .rcases nj hb with⟨j,u,rfl,e⟩|⟨y,u,rfl,e⟩
   .exact nomatch e
   .injection e with e1 _;rw[e1]
 byValue:=λk v h=>by
  rcases nj h with⟨i,t,rfl,rfl⟩|⟨x,t,rfl,rfl⟩<;>rfl
 pyHash:=λhv h=>by
  rcases nj hv with⟨i,t,rfl,rfl⟩|⟨x,t,rfl,rfl⟩
  .exact wpAny_pyHash_int h
  .exact wpAny_pyHash_str h
 eqBool:=λhu hv h=>by
  rcases nj hu with⟨i,t,rfl,rfl⟩|⟨x,t,rfl,rfl⟩
  .rcases nj hv with⟨j,u,rfl,rfl⟩|⟨y,u,rfl,rfl⟩
   .rw[aeT]at h;exact wpAny_eqBool_int h
   .rw[Y9]at h;exact SeqAt.EqAt.int_str i t y u _ _ _ _ h
  .rcases nj hv with⟨j,u,rfl,rfl⟩|⟨y,u,rfl,rfl⟩
   .rw[afQ]at h;exact SeqAt.EqAt.str_int x t j u _ _ _ _ h
   .rw[afo]at h;exact wpAny_eqBool_str h
 «strs»:=λk x t v h=>by
  rcases nj h with⟨i,u,rfl,e⟩|⟨y,u,rfl,e⟩
  .exact nomatch e
  .injection e with e1 _;subst e1;cases v<;>rfl
def aad(prog:Program)(w:World)(i:Int)(t:Tok):(dN prog w).is (.inl i) (.int i t)=true:=aej i t
def acN(prog:Program)(w:World)(x:Str)(t:Tok):(dN prog w).is (.inr x) (.str x t)=true:=Yq x t
inductive V where
 |non|bl (b:Bool)|int (i:Int)|str (x:Str)|gR (b:Array UInt8)|flt (b:UInt64)|ref (a:Addr)|ty (n:String)
 deriving DecidableEq
def RelV:V->Value->Prop
 |.non,u=>u=Value.none
 |.bl b,u=>u=Value.bool b
 |.int i,u=>∃t,u=Value.int i t
 |.str x,u=>∃t,u=Value.str x t
 |.gR b,u=>∃t,u=Value.bytes b t
 |.flt b,u=>∃t,u=Value.float b t
 |.ref a,u=>u=Value.ref a
 |.ty n,u=>u=Value.type n
abbrev Vals:List V->List Value->Prop:=Paired RelV
theorem Vals.length{xs:List V}{us:List Value}(r:Vals xs us):xs.length=us.length:=Paired.length r
theorem Vals.get:∀{xs:List V} {us:List Value} {i:Nat} {x:V},Vals xs us->xs[i]?=some x->∃u,us[i]?=some u/\RelV x u
 |_,_,_,_,.nil,e=>by simp at e
 |_,_,0,_,.cons r _,e=>by simp at e;subst e;exact⟨_,rfl,r⟩
 |_,_,i+1,x,.cons _ t,e=>by
  obtain⟨u,h1,h2⟩:=Vals.get (i:=i) (x:=x) t (by simpa using e);exact⟨u,by simpa using h1,h2⟩
theorem Vals.set{x:V}{u:Value}(r:RelV x u):∀{xs:List V} {us:List Value} (i:Nat),Vals xs us->Vals (xs.set i x) (us.set i u)
 |_,_,_,.nil=> .nil
 |_,_,0,.cons _ t=> .cons r t
 |_,_,i+1,.cons q t=> .cons q (Vals.set r i t)
theorem Vals.append:∀{xs ys:List V} {us ws:List Value},Vals xs us->Vals ys ws->Vals (xs++ys) (us++ws)
 |_,_,_,_,.nil,s=>s
 |_,_,_,_,.cons r t,s=> .cons r (Vals.append t s)
theorem Vals.take:∀{xs:List V} {us:List Value} (n:Nat),Vals xs us->Vals (xs.take n) (us.take n)
 |_,_,0,_=> .nil
 |_,_,_+1,.nil=> .nil
 |_,_,n+1,.cons r t=> .cons r (Vals.take n t)
theorem Vals.drop:∀{xs:List V} {us:List Value} (n:Nat),Vals xs us->Vals (xs.drop n) (us.drop n)
 |_,_,0,r=>r
 |_,_,_+1,.nil=> .nil
 |_,_,n+1,.cons _ t=>Vals.drop n t
def gw:Option V->Option Value->Prop
 |some v,some u=>RelV v u
 |none,none=>True
 |_,_=>False
def KV{κ:Type}:List (κ×V)->List (κ×Value)->Prop:=Paired λ(p:κ×V) (q:κ×Value)=>p.1=q.1/\RelV p.2 q.2
def kV:Key->V
 |.inl i=> .int i
 |.inr x=> .str x
inductive HO where
 /-- a list -/
 |lst (xs:List V)
 /-- a tuple (never changes) -/
 |tup (xs:List V)
 /-- a dict whose keys are ints and texts;one whose keys are tuples of ints and texts (the empty one is both) -/
 |dK (kvs:List (Key×V))|dT (kvs:List (List Key×V))
 /-- a set of ints: its members,its size -/
 |set (S:Int->Bool) (n:Nat)
 /-- an instance of the class at C,its dict at dx,its attributes -/
 |ins (C dx:Addr) (fs:List (Str×V))
 /-- the dict of the instance at x -/
 |own (x:Addr)
 /-- the dict of an exception -/
 |xd (fs:List (Str×V))
 /-- a bound method,f of x -/
 |met (f x:Addr)
 /-- a range object lo,lo+1,.. below hi -/
 |rng (lo hi:Int)
 /-- a thing that is known to the object (the script;a dict while a loop walks it): read,never written while it is so -/
 |gH (o:Obj) (u:HO)
 /-- a code object's table -/
 |mQ (ps:Array Value)
 /-- any other thing,by what is true of its one object (a def of agP own: ags a S n:=HO.ext λh=> ..) -/
 |ext (φ:Heap->Prop)
abbrev Hp:=Addr->Option HO
def upd(H:Hp)(a:Addr)(o:HO):Hp:=λb=>if b=a then some o else H b
def aG{H:Hp}{a:Addr}{o:HO}:upd H a o a=some o:=by unfold upd;rw[if_pos rfl]
def dF{H:Hp}{a b:Addr}{o:HO}(h:b≠a):upd H a o b=H b:=by unfold upd;rw[if_neg h]
def ado{H:Hp}{a:Addr}{o u:HO}:upd (upd H a o) a u=upd H a u:=by
 funext b;unfold upd;split<;>rfl
def TR{H:Hp}{a b:Addr}{o u:HO}(h:H a=some o)(h':H b=some u)(d:o≠u):a≠b:=by
 intro e;subst e;rw[h]at h';exact d (kY h')
def oA{H:Hp}{a b:Addr}{o:HO}(h:H a=some o)(h':H b=none):a≠b:=by
 intro e;subst e;rw[h]at h';cases h'
section
variable (P:Program) (w:World)
def cY(H:Hp)(h:Heap)(a:Addr):HO->Prop
 |.lst xs=>xs.length<=sizeLine/\∃(its:List Value) (n:Nat),Vals xs its/\h.get? a=some { cls:= .type "list",data:= .seq its.toArray n }
 |.tup xs=>xs.length<=sizeLine/\∃its:List Value,Vals xs its/\IsTup h a its.toArray
 |.dK kvs=>kvs.length<=sizeLine/\(a==sysModules)=false/\∃vs,KV kvs vs/\h.DictOf (dN P w) a vs
 |.dT kvs=>kvs.length<=sizeLine/\(a==sysModules)=false/\∃xs:List (List Key×Addr×Value),
   Paired (λ(p:List Key×V) (q:List Key×Addr×Value)=>p.1=q.1/\H q.2.1=some (.tup (p.1.map kV))/\RelV p.2 q.2.2) kvs xs/\
   ∃o es ep,h.get? a=some o/\o.ExactDict/\o.data = .dict es ep/\es.toList=xs.map (entryOfKey (tupleKind (dN P w)))/\(xs.map (·.1)).Nodup
 |.set S n=>h.SetOf (intKind P w) a S n
 |.ins C dx fs=>H dx=some (.own a)/\fs.length<=1000/\dx≠a/\h.get? a=some (W.instObj C dx)/\
   ∃mA,h.Ns1 dx mA/\(∀f,gw (fs.lookup f) (mA f))/\PySem.Within mA (fs.map (·.1))
 |.own _=>∃o,h.get? a=some o
 |.xd fs=>∃mA,h.Ns1 a mA/\∀f,gw (fs.lookup f) (mA f)
 |.rng lo hi=>∃t u v,h.get? a=some { cls:= .type "range",data:= .fields #[.int lo t,.int hi u,.int 1 v] }
 |.gH o u=>h.get? a=some o/\cY H h a u
 |.mQ ps=>h.get? a=some { cls:= .none,data:= .fields ps }
 |.met f x=>h.get? a=some (Em (.ref f) (.ref x))
 |.ext φ=>φ h/\(∃o,h.get? a=some o)/\∀h1 h2:Heap,φ h1->(∀o,h1.get? a=some o->h2.get? a=some o)->φ h2
def bY(H:Hp)(h:Heap):Prop:=∀a o,H a=some o->cY P w H h a o
end
section
variable {P:Program} {w:World} {H H':Hp} {h h':Heap} {a:Addr} {o:HO}
theorem cY.lt(x:cY P w H h a o):a<h.objs.size:=by
 cases o with
 |lst xs=>obtain⟨_,_,_,_,e⟩:=x;exact cu e
 |tup xs=>obtain⟨_,_,_,p⟩:=x;exact p.lt
 |dK kvs=>obtain⟨_,_,_,_,o,_,_,e,_⟩:=x;exact cu e
 |dT kvs=>obtain⟨_,_,_,_,o,_,_,e,_⟩:=x;exact cu e
 |set S n=>obtain⟨o,_,_,_,e,_⟩:=x;exact cu e
 |ins C dx fs=>obtain⟨_,_,_,e,_⟩:=x;exact cu e
 |own y=>obtain⟨_,e⟩:=x;exact cu e
 |xd fs=>obtain⟨_,⟨_,_,_,e,_⟩,_⟩:=x;exact cu e
 |rng lo hi=>obtain⟨_,_,_,e⟩:=x;exact cu e
 |gH ob u=>obtain⟨e,_⟩:=x;exact cu e
 |mQ ps=>exact cu (show h.get? a=some _ from x)
 |met f y=>exact cu (show h.get? a=some _ from x)
 |ext φ=>obtain⟨_,⟨_,e⟩,_⟩:=x;exact cu e
theorem Paired.CD{α β:Type}{F G:α->β->Prop}:∀{l₁:List α} {l₂:List β},Paired F l₁ l₂->(∀a b,F a b->G a b)->Paired G l₁ l₂
 |_,_,.nil,_=> .nil
 |_,_,.cons r t,f=> .cons (f _ _ r) (Paired.CD t f)
def cY.stay(x:cY P w H h a o)(k:∀b u,(b=a∨H b=some (.own a))->h.get? b=some u->h'.get? b=some u)
  (ho:∀b,H b=some (.own a)->H' b=some (.own a)) (ht:∀b xs,H b=some (.tup xs)->H' b=some (.tup xs)):cY P w H' h' a o:=by
 induction o with
 |lst xs=>obtain⟨z,its,n,r,e⟩:=x;exact⟨z,its,n,r,k _ _ (.inl rfl) e⟩
 |tup xs=>obtain⟨z,its,r,ob,e,c⟩:=x;exact⟨z,its,r,ob,k _ _ (.inl rfl) e,c⟩
 |dK kvs=>obtain⟨z,y,vs,r,ob,es,ep,e,c⟩:=x;exact⟨z,y,vs,r,ob,es,ep,k _ _ (.inl rfl) e,c⟩
 |dT kvs=>
  obtain⟨z,y,xs,r,ob,es,ep,e,c⟩:=x;exact⟨z,y,xs,Paired.CD r λp q z=>⟨z.1,ht _ _ z.2.1,z.2.2⟩,ob,es,ep,k _ _ (.inl rfl) e,c⟩
 |set S n=>obtain⟨ob,es,ep,t,e,c⟩:=x;exact⟨ob,es,ep,t,k _ _ (.inl rfl) e,c⟩
 |ins C dx fs=>
  obtain⟨d,z,ne,e,mA,⟨od,es,ep,e2,c⟩,r⟩:=x;exact⟨ho _ d,z,ne,k _ _ (.inl rfl) e,mA,⟨od,es,ep,k _ _ (.inr d) e2,c⟩,r⟩
 |own y=>obtain⟨ob,e⟩:=x;exact⟨ob,k _ _ (.inl rfl) e⟩
 |xd fs=>obtain⟨mA,⟨od,es,ep,e,c⟩,r⟩:=x;exact⟨mA,⟨od,es,ep,k _ _ (.inl rfl) e,c⟩,r⟩
 |rng lo hi=>obtain⟨t,u,v,e⟩:=x;exact⟨t,u,v,k _ _ (.inl rfl) e⟩
 |gH ob u ih=>obtain⟨e,q⟩:=x;exact⟨k _ _ (.inl rfl) e,ih q⟩
 |mQ ps=>
  have e:h.get? a=some { cls:= .none,data:= .fields ps }:=x;show h'.get? a=some { cls:= .none,data:= .fields ps };exact k a _ (.inl rfl) e
 |met f y=>
  have e:h.get? a=some (Em (.ref f) (.ref y)):=x;show h'.get? a=some (Em (.ref f) (.ref y));exact k a _ (.inl rfl) e
 |ext φ=>obtain⟨p,⟨o,e⟩,st⟩:=x;exact⟨st _ _ p λo q=>k _ _ (.inl rfl) q,⟨o,k _ _ (.inl rfl) e⟩,st⟩
theorem bY.lt(x:bY P w H h)(e:H a=some o):a<h.objs.size:=(x a o e).lt
def bY.fresh(x:bY P w H h)(e:h.objs.size<=a):H a=none:=by
 cases q:H a with
 |none=>rfl
 |some u=>exact absurd (dI (x.lt q) e) (jw _)
def bY.kept(x:bY P w H h)(k:∀b u,h.get? b=some u->h'.get? b=some u):bY P w H h':=λa o e=>
 (x a o e).stay (λb u _ q=>k b u q) (λ_ q=>q) λ_ _ q=>q
def bY.laid(x:bY P w H h)(k:∀b u,h.get? b=some u->h'.get? b=some u)(hp:h.objs.size<=a)(new:cY P w (upd H a o) h' a o):bY P w (upd H a o) h':=λb u e=>by
 have hn:=x.fresh hp;by_cases hb:b=a
 .subst hb;rw[aG]at e;cases e;exact new
 .rw[dF hb]at e;exact(x b u e).stay (λc v _ q=>k c v q) (λc q=>by rw[dF (oA q hn)];exact q) λc xs q=>by rw[dF (oA q hn)];exact q
end
def Rd(H:Hp)(a:Addr)(u:HO):Prop:=H a=some u∨∃o,H a=some (.gH o u)
def Rd.ok{P:Program}{w:World}{H:Hp}{h:Heap}{a:Addr}{u:HO}(r:Rd H a u)(x:bY P w H h):cY P w H h a u:=by
 rcases r with r|⟨o,r⟩
 .exact x a u r
 .obtain⟨_,q⟩:=x a _ r;exact q
def vm:Option HO->Prop
 |some (.lst _)=>True
 |some (.dK _)=>True
 |some (.dT _)=>True
 |some (.set _ _)=>True
 |some (.ins _ _ _)=>True
 |some (.ext _)=>True
 |_=>False
section
variable {P:Program} {w:World} {H:Hp} {h h':Heap} {x e:Addr} {o':HO}
def bY.write(ok:bY P w H h)(mu:vm (H x))(he:e=x∨H e=some (.own x))(k:∀b u,b≠e->h.get? b=some u->h'.get? b=some u)(heo:∃u,h'.get? e=some u)
  (new:cY P w (upd H x o') h' x o'):bY P w (upd H x o') h':=λb u q=>by
 have Hz:∀c y,H c=some (.own y)->c≠x:=λc y r z=>by subst z;rw[r]at mu;exact mu
 have abO:∀c xs,H c=some (.tup xs)->c≠x:=λc xs r z=>by subst z;rw[r]at mu;exact mu
 by_cases hb:b=x
 .subst hb;rw[aG]at q;cases q;exact new
 .rw[dF hb]at q;by_cases hbe:b=e
  .have q':H b=some (.own x):=by
    rcases he with z|z
    .exact absurd (hbe.trans z) hb
    .rw[hbe];exact z
   rw[q]at q';cases q';obtain⟨v,hv⟩:=heo;exact⟨v,by rw[hbe];exact hv⟩
  .refine(ok b u q).stay (λc v hc r=>k c v ?_ r) (λc r=>by rw[dF (Hz c b r)];exact r) λc xs r=>by rw[dF (abO c xs r)];exact r
   rcases hc with rfl|hc
   .exact hbe
   .rintro rfl;rcases he with z|z
    .exact Hz c b hc z
    .rw[hc]at z;cases z;exact hb rfl
end
structure Un(fs ex:List Addr)(H H':Hp)(h h':Heap):Prop where
 keep:∀b o,h.get? b=some o->H b=none->b∉fs->b∉ex->h'.get? b=some o
 slot:∀b o,h.get? b=some o->H b=none->b∈fs->b∉ex->∃sl,h'.get? b=some { o with slots:=sl }
 free:∀b o,h.get? b=some o->H b=none->b∉ex->H' b=none
 there:∀b o,h.get? b=some o->b∉ex->∃o',h'.get? b=some o'
 tups:∀b xs,H b=some (.tup xs)->H' b=some (.tup xs)
 gY:∀b o u,H b=some (.gH o u)->H' b=some (.gH o u)
 iQ:∀b ps,H b=some (.mQ ps)->∃more,H' b=some (.mQ (ps++more))
section
variable {fs fs' ex ex':List Addr} {H H1 H2:Hp} {h h1 h2 h':Heap} {a x e:Addr} {o:HO}
def Un.any(u:Un fs ex H H1 h h1){b:Addr}{ob:Obj}(q:h.get? b=some ob)(n:H b=none)(hx:b∉ex):∃sl,h1.get? b=some { ob with slots:=sl }:=by
 by_cases hb:b∈fs
 .exact u.slot b ob q n hb hx
 .exact⟨ob.slots,u.keep b ob q n hb hx⟩
def Un.kept(k:∀b u,h.get? b=some u->h'.get? b=some u):Un fs ex H H h h':=
 ⟨λb ob q _ _ _=>k b ob q,λb ob q _ _ _=>⟨ob.slots,k b ob q⟩,λ_ _ _ n _=>n,λb ob q _=>⟨ob,k b ob q⟩,λ_ _ q=>q,λ_ _ _ q=>q,λ_ ps q=>⟨#[],by rw[q];simp⟩⟩
def Un.refl:Un fs ex H H h h:=Un.kept λ_ _ q=>q
def Un.laid(k:∀b u,h.get? b=some u->h'.get? b=some u)(hp:h.objs.size<=a)(hn:H a=none):Un fs ex H (upd H a o) h h' where
 keep:=λb u q _ _ _=>k b u q
 slot:=λb u q _ _ _=>⟨u.slots,k b u q⟩
 free:=λb u q n _=>by rw[dF (gP (dI (cu q) hp))];exact n
 there:=λb u q _=>⟨u,k b u q⟩
 tups:=λb xs q=>by rw[dF (oA q hn)];exact q
 gY:=λb u xs q=>by rw[dF (oA q hn)];exact q
 iQ:=λb ps q=>⟨#[],by rw[dF (oA q hn),q];simp⟩
def Un.write(mu:vm (H x))(he:e=x∨H e=some (.own x))(k:∀b u,b≠e->h.get? b=some u->h'.get? b=some u)(heo:∃u,h'.get? e=some u):Un fs ex H (upd H x o) h h':=by
 have hx:∀b,H b=none->b≠x:=λb n z=>by subst z;rw[n]at mu;exact mu
 have hb:∀b,H b=none->b≠e:=λb n z=>by
  subst z;rcases he with r|r
  .exact hx b n r
  .rw[n]at r;cases r
 have hm:∀b u,H b=some u->¬vm (some u)->b≠x:=λb u q nm z=>by subst z;rw[q]at mu;exact nm mu
 refine⟨λb u q n _ _=>k b u (hb b n) q,λb u q n _ _=>⟨u.slots,k b u (hb b n) q⟩,λb u q n _=>by rw[dF (hx b n)];exact n,λb u q _=>?_,
  λb xs q=>by rw[dF (hm b _ q λz=>z)];exact q,λb u xs q=>by rw[dF (hm b _ q λz=>z)];exact q,λb ps q=>⟨#[],by rw[dF (hm b _ q λz=>z),q];simp⟩⟩
 by_cases hbe:b=e
 .subst hbe;exact heo
 .exact⟨u,k b u hbe q⟩
end
def Ae(h:Heap)(H:Hp):List Addr:=(bQ h.objs.size).filter λa=>(H a).isSome
def nq(h:Heap)(H:Hp):Heap:=yh h (Ae h H)
def adw(h:Heap)(H:Hp):(nq h H).objs.size=h.objs.size:=W.hideAll_size _ _
def agh{h:Heap}{H:Hp}{b:Addr}{o:Obj}(e:h.get? b=some o)(n:H b=none):(nq h H).get? b=some o:=
 W.hideAll_get _ e λhm=>by
  have q:(H b).isSome=true:=(CG.mp hm).2;rw[n]at q;simp at q
def Yn{h:Heap}{H:Hp}{b:Addr}{o:Obj}(e:(nq h H).get? b=some o):h.get? b=some o/\H b=none:=by
 have e':h.get? b=some o:=W.of_hideAll (Ae h H) e;refine⟨e',?_⟩;cases q:H b with
 |none=>rfl
 |some x=>
  have hm:b∈Ae h H:=CG.mpr ⟨jW.mpr (cu e'),by simp[q]⟩;have z:(nq h H).get? b=none:=W.hideAll_none (Ae h H) hm;rw[z]at e;cases e
structure Mod(K:aA)(mg:Str->Option Value)(base:Heap):Prop where
 Cw:K.In base
 glob:base.Ns mainGlobals mg
 blt:∃mb,base.Ns builtinsNs mb/\∀x:Str,x≠ "__name__" -> mb x=bootBuiltins x
 nolimit:base.NoLimit
 digits:base.NoDigits
structure Cx where
 prog:Program
 w:World
 K:aA
 mg:Str->Option Value
 base:Heap
 A:Around
 N:List Str
 s₀:Shared
 H₀:Hp
 env:Env
 outer:List Env
 stack:List Env
 ex:List Addr
 fn:Str->Bool
 calm:Bool
 pn:List (Addr×Obj)
 xe:Value->Shared->Prop
def frs(l:List Env):List Addr:=l.filterMap (·.frame)
abbrev Cx.fs(X:Cx):List Addr:=frs X.outer
def Ag(sc:Scope)(x:Str):Prop:=sc.names.lookup x=some .local∨sc.names.lookup x=some .cell∨sc.names.lookup x=some .free
def Loc(sc:Scope)(x:Str):Prop:=sc.names.lookup x=some .local∨sc.names.lookup x=some .cell
def Look(env:Env)(h:Heap)(m:Str->Option Value)(x:Str)(u:Value):Prop:=
 (env.kindOf x=some .local/\m x=some u)∨((env.kindOf x=some .cell∨env.kindOf x=some .free)/\∃c,env.cells.lookup x=some c/\h.IsCell c (some u))
structure Cx.Ok(X:Cx):Prop where
 mod:Mod X.K X.mg X.base
 kind:X.env.scope.kind = .function
 glob:X.env.globals=mainGlobals
 blt:X.env.builtins=builtinsNs
 above:X.s₀.heap.objs.size<=X.env.locals
 inj:∀x y c,X.env.cells.lookup x=some c->X.env.cells.lookup y=some c->x=y
 has:∀x,(X.env.kindOf x=some .cell∨X.env.kindOf x=some .free)->∃c,X.env.cells.lookup x=some c
 cab:∀x c,X.fn x=true->X.env.cells.lookup x=some c->X.s₀.heap.objs.size<=c
 hd:X.calm=true->X.A.handled=none
 frames:X.A.frames=some X.stack
 stk:X.stack=X.outer∨(X.stack=X.env::X.outer/\X.env.frame=some X.env.locals)
 RJ:∀b∈X.ex,b≠X.env.locals/\∀x c,X.env.cells.lookup x=some c->c≠b
 bs:∀b o,X.base.get? b=some o->X.s₀.heap.get? b=some o/\X.H₀ b=none
 oW:X.base.objs.size<=X.s₀.heap.objs.size
 vp:∀b o,X.base.get? b=some o->b∉X.ex
 vZ:∀b∈X.ex,b∉X.fs
 jB:X.s₀.heap.FunFrames X.base X.outer
 tE:∀b∈X.fs,X.H₀ b=none
structure Inv(X:Cx)(pins:List (Addr×Obj))(σ:List (Option V))(H:Hp)(s:Shared):Prop where
 ok:X.Ok
 os:s.os=X.s₀.os
 bare:AllBare s.gens
 base:Un X.fs X.ex X.H₀ H X.s₀.heap s.heap
 loc:∃m,s.heap.Ns X.env.locals m/\∀(i:Nat) (x:Str) (v:V),X.N[i]?=some x->σ[i]?=some (some v)->Ag X.env.scope x->∃u,RelV v u/\Look X.env s.heap m x u
 cell:∀x c,X.env.cells.lookup x=some c->∃v,s.heap.IsCell c v
 free:H X.env.locals=none
 lA:∀x c,X.env.cells.lookup x=some c->H c=none
 pin:∀p∈X.pn++pins,s.heap.get? p.1=some p.2/\H p.1=none/\p.1≠X.env.locals/\p.1∉X.fs/\∀v,p.2.data≠ .cell v
 hok:bY X.prog X.w H s.heap
 len:σ.length=X.N.length
section
variable {X:Cx} {pins:List (Addr×Obj)} {σ:List (Option V)} {H H':Hp} {s:Shared} {h':Heap}
def Cx.Ok.WH(ok:X.Ok){b:Addr}{o:Obj}(e:X.base.get? b=some o):b∉X.fs:=λhb=>by
 have:=(ok.jB.mem hb).1;rw[e]at this;cases this
theorem Inv.bs(I:Inv X pins σ H s):∀b o,X.base.get? b=some o->s.heap.get? b=some o/\H b=none:=λb o e=>
 ⟨I.base.keep b o (I.ok.bs b o e).1 (I.ok.bs b o e).2 (I.ok.WH e) (I.ok.vp b o e),I.base.free b o (I.ok.bs b o e).1 (I.ok.bs b o e).2 (I.ok.vp b o e)⟩
def Inv.bk(I:Inv X pins σ H s):∀b o,X.base.get? b=some o->s.heap.get? b=some o:=λb o e=>(I.bs b o e).1
theorem Inv.mod(I:Inv X pins σ H s):Mod X.K X.mg X.base:=I.ok.mod
def Inv.rG(I:Inv X pins σ H s):X.K.In s.heap:=I.ok.mod.Cw.keeps I.bk
theorem Inv.lt(I:Inv X pins σ H s):X.env.locals<s.heap.objs.size:=let⟨_,hn,_⟩:=I.loc;hn.lt
def Inv.sz(I:Inv X pins σ H s):X.s₀.heap.objs.size<=s.heap.objs.size:=cJ I.ok.above (jK I.lt)
def Inv.ab8(I:Inv X pins σ H s){a:Addr}(h:s.heap.objs.size<=a):a∉X.fs:=λhb=>by
 obtain⟨_,o,ho,_⟩:=I.ok.jB.mem hb;exact absurd (dI (cu ho) (cJ I.sz h)) (jw _)
def Inv.rm(I:Inv X pins σ H s):∀x c,X.env.cells.lookup x=some c->c≠X.env.locals:=λx c e z=>by
 obtain⟨v,o,ho,hd⟩:=I.cell x c e;obtain⟨m,⟨o',es,ep,ho',hd',_⟩,_⟩:=I.loc;rw[z,ho']at ho;cases ho;rw[hd']at hd;cases hd
theorem Inv.jB(I:Inv X pins σ H s):s.heap.FunFrames X.base X.outer:=by
 have all:∀(l:List Env),(∀b∈frs l,b∈X.fs)->X.s₀.heap.FunFrames X.base l->s.heap.FunFrames X.base l:=by
  intro l;induction l with
  |nil=>intro _ _;trivial
  |cons env r ih=>
   intro hs hl;obtain⟨hk,⟨L,o,hf,hn,ho,hd⟩,hr⟩:=hl;have hL:L∈X.fs:=hs L (by unfold frs;rw[Dt,hf];exact mU);obtain⟨sl,e⟩:=I.base.slot L o ho (I.ok.tE L hL) hL λz=>I.ok.vZ L z hL;exact⟨hk,⟨L,_,hf,hn,e,hd⟩,ih (λb hb=>hs b (by unfold frs;rw[Dt,hf];exact gO _ hb)) hr⟩
 exact all X.outer (λ_ hb=>hb) I.ok.jB
theorem Inv.stack(I:Inv X pins σ H s):s.heap.FunFrames X.base X.stack:=by
 rcases I.ok.stk with e|⟨e,hf⟩
 .rw[e];exact I.jB
 .rw[e];obtain⟨m,hn,_⟩:=I.loc;refine .cons (by rw[I.ok.kind];decide) hf hn ?_ I.jB;exact Heap.get?_none_of_le (cJ I.ok.oW I.ok.above)
def Inv.yX(I:Inv X pins σ H s):∀b∈frs X.stack,b∈X.env.locals::X.fs:=λb hb=>by
 rcases I.ok.stk with e|⟨e,hf⟩
 .rw[e]at hb;exact gO _ hb
 .rw[e]at hb;unfold frs at hb;rw[Dt,hf]at hb;exact hb
def Inv.CK(I:Inv X pins σ H s):∀b∈frs X.stack,H b=none:=λb hb=>by
 rcases jg.mp (I.yX b hb)with e|hb
 .rw[e];exact I.free
 .obtain⟨_,o,ho,_⟩:=I.ok.jB.mem hb;exact I.base.free b o ho (I.ok.tE b hb) λz=>I.ok.vZ b z hb
def Inv.step{g':Array GenState}{t':Nat}{d':Drawn}{ch:List Addr}(I:Inv X pins σ H s)
  (hch:∀b∈ch,(b∈X.ex∨X.s₀.heap.objs.size<=b)/\b≠X.env.locals/\(∀x c,X.env.cells.lookup x=some c->c≠b)/\∀p∈X.pn++pins,p.1≠b)
  (keep:∀b o,b≠X.env.locals->b∉X.fs->b∉ch->s.heap.get? b=some o->H b=none->h'.get? b=some o)
  (slot:∀b o,b≠X.env.locals->b∈X.fs->b∉ch->s.heap.get? b=some o->H b=none->∃sl,h'.get? b=some { o with slots:=sl }) (free:∀b o,b∉ch->s.heap.get? b=some o->H b=none->H' b=none)
  (there:∀b o,b∉ch->s.heap.get? b=some o->∃o',h'.get? b=some o')
  (tups:∀b xs,H b=some (.tup xs)->H' b=some (.tup xs)) (gY:∀b o u,H b=some (.gH o u)->H' b=some (.gH o u)) (iQ:∀b ps,H b=some (.mQ ps)->∃more,H' b=some (.mQ (ps++more)))
  (ns:∀m,s.heap.Ns X.env.locals m->h'.Ns X.env.locals m) (hok:bY X.prog X.w H' h') (hg:AllBare g'):
  Inv X pins σ H' { s with heap:=h',gens:=g',drawn:=d',toks:=t' }:=by
 have Rv:∀b o,X.s₀.heap.get? b=some o->b≠X.env.locals:=λb o e=>gP (dI (cu e) I.ok.above);have zc:∀b o,X.s₀.heap.get? b=some o->b∉X.ex->b∉ch:=λb o e hx hb=>by
  rcases(hch b hb).1 with z|z
  .exact hx z
  .exact absurd (dI (cu e) z) (jw _)
 have cellK:∀x c,X.env.cells.lookup x=some c->∀v,s.heap.IsCell c v->h'.IsCell c v:=λx c e v ⟨o,ho,hd⟩=>by
  have uY:c∉ch:=λz=>(hch c z).2.2.1 x c e rfl;by_cases hc:c∈X.fs
  .obtain⟨sl,q⟩:=slot c o (I.rm x c e) hc uY ho (I.lA x c e);exact⟨_,q,hd⟩
  .exact⟨o,keep c o (I.rm x c e) hc uY ho (I.lA x c e),hd⟩
 refine⟨I.ok,I.os,hg,⟨λb o e n hb hx=>?_,λb o e n hb hx=>?_,λb o e n hx=>?_,λb o e hx=>?_,λb xs e=>tups b xs (I.base.tups b xs e),λb o xs e=>gY b o xs (I.base.gY b o xs e),λb ps e=>?_⟩,?_,λx c e=>?_,?_,λx c e=>?_,λp hp=>?_,hok,I.len⟩
 .exact keep b o (Rv b o e) hb (zc b o e hx) (I.base.keep b o e n hb hx) (I.base.free b o e n hx)
 .obtain⟨sl,e1⟩:=I.base.slot b o e n hb hx;obtain⟨sl',e2⟩:=slot b _ (Rv b o e) hb (zc b o e hx) e1 (I.base.free b o e n hx);exact⟨sl',e2⟩
 .obtain⟨o',e1⟩:=I.base.there b o e hx;exact free b o' (zc b o e hx) e1 (I.base.free b o e n hx)
 .obtain⟨o',e1⟩:=I.base.there b o e hx;exact there b o' (zc b o e hx) e1
 .obtain⟨m1,e1⟩:=I.base.iQ b ps e;obtain⟨m2,e2⟩:=iQ b _ e1;exact⟨m1++m2,by rw[e2,Ij]⟩
 .obtain⟨m,hn,hl⟩:=I.loc;refine⟨m,ns m hn,λi x v e1 e2 e3=>?_⟩;obtain⟨u,r,l⟩:=hl i x v e1 e2 e3;refine⟨u,r,?_⟩;rcases l with l|⟨k,c,e,z⟩
  .exact .inl l
  .exact .inr ⟨k,c,e,cellK x c e _ z⟩
 .obtain⟨v,z⟩:=I.cell x c e;exact⟨v,cellK x c e v z⟩
 .obtain⟨m,⟨o,_,_,ho,_⟩,_⟩:=I.loc;exact free _ o (λz=>(hch _ z).2.1 rfl) ho I.free
 .obtain⟨v,o,ho,hd⟩:=I.cell x c e;exact free c o (λz=>(hch c z).2.2.1 x c e rfl) ho (I.lA x c e)
 .obtain⟨e,n,ne,nf,d⟩:=I.pin p hp;have uY:p.1∉ch:=λz=>(hch p.1 z).2.2.2 p hp rfl;exact⟨keep p.1 p.2 ne nf uY e n,free p.1 p.2 uY e n,ne,nf,d⟩
def Inv.un{t':Nat}(I:Inv X pins σ H s)(u:Un X.fs [] H H' s.heap h')(hok:bY X.prog X.w H' h'):Inv X pins σ H' { s with heap:=h',toks:=t' }:=by
 obtain⟨m,⟨o,es,ep,ho,r⟩,_⟩:=id I.loc;obtain⟨sl,hL⟩:=u.any ho I.free (by simp);exact I.step (g':=s.gens) (d':=s.drawn) (ch:=[]) (λ_ z=>nomatch z) (λb o _ hb _ e n=>u.keep b o e n hb (by simp)) (λb o _ hb _ e n=>u.slot b o e n hb (by simp)) (λb o _ e n=>u.free b o e n (by simp)) (λb o _ e=>u.there b o e (by simp)) u.tups u.gY u.iQ (λm' hm=>by
  obtain⟨o',es',ep',ho',r'⟩:=hm;rw[ho]at ho';cases ho';exact⟨_,es',ep',hL,r'⟩) hok I.bare
def Inv.call{g':Array GenState}{t':Nat}{d':Drawn}{ch:List Addr}(I:Inv X pins σ H s)(u:Un (frs X.stack) ch H H' s.heap h')(hok:bY X.prog X.w H' h')(hg:AllBare g')
  (hch:∀b∈ch,(b∈X.ex∨X.s₀.heap.objs.size<=b)/\b≠X.env.locals/\(∀x c,X.env.cells.lookup x=some c->c≠b)/\∀p∈X.pn++pins,p.1≠b):
  Inv X pins σ H' { s with heap:=h',gens:=g',drawn:=d',toks:=t' }:=by
 obtain⟨m,⟨o,es,ep,ho,r⟩,_⟩:=id I.loc;obtain⟨sl,hL⟩:=u.any ho I.free λz=>(hch _ z).2.1 rfl;exact I.step (ch:=ch) hch (λb o hL hb hc e n=>u.keep b o e n (λz=>(jg.mp (I.yX b z)).elim hL hb) hc) (λb o _ _ hc e n=>u.any e n hc) (λb o hc e n=>u.free b o e n hc) (λb o hc e=>u.there b o e hc) u.tups u.gY u.iQ (λm' hm=>by
  obtain⟨o',es',ep',ho',r'⟩:=hm;rw[ho]at ho';cases ho';exact⟨_,es',ep',hL,r'⟩) hok hg
def Inv.turned{t':Nat}{it:Addr}(I:Inv X pins σ H s)(k:∀b o,b≠it->s.heap.get? b=some o->h'.get? b=some o)(hn:H it=none)(hL:it≠X.env.locals)
  (h1:it∈X.ex∨X.s₀.heap.objs.size<=it) (h2:∀x c,X.env.cells.lookup x=some c->c≠it) (h3:∀p∈X.pn++pins,p.1≠it):Inv X pins σ H { s with heap:=h',toks:=t' }:=by
 have Hj:∀b u,H b=some u->b≠it:=λb u e z=>by rw[z,hn]at e;cases e
 refine I.step (g':=s.gens) (d':=s.drawn) (ch:=[it]) (λb hb=>?_) (λb o _ _ hc e _=>k b o (λz=>hc (by simp[z])) e) (λb o _ _ hc e _=>⟨o.slots,k b o (λz=>hc (by simp[z])) e⟩) (λ_ _ _ _ n=>n)
  (λb o hc e=>⟨o,k b o (λz=>hc (by simp[z])) e⟩) (λ_ _ e=>e) (λ_ _ _ e=>e) (λb ps e=>⟨#[],by rw[e];simp⟩) (λm hm=>?_) (λb u e=>?_) I.bare
 .have e:b=it:=by simpa using hb
  subst e;exact⟨h1,hL,h2,h3⟩
 .obtain⟨o,es,ep,ho,r⟩:=hm;exact⟨o,es,ep,k _ o (nY hL) ho,r⟩
 .refine(I.hok b u e).stay (λc v hc q=>k c v ?_ q) (λ_ q=>q) λ_ _ q=>q;rcases hc with z|z
  .rw[z];exact Hj b u e
  .exact Hj c _ z
def Inv.tok(I:Inv X pins σ H s)(t:Nat):Inv X pins σ H { s with toks:=t }:=I.un (h':=s.heap) (t':=t) Un.refl I.hok
theorem Inv.kept{t':Nat}(I:Inv X pins σ H s)(k:∀b u,s.heap.get? b=some u->h'.get? b=some u):Inv X pins σ H { s with heap:=h',toks:=t' }:=I.un (Un.kept k) (I.hok.kept k)
theorem Inv.laid{a:Addr}{o:HO}{t':Nat}(I:Inv X pins σ H s)(k:∀b u,s.heap.get? b=some u->h'.get? b=some u)(hp:s.heap.objs.size<=a)(new:cY X.prog X.w (upd H a o) h' a o):
  Inv X pins σ (upd H a o) { s with heap:=h',toks:=t' }:=I.un (Un.laid k hp (I.hok.fresh hp)) (I.hok.laid k hp new)
theorem Inv.write{x e:Addr}{o:HO}{t':Nat}(I:Inv X pins σ H s)(mu:vm (H x))(he:e=x∨H e=some (.own x))(k:∀b u,b≠e->s.heap.get? b=some u->h'.get? b=some u)(heo:∃u,h'.get? e=some u)
  (new:cY X.prog X.w (upd H x o) h' x o):Inv X pins σ (upd H x o) { s with heap:=h',toks:=t' }:=I.un (Un.write mu he k heo) (I.hok.write mu he k heo new)
def Inv.Qu{Ju:List (Addr×Obj)}(I:Inv X pins σ H s)(h:∀p∈Ju,s.heap.get? p.1=some p.2/\H p.1=none/\p.1≠X.env.locals/\p.1∉X.fs/\∀v,p.2.data≠ .cell v):Inv X Ju σ H s:=
 ⟨I.ok,I.os,I.bare,I.base,I.loc,I.cell,I.free,I.lA,λp hp=>(fK.mp hp).elim (λz=>I.pin p (Lj _ z)) (h p),I.hok,I.len⟩
def Nt{N:List Str}(hN:N.Nodup){i j:Nat}{x:Str}(a:N[i]?=some x)(b:N[j]?=some x):i=j:=by
 obtain⟨h1,e1⟩:=List.getElem?_eq_some_iff.mp a;obtain⟨h2,e2⟩:=List.getElem?_eq_some_iff.mp b;exact(List.getElem_inj hN).mp (e1.trans e2.symm)
def aeo{M:Model}{A:Around}{E:Value->Shared->Prop}{i:Nat}{x:Str}{v:V}{u:Value}{Q:Unit->Shared->Prop}(I:Inv X pins σ H s)(hN:X.N.Nodup)(hi:X.N[i]?=some x)(hx:Loc X.env.scope x)(r:RelV v u)
  (h:∀s',Inv X pins (σ.set i (some v)) H s'->(∃a,Bh a s.heap s'.heap/\(a=X.env.locals∨X.env.cells.lookup x=some a))->Q () s') (hf:X.fn x=true∨X.env.scope.names.lookup x=some .local:=by first|exact .inl rfl|exact .inr rfl|assumption):wpAny M A (storeName X.env x u) Q E s:=by
 obtain⟨m,hn,hl⟩:=id I.loc;have hcls:(X.env.scope.kind== .class||(X.env.scope.kind== .module&&X.env.locals != X.env.globals))=false:=by rw[I.ok.kind];rfl
 have J6:i < σ.length:=by rw[I.len];exact(List.getElem?_eq_some_iff.mp hi).1
 have rm:=I.rm;have tracked:∀{a:Addr} {h':Heap},(∃o,s.heap.get? a=some o/\H a=none)->Bh a s.heap h'->bY X.prog X.w H h':=λ{a h'} ha hs b ob e=>by
  obtain⟨_,_,hfree⟩:=ha;refine(I.hok b ob e).stay (λc w' hc q=>(hs.2 c ?_).trans q) (λ_ q=>q) λ_ _ q=>q;rintro rfl;rcases hc with rfl|hc
  .rw[hfree]at e;cases e
  .rw[hfree]at hc;cases hc
 rcases hx with hk|hk
 .refine wpAny_storeName_local hk hn (λh' hn' hs=>?_) hcls;obtain⟨oL,_,_,hoL,_⟩:=id hn;refine h _ ⟨I.ok,I.os,I.bare,⟨λb o e n hb hx=>?_,λb o e n hb hx=>?_,I.base.free,λb o e hx=>?_,I.base.tups,I.base.gY,I.base.iQ⟩,⟨_,hn',λj y v' e1 e2 e3=>?_⟩,λy c e=>?_,I.free,I.lA,λp hp=>?_,tracked ⟨oL,hoL,I.free⟩ hs,by simpa using I.len⟩ ⟨_,hs,.inl rfl⟩
  .exact(hs.2 b (gP (dI (cu e) I.ok.above))).trans (I.base.keep b o e n hb hx)
  .obtain⟨sl,e1⟩:=I.base.slot b o e n hb hx;exact⟨sl,(hs.2 b (gP (dI (cu e) I.ok.above))).trans e1⟩
  .obtain⟨o',e1⟩:=I.base.there b o e hx;exact⟨o',(hs.2 b (gP (dI (cu e) I.ok.above))).trans e1⟩
  .by_cases hj:j=i
   .subst hj;rw[hi]at e1;cases e1;rw[List.getElem?_set_self J6]at e2;cases e2;exact⟨u,r,.inl ⟨hk,by simp⟩⟩
   .rw[List.getElem?_set_ne (nY hj)]at e2;obtain⟨u',r',q⟩:=hl j y v' e1 e2 e3;refine⟨u',r',?_⟩;rcases q with⟨k,e⟩|⟨k,c,e,z⟩
    .refine .inl ⟨k,?_⟩;have:y≠x:=λe=>hj (Nt hN e1 (e▸hi));simp[this,e]
    .exact .inr ⟨k,c,e,z.sameBut hs (rm y c e)⟩
  .obtain⟨w',z⟩:=I.cell y c e;exact⟨w',z.sameBut hs (rm y c e)⟩
  .obtain⟨e,n,ne,nf,d⟩:=I.pin p hp;exact⟨(hs.2 p.1 ne).trans e,n,ne,nf,d⟩
 .have hfn:X.fn x=true:=by
   rcases hf with z|z
   .exact z
   .rw[z]at hk;cases hk
  obtain⟨c,hc⟩:=I.ok.has x (.inl hk);obtain⟨w',z⟩:=I.cell x c hc;refine wpAny_storeName_cell I.ok.kind hk hc z (λh' hc' hs=>?_);obtain⟨oc,hoc,W9⟩:=id z;refine h { s with heap:=h' } ⟨I.ok,I.os,I.bare,⟨λb o e n hb hx=>?_,λb o e n hb hx=>?_,I.base.free,λb o e hx=>?_,I.base.tups,I.base.gY,I.base.iQ⟩,⟨m,hn.sameBut hs (nY (rm x c hc)),λj y v' e1 e2 e3=>?_⟩,λy c' e=>?_,I.free,I.lA,λp hp=>?_,tracked ⟨oc,hoc,I.lA x c hc⟩ hs,by simpa using I.len⟩ ⟨c,hs,.inr hc⟩
  .exact(hs.2 b (gP (dI (cu e) (I.ok.cab x c hfn hc)))).trans (I.base.keep b o e n hb hx)
  .obtain⟨sl,e1⟩:=I.base.slot b o e n hb hx;exact⟨sl,(hs.2 b (gP (dI (cu e) (I.ok.cab x c hfn hc)))).trans e1⟩
  .obtain⟨o',e1⟩:=I.base.there b o e hx;exact⟨o',(hs.2 b (gP (dI (cu e) (I.ok.cab x c hfn hc)))).trans e1⟩
  .by_cases hj:j=i
   .subst hj;rw[hi]at e1;cases e1;rw[List.getElem?_set_self J6]at e2;cases e2;exact⟨u,r,.inr ⟨.inl hk,c,hc,hc'⟩⟩
   .rw[List.getElem?_set_ne (nY hj)]at e2;obtain⟨u',r',q⟩:=hl j y v' e1 e2 e3;refine⟨u',r',?_⟩;rcases q with q|⟨k,c',e,z'⟩
    .exact .inl q
    .refine .inr ⟨k,c',e,z'.sameBut hs ?_⟩;rintro rfl;exact hj (Nt hN e1 (I.ok.inj _ _ _ e hc▸hi))
  .by_cases hcc:c'=c
   .subst hcc;exact⟨_,hc'⟩
   .obtain⟨w2,z2⟩:=I.cell y c' e;exact⟨w2,z2.sameBut hs hcc⟩
  .obtain⟨e,n,ne,nf,d⟩:=I.pin p hp;refine⟨(hs.2 p.1 ?_).trans e,n,ne,nf,d⟩;intro q;rw[q,hoc]at e;have q':oc=p.2:=kY e;exact d w' (by rw[<-q'];exact W9)
def A8{M:Model}{A:Around}{E:Value->Shared->Prop}{i:Nat}{x:Str}{v:V}{u:Value}{Q:Unit->Shared->Prop}(I:Inv X pins σ H s)(hN:X.N.Nodup)(hi:X.N[i]?=some x)(hx:Loc X.env.scope x)(r:RelV v u)
  (h:∀s',Inv X pins (σ.set i (some v)) H s'->Q () s') (hf:X.fn x=true∨X.env.scope.names.lookup x=some .local:=by first|exact .inl rfl|exact .inr rfl|assumption):wpAny M A (storeName X.env x u) Q E s:=
 aeo I hN hi hx r (λs' I' _=>h s' I') hf
def Inv.ae4{s':Shared}{ch:List Addr}(I:Inv X pins σ H s)(ho:s'.os=s.os)(u:Un (frs X.stack) ch H H' s.heap s'.heap)(hok:bY X.prog X.w H' s'.heap)(hg:AllBare s'.gens)
  (hch:∀b∈ch,(b∈X.ex∨X.s₀.heap.objs.size<=b)/\b≠X.env.locals/\(∀x c,X.env.cells.lookup x=some c->c≠b)/\∀p∈X.pn++pins,p.1≠b):Inv X pins σ H' s':=by
 obtain⟨h',g',d',t',o'⟩:=s';have e:o'=s.os:=ho;subst e;exact I.call (g':=g') (t':=t') (d':=d') u hok hg hch
end
abbrev XK:=Value->Option Addr->Hp->Prop
abbrev St:=List (Option V)
abbrev VK:=V->Hp->Prop
abbrev TE:=St->Hp->VK->Prop
abbrev TT:=St->Hp->(Bool->Hp->Prop)->Prop
abbrev TA:=St->Hp->(List V->Hp->Prop)->Prop
structure Ends where
 nx:St->Hp->Prop
 rt:VK
 bk:St->Hp->Prop:=λ_ _=>False
 ct:St->Hp->Prop:=λ_ _=>False
abbrev TS:=Ends->St->Hp->Prop
def EP(X:Cx)(pins:List (Addr×Obj))(σ:St)(Q:VK)(u:Value)(s':Shared):Prop:=∃v H',Inv X pins σ H' s'/\RelV v u/\Q v H'
def TP(X:Cx)(pins:List (Addr×Obj))(σ:St)(Q:Bool->Hp->Prop)(b:Bool)(s':Shared):Prop:=∃H',Inv X pins σ H' s'/\Q b H'
def AP(X:Cx)(pins:List (Addr×Obj))(σ:St)(Q:List V->Hp->Prop)(us:List Value)(s':Shared):Prop:=∃vs H',Inv X pins σ H' s'/\Vals vs us/\Q vs H'
def SP(X:Cx)(pins:List (Addr×Obj))(D:Ends)(f:Flow)(s':Shared):Prop:=
 match f with
 |.next=>∃σ' H',Inv X pins σ' H' s'/\D.nx σ' H'
 |.brk=>∃σ' H',Inv X pins σ' H' s'/\D.bk σ' H'
 |.cont=>∃σ' H',Inv X pins σ' H' s'/\D.ct σ' H'
 |.ret u=>∃v σ' H',Inv X pins σ' H' s'/\RelV v u/\D.rt v H'
def PE(X:Cx)(e:Expr)(t:TE):Prop:=
 ∀(pins:List (Addr×Obj)) (s:Shared) (σ:St) (H:Hp) (Q:VK),Inv X pins σ H s->t σ H Q->wpAny (model X.prog X.w) X.A (eval e X.env) (EP X pins σ Q) X.xe s
def PT(X:Cx)(e:Expr)(t:TT):Prop:=
 ∀(pins:List (Addr×Obj)) (s:Shared) (σ:St) (H:Hp) (Q:Bool->Hp->Prop),Inv X pins σ H s->t σ H Q->wpAny (model X.prog X.w) X.A (isTrue e X.env (eval e X.env)) (TP X pins σ Q) X.xe s
def PW(X:Cx)(e:Expr)(t:TT):Prop:=
 ∀(whole:Sem Value) (pins:List (Addr×Obj)) (s:Shared) (σ:St) (H:Hp) (Q:Bool->Hp->Prop),Inv X pins σ H s->t σ H Q->wpAny (model X.prog X.w) X.A (isTrue e X.env whole) (TP X pins σ Q) X.xe s
def PW.pt{X:Cx}{e:Expr}{t:TT}(h:PW X e t):PT X e t:=h _
def PA(X:Cx)(es:List Expr)(t:TA):Prop:=
 ∀(pos:Pos) (pins:List (Addr×Obj)) (s:Shared) (σ:St) (H:Hp) (Q:List V->Hp->Prop),Inv X pins σ H s->t σ H Q->wpAny (model X.prog X.w) X.A (spliced (backTo pos (starEach es X.env))) (AP X pins σ Q) X.xe s
def PS(X:Cx)(st:Stmt)(t:TS):Prop:=
 ∀(pins:List (Addr×Obj)) (s:Shared) (σ:St) (H:Hp) (D:Ends),Inv X pins σ H s->t D σ H->wpAny (model X.prog X.w) X.A (exec st X.env) (SP X pins D) X.xe s
def eZ(X:Cx)(st:List Stmt)(t:TS):Prop:=
 ∀(pins:List (Addr×Obj)) (s:Shared) (σ:St) (H:Hp) (D:Ends),Inv X pins σ H s->t D σ H->wpAny (model X.prog X.w) X.A (execs st X.env) (SP X pins D) X.xe s
def aF{α:Type}{t:Sem α}{Q Q':α->Shared->Prop}{M:Model}{A:Around}{E:Value->Shared->Prop}{s:Shared}(h:wpAny M A t Q E s)(hQ:∀a s,Q a s->Q' a s):wpAny M A t Q' E s:=wpAny_mono h hQ λ_ _ x=>x
section
variable {X:Cx}
inductive aaC(i:Nat)(σ:St)(H:Hp)(Q:VK):Prop|mk (v:V) (h:σ[i]?=some (some v)) (q:Q v H)
def Oi(i:Nat):TE:=λσ H Q=>aaC i σ H Q
def tC(v:V):TE:=λ_ H Q=>Q v H
def abt{i:Nat}{x:Str}{pos:Pos}(hN:X.N[i]?=some x)(hv:Ag X.env.scope x)(hd:(x==("__debug__" : Str))=false:=by decide)(hcd:(x==("__classdict__" : Str))=false:=by decide):PE X (.Name x pos) (Oi i):=by
 intro pins s σ H Q I h;obtain⟨v,e,h⟩:=h;obtain⟨m,hn,hl⟩:=I.loc;obtain⟨u,r,l⟩:=hl i x v hN e hv;have fin:EP X pins σ Q u s:=⟨v,H,I,r,h⟩;rcases l with⟨hk,hm⟩|⟨hk,c,hc,hcell⟩
 .exact wpAny_Name (wpAny_loadName_local I.ok.kind hk hn hm fin) hd
 .rcases hk with hk|hk
  .exact wpAny_Name (wpAny_loadName_cell I.ok.kind hk hc hcell fin) hd
  .exact wpAny_Name (wpAny_loadName_free I.ok.kind hk hc hcell fin hcd) hd
def ao{i j pos}:PE X (.Constant (.int i) j pos) (tC (.int i)):=λ_ _ _ H _ I h=>wpAny_Constant_int ⟨.int i,H,I.tok _,⟨_,rfl⟩,h⟩
def xJ{b j pos}:PE X (.Constant (.bool b) j pos) (tC (.bl b)):=λ_ _ _ H _ I h=>Constant_bool ⟨.bl b,H,I,rfl,h⟩
def K6{x j pos}:PE X (.Constant (.str x) j pos) (tC (.str x)):=λ_ _ _ H _ I h=>Calls.Constant_str ⟨.str x,H,I.tok _,⟨_,rfl⟩,h⟩
def Gl(X:Cx)(x:Str):Prop:=X.env.kindOf x=some .globalImplicit
def Fw{E:Value->Shared->Prop}{pins:List (Addr×Obj)}{s:Shared}{σ:St}{H:Hp}{x:Str}{u:Value}{pos:Pos}{Q:Value->Shared->Prop}(I:Inv X pins σ H s)(hg:Gl X x)(hm:X.mg x=some u)(h:Q u s)
  (hd:(x==("__debug__" : Str))=false:=by decide):wpAny (model X.prog X.w) X.A (eval (.Name x pos) X.env) Q E s:=
 Ni I.ok.kind hg (Calls.loadGlobal_global (by rw[I.ok.glob];exact I.mod.glob.keeps I.bk) hm h) hd
def pW{E:Value->Shared->Prop}{pins:List (Addr×Obj)}{s:Shared}{σ:St}{H:Hp}{x:Str}{u:Value}{pos:Pos}{Q:Value->Shared->Prop}(I:Inv X pins σ H s)(hg:Gl X x)(hm:X.mg x=none)(hv:bootBuiltins x=some u)(h:Q u s)
  (hn:x≠ "__name__" := by decide) (hd:(x==("__debug__" : Str))=false:=by decide):wpAny (model X.prog X.w) X.A (eval (.Name x pos) X.env) Q E s:=by
 obtain⟨mb,h1,h2⟩:=I.mod.blt;exact Ni I.ok.kind hg (Calls.loadGlobal_builtin (by rw[I.ok.glob];exact I.mod.glob.keeps I.bk) hm (by rw[I.ok.blt];exact h1.keeps I.bk) ((h2 x hn).trans hv) h) hd
def UL{x:Str}{v:V}{u:Value}{pos:Pos}(hg:Gl X x)(hm:X.mg x=some u)(r:RelV v u)(hd:(x==("__debug__" : Str))=false:=by decide):PE X (.Name x pos) (tC v):=
 λ_ _ _ H _ I h=>Fw I hg hm ⟨v,H,I,r,h⟩ hd
variable {a b:Expr} {ta tb:TE} {pos:Pos}
def PC(X:Cx)(op:CmpOp)(a b:Expr)(t:TE):Prop:=
 ∀(pins:List (Addr×Obj)) (s:Shared) (σ:St) (H:Hp) (Q:VK),Inv X pins σ H s->t σ H Q->
  wpAny (model X.prog X.w) X.A (eval a X.env) (λv s₁=>wpAny (model X.prog X.w) X.A (eval b X.env) (λu s₂=>wpAny (model X.prog X.w) X.A (compareOp op v u) (EP X pins σ Q) X.xe s₂) X.xe s₁) X.xe s
def tB(t:TE):TT:=λσ H Q=>t σ H λx H1=>∃c,x = .bl c/\Q c H1
def adX{op:CmpOp}{t:TE}(h:PC X op a b t)(h1:behindInMarks op b=false:=by first|exact agY _ ∅ ∅ | rfl):PT X (.Compare a [op] [b] pos) (tB t):=by
 intro pins s σ H Q I hw;refine wpAny_isTrue_Compare1 (aF (h pins s σ H _ I hw) λv s1 h1=>aF h1 λu s2 h2=>aF h2 λc s3 ⟨x,H1,I1,r1,q1⟩=>?_) h1;obtain⟨d,rfl,q⟩:=q1;cases r1;exact wpAny_truthy_bool ⟨H1,I1,q⟩
def BP{e:Expr}{t:TE}(h:PE X e t)(he:∀whole,isTrue e X.env whole=(do let v<-whole;standAt e.pos;holding [v] (truthy v)):=by intro _;rfl):PT X e (tB t):=by
 intro pins s σ H Q I hw;refine isTrue_plain (aF (h pins s σ H _ I hw) λv s1 ⟨x,H1,I1,r1,q1⟩=>?_) (he _);obtain⟨d,rfl,q⟩:=q1;cases r1;exact wpAny_truthy_bool ⟨H1,I1,q⟩
variable {tA yM:TT} {rest:List Expr}
def V5(t u:TT):TT:=λσ H Q=>t σ H λc H1=>if c=true then u σ H1 Q else Q false H1
def Za(t u:TT):TT:=λσ H Q=>t σ H λc H1=>if c=true then Q true H1 else u σ H1 Q
def Xp(t:TT):TT:=λσ H Q=>t σ H λc H1=>Q (!c) H1
def O1(ha:PT X a tA):PW X (.BoolOp .And [a] pos) tA:=by
 intro wh pins s σ H Q I h;refine isTrue_and (aF (ha pins s σ H Q I h) λc s1 e=>?_);cases c with
 |true=>exact isTrue_and_nil e
 |false=>exact e
def Rj(ha:PT X a tA):PW X (.BoolOp .Or [a] pos) tA:=by
 intro wh pins s σ H Q I h;refine isTrue_or (aF (ha pins s σ H Q I h) λc s1 e=>?_);cases c with
 |false=>exact isTrue_or_nil e
 |true=>exact e
def LK(ha:PT X a tA)(hb:PW X (.BoolOp .And (b::rest) pos) yM):PW X (.BoolOp .And (a::b::rest) pos) (V5 tA yM):=by
 intro wh pins s σ H Q I h;refine isTrue_and (aF (ha pins s σ H _ I h) λc s1 ⟨H1,I1,q1⟩=>?_);cases c with
 |true=>exact hb wh pins s1 σ H1 Q I1 q1
 |false=>exact⟨H1,I1,q1⟩
def JL(ha:PT X a tA)(hb:PW X (.BoolOp .Or (b::rest) pos) yM):PW X (.BoolOp .Or (a::b::rest) pos) (Za tA yM):=by
 intro wh pins s σ H Q I h;refine isTrue_or (aF (ha pins s σ H _ I h) λc s1 ⟨H1,I1,q1⟩=>?_);cases c with
 |true=>exact⟨H1,I1,q1⟩
 |false=>exact hb wh pins s1 σ H1 Q I1 q1
def Tc(ha:PT X a tA):PT X (.UnaryOp .Not a pos) (Xp tA):=by
 intro pins s σ H Q I h;exact isTrue_not (ha pins s σ H (λc H1=>Q (!c) H1) I h)
def tIf(t:TT)(ta tb:TE):TE:=λσ H Q=>t σ H λc H1=>if c=true then ta σ H1 Q else tb σ H1 Q
def Ks{c:Expr}(hc:PT X c tA)(ha:PE X a ta)(hb:PE X b tb):PE X (.IfExp c a b pos) (tIf tA ta tb):=by
 intro pins s σ H Q I h;refine wpAny_IfExp (aF (hc pins s σ H _ I h) λd s1 ⟨H1,I1,q1⟩=>?_);cases d with
 |true=>exact ha pins s1 σ H1 Q I1 q1
 |false=>exact hb pins s1 σ H1 Q I1 q1
end
def aC(K:aA)(H:Hp)(a:Addr)(xs:List V):Prop:=
 Rd H a (.lst xs)∨
  ∃(o:Obj) (its:Array Value) (n:Nat),K.lookup a=some o/\o.cls = .type "list" /\ o.dict=none/\o.data = .seq its n/\its.size<=sizeLine/\Vals xs its.toList
def aq(K:aA)(H:Hp)(a:Addr)(xs:List V):Prop:=
 Rd H a (.tup xs)∨
  ∃(o:Obj) (its:Array Value) (n:Nat),K.lookup a=some o/\o.cls = .type "tuple" /\ o.data = .seq its n/\its.size<=sizeLine/\Vals xs its.toList
def VR:Value->Option V
 |.none=>some .non
 |.bool b=>some (.bl b)
 |.int i _=>some (.int i)
 |.str x _=>some (.str x)
 |.bytes b _=>some (.gR b)
 |.float b _=>some (.flt b)
 |.ref a=>some (.ref a)
 |.type n=>some (.ty n)
 |_=>none
def RelV.abs{x:V}{u:Value}(r:RelV x u):VR u=some x:=by
 cases x with
 |non=>cases r;rfl
 |bl _=>cases r;rfl
 |int _=>obtain⟨t,rfl⟩:=r;rfl
 |str _=>obtain⟨t,rfl⟩:=r;rfl
 |gR _=>obtain⟨t,rfl⟩:=r;rfl
 |flt _=>obtain⟨t,rfl⟩:=r;rfl
 |ref _=>cases r;rfl
 |ty _=>cases r;rfl
theorem RelV.inj{x y:V}{u:Value}(r:RelV x u)(q:RelV y u):x=y:=kY (r.abs.symm.trans q.abs)
theorem Vals.inj{xs ys:List V}{us:List Value}(h:Vals xs us)(h':Vals ys us):xs=ys:=by
 induction h generalizing ys with
 |nil=>cases h';rfl
 |cons r t ih=>
  cases h' with
  |cons r' t'=>rw[r.inj r',ih t']
section
variable {X:Cx} {pins:List (Addr×Obj)} {σ:St} {H:Hp} {s:Shared} {a:Addr} {xs ys:List V}
def aC.of{K:aA}(h:H a=some (.lst xs)):aC K H a xs:= .inl (.inl h)
def aq.of{K:aA}(h:H a=some (.tup xs)):aq K H a xs:= .inl (.inl h)
def Inv.list(I:Inv X pins σ H s)(h:aC X.K H a xs):∃its:List Value,Vals xs its/\PlainL s.heap a its.toArray/\xs.length<=sizeLine:=by
 rcases h with h|⟨o,its,n,hk,hc,hd,hs,hz,r⟩
 .obtain⟨z,its,n,r,e⟩:=h.ok I.hok;exact⟨its,r,⟨_,n,e,rfl,rfl,rfl⟩,z⟩
 .refine⟨its.toList,r,⟨o,n,I.rG a o hk,hc,hd,by simpa using hs⟩,?_⟩;have e:=r.length;simp only[gh]at e;omega
def Inv.tuple(I:Inv X pins σ H s)(h:aq X.K H a xs):∃its:List Value,Vals xs its/\IsTup s.heap a its.toArray/\xs.length<=sizeLine:=by
 rcases h with h|⟨o,its,n,hk,hc,hs,hz,r⟩
 .obtain⟨z,its,r,p⟩:=h.ok I.hok;exact⟨its,r,p,z⟩
 .refine⟨its.toList,r,⟨o,I.rG a o hk,hc,n,by simpa using hs⟩,?_⟩;have e:=r.length;simp only[gh]at e;omega
def Inv.aez(I:Inv X pins σ H s)(h:aC X.K H a xs)(h':aC X.K H a ys):xs=ys:=by
 obtain⟨its,r,⟨o,n,e,_,_,d⟩,_⟩:=I.list h;obtain⟨its',r',⟨o',n',e',_,_,d'⟩,_⟩:=I.list h';rw[e]at e';cases e';rw[d]at d';injection d' with d1 _;have:its=its':=by simpa using congrArg G3 d1
 subst this;exact r.inj r'
def Inv.TX(I:Inv X pins σ H s)(h:aq X.K H a xs)(h':aq X.K H a ys):xs=ys:=by
 obtain⟨its,r,⟨o,e,_,n,d⟩,_⟩:=I.tuple h;obtain⟨its',r',⟨o',e',_,n',d'⟩,_⟩:=I.tuple h';rw[e]at e';cases e';rw[d]at d';injection d' with d1 _;have:its=its':=by simpa using congrArg G3 d1
 subst this;exact r.inj r'
end
abbrev Cx.wish(X:Cx)(E:Value->Shared->Prop):Cx:={ X with xe:=E }
abbrev Cx.vo(X:Cx):Cx:=X.wish λ_ _=>False
theorem Cx.Ok.wish{X:Cx}(ok:X.Ok)(E:Value->Shared->Prop):(X.wish E).Ok:=
 ⟨ok.mod,ok.kind,ok.glob,ok.blt,ok.above,ok.inj,ok.has,ok.cab,ok.hd,ok.frames,ok.stk,ok.RJ,ok.bs,ok.oW,ok.vp,ok.vZ,ok.jB,ok.tE⟩
def Cx.Ok.oU{X:Cx}{E:Value->Shared->Prop}(ok:(X.wish E).Ok):X.Ok:=
 ⟨ok.mod,ok.kind,ok.glob,ok.blt,ok.above,ok.inj,ok.has,ok.cab,ok.hd,ok.frames,ok.stk,ok.RJ,ok.bs,ok.oW,ok.vp,ok.vZ,ok.jB,ok.tE⟩
section
variable {X:Cx} {pins:List (Addr×Obj)} {σ:St} {H:Hp} {s:Shared} {E:Value->Shared->Prop}
theorem Inv.wish(I:Inv X pins σ H s)(E:Value->Shared->Prop):Inv (X.wish E) pins σ H s:=⟨I.ok.wish E,I.os,I.bare,I.base,I.loc,I.cell,I.free,I.lA,I.pin,I.hok,I.len⟩
theorem Inv.oU(I:Inv (X.wish E) pins σ H s):Inv X pins σ H s:=⟨I.ok.oU,I.os,I.bare,I.base,I.loc,I.cell,I.free,I.lA,I.pin,I.hok,I.len⟩
theorem SP.oU{D:Ends}{f:Flow}{s':Shared}(h:SP (X.wish E) pins D f s'):SP X pins D f s':=by
 cases f with
 |next=>obtain⟨σ',H',I,q⟩:=h;exact⟨σ',H',I.oU,q⟩
 |brk=>obtain⟨σ',H',I,q⟩:=h;exact⟨σ',H',I.oU,q⟩
 |cont=>obtain⟨σ',H',I,q⟩:=h;exact⟨σ',H',I.oU,q⟩
 |ret u=>obtain⟨v,σ',H',I,r,q⟩:=h;exact⟨v,σ',H',I.oU,r,q⟩
theorem eZ.vo{st:List Stmt}{t:TS}(h:eZ X.vo st t):eZ X st t:=λpins s σ H D I hw=>
 wpAny_mono (h pins s σ H D (I.wish _) hw) (λ_ _ q=>q.oU) λ_ _ z=>False.elim z
end
section
variable {X:Cx} {st:Stmt} {rest:List Stmt} {t u:TS} {e:Expr} {te:TE} {pos:Pos}
def WD:TS:=λD σ H=>D.nx σ H
def Zv(t u:TS):TS:=λD σ H=>t { D with nx:=u D } σ H
def dY:eZ X [] WD:=λ_ _ σ H _ I h=>wpAny_execs_nil ⟨σ,H,I,h⟩
def au(h1:PS X st t)(h2:eZ X rest u):eZ X (st::rest) (Zv t u):=by
 intro pins s σ H D I h;refine wpAny_execs_cons (aF (h1 pins s σ H { D with nx:=u D } I h) λf s1 q=>?_);cases f with
 |next=>
  obtain⟨σ',H',I',q⟩:=q;exact h2 pins s1 σ' H' D I' q
 |ret v=>exact q
 |brk=>exact q
 |cont=>exact q
def aK(h1:PS X st t):eZ X [st] t:=by
 intro pins s σ H D I h;refine wpAny_execs_cons (aF (h1 pins s σ H D I h) λf s1 q=>?_);cases f with
 |next=>exact wpAny_execs_nil q
 |ret v=>exact q
 |brk=>exact q
 |cont=>exact q
def Inv.quiet{pins:List (Addr×Obj)}{σ:St}{H:Hp}{s:Shared}(I:Inv X pins σ H s):interactive X.env=false:=by simp[interactive,I.ok.kind]
def Vd(te:TE):TS:=λD σ H=>te σ H λ_ H1=>D.nx σ H1
def uF(he:PE X e te)(hs:swapsWith e none pos.line X.env=pure false:=by rfl):PS X (.Expr e pos) (Vd te):=by
 intro pins s σ H D I h;exact wpAny_Expr_any (aF (he pins s σ H _ I h) λv s1 ⟨x,H1,I1,r1,q1⟩=>⟨σ,H1,I1,q1⟩) I.quiet hs
def Yo(te:TE):TS:=λD σ H=>te σ H D.rt
def bB(he:PE X e te):PS X (.Return (some e) pos) (Yo te):=by
 intro pins s σ H D I h;exact wpAny_Return_some (aF (he pins s σ H _ I h) λv s1 ⟨x,H1,I1,r1,q1⟩=>⟨x,σ,H1,I1,r1,q1⟩)
def Yj(c:TT)(t u:TS):TS:=λD σ H=>c σ H λb H1=>if b=true then t D σ H1 else u D σ H1
def dX{c:Expr}{a b:List Stmt}{tc:TT}(hc:PT X c tc)(ha:eZ X a t)(hb:eZ X b u):PS X (.If c a b pos) (Yj tc t u):=by
 intro pins s σ H D I h;refine wpAny_If (aF (hc pins s σ H _ I h) λd s1 ⟨H1,I1,q1⟩=>?_);cases d with
 |true=>exact ha pins s1 σ H1 D I1 q1
 |false=>exact hb pins s1 σ H1 D I1 q1
def TJ:TS:=λ_ _ _=>False
def C0:PS X st TJ:=λ_ _ _ _ _ _ h=>h.elim
end
abbrev TG:=V->St->Hp->(St->Hp->Prop)->Prop
abbrev mC:=List V->St->Hp->(St->Hp->Prop)->Prop
def PG(X:Cx)(target:Expr)(t:TG):Prop:=
 ∀(pins:List (Addr×Obj)) (s:Shared) (σ:St) (H:Hp) (v:V) (u:Value) (Q:St->Hp->Prop),Inv X pins σ H s->RelV v u->t v σ H Q->
  wpAny (model X.prog X.w) X.A (assign target X.env u) (λ_ s'=>∃σ' H',Inv X pins σ' H' s'/\Q σ' H') X.xe s
def tW(X:Cx)(ts:List Expr)(t:mC):Prop:=
 ∀(pins:List (Addr×Obj)) (s:Shared) (σ:St) (H:Hp) (vs:List V) (us:List Value) (Q:St->Hp->Prop),Inv X pins σ H s->Vals vs us->t vs σ H Q->
  wpAny (model X.prog X.w) X.A (assignInOrder ((assignEach ts X.env).map (·.2)) us) (λ_ s'=>∃σ' H',Inv X pins σ' H' s'/\Q σ' H') X.xe s
abbrev Cq:=V->V->V->Hp->(Hp->Prop)->Prop
def Nj(X:Cx)(t:Cq):Prop:=
 ∀(pins:List (Addr×Obj)) (s:Shared) (σ:St) (H:Hp) (o i v:V) (ov iv u:Value) (Q:Hp->Prop),Inv X pins σ H s->RelV o ov->RelV i iv->RelV v u->t o i v H Q->
  wpAny (model X.prog X.w) X.A (setItem ov iv u) (λ_ s'=>∃H',Inv X pins σ H' s'/\Q H') X.xe s
section
variable {X:Cx} {pos:Pos}
def iU(i:Nat):TG:=λv σ H Q=>Q (σ.set i (some v)) H
def Qm{i:Nat}{x:Str}(hN:X.N.Nodup)(hi:X.N[i]?=some x)(hx:Loc X.env.scope x)(hf:X.fn x=true∨X.env.scope.names.lookup x=some .local:=by first|exact .inl rfl|exact .inr rfl|assumption):PG X (.Name x pos) (iU i):=by
 intro pins s σ H v u Q I r h;exact wpAny_assign_Name (A8 I hN hi hx r (λs' I'=>⟨_,H,I',h⟩) hf)
def Zq:mC:=λvs σ H Q=>vs=[]/\Q σ H
inductive abI(t:TG)(u:mC)(vs:List V)(σ:St)(H:Hp)(Q:St->Hp->Prop):Prop|mk (v:V) (r:List V) (h:vs=v::r) (q:t v σ H λσ' H'=>u r σ' H' Q)
def acf(t:TG)(u:mC):mC:=λvs σ H Q=>abI t u vs σ H Q
def wV:tW X [] Zq:=by
 intro pins s σ H vs us Q I r h;obtain⟨e,h⟩:=h;subst e;cases r;exact assignInOrder_nil ⟨σ,H,I,h⟩
def jo{e:Expr}{es:List Expr}{t:TG}{u:mC}(h1:PG X e t)(h2:tW X es u)
  (hs:(assignEach (e::es) X.env).map (·.2)=assign e X.env::(assignEach es X.env).map (·.2):=by rfl):tW X (e::es) (acf t u):=by
 intro pins s σ H vs us Q I r h;obtain⟨v,vr,e1,h⟩:=h;subst e1;cases r with
 |cons r rr=>
  rw[hs];refine assignInOrder_cons (aF (h1 pins s σ H _ _ _ I r h) λ_ s1 ⟨σ1,H1,I1,q1⟩=>?_);exact h2 pins s1 σ1 H1 _ _ Q I1 rr q1
def J8(K:aA)(n:Nat)(t:mC):TG:=λv σ H Q=>∃a xs,v = .ref a/\aq K H a xs/\xs.length=n/\t xs σ H Q
def aaE{es:List Expr}{k:Nat}{t:mC}{n:Nat}(hc:X.calm=true)(h:tW X es t)
  (hn:(assignEach es X.env).length=n:=by rfl) (hst:(assignEach es X.env).findIdx? (·.1)=none:=by rfl):PG X (.Tuple es k pos) (J8 X.K n t):=by
 intro pins s σ H v u Q I r hw;obtain⟨a,xs,e1,hq,hl,hw⟩:=hw;subst e1;cases r;obtain⟨its,rv,ht,hz⟩:=I.tuple hq;refine assign_Tuple_tuple (I.ok.hd hc) ht (by simp[hn,<-hl,rv.length]) hst λh' hx=>?_;have I1:Inv X pins σ H { s with heap:=h' }:=I.kept (t':=s.toks) λb o e=>hx b o (gP (cu e)) e;exact h pins _ σ H xs _ Q I1 (by simpa using rv) hw
def Wx(to ti:TE)(t:Cq):TG:=λv σ H Q=>to σ H λo H1=>ti σ H1 λi H2=>t o i v H2 λH3=>Q σ H3
def DX{o i:Expr}{to ti:TE}{t:Cq}(ho:PE X o to)(hi:PE X i ti)(hs:Nj X t)
  (ha:∀v,assign (.Subscript o i pos) X.env v=(do
   let ov<-holding [v] (eval o X.env)
   let iv<-holding [v,ov] (eval i X.env)
   standAt pos
   holding [v,ov,iv] (setItem ov iv v)
   release [v,ov,iv] []):=by intro _;rfl):PG X (.Subscript o i pos) (Wx to ti t):=by
 intro pins s σ H v u Q I r h;rw[ha];refine wpAny_bind (wpAny_holding (aF (ho pins s σ H _ I h) λov s1 ⟨x,H1,I1,r1,q1⟩=>?_));refine wpAny_bind (wpAny_holding (aF (hi pins s1 σ H1 _ I1 q1) λiv s2 ⟨y,H2,I2,r2,q2⟩=>?_));refine wpAny_bind (wpAny_standAt (wpAny_bind (wpAny_holding (aF (hs pins s2 σ H2 x y v ov iv u _ I2 r1 r2 r q2) λ_ s3 ⟨H3,I3,q3⟩=>?_))));exact wpAny_release ⟨σ,H3,I3,q3⟩
def wN(te:TE)(g:TG):TS:=λD σ H=>te σ H λx H1=>g x σ H1 D.nx
def qG{tg e:Expr}{te:TE}{g:TG}(he:PE X e te)(hg:PG X tg g)(hs:swapsWithSole [tg] e pos.line X.env=pure false:=by rfl)(hw:swappedStores [tg] e X.env=pure none:=by rfl)
  (h1:(assignEach [tg] X.env).map (·.2)=[assign tg X.env]:=by rfl):PS X (.Assign [tg] e pos) (wN te g):=by
 intro pins s σ H D I h;refine wpAny_Assign_stores (aF (he pins s σ H _ I h) λv s1 ⟨x,H1,I1,r1,q1⟩=>?_) hs hw;rw[h1];exact aF (hg pins s1 σ H1 x v _ I1 r1 q1) λ_ s2 q=>q
def nZ{i:Nat}{x:Str}{e:Expr}{te:TE}{pos':Pos}(hN:X.N.Nodup)(hi:X.N[i]?=some x)(hx:Loc X.env.scope x)(he:PE X e te)(hs:swapsWith e (some (.Name x pos')) pos.line X.env=pure false:=by rfl)(hf:X.fn x=true∨X.env.scope.names.lookup x=some .local:=by first|exact .inl rfl|exact .inr rfl|assumption):
  PS X (.Assign [.Name x pos'] e pos) (wN te (iU i)):=by
 intro pins s σ H D I h;refine wpAny_Assign_Name (aF (he pins s σ H _ I h) λv s1 ⟨y,H1,I1,r1,q1⟩=>?_) hs;exact A8 I1 hN hi hx r1 (λs2 I2=>⟨_,H1,I2,q1⟩) hf
end
section
variable {X:Cx} {pos:Pos}
def afR(c:TT)(tb:TS):TS:=λD σ H=>∃W:Nat->St->Hp->Prop,(∃m,W m σ H)/\∀m σ H,W m σ H->
 c σ H λb H1=>if b=true then ∃N:St->Hp->Prop,(∀σ' H',N σ' H'->∃m',m'<m/\W m' σ' H')/\tb { D with nx:=N,ct:=N,bk:=D.nx } σ H1 else D.nx σ H1
def su{c:Expr}{body:List Stmt}{tc:TT}{tb:TS}(hp:PassesOwn (model X.prog X.w) X.A X.env X.xe)(hc:PT X c tc)(hb:eZ X body tb):PS X (.While c body [] pos) (afR tc tb):=by
 intro pins s σ H D I h;obtain⟨W,⟨m0,w0⟩,turn⟩:=h;refine wpAny_While (codeAny_whileLoop (λn s'=>∃σ' H',Inv X pins σ' H' s'/\W n σ' H') ?_ m0 ⟨σ,H,I,w0⟩);rintro n s1 ⟨σ1,H1,I1,w1⟩;refine wpAny_passesOwn hp (aF (hc pins s1 σ1 H1 _ I1 (turn n σ1 H1 w1)) λb s2 ⟨H2,I2,q2⟩=>?_);cases b with
 |true=>
  obtain⟨N,hN,q2⟩:=q2;rw[if_pos rfl];refine wpAny_passesOwn hp (aF (hb pins s2 σ1 H2 _ I2 q2) λf s3 q3=>?_);cases f with
  |next=>
   obtain⟨σ3,H3,I3,n3⟩:=q3;obtain⟨m',hm,w3⟩:=hN σ3 H3 n3;exact⟨m',hm,σ3,H3,I3,w3⟩
  |cont=>
   obtain⟨σ3,H3,I3,n3⟩:=q3;obtain⟨m',hm,w3⟩:=hN σ3 H3 n3;exact⟨m',hm,σ3,H3,I3,w3⟩
  |brk=>exact q3
  |ret v=>exact q3
 |false=>
  rw[if_neg cV];exact wpAny_execs_nil ⟨σ1,H2,I2,q2⟩
end
structure It where
 go:Nat->Hp->Prop
 nD:Nat->Hp->V->Hp->Prop
 stop:Nat->Hp->Prop
def lK(X:Cx)(pins:List (Addr×Obj))(H:Hp)(b:Addr):Prop:=
 H b=none/\b≠X.env.locals/\b∉X.fs/\(b∈X.ex∨X.s₀.heap.objs.size<=b)/\(∀x c,X.env.cells.lookup x=some c->c≠b)/\∀p∈X.pn++pins,p.1≠b
def Inv.vf{X:Cx}{pins:List (Addr×Obj)}{σ:St}{H H':Hp}{s:Shared}{b:Addr}(I:Inv X pins σ H s)(hb:s.heap.objs.size<=b)(hn:H' b=none):lK X pins H' b:=by
 refine⟨hn,Nat.ne_of_gt (dI I.lt hb),I.ab8 hb,.inr (cJ I.sz hb),λx c e z=>?_,λp hp z=>?_⟩
 .obtain⟨v,q⟩:=I.cell x c e;exact absurd (dI q.lt (by rw[z];exact hb)) (jw _)
 .exact absurd (dI (cu (I.pin p hp).1) (by rw[z];exact hb)) (jw _)
structure Turn(P:Program)(w:World)(K:aA)(tg:Expr)(J:It)(fp:List Addr)(it:Addr)(tn:Nat->Heap->Prop):Prop where
 mem:it∈fp
 obj:∀i h,tn i h->∀b∈fp,∃o,h.get? b=some o/\∀v,o.data≠ .cell v
 keep:∀i h h',tn i h->(∀b∈fp,∀o,h.get? b=some o->h'.get? b=some o)->tn i h'
 item:∀(X:Cx),X.prog=P->X.w=w->X.K=K->X.calm=true->∀(i:Nat) (pins:List (Addr×Obj)) (s:Shared) (σ:St) (H:Hp) (E:Value->Shared->Prop),Inv X pins σ H s->(∀b∈fp,lK X pins H b)->tn i s.heap->J.go i H->
  wpAny (model P w) X.A (pyNext (.ref it)) (λr s1=>∃u,r=some u/\
   wpAny (model P w) X.A (letOwnedTupleGo tg (.ref it) u) (λ_ s2=>∃x H',Inv X pins σ H' s2/\RelV x u/\J.nD i H x H'/\tn (i+1) s2.heap/\∀b∈fp,H' b=none) E s1) E s
 done:∀(X:Cx),X.prog=P->X.w=w->X.K=K->X.calm=true->∀(i:Nat) (pins:List (Addr×Obj)) (s:Shared) (σ:St) (H:Hp) (E:Value->Shared->Prop),Inv X pins σ H s->(∀b∈fp,lK X pins H b)->tn i s.heap->J.stop i H->
  wpAny (model P w) X.A (pyNext (.ref it)) (λr s1=>r=none/\Inv X pins σ H s1) E s
 self:∀(A:Around) (i:Nat) (s:Shared) (Q:Value->Shared->Prop) (E:Value->Shared->Prop),tn i s.heap->Q (.ref it) s->wpAny (model P w) A (pyIter (.ref it)) Q E s
abbrev TI:=St->Hp->(It->Hp->Prop)->Prop
def CP(X:Cx)(pins:List (Addr×Obj))(σ:St)(tg:Expr)(R:It->Hp->Prop)(itv:Value)(s2:Shared):Prop:=
 ∃(it:Addr) (fp:List Addr) (tn:Nat->Heap->Prop) (J:It) (H':Hp),itv = .ref it/\Inv X pins σ H' s2/\Turn X.prog X.w X.K tg J fp it tn/\tn 0 s2.heap/\(∀b∈fp,lK X pins H' b)/\R J H'
def PI(X:Cx)(tg iter:Expr)(wi:TI):Prop:=
 ∀(pins:List (Addr×Obj)) (s:Shared) (σ:St) (H:Hp) (R:It->Hp->Prop),Inv X pins σ H s->wi σ H R->
  wpAny (model X.prog X.w) X.A (eval iter X.env) (λv s1=>wpAny (model X.prog X.w) X.A (pyIter v) (CP X pins σ tg R) X.xe s1) X.xe s
def zN{M:Model}{A:Around}{E:Value->Shared->Prop}{s:Shared}{tg:Expr}{it:Addr}{u:Value}{o:Obj}{n:String}{vs:Array Value}{Q:Unit->Shared->Prop}(ho:s.heap.get? it=some o)(hc:o.cls = .type n)(hd:o.data = .fields vs)
  (hn:["enumerate","zip","dict_itemiterator","dict_reverseitemiterator","odict_iterator","itertools.zip_longest","itertools.pairwise"].contains n=false) (hQ:Q () s):wpAny M A (letOwnedTupleGo tg (.ref it) u) Q E s:=by
 unfold letOwnedTupleGo;cases tg<;>first
  |exact wpAny_pure hQ
  |(cases u<;>first
    |exact wpAny_pure hQ
    |(refine wpAny_bind (wpAny_load ho ?_);rw[hc,hd];show wpAny M A (if(["enumerate","zip","dict_itemiterator","dict_reverseitemiterator","odict_iterator","itertools.zip_longest","itertools.pairwise"].contains n&&vs[0]?==some (rawInt _))=true then _ else _) Q E s;rw[if_neg (by intro h;rw[hn,Bool.false_and]at h;cases h)];exact wpAny_pure hQ))
def uW(K:aA)(a:Addr):It:=
 ⟨λi H=>∃xs x,aC K H a xs/\xs[i]?=some x,λi H x H'=>H'=H/\∀xs,aC K H a xs->xs[i]?=some x,λi H=>∃xs,aC K H a xs/\xs.length<=i⟩
def yw(K:aA)(a:Addr):It:=
 ⟨λi H=>∃xs x,aq K H a xs/\xs[i]?=some x,λi H x H'=>H'=H/\∀xs,aq K H a xs->xs[i]?=some x,λi H=>∃xs,aq K H a xs/\xs.length<=i⟩
def gQ(lo:Int)(n:Nat):It:=⟨λi _=>i<n,λi H x H'=>H'=H/\x = .int (lo+i),λi _=>n<=i⟩
def abx{P:Program}{w:World}{K:aA}{tg:Expr}(a it:Addr):Turn P w K tg (uW K a) [it] it (λi h=>h.IsListIter it a i) where
 mem:=by simp
 obj:=λi h st b hb=>by
  have e:b=it:=by simpa using hb
  subst e;obtain⟨o,e,c,d⟩:=st;exact⟨o,e,λv z=>by rw[d]at z;cases z⟩
 keep:=λi h h' st k=>st.at λo e=>k it (by simp) o e
 item:=by
  intro X hP hw hK hc i pins s σ H E I hf st hg;subst hP hw hK;obtain⟨xs,x,hq,hx⟩:=hg;obtain⟨its,rv,p,hz⟩:=I.list hq;obtain⟨u,hu,ru⟩:=rv.get hx;obtain⟨f0,f1,f2,f3,f4,f5⟩:=hf it (by simp);refine wpAny_pyNext_list_item st p.isList (x:=u) (by simpa using hu) λh' st' sb=>?_;have I1:Inv X pins σ H { s with heap:=h' }:=I.turned (t':=s.toks) (λb o hb e=>(sb.2 b hb).trans e) f0 f1 f3 f4 f5;obtain⟨o,e,c,d⟩:=id st';exact⟨u,rfl,zN (s:={ s with heap:=h' }) e c d ∅ ⟨x,H,I1,ru,⟨rfl,λys hy=>by rw[I.aez hy hq];exact hx⟩,st',λb hb=>(hf b hb).1⟩⟩
 done:=by
  intro X hP hw hK hc i pins s σ H E I hf st hg;subst hP hw hK;obtain⟨xs,hq,hx⟩:=hg;obtain⟨its,rv,p,hz⟩:=I.list hq;obtain⟨f0,f1,f2,f3,f4,f5⟩:=hf it (by simp);have hl:=rv.length;exact wpAny_pyNext_list_end (I.ok.hd hc) st p.isList (by simp;omega) λh' eb=>⟨rfl,I.turned (t':=s.toks) (λb o hb e=>eb b o hb e) f0 f1 f3 f4 f5⟩
 self:=λ_ _ _ _ _ st h=>wpAny_pyIter_listiter st h
def abe{P:Program}{w:World}{K:aA}{tg:Expr}(a it:Addr):Turn P w K tg (yw K a) [it] it (λi h=>h.IsTupleIter it a i) where
 mem:=by simp
 obj:=λi h st b hb=>by
  have e:b=it:=by simpa using hb
  subst e;obtain⟨o,e,c,d⟩:=st;exact⟨o,e,λv z=>by rw[d]at z;cases z⟩
 keep:=λi h h' st k=>st.at λo e=>k it (by simp) o e
 item:=by
  intro X hP hw hK hc i pins s σ H E I hf st hg;subst hP hw hK;obtain⟨xs,x,hq,hx⟩:=hg;obtain⟨its,rv,p,hz⟩:=I.tuple hq;obtain⟨u,hu,ru⟩:=rv.get hx;obtain⟨f0,f1,f2,f3,f4,f5⟩:=hf it (by simp);refine wpAny_pyNext_tuple_item st (show s.heap.IsTuple a its.toArray from p) (x:=u) (by simpa using hu) λh' st' sb=>?_;have I1:Inv X pins σ H { s with heap:=h' }:=I.turned (t':=s.toks) (λb o hb e=>(sb.2 b hb).trans e) f0 f1 f3 f4 f5;obtain⟨o,e,c,d⟩:=id st';exact⟨u,rfl,zN (s:={ s with heap:=h' }) e c d ∅ ⟨x,H,I1,ru,⟨rfl,λys hy=>by rw[I.TX hy hq];exact hx⟩,st',λb hb=>(hf b hb).1⟩⟩
 done:=by
  intro X hP hw hK hc i pins s σ H E I hf st hg;subst hP hw hK;obtain⟨xs,hq,hx⟩:=hg;obtain⟨its,rv,p,hz⟩:=I.tuple hq;obtain⟨f0,f1,f2,f3,f4,f5⟩:=hf it (by simp);have hl:=rv.length;exact wpAny_pyNext_tuple_end (I.ok.hd hc) st (show s.heap.IsTuple a its.toArray from p) (by simp;omega) λh' eb=>⟨rfl,I.turned (t':=s.toks) (λb o hb e=>eb b o hb e) f0 f1 f3 f4 f5⟩
 self:=λ_ _ _ _ _ st h=>wpAny_pyIter_tupleiter st h
def afP{P:Program}{w:World}{K:aA}{tg:Expr}(it:Addr)(lo:Int)(n:Nat):Turn P w K tg (gQ lo n) [it] it (λi h=>IsRangeIter h it (lo+(i:Nat)*1) ((n:Int)-(i:Nat)) 1) where
 mem:=by simp
 obj:=λi h st b hb=>by
  have e:b=it:=by simpa using hb
  subst e;exact⟨_,st,λv z=>by
   have z':Data.fields _=Data.cell v:=z;cases z'⟩
 keep:=λi h h' st k=>k it (by simp) _ st
 item:=by
  intro X hP hw hK hc i pins s σ H E I hf st hg;subst hP hw hK;obtain⟨f0,f1,f2,f3,f4,f5⟩:=hf it (by simp);have W:=Walks.range (prog:=X.prog) (w:=X.w) (I.ok.hd hc) it lo 1 n;refine W.item i s _ _ hg st λv h' tk hv st' kk=>?_;obtain⟨t,rfl⟩:=hv;have I1:Inv X pins σ H { s with heap:=h',toks:=tk }:=I.turned (λb o hb e=>kk b o (by simpa using hb) e) f0 f1 f3 f4 f5;refine⟨_,rfl,zN (s:={ s with heap:=h',toks:=tk }) (n:= "range_iterator") st' rfl rfl ∅ ⟨.int (lo+i),H,I1,⟨t,?_⟩,⟨rfl,rfl⟩,st',λb hb=>(hf b hb).1⟩⟩;rw[iu]
 done:=by
  intro X hP hw hK hc i pins s σ H E I hf st hg;subst hP hw hK;obtain⟨f0,f1,f2,f3,f4,f5⟩:=hf it (by simp);exact wpAny_pyNext_range_end (I.ok.hd hc) st (by have:n<=i:=hg;omega) λh' eb=>⟨rfl,I.turned (t':=s.toks) (λb o hb e=>eb b o hb e) f0 f1 f3 f4 f5⟩
 self:=λ_ _ _ _ _ st h=>wpAny_pyIter_rangeiter st h
section
variable {X:Cx} {tg:Expr}
def TY(K:aA)(tl:TE):TI:=λσ H R=>tl σ H λx H1=>∃a,x = .ref a/\(∃xs,aC K H1 a xs)/\R (uW K a) H1
def Kc{pins:List (Addr×Obj)}{σ:St}{H:Hp}{s:Shared}{R:It->Hp->Prop}{E:Value->Shared->Prop}{lo hi:Int}{t u v:Tok}{tk:Nat}(I:Inv X pins σ H s)(h1:-(2^62)<=lo)(h2:lo<2^62)(h3:-(2^62)<=hi)(h4:hi<2^62)
  (q:R (gQ lo (hi-lo).toNat) H):wpAny (model X.prog X.w) X.A (pyIter (.ref s.heap.objs.size)) (CP X pins σ tg R) E { s with heap:=s.heap.push { cls:= .type "range",data:= .fields #[.int lo t,.int hi u,.int 1 v] },toks:=tk }:=by
 refine wpAny_pyIter_range (IsRange.new ..) (small_one h1 h2 h3 h4) ?_;have I1:Inv X pins σ H { s with heap:=s.heap.push { cls:= .type "range",data:= .fields #[.int lo t,.int hi u,.int 1 v] },toks:=tk }:=I.kept λb o e=>Heap.get?_push_of_some _ e;refine⟨(s.heap.push { cls:= .type "range",data:= .fields #[.int lo t,.int hi u,.int 1 v] }).objs.size,[(s.heap.push { cls:= .type "range",data:= .fields #[.int lo t,.int hi u,.int 1 v] }).objs.size],_,_,H,rfl,
  I1.kept (t':=tk) λb o e=>Heap.get?_push_of_some _ e,afP _ lo (hi-lo).toNat,?_,λb hb=>?_,q⟩
 .have e1:lo+((0:Nat):Int)*1=lo:=by simp
  have e2:(((hi-lo).toNat:Nat):Int)-((0:Nat):Int)=Builtin.Range.rangeSize lo hi 1:=by rw[rangeSize_one];split<;>omega
  show IsRangeIter _ _ (lo+((0:Nat):Int)*1) ((((hi-lo).toNat:Nat):Int)-((0:Nat):Int)) 1;rw[e1,e2];exact Heap.get?_push_size _ rfl
 .have e:b=(s.heap.push { cls:= .type "range",data:= .fields #[.int lo t,.int hi u,.int 1 v] }).objs.size:=by simpa using hb
  subst e;exact I1.vf (aO _) (I1.hok.fresh (aO _))
inductive Vb(vs:List V)(H:Hp)(R:It->Hp->Prop):Prop|mk (j:Int) (h:vs=[.int j]) (h1:-(2^62)<=j) (h2:j<2^62) (q:R (gQ 0 j.toNat) H)
def aat(ta:TA):TI:=λσ H R=>ta σ H λvs H1=>Vb vs H1 R
def ad0(ta:TA):TI:=λσ H R=>ta σ H λvs H1=>∃i j:Int,vs=[.int i,.int j]/\(-(2^62)<=i/\i<2^62/\-(2^62)<=j/\j<2^62)/\R (gQ i (j-i).toNat) H1
def fO{a:Expr}{ta:TA}{p pos:Pos}(hg:Gl X "range")(hm:X.mg "range" = none)(ha:PA X [a] ta)(hs:starEach [a] X.env=[(false,eval a X.env)]:=by rfl):PI X tg (.Call (.Name "range" p) [a] [] pos) (aat ta):=by
 intro pins s σ H R I h;refine Call_ (pW I hg hm boot_range (sH (aF (ha pos pins s σ H _ I h) λus s1 ⟨vs,H1,I1,r1,q1⟩=>?_) hs rfl));obtain⟨j,e,q1,q2,q⟩:=q1;subst e;cases r1 with
 |cons r rr=>
  cases rr;obtain⟨t,rfl⟩:=r;exact call_range_1 (Kc I1 ⋯ ⋯ q1 q2 (by simpa using q))
def QL{a b:Expr}{ta:TA}{p pos:Pos}(hg:Gl X "range")(hm:X.mg "range" = none)(ha:PA X [a,b] ta)(hs:starEach [a,b] X.env=[(false,eval a X.env),(false,eval b X.env)]:=by rfl)(hs2:starEach [b] X.env=[(false,eval b X.env)]:=by rfl):
  PI X tg (.Call (.Name "range" p) [a,b] [] pos) (ad0 ta):=by
 intro pins s σ H R I h;refine Call_ (pW I hg hm boot_range (sH (aF (ha pos pins s σ H _ I h) λus s1 ⟨vs,H1,I1,r1,q1⟩=>?_) (by rw[hs,hs2]) (by rw[hs2];rfl)));obtain⟨i,j,e,⟨q1,q2,q3,q4⟩,q⟩:=q1;subst e;cases r1 with
 |cons r rr=>
  cases rr with
  |cons r' rr=>
   cases rr;obtain⟨t,rfl⟩:=r;obtain⟨t',rfl⟩:=r';exact call_range_2 (Kc I1 q1 q2 q3 q4 q)
def XE(wi:TI)(g:TG)(tb:TS):TS:=λD σ H=>wi σ H λJ H1=>∃W:Nat->Nat->St->Hp->Prop,(∃m,W 0 m σ H1)/\∀i m σ H,W i m σ H->
 (J.stop i H/\D.nx σ H)∨(J.go i H/\∃N:St->Hp->Prop,(∀σ' H',N σ' H'->∃m',m'<m/\W (i+1) m' σ' H')/\∀x H',J.nD i H x H'->g x σ H' λσ2 H2=>tb { D with nx:=N,ct:=N,bk:=D.nx } σ2 H2)
def um(fp:List Addr)(h:Heap):List (Addr×Obj):=fp.filterMap λb=>(h.get? b).map λo=>(b,o)
def uG{fp:List Addr}{h:Heap}{b:Addr}{o:Obj}(hb:b∈fp)(e:h.get? b=some o):(b,o)∈um fp h:=Gi.mpr ⟨b,hb,by rw[e];rfl⟩
def ab5{fp:List Addr}{h:Heap}{p:Addr×Obj}(hp:p∈um fp h):p.1∈fp/\h.get? p.1=some p.2:=by
 obtain⟨b,hb,e⟩:=Gi.mp hp;cases q:h.get? b with
 |none=>rw[q]at e;cases e
 |some o=>
  rw[q]at e;have e':(b,o)=p:=kY e;subst e';exact⟨hb,q⟩
def Inv.pinned{pins:List (Addr×Obj)}{σ:St}{H:Hp}{s:Shared}{fp:List Addr}(I:Inv X pins σ H s)(hf:∀b∈fp,lK X pins H b)(ho:∀b∈fp,∃o,s.heap.get? b=some o/\∀v,o.data≠ .cell v):Inv X (pins++um fp s.heap) σ H s:=
 I.Qu λp hp=>(fK.mp hp).elim (λz=>I.pin p (iK _ z)) λz=>by
  obtain⟨hb,e⟩:=ab5 z;obtain⟨f0,f1,f2,_⟩:=hf p.1 hb;obtain⟨o,e',d⟩:=ho p.1 hb;rw[e]at e';cases e';exact⟨e,f0,f1,f2,d⟩
def Inv.vD{pins pl:List (Addr×Obj)}{σ:St}{H:Hp}{s:Shared}(I:Inv X (pins++pl) σ H s):Inv X pins σ H s:=I.Qu λp hp=>I.pin p (iK _ (Lj _ hp))
def iD{iter:Expr}{body:List Stmt}{wi:TI}{g:TG}{tb:TS}{pos:Pos}(hp:PassesOwn (model X.prog X.w) X.A X.env X.xe)(hc:X.calm=true)(hi:PI X tg iter wi)(hg:PG X tg g)(hb:eZ X body tb)
  (hs:∀x,foldedSetIterable iter X.env x=pure x:=by intro _;rfl):PS X (.For tg iter body [] pos) (XE wi g tb):=by
 intro pins s σ H D I h;refine wpAny_For (aF (hi pins s σ H _ I h) λv s1 h1=>aF h1 λitv s2 h2=>?_) hs;obtain⟨it,fp,tn,J,H2,e,I2,T,st2,f2,W,⟨m0,w0⟩,turn⟩:=h2;subst e;have stat:∀{H':Hp},(∀b∈fp,H' b=none)->∀b∈fp,lK X pins H' b:=λhn b hb=>⟨hn b hb,(f2 b hb).2⟩;refine codeAny_forLoop_any (λn s'=>∃i σ' H',Inv X pins σ' H' s'/\tn i s'.heap/\(∀b∈fp,H' b=none)/\W i n σ' H') ?_ m0 ⟨0,σ,H2,I2,st2,λb hb=>(f2 b hb).1,w0⟩;rintro n s3 ⟨i,σ3,H3,I3,st3,Oj,w3⟩;rcases turn i n σ3 H3 w3 with⟨stop,qn⟩|⟨go,N,hN,step⟩
 .refine wpAny_passesOwn hp (aF (T.done X rfl rfl rfl hc i pins s3 σ3 H3 X.xe I3 (stat Oj) st3 stop) λr s4 ⟨hr,I4⟩=>?_);subst hr;exact wpAny_execs_nil ⟨σ3,H3,I4,qn⟩
 .refine wpAny_passesOwn hp (aF (T.item X rfl rfl rfl hc i pins s3 σ3 H3 X.xe I3 (stat Oj) st3 go) λr s4 ⟨u,hr,h4⟩=>?_);subst hr;refine wpAny_passesOwn hp (aF h4 λ_ s5 ⟨x,H5,I5,r5,y5,dG,xM⟩=>?_);have Xy:=I5.pinned (stat xM) (T.obj _ _ dG);refine wpAny_passesOwn hp (aF (hg _ s5 σ3 H5 x u _ Xy r5 (step x H5 y5)) λ_ s6 ⟨σ6,H6,I6,q6⟩=>?_);refine wpAny_passesOwn hp (aF (hb _ s6 σ6 H6 _ I6 q6) λf s7 q7=>?_);have again:∀{σ7:St} {H7:Hp},Inv X (pins++um fp s5.heap) σ7 H7 s7->N σ7 H7->∃m,m<n/\∃i σ' H',Inv X pins σ' H' s7/\tn i s7.heap/\(∀b∈fp,H' b=none)/\W i m σ' H':=λ{σ7 H7} I7 n7=>by
   obtain⟨m',hm,w7⟩:=hN σ7 H7 n7;refine⟨m',hm,i+1,σ7,H7,I7.vD,T.keep _ _ _ dG λb hb o e=>(I7.pin (b,o) (iK _ (iK _ (uG hb e)))).1,λb hb=>?_,w7⟩;obtain⟨o,e,d⟩:=T.obj _ _ dG b hb;exact(I7.pin (b,o) (iK _ (iK _ (uG hb e)))).2.1
  cases f with
  |next=>obtain⟨σ7,H7,I7,n7⟩:=q7;exact again I7 n7
  |cont=>obtain⟨σ7,H7,I7,n7⟩:=q7;exact again I7 n7
  |brk=>obtain⟨σ7,H7,I7,q7⟩:=q7;exact⟨σ7,H7,I7.vD,q7⟩
  |ret v=>obtain⟨x7,σ7,H7,I7,r7,q7⟩:=q7;exact⟨x7,σ7,H7,I7.vD,r7,q7⟩
end
def jY{lo:Int}{n:Nat}{g:TG}{tb:TS}{D:Ends}{σ:St}{H:Hp}(Pv:Nat->St->Hp->Prop)(h0:Pv 0 σ H)
  (hs:∀i σ H,i<n->Pv i σ H->g (.int (lo+i)) σ H λσ2 H2=>tb { D with nx:=Pv (i+1),ct:=Pv (i+1),bk:=D.nx } σ2 H2) (hd:∀σ H,Pv n σ H->D.nx σ H):
  ∃W:Nat->Nat->St->Hp->Prop,(∃m,W 0 m σ H)/\∀i m σ H,W i m σ H->
   ((gQ lo n).stop i H/\D.nx σ H)∨((gQ lo n).go i H/\∃N:St->Hp->Prop,(∀σ' H',N σ' H'->∃m',m'<m/\W (i+1) m' σ' H')/\∀x H',(gQ lo n).nD i H x H'->g x σ H' λσ2 H2=>tb { D with nx:=N,ct:=N,bk:=D.nx } σ2 H2):=by
 refine⟨λi m σ H=>m=n-i/\i<=n/\Pv i σ H,⟨n,by simp,cZ _,h0⟩,?_⟩;rintro i m σ H ⟨rfl,hi,p⟩;by_cases hlt:i<n
 .refine .inr ⟨hlt,Pv (i+1),λσ' H' p'=>⟨n-(i+1),⋯,rfl,hlt,p'⟩,λx H' y=>?_⟩;obtain⟨e,y⟩:=y;subst e y;exact hs i σ _ hlt p
 .have e:i=n:=⋯;subst e;exact .inl ⟨aO _,hd σ H p⟩
abbrev R2:=V->V->Hp->VK->Prop
def aX(X:Cx)(f:Value->Value->Sem Value)(r:R2):Prop:=
 ∀(pins:List (Addr×Obj)) (s:Shared) (σ:St) (H:Hp) (x y:V) (v u:Value) (Q:VK),Inv X pins σ H s->RelV x v->RelV y u->r x y H Q->
  wpAny (model X.prog X.w) X.A (f v u) (EP X pins σ Q) X.xe s
def Fz(X:Cx)(f:Value->Sem Value)(r:V->Hp->VK->Prop):Prop:=
 ∀(pins:List (Addr×Obj)) (s:Shared) (σ:St) (H:Hp) (x:V) (v:Value) (Q:VK),Inv X pins σ H s->RelV x v->r x H Q->
  wpAny (model X.prog X.w) X.A (f v) (EP X pins σ Q) X.xe s
def gG(X:Cx)(f:Value)(r:List V->Hp->VK->Prop):Prop:=
 ∀(pins:List (Addr×Obj)) (s:Shared) (σ:St) (H:Hp) (xs:List V) (us:List Value) (Q:VK),Inv X pins σ H s->Vals xs us->r xs H Q->
  wpAny (model X.prog X.w) X.A (call f us) (EP X pins σ Q) X.xe s
def qg(r:R2)(ta tb:TE):TE:=λσ H Q=>ta σ H λx H1=>tb σ H1 λy H2=>r x y H2 Q
def Td(r:V->Hp->VK->Prop)(ta:TE):TE:=λσ H Q=>ta σ H λx H1=>r x H1 Q
inductive SII(C:Int->Int->Prop)(g:Int->Int->V)(x y:V)(H:Hp)(Q:VK):Prop|mk (i j:Int) (hx:x = .int i) (hy:y = .int j) (c:C i j) (q:Q (g i j) H)
def rI(C:Int->Int->Prop)(g:Int->Int->V):R2:=λx y H Q=>SII C g x y H Q
inductive SI0(g:Int->Int->V)(x y:V)(H:Hp)(Q:VK):Prop|mk (i j:Int) (hx:x = .int i) (hy:y = .int j) (q:Q (g i j) H)
def qu(g:Int->Int->V):R2:=λx y H Q=>SI0 g x y H Q
inductive SU(g:Int->V)(x:V)(H:Hp)(Q:VK):Prop|mk (i:Int) (hx:x = .int i) (q:Q (g i) H)
def rU(g:Int->V):V->Hp->VK->Prop:=λx H Q=>SU g x H Q
section
variable {X:Cx} {a b c:Expr} {ta tb tc:TE} {pos:Pos}
def B7(ha:PE X a ta)(hb:PE X b tb){pins:List (Addr×Obj)}{s:Shared}{σ:St}{H:Hp}{R:V->V->Hp->Prop}(I:Inv X pins σ H s)
  (h:ta σ H λx H1=>tb σ H1 λy H2=>R x y H2) {Q:Value->Shared->Prop} {f:Value->Value->Sem Value}
  (hf:∀v u s2 x y H2,Inv X pins σ H2 s2->RelV x v->RelV y u->R x y H2->wpAny (model X.prog X.w) X.A (f v u) Q X.xe s2):
  wpAny (model X.prog X.w) X.A (eval a X.env) (λv s₁=>wpAny (model X.prog X.w) X.A (eval b X.env) (λu s₂=>wpAny (model X.prog X.w) X.A (f v u) Q X.xe s₂) X.xe s₁) X.xe s:=by
 refine aF (ha pins s σ H _ I h) λv s1 ⟨x,H1,I1,r1,q1⟩=>?_;refine aF (hb pins s1 σ H1 _ I1 q1) λu s2 ⟨y,H2,I2,r2,q2⟩=>?_;exact hf v u s2 x y H2 I2 r1 r2 q2
def aD{op:Operator}{r:R2}(ho:aX X (binaryOp op) r)(ha:PE X a ta)(hb:PE X b tb):PE X (.BinOp a op b pos) (qg r ta tb):=by
 intro pins s σ H Q I h;exact wpAny_BinOp (B7 ha hb I h λv u s2 x y H2 I2 rx ry q=>ho pins s2 σ H2 x y v u Q I2 rx ry q)
def zR{op:UnaryOp}{r:V->Hp->VK->Prop}(ho:Fz X (unaryOp op) r)(ha:PE X a ta):PE X (.UnaryOp op a pos) (Td r ta):=by
 intro pins s σ H Q I h;exact UnaryOp_ (aF (ha pins s σ H _ I h) λv s1 ⟨x,H1,I1,r1,q1⟩=>ho pins s1 σ H1 x v Q I1 r1 q1)
def vg{f:Value->Value->Sem Value}{C:Int->Int->Prop}{g:Int->Int->Int}
  (rule:∀(i j:Int) (t u:Tok) (s:Shared) (Q:Value->Shared->Prop) (E:Value->Shared->Prop),C i j->Q (.int (g i j) s.toks) { s with toks:=s.toks+1 }->wpAny (model X.prog X.w) X.A (f (.int i t) (.int j u)) Q E s):
  aX X f (rI C λi j=> .int (g i j)):=by
 intro pins s σ H x y v u Q I rx ry h;obtain⟨i,j,rfl,rfl,hc,q⟩:=h;obtain⟨t,rfl⟩:=rx;obtain⟨t',rfl⟩:=ry;exact rule i j t t' s _ _ hc ⟨.int (g i j),H,I.tok _,⟨_,rfl⟩,q⟩
def JQ{f:Value->Value->Sem Value}{g:Int->Int->Int}
  (rule:∀(i j:Int) (t u:Tok) (s:Shared) (Q:Value->Shared->Prop) (E:Value->Shared->Prop),Q (.int (g i j) s.toks) { s with toks:=s.toks+1 }->wpAny (model X.prog X.w) X.A (f (.int i t) (.int j u)) Q E s):
  aX X f (qu λi j=> .int (g i j)):=by
 intro pins s σ H x y v u Q I rx ry h;obtain⟨i,j,rfl,rfl,q⟩:=h;obtain⟨t,rfl⟩:=rx;obtain⟨t',rfl⟩:=ry;exact rule i j t t' s _ _ ⟨.int (g i j),H,I.tok _,⟨_,rfl⟩,q⟩
def Gh{f:Value->Value->Sem Value}{g:Int->Int->Bool}
  (rule:∀(i j:Int) (t u:Tok) (s:Shared) (Q:Value->Shared->Prop) (E:Value->Shared->Prop),Q (.bool (g i j)) s->wpAny (model X.prog X.w) X.A (f (.int i t) (.int j u)) Q E s):
  aX X f (qu λi j=> .bl (g i j)):=by
 intro pins s σ H x y v u Q I rx ry h;obtain⟨i,j,rfl,rfl,q⟩:=h;obtain⟨t,rfl⟩:=rx;obtain⟨t',rfl⟩:=ry;exact rule i j t t' s _ _ ⟨.bl (g i j),H,I,rfl,q⟩
def adO(i j:Int):Prop:=0<j/\j<1073741824
def aax(k:Nat):(0:Int)<=2^k:=by
 rw[two_pow_cast];exact Int.natCast_nonneg _
def ac3:aX X (binaryOp .Add) (qu λi j=> .int (i+j)):=JQ λ_ _ _ _ _ _ _ q=>add_int q
def cL:aX X (binaryOp .Sub) (qu λi j=> .int (i-j)):=JQ λ_ _ _ _ _ _ _ q=>sub_int q
def qQ:aX X (binaryOp .FloorDiv) (rI adO λi j=> .int (i/j)):=vg λi j _ _ _ _ _ hc q=>by
 have h1:(0:Int)<j:=hc.1;have h2:j<1073741824:=hc.2;exact floordiv_int ⋯ (by rw[NS i ⋯];exact q) (.inl (Mz ⋯))
def dB:aX X (binaryOp .Mod) (rI (λ_ j=>0<j) λi j=> .int (i%j)):=vg λi j _ _ _ _ _ hc q=>by
 have h1:(0:Int)<j:=hc;exact mod_int' ⋯ (by rw[Int.fmod_eq_emod_of_nonneg i ⋯];exact q)
def Ze:aX X (binaryOp .RShift) (rI (λ_ j=>0<=j) λi j=> .int (i/2^j.toNat)):=vg λi j _ _ _ _ _ hc q=>
 rshift_int hc (by rw[NS i (aax _)];exact q)
def unI{f:Value->Sem Value}{g:Int->Int}
  (rule:∀(i:Int) (t:Tok) (s:Shared) (Q:Value->Shared->Prop) (E:Value->Shared->Prop),Q (.int (g i) s.toks) { s with toks:=s.toks+1 }->wpAny (model X.prog X.w) X.A (f (.int i t)) Q E s):
  Fz X f (rU λi=> .int (g i)):=by
 intro pins s σ H x v Q I rx h;obtain⟨i,rfl,q⟩:=h;obtain⟨t,rfl⟩:=rx;exact rule i t s _ _ ⟨.int (g i),H,I.tok _,⟨_,rfl⟩,q⟩
def wA:Fz X (unaryOp .USub) (rU λi=> .int (-i)):=unI λ_ _ _ _ _ q=>neg_int q
end
def BK:V->V->Bool
 |.non,.non=>true | .non,.int _=>true | .int _,.non=>true | .non,.bl _=>true | .bl _,.non=>true | .non,.str _=>true | .str _,.non=>true
 |.int _,.int _=>true | .bl _,.bl _=>true | .str _,.str _=>true | .gR _,.gR _=>true
 |.int _,.str _=>true | .str _,.int _=>true | .bl _,.str _=>true | .str _,.bl _=>true
 |_,_=>false
def rEq:R2:=λx y H Q=>BK x y=true/\Q (.bl (decide (x=y))) H
def Y6:R2:=λx y H Q=>BK x y=true/\Q (.bl (!decide (x=y))) H
def Ph{i j:Int}:decide (V.int i=V.int j)=(i==j):=by
 rw[uz];simp
def RH{i j:Bool}:decide (V.bl i=V.bl j)=(i==j):=by
 rw[uz];simp
def N5{i j:Str}:decide (V.str i=V.str j)=(i==j):=by
 rw[uz];simp
def GZ{i j:Array UInt8}:decide (V.gR i=V.gR j)=(i.toList==j.toList):=by
 rw[uz];cases i;cases j;simp
section
variable {X:Cx} {a b c:Expr} {ta tb tc:TE} {pos:Pos}
def cj{pins:List (Addr×Obj)}{σ:St}{H:Hp}{s:Shared}{Q:VK}{k k':Bool}(I:Inv X pins σ H s)(q:Q (.bl k) H)(e:k=k'):EP X pins σ Q (.bool k') s:=by
 subst e;exact⟨.bl k,H,I,rfl,q⟩
def Xi:aX X (compareOp .Eq) rEq:=by
 intro pins s σ H x y v u Q I rx ry h;obtain⟨hs,q⟩:=h;cases x with
 |non=>
  cases rx;cases y with
  |non=>cases ry;exact aeu (cj I q (by simp))
  |bl j=>cases ry;exact aaB (cj I q (by simp))
  |int j=>obtain⟨t',rfl⟩:=ry;exact WM (cj I q (by simp))
  |str j=>obtain⟨t',rfl⟩:=ry;exact WT (cj I q (by simp))
  |_=>exact absurd (show false=true from hs) cV
 |bl i=>
  cases rx;cases y with
  |non=>cases ry;exact afp (cj I q (by simp))
  |bl j=>cases ry;exact eq_bool (cj I q RH)
  |str j=>obtain⟨t',rfl⟩:=ry;exact adD (cj I q (by simp))
  |_=>exact absurd (show false=true from hs) cV
 |int i=>
  obtain⟨t,rfl⟩:=rx;cases y with
  |non=>cases ry;exact ac9 (cj I q (by simp))
  |int j=>obtain⟨t',rfl⟩:=ry;exact eq_int (cj I q Ph)
  |str j=>obtain⟨t',rfl⟩:=ry;exact adS (cj I q (by simp))
  |_=>exact absurd (show false=true from hs) cV
 |str i=>
  obtain⟨t,rfl⟩:=rx;cases y with
  |non=>cases ry;exact aai (cj I q (by simp))
  |bl j=>cases ry;exact Z6 (cj I q (by simp))
  |int j=>obtain⟨t',rfl⟩:=ry;exact Zg (cj I q (by simp))
  |str j=>obtain⟨t',rfl⟩:=ry;exact eq_str (cj I q N5)
  |_=>exact absurd (show false=true from hs) cV
 |gR i=>
  obtain⟨t,rfl⟩:=rx;cases y with
  |gR j=>obtain⟨t',rfl⟩:=ry;exact W.eq_bytes (cj I q GZ)
  |_=>exact absurd (show false=true from hs) cV
 |_=>cases y<;>exact absurd (show false=true from hs) cV
def acO:aX X (compareOp .NotEq) Y6:=by
 intro pins s σ H x y v u Q I rx ry h;obtain⟨hs,q⟩:=h;cases x with
 |non=>
  cases rx;cases y with
  |non=>cases ry;exact XO (cj I q (by simp))
  |bl j=>cases ry;exact ZW (cj I q (by simp))
  |int j=>obtain⟨t',rfl⟩:=ry;exact afM (cj I q (by simp))
  |str j=>obtain⟨t',rfl⟩:=ry;exact Vm (cj I q (by simp))
  |_=>exact absurd (show false=true from hs) cV
 |bl i=>
  cases rx;cases y with
  |non=>cases ry;exact Vo (cj I q (by simp))
  |bl j=>cases ry;exact ne_bool (cj I q (congrArg not RH))
  |str j=>obtain⟨t',rfl⟩:=ry;exact UJ (cj I q (by simp))
  |_=>exact absurd (show false=true from hs) cV
 |int i=>
  obtain⟨t,rfl⟩:=rx;cases y with
  |non=>cases ry;exact acI (cj I q (by simp))
  |int j=>obtain⟨t',rfl⟩:=ry;exact ne_int (cj I q (congrArg not Ph))
  |str j=>obtain⟨t',rfl⟩:=ry;exact YX (cj I q (by simp))
  |_=>exact absurd (show false=true from hs) cV
 |str i=>
  obtain⟨t,rfl⟩:=rx;cases y with
  |non=>cases ry;exact af0 (cj I q (by simp))
  |bl j=>cases ry;exact VD (cj I q (by simp))
  |int j=>obtain⟨t',rfl⟩:=ry;exact VP (cj I q (by simp))
  |str j=>obtain⟨t',rfl⟩:=ry;exact ne_str (cj I q (congrArg not N5))
  |_=>exact absurd (show false=true from hs) cV
 |gR i=>
  obtain⟨t,rfl⟩:=rx;cases y with
  |gR j=>obtain⟨t',rfl⟩:=ry;exact W.ne_bytes (cj I q (congrArg not GZ))
  |_=>exact absurd (show false=true from hs) cV
 |_=>cases y<;>exact absurd (show false=true from hs) cV
def oR:aX X (compareOp .Lt) (qu λi j=> .bl (decide (i<j))):=Gh λ_ _ _ _ _ _ _ q=>lt_int q
def oM:aX X (compareOp .Gt) (qu λi j=> .bl (decide (j<i))):=Gh λ_ _ _ _ _ _ _ q=>gt_int q
def XH:aX X (compareOp .GtE) (qu λi j=> .bl (decide (j<=i))):=Gh λ_ _ _ _ _ _ _ q=>ge_int q
def aX.or{f:Value->Value->Sem Value}{r r':R2}(h:aX X f r)(h':aX X f r'):aX X f (λx y H Q=>r x y H Q∨r' x y H Q):=by
 intro pins s σ H x y v u Q I rx ry q;rcases q with q|q
 .exact h pins s σ H x y v u Q I rx ry q
 .exact h' pins s σ H x y v u Q I rx ry q
def yS(b:Expr){op:CmpOp}(h:op≠ .In:=by decide)(h2:op≠ .NotIn:=by decide):behindInMarks op b=false:=by
 have e1:(op==CmpOp.In)=false:=by cases op<;>first|rfl|exact absurd rfl h
 have e2:(op==CmpOp.NotIn)=false:=by cases op<;>first|rfl|exact absurd rfl h2
 cases b<;>simp[behindInMarks,e1,e2]
def v9{op:CmpOp}{r:R2}(ho:aX X (compareOp op) r)(ha:PE X a ta)(hb:PE X b tb)(hm:behindInMarks op b=false):PE X (.Compare a [op] [b] pos) (qg r ta tb):=by
 intro pins s σ H Q I h;exact wpAny_Compare1 (B7 ha hb I h λv u s2 x y H2 I2 rx ry q=>ho pins s2 σ H2 x y v u Q I2 rx ry q) hm
inductive Xv(x:V)(H:Hp)(Q:Bool->Hp->Prop):Prop|mk (k:Bool) (hx:x = .bl k) (q:Q k H)
def JM(t:TE):TT:=λσ H Q=>t σ H λx H'=>Xv x H' Q
def abM{op:CmpOp}{r:R2}(ho:aX X (compareOp op) r)(ha:PE X a ta)(hb:PE X b tb)(hm:behindInMarks op b=false):PT X (.Compare a [op] [b] pos) (JM (qg r ta tb)):=by
 intro pins s σ H Q I h;refine wpAny_isTrue_Compare1 (aF (ha pins s σ H _ I h) λv s1 ⟨x,H1,I1,r1,q1⟩=>aF (hb pins s1 σ H1 _ I1 q1) λu s2 ⟨y,H2,I2,r2,q2⟩=>
  aF (ho pins s2 σ H2 x y v u _ I2 r1 r2 q2) λc s3 ⟨z,H3,I3,r3,k,e,q3⟩=>?_) hm
 subst e;cases r3;exact wpAny_truthy_bool ⟨H3,I3,q3⟩
def agQ{κ:Type}{kvs:List (κ×V)}{vs:List (κ×Value)}(r:KV kvs vs):(!vs.isEmpty)=!kvs.isEmpty:=by
 cases r<;>rfl
def agV{xs:List V}{its:List Value}(r:Vals xs its):(!its.toArray.isEmpty)=!xs.isEmpty:=by
 cases r<;>simp
def uP:(sizeLine:Nat)<2^63:=by rw[sizeLine_eq];decide
def Yc:aX X (binaryOp .Add) (λx y H Q=>∃i j,x = .str i/\y = .str j/\i.length+j.length<=sizeLine/\Q (.str (i++j)) H):=by
 intro pins s σ H x y v u Q I rx ry h;obtain⟨i,j,rfl,rfl,hz,q⟩:=h;obtain⟨t,rfl⟩:=rx;obtain⟨t',rfl⟩:=ry;exact add_str (λt' tk=>⟨.str (i++j),H,I.tok _,⟨_,rfl⟩,q⟩) hz
def vals1{x:V}{us:List Value}(r:Vals [x] us):∃u,us=[u]/\RelV x u:=by
 cases r with
 |cons r1 r2=>cases r2;exact⟨_,rfl,r1⟩
def vals2{x y:V}{us:List Value}(r:Vals [x,y] us):∃u w',us=[u,w']/\RelV x u/\RelV y w':=by
 cases r with
 |cons r1 r2=>
  cases r2 with
  |cons r3 r4=>cases r4;exact⟨_,_,rfl,r1,r3⟩
def Vc(hc:X.calm=true):gG X (.builtin "max") (λxs H Q=>∃i j,xs=[.int i,.int j]/\Q (.int (if j>i then j else i)) H):=by
 intro pins s σ H xs us Q I r h;obtain⟨i,j,rfl,q⟩:=h;obtain⟨u,w',rfl,⟨t,rfl⟩,⟨t',rfl⟩⟩:=vals2 r;refine max_two_ints (I.ok.hd hc) λh' tk k=>⟨_,H,I.kept k,?_,q⟩;by_cases hj:j>i
 .rw[if_pos hj,if_pos hj];exact⟨_,rfl⟩
 .rw[if_neg hj,if_neg hj];exact⟨_,rfl⟩
def abA:gG X (.type "int") (λxs H Q=>(∃i,xs=[.int i]/\Q (.int i) H)∨∃k,xs=[.bl k]/\Q (.int (if k then 1 else 0)) H):=by
 intro pins s σ H xs us Q I r h;rcases h with⟨i,rfl,q⟩|⟨k,rfl,q⟩
 .obtain⟨u,rfl,t,rfl⟩:=vals1 r;exact call_int_int ⟨.int i,H,I,⟨_,rfl⟩,q⟩
 .obtain⟨u,rfl,r1⟩:=vals1 r;cases r1;exact call_int_bool ⟨.int (if k then 1 else 0),H,I.tok _,⟨_,rfl⟩,q⟩
def AF(K:aA)(x:V)(H:Hp)(n:Nat):Prop:=
 match x with
 |.str y=>y.length<=sizeLine/\n=y.length
 |.gR y=>y.size<=sizeLine/\n=y.size
 |.ref p=>(∃xs,aC K H p xs/\n=xs.length)∨∃xs,aq K H p xs/\n=xs.length
 |_=>False
def aeC:gG X (.builtin "len") (λxs H Q=>∃x n,xs=[x]/\AF X.K x H n/\Q (.int n) H):=by
 intro pins s σ H xs us Q I r h;obtain⟨x,n,rfl,e,q⟩:=h;obtain⟨u,rfl,rx⟩:=vals1 r;have hl:=uP;have hs:sizeLine=16777216:=sizeLine_eq;cases x with
 |str y=>
  obtain⟨t,rfl⟩:=rx;obtain⟨hy,e'⟩:y.length<=sizeLine/\n=y.length:=e;subst e';exact len_str ⋯ ⟨.int _,H,I.tok _,⟨_,rfl⟩,q⟩
 |gR y=>
  obtain⟨t,rfl⟩:=rx;obtain⟨hy,e'⟩:y.size<=sizeLine/\n=y.size:=e;subst e';exact W.len_bytes ⋯ ⟨.int _,H,I.tok _,⟨_,rfl⟩,q⟩
 |ref p=>
  cases rx;have e':(∃xs,aC X.K H p xs/\n=xs.length)∨∃xs,aq X.K H p xs/\n=xs.length:=e;rcases e' with⟨xs,hx,e'⟩|⟨xs,hx,e'⟩
  .subst e';obtain⟨its,r',pl,hz⟩:=I.list hx;have hlen:=r'.length;exact Calls.call_len_list pl.isList (by simp only[cI];omega) ⟨.int xs.length,H,I.tok _,⟨_,by simp only[cI];rw[hlen]⟩,q⟩
  .subst e';obtain⟨its,r',pl,hz⟩:=I.tuple hx;have hlen:=r'.length;exact len_tuple pl (by simp only[cI];omega) ⟨.int xs.length,H,I.tok _,⟨_,by simp only[cI];rw[hlen]⟩,q⟩
 |_=>exact(show False from e).elim
end
section
variable {prog:Program} {w:World} {A:Around} {E:Value->Shared->Prop} {s:Shared} {K:aA} {x dx C f:Addr} {mA:Str->Option Value} {name:Str} {v:Value}
end
def gw.some_of{v:V}{o:Option Value}(r:gw (some v) o):∃u,o=some u/\RelV v u:=by
 cases o with
 |none=>exact(show False from r).elim
 |some u=>exact⟨u,rfl,r⟩
def gw.none_of{o:Option Value}(r:gw none o):o=none:=by
 cases o with
 |none=>rfl
 |some u=>exact(show False from r).elim
section
variable {P:Program} {w:World} {H H':Hp} {h h':Heap} {a C dx:Addr} {fs fs':List (Str×V)}
end
section
variable {X:Cx} {pins:List (Addr×Obj)} {σ:St} {H:Hp} {s:Shared} {a C dx:Addr} {fs:List (Str×V)} {f:Str} {v:V} {A:Around} {E:Value->Shared->Prop}
end
section
variable {X:Cx} {o e value:Expr} {f:Str} {pos pos' tpos:Pos} {ta tv:TE}
end
section
variable {X:Cx} {pins:List (Addr×Obj)} {σ:St} {H:Hp} {s:Shared} {A:Around} {E:Value->Shared->Prop} {Q:Value->Shared->Prop} {c:Value} {b:Bool}
end
structure bI(k:Nat)(A:Around):Prop where
 hd:A.handled=none
 dp:A.depth+3*k+5<recursionLimit
 un:A.units+16*k+200<cLine
def bI.mono{j k:Nat}{A:Around}(r:bI k A)(h:j<=k):bI j A:=⟨r.hd,by have:=r.dp;omega,by have:=r.un;omega⟩
theorem bI.deeper{k:Nat}{A:Around}(r:bI (k+1) A)(env:Env):bI k (A.deeper env):=
 ⟨r.hd,by have:=r.dp;show A.depth+1+3*k+5<_;omega,by have:=r.un;show A.units+3+16*k+200<_;omega⟩
theorem bI.depth{k:Nat}{A:Around}(r:bI k A):A.depth<recursionLimit:=by have:=r.dp;omega
theorem bI.units{k:Nat}{A:Around}(r:bI k A):A.units+64<cLine:=by have:=r.un;omega
def bI.Ip{k:Nat}{A:Around}(r:bI k A):A.units<cLine:=by have:=r.un;omega
def xZ:TA:=λ_ H Q=>Q [] H
def qe(ta:TE)(tr:TA):TA:=λσ H Q=>ta σ H λx H1=>tr σ H1 λxs H2=>Q (x::xs) H2
section
variable {X:Cx} {e:Expr} {es:List Expr} {te:TE} {t:TA} {pos:Pos}
def aj:PA X [] xZ:=λ_ _ _ _ H Q I h=>MQ ⟨[],H,I,.nil,h⟩
def aV(ha:PE X e te)(hr:PA X es t)(hs:starEach (e::es) X.env=(false,eval e X.env)::starEach es X.env:=by rfl):PA X (e::es) (qe te t):=by
 intro pos pins s σ H Q I h;rw[hs];show wpAny _ _ (spliced ((false,eval e X.env)::backTo pos (starEach es X.env))) _ _ s;refine N7 (aF (ha pins s σ H _ I h) λu s1 ⟨x,H1,I1,r1,q1⟩=>?_);exact aF (hr pos pins s1 σ H1 _ I1 q1) λus s2 ⟨xs,H2,I2,r2,q2⟩=>⟨x::xs,H2,I2,.cons r1 r2,q2⟩
inductive GD(xs:List V)(o:HO)(H:Hp)(Q:VK):Prop|mk (hz:xs.length<=sizeLine) (q:∀p,H p=none->Q (.ref p) (upd H p o))
def abN(t:TA):TE:=λσ H Q=>t σ H λxs H1=>GD xs (.tup xs) H1 Q
def Wm(t:TA):TE:=λσ H Q=>t σ H λxs H1=>GD xs (.lst xs) H1 Q
def mX{x1}(h:PA X es t):PE X (.Tuple es x1 pos) (abN t):=by
 intro pins s σ H Q I hq;refine wpAny_Tuple_spliced (aF (h pos pins s σ H _ I hq) λus s1 ⟨xs,H1,I1,r,z,q⟩=>⟨by rw[<-r.length];exact z,?_⟩);have hf:H1 s1.heap.objs.size=none:=I1.hok.fresh (aO _);refine⟨.ref s1.heap.objs.size,upd H1 s1.heap.objs.size (.tup xs),I1.laid (t':=s1.toks) (λb u e=>Heap.get?_push_of_some _ e) (aO _) ?_,rfl,q _ hf⟩;exact⟨z,us,r,⟨_,Heap.get?_push_size _ rfl,rfl,_,rfl⟩⟩
def pI(h:PA X es t):PE X (.List es pos) (Wm t):=by
 intro pins s σ H Q I hq;refine wpAny_List_spliced (aF (h pos pins s σ H _ I hq) λus s1 ⟨xs,H1,I1,r,z,q⟩=>⟨by rw[<-r.length];exact z,?_⟩);have hf:H1 s1.heap.objs.size=none:=I1.hok.fresh (aO _);refine⟨.ref s1.heap.objs.size,upd H1 s1.heap.objs.size (.lst xs),I1.laid (t':=s1.toks) (λb u e=>Heap.get?_push_of_some _ e) (aO _) ?_,rfl,q _ hf⟩;exact⟨z,us,0,r,Heap.get?_push_size _ rfl⟩
end
abbrev Sp:=List V->Hp->VK->XK->Prop
abbrev lB:=List Env->Hp->Shared->XK->Value->Shared->Prop
structure wK(P:Program)(w:World)(K:aA)(mg:Str->Option Value)(base:Heap)(A:Around)(outer:List Env)(s:Shared)(H:Hp):Prop where
 frames:A.frames=some outer
 mod:Mod K mg base
 bs:∀b o,base.get? b=some o->s.heap.get? b=some o/\H b=none
 oW:base.objs.size<=s.heap.objs.size
 jB:s.heap.FunFrames base outer
 tE:∀b∈frs outer,H b=none
 hok:bY P w H s.heap
 bare:AllBare s.gens
def CE(outer:List Env)(P:Program)(w:World)(H:Hp)(s:Shared)(Q:VK)(u:Value)(s':Shared):Prop:=
 ∃v H',s'.os=s.os/\AllBare s'.gens/\Un (frs outer) [] H H' s.heap s'.heap/\bY P w H' s'.heap/\RelV v u/\Q v H'
def CR(CX:lB)(outer:List Env)(P:Program)(w:World)(H:Hp)(s:Shared)(Q:VK)(E:XK)(r:Result)(s':Shared):Prop:=
 match r with
 |.ok (.ret u)=>CE outer P w H s Q u s'
 |.ok _=>False
 |.error e=>CX outer H s E e s'
structure j8(P:Program)(w:World)(K:aA)(mg:Str->Option Value)(base:Heap)(CX:lB)(k:Nat)(f:Addr)(fd:FuncData)(ps:List Str)(sp:Sp):Prop where
 len:∀vs H Q E,sp vs H Q E->vs.length=ps.length
 run:∀(A:Around) (outer:List Env) (s:Shared) (H:Hp) (args:Args) (us:List Value) (vs:List V) (Q:VK) (E:XK),bI k A->wK P w K mg base A outer s H->BindsTo s fd args (ps.zip us)->Vals vs us->sp vs H Q E->
  codeAny (model P w) A (.call (.ref f) args) (CR CX outer P w H s Q E) s
section
variable {X:Cx} {pins:List (Addr×Obj)} {σ:St} {H:Hp} {s s':Shared}
def Inv.env0(I:Inv X pins σ H s):wK X.prog X.w X.K X.mg X.base X.A X.stack s H:=
 ⟨I.ok.frames,I.ok.mod,I.bs,cJ I.ok.oW I.sz,I.stack,I.CK,I.hok,I.bare⟩
def Inv.after{Q:VK}{u:Value}(I:Inv X pins σ H s)(h:CE X.stack X.prog X.w H s Q u s'):EP X pins σ Q u s':=by
 obtain⟨v,H',os,bare,un,hok,r,q⟩:=h;obtain⟨hh,g,d,t,os'⟩:=s';obtain rfl:os'=s.os:=os;exact⟨v,H',I.call (h':=hh) (g':=g) (d':=d) (t':=t) (ch:=[]) un hok bare (λb z=>absurd z (by simp)),r,q⟩
end
def yU(sp:Sp)(oK:List V)(E:XK)(t:TA):TE:=λσ H Q=>t σ H λvs H1=>sp (vs++oK) H1 Q E
def Binds(K:aA)(fd:FuncData)(ps:List Str)(ds:List Value):Prop:=
 ∀(s:Shared) (us:List Value),K.In s.heap->(us++ds).length=ps.length->BindsTo s fd ⟨us,[]⟩ (ps.zip (us++ds))
def Binds.all{K:aA}{fd:FuncData}{ps:List Str}(h:∀us:List Value,us.length=ps.length->bindArgs fd ⟨us,[]⟩=pure (ps.zip us)):Binds K fd ps []:=λs us _ hl=>by
 rw[List.append_nil]at hl⊢;exact .of_eq (h us hl)
def Passes(CX:lB)(X:Cx)(E:XK):Prop:=∀(pins:List (Addr×Obj)) (σ:St) (H:Hp) (s:Shared) (e:Value) (s':Shared),Inv X pins σ H s->CX X.stack H s E e s'->X.xe e s'
section
variable {X:Cx} {CX:lB} {k:Nat} {f C:Addr} {fd:FuncData} {ps:List Str} {sp:Sp} {oK:List V} {ds:List Value} {E:XK} {x m:Str} {p pos apos:Pos} {e o:Expr} {es:List Expr} {ta:TE} {t:TA}
def agd{pins:List (Addr×Obj)}{σ:St}{H:Hp}{s:Shared}{Q:VK}{us:List Value}{vs:List V}(F:j8 X.prog X.w X.K X.mg X.base CX k f fd ps sp)(hr:bI k X.A)(hb:Binds X.K fd ps ds)(hd:Vals oK ds)(hx:Passes CX X E)
  (I:Inv X pins σ H s) (r:Vals vs us) (h:sp (vs++oK) H Q E):wpAny (model X.prog X.w) X.A (call (.ref f) us) (EP X pins σ Q) X.xe s:=by
 have r2:Vals (vs++oK) (us++ds):=r.append hd;have hl:(us++ds).length=ps.length:=by rw[<-r2.length];exact F.len _ _ _ _ h
 refine wpAny_call (codeAny_mono (F.run X.A X.stack s H ⟨us,[]⟩ (us++ds) (vs++oK) Q E hr I.env0 (hb s us I.rG hl) r2 h) λr s' hq=>?_);cases r with
 |error e=>exact hx pins σ H s e s' I hq
 |ok fl=>
  cases fl with
  |ret u=>exact I.after hq
  |next=>exact False.elim hq
  |brk=>exact False.elim hq
  |cont=>exact False.elim hq
def Lw(F:j8 X.prog X.w X.K X.mg X.base CX k f fd ps sp)(hr:bI k X.A)(hg:Gl X x)(hm:X.mg x=some (.ref f))(hk:rM X.K (.ref f)=true)(hb:Binds X.K fd ps ds)(hd:Vals oK ds)(hx:Passes CX X E)
  (ha:PA X (e::es) t) (hdb:(x==("__debug__" : Str))=false:=by decide) (he:starEach (e::es) X.env=(false,eval e X.env)::starEach es X.env:=by rfl) (hpl:(backTo pos (starEach es X.env)).any (·.1)=false:=by rfl):
  PE X (.Call (.Name x p) (e::es) [] pos) (yU sp oK E t):=by
 intro pins s σ H Q I h;refine wpAny_Call_Name_kw (Fw I hg hm ?_ hdb);refine W.callWith_K (h₀:=X.base) I.ok.mod.Cw hk (aF (ha pos pins s σ H _ I h) λus s1 ⟨vs,H1,I1,r,q⟩=>⟨I1.rG,?_⟩) he hpl;exact agd F hr hb hd hx I1 r q
end
section
variable {X:Cx} {CX:lB} {k:Nat} {f C:Addr} {fd:FuncData} {ps ks:List Str} {sp:Sp} {E:XK} {x m:Str} {p pos apos kpos:Pos} {e o:Expr} {es:List Expr} {kws:List Keyword} {te ta:TE} {t tk:TA} {nm:Option Str}
variable {g:List Value->List Value->List Value} {gV:List V->List V->List V}
end
structure aZ(N P:List Str)(sc:Scope):Prop where
 kind:sc.kind = .function
 co:sc.isCoroutine=false
 gen:sc.isGenerator=false
 nd:N.Nodup
 pre:N.take P.length=P
 par:∀x∈P,sc.names.lookup x=some .local∨sc.names.lookup x=some .cell
 AK:∀y∈sc.names,y.2≠ .free
theorem GV{kindOf:Str->Option NameKind}{x:Str}:∀{binds:List (Str×Value)} {m:Str->Option Value},(∀v,(x,v)∉binds)->bindL kindOf binds m x=m x
 |[],_,_=>rfl
 |(n,v)::r,m,h=>by
  unfold bindL;rw[GV λw hw=>h w (gO _ hw)];split
  .have:x≠n:=by rintro rfl;exact h v mU
   simp[this]
  .rfl
theorem Mv{kindOf:Str->Option NameKind}{x:Str}:∀{binds:List (Str×Value)} {m:Str->Option Value},(∀v,(x,v)∉binds)->bindC kindOf binds m x=m x
 |[],_,_=>rfl
 |(n,v)::r,m,h=>by
  unfold bindC;rw[Mv λw hw=>h w (gO _ hw)];split
  .rfl
  .have:x≠n:=by rintro rfl;exact h v mU
   simp[this]
theorem Ng{kindOf:Str->Option NameKind}{x:Str}{v:Value}:∀{P:List Str} {vs:List Value} {i:Nat} {m:Str->Option Value},P.Nodup->P[i]?=some x->vs[i]?=some v->kindOf x=some .local->
  bindL kindOf (P.zip vs) m x=some v
 |[],_,_,_,_,h,_,_=>by simp at h
 |_::_,[],_,_,_,_,h,_=>by simp at h
 |p::P,w::vs,0,m,nd,h1,h2,hk=>by
  simp at h1 h2;subst h1;subst h2;show bindL kindOf ((p,w)::P.zip vs) m p=_;unfold bindL;rw[GV λv hv=>(zV.mp nd).1 (Bc hv).1,if_pos hk];simp
 |p::P,w::vs,i+1,m,nd,h1,h2,hk=>by
  show bindL kindOf ((p,w)::P.zip vs) m x=_;unfold bindL;exact Ng (i:=i) (zV.mp nd).2 (by simpa using h1) (by simpa using h2) hk
theorem IK{kindOf:Str->Option NameKind}{x:Str}{v:Value}:∀{P:List Str} {vs:List Value} {i:Nat} {m:Str->Option Value},P.Nodup->P[i]?=some x->vs[i]?=some v->kindOf x≠some .local->
  bindC kindOf (P.zip vs) m x=some v
 |[],_,_,_,_,h,_,_=>by simp at h
 |_::_,[],_,_,_,_,h,_=>by simp at h
 |p::P,w::vs,0,m,nd,h1,h2,hk=>by
  simp at h1 h2;subst h1;subst h2;show bindC kindOf ((p,w)::P.zip vs) m p=_;unfold bindC;rw[Mv λv hv=>(zV.mp nd).1 (Bc hv).1,if_neg hk];simp
 |p::P,w::vs,i+1,m,nd,h1,h2,hk=>by
  show bindC kindOf ((p,w)::P.zip vs) m x=_;unfold bindC;exact IK (i:=i) (zV.mp nd).2 (by simpa using h1) (by simpa using h2) hk
def start(N:List Str)(vs:List V):St:=vs.map some++fu (N.length-vs.length) none
def tY(CX:lB)(P:Program)(w:World)(K:aA)(mg:Str->Option Value)(base:Heap)(N:List Str)(qual:Str)(scope:Scope)(f:Addr)(cd:Value)(A:Around)(outer:List Env)(s:Shared)(H:Hp)(E:XK):Cx where
 prog:=P
 w:=w
 K:=K
 mg:=mg
 base:=base
 A:=A.deeper (envOfC qual scope s.heap.objs.size f cd)
 N:=N
 s₀:=s
 H₀:=H
 env:=envOfC qual scope s.heap.objs.size f cd
 outer:=outer
 stack:=envOfC qual scope s.heap.objs.size f cd::outer
 ex:=[]
 calm:=true
 fn:=λ_=>true
 pn:=[]
 xe:=λe s'=>wpAny (model P w) (A.deeper (envOfC qual scope s.heap.objs.size f cd)) (leaving (envOfC qual scope s.heap.objs.size f cd) e) (λ_ s''=>CX outer H s E e s'') (λe' s''=>CX outer H s E e' s'') s'
def KH{sc:Scope}{n:Nat}{x:Str}(h:sc.names.lookup x=some .cell):∃c,(cellsFrom n sc.names []).lookup x=some c:=by
 have q:=Ja sc.names n [] (.inl h);exact Rg.mp q
def aa5{CX:lB}{P:Program}{w:World}{K:aA}{mg:Str->Option Value}{base:Heap}{N ps:List Str}{qual:Str}{scope:Scope}{f:Addr}{cd:Value}{A:Around}{outer:List Env}{s s1:Shared}{H:Hp}{E:XK}{us:List Value}{vs:List V}
  (S:aZ N ps scope) (hd:A.handled=none) (e0:wK P w K mg base A outer s H) (hl:vs.length=ps.length) (r:Vals vs us)
  (x:InCallC s s.heap.objs.size (bindL (envOfC qual scope s.heap.objs.size f cd).kindOf (ps.zip us) λ_=>none) (cellsFrom (s.heap.objs.size+1) scope.names []) (bindC (envOfC qual scope s.heap.objs.size f cd).kindOf (ps.zip us) λ_=>none) s1):
  Inv (tY CX P w K mg base N qual scope f cd A outer s H E) [] (start N vs) H s1:=by
 have hpl:ps.length<=N.length:=by have:=congrArg RX S.pre;rw[iB]at this;omega
 obtain⟨h1,tk,rfl,hk⟩:=x.done;have uJ:∀b:Addr,b∉(tY CX P w K mg base N qual scope f cd A outer s H E).ex:=λb z=>absurd (show b∈([]:List Addr)from z) (by simp);refine⟨⟨e0.mod,S.kind,rfl,rfl,aO _,λy z c h1 h2=>?_,λy hy=>?_,λy c _ h=>?_,λ_=>hd,Around.frames_deeper e0.frames,.inr ⟨rfl,rfl⟩,λb z=>absurd z (uJ b),e0.bs,e0.oW,λb _ _=>uJ b,λb z=>absurd z (uJ b),e0.jB,e0.tE⟩,
  rfl,e0.bare,Un.kept hk,⟨_,x.toInCall.ns,λi y v h1 h2 h3=>?_⟩,λy c h=>⟨_,x.cell y c h⟩,e0.hok.fresh (aO _),λy c h=>?_,λp hp=>absurd (show p∈([]:List (Addr×Obj))from hp) (by simp),e0.hok.kept hk,?_⟩
 .exact name_of_addr x.apart (nR h1) (nR h2)
 .have hy:scope.names.lookup y=some .cell∨scope.names.lookup y=some .free:=hy;rcases hy with hy|hy
  .exact KH hy
  .exact absurd rfl (S.AK _ (nR hy))
 .exact jK (x.above y c (nR h))
 .have hi:i<vs.length:=by
   unfold start at h2;by_cases hi:i<vs.length
   .exact hi
   .rw[List.getElem?_append_right (by simpa using hi)]at h2;rw[List.getElem?_replicate]at h2;split at h2<;>cases h2
  have ha:vs[i]?=some v:=by
   unfold start at h2;rw[List.getElem?_append_left (by simpa using hi),List.getElem?_map]at h2;cases e:vs[i]? with
   |none=>rw[e]at h2;cases h2
   |some a=>rw[e]at h2;cases h2;rfl
  obtain⟨u,hu,rv⟩:=r.get ha;have hp:ps[i]?=some y:=by
   rw[<-S.pre,List.getElem?_take_of_lt ⋯];exact h1
  have IB:ps.Nodup:=by rw[<-S.pre];exact S.nd.sublist (GB _ _)
  refine⟨u,rv,?_⟩;rcases S.par y (List.mem_of_getElem? hp)with k|k
  .exact .inl ⟨k,Ng IB hp hu k⟩
  .obtain⟨c,e⟩:=KH (n:=s.heap.objs.size+1) k;refine .inr ⟨.inl k,c,e,?_⟩;have q:=x.cell y c e;rw[IK IB hp hu (by show scope.names.lookup y≠_;rw[k];decide)]at q;exact q
 .exact e0.hok.fresh (jK (x.above y c (nR h)))
 .unfold start;show _=N.length;rw[gK,aM,List.length_replicate];omega
def WZ{CX:lB}{P:Program}{w:World}{K:aA}{mg:Str->Option Value}{base:Heap}{k:Nat}{f:Addr}{name qual:Str}{params:Arguments}{body:List Stmt}{scope:Scope}{dV kV doc pm cdv ct oc:Value}{an od:Option Addr}
  {osl:Array (Option Value)} {N ps:List Str} {sp:Sp} (lk:K.lookup f=some ⟨oc,od,.func (jr name qual params body scope dV kV doc pm an cdv ct),osl⟩) (hcd:vG K cdv qual=true) (S:aZ N ps scope)
  (len:∀vs H Q E,sp vs H Q E->vs.length=ps.length)
  (hbody:∀(A:Around) (outer:List Env) (s:Shared) (H:Hp) (vs:List V) (Q:VK) (E:XK),bI k (A.deeper (envOfC qual scope s.heap.objs.size f cdv))->sp vs H Q E->
   ∃t,eZ (tY CX P w K mg base N qual scope f cdv A outer s H E) body t/\t { nx:=λ_ H'=>Q .non H',rt:=Q } (start N vs) H):
  j8 P w K mg base CX (k+1) f (jr name qual params body scope dV kV doc pm an cdv ct) ps sp:=by
 refine⟨len,λA outer s H args us vs Q E hr e0 hb r hsp=>?_⟩;have hl:=len _ _ _ _ hsp;have KX:K.In s.heap:=e0.mod.Cw.keeps λb o e=>(e0.bs b o e).1;have lim:s.heap.NoLimit:=e0.mod.nolimit.keeps λb o e=>(e0.bs b o e).1;have hkind:∀y∈ps.zip us,scope.names.lookup y.1=some .local∨(scope.names.lookup y.1=some .cell/\((cellsFrom (s.heap.objs.size+1) scope.names []).lookup y.1).isSome=true):=λ⟨n,v⟩ hy=>by
  rcases S.par n (Bc hy).1 with q|q
  .exact .inl q
  .exact .inr ⟨q,Ja _ _ _ (.inl q)⟩
 refine codeAny_call_function hr.depth (KX _ _ lk) rfl S.co S.gen rfl (W.codeRec_of KX hcd) (hb _ _ _ _ ?_);refine wpAny_newFunctionEnv_cells S.kind hkind λenv he s1 x=>?_;subst he;refine⟨lim.keeps x.toInCall.keep,codeAny_func ?_⟩;obtain⟨t,ht,hq⟩:=hbody A outer s H vs Q E (hr.deeper _) hsp;have I:Inv (tY CX P w K mg base N qual scope f cdv A outer s H E) [] (start N vs) H s1:=aa5 S hr.hd e0 hl r x;refine wpAny_mono (ht [] s1 (start N vs) H _ I hq) (λfl s' hs=>?_) λe s' hs=>hs;have fin:∀{σ':St} {H':Hp} {v:V} {u:Value},Inv (tY CX P w K mg base N qual scope f cdv A outer s H E) [] σ' H' s'->RelV v u->Q v H'->CE outer P w H s Q u s':=
  λ{σ' H' v u} J rv q=>⟨v,H',J.os,J.bare,J.base,J.hok,rv,q⟩
 cases fl with
 |ret u=>
  obtain⟨v,σ',H',J,rv,q⟩:=hs;exact fin J rv q
 |next=>
  obtain⟨σ',H',J,q⟩:=hs;exact fin (v:=V.non) (u:=Value.none) J rfl q
 |brk=>
  obtain⟨_,_,_,q⟩:=hs;exact False.elim q
 |cont=>
  obtain⟨_,_,_,q⟩:=hs;exact False.elim q
section
variable {X:Cx} {x:Str} {p pos:Pos} {e:Expr} {es:List Expr} {t:TA} {id T:String} {r:List V->Hp->VK->Prop}
def DN(r:List V->Hp->VK->Prop)(t:TA):TE:=λσ H Q=>t σ H λvs H1=>r vs H1 Q
def pO(hc:gG X (.builtin id) r)(hg:Gl X x)(hm:X.mg x=none)(hv:bootBuiltins x=some (.builtin id))(ha:PA X (e::es) t)(hn:x≠ "__name__" := by decide)(hdb:(x==("__debug__" : Str))=false:=by decide)
  (he:starEach (e::es) X.env=(false,eval e X.env)::starEach es X.env:=by rfl) (hpl:(backTo pos (starEach es X.env)).any (·.1)=false:=by rfl):PE X (.Call (.Name x p) (e::es) [] pos) (DN r t):=by
 intro pins s σ H Q I h;refine wpAny_Call_Name_kw (pW I hg hm hv ?_ hn hdb);exact adz (aF (ha pos pins s σ H _ I h) λus s1 ⟨vs,H1,I1,r1,q1⟩=>hc pins s1 σ H1 vs us Q I1 r1 q1) he hpl
def iG(hc:gG X (.type T) r)(hg:Gl X x)(hm:X.mg x=none)(hv:bootBuiltins x=some (.type T))(ha:PA X (e::es) t)(hn:x≠ "__name__" := by decide)(hdb:(x==("__debug__" : Str))=false:=by decide)
  (he:starEach (e::es) X.env=(false,eval e X.env)::starEach es X.env:=by rfl) (hpl:(backTo pos (starEach es X.env)).any (·.1)=false:=by rfl):PE X (.Call (.Name x p) (e::es) [] pos) (DN r t):=by
 intro pins s σ H Q I h;refine wpAny_Call_Name_kw (pW I hg hm hv ?_ hn hdb);exact sH (aF (ha pos pins s σ H _ I h) λus s1 ⟨vs,H1,I1,r1,q1⟩=>hc pins s1 σ H1 vs us Q I1 r1 q1) he hpl
end
end L2
namespace HT
open PySem PyProof.Rows
section
open PySem.SeqAt
open PySem.AutoSeq1 (wpAny_loadPart')
open PySem.MeetsSeq PySem.MeetsSeq2 PySem.MeetsSeq3
end
section
variable {prog:Program} {w:World} {A:Around} {E:Value->Shared->Prop} {s:Shared}
def aeU{t b:Addr}{vs ws:List Value}{Q:Value->Shared->Prop}(ht:IsTup s.heap t vs.toArray)(hb:IsTup s.heap b ws.toArray)(hv:vs≠[])
  (h1:ws=[]->Q (.ref t) s) (h2:ws≠[]->Q (.ref s.heap.objs.size) { s with heap:=s.heap.push { cls:= .type "tuple",data:= .seq (vs++ws).toArray } })
  (hsz:vs.length+ws.length<=sizeLine):wpAny (model prog w) A (binaryOp .Add (.ref t) (.ref b)) Q E s:=by
 obtain⟨⟨cls,dd,data,sl⟩,ho,hc,n,hd⟩:=id ht;obtain⟨⟨cls2,dd2,data2,sl2⟩,ho2,hc2,n2,hd2⟩:=id hb;simp only at hc hd hc2 hd2;subst hc hd hc2 hd2;have e:vs.toArray++ws.toArray=(vs++ws).toArray:=by simp
 by_cases hw:ws=[]
 .exact concat_meets ⟨_,ho,rfl⟩ ⟨_,ho2,rfl⟩ noFill_tuple_add seq_tuple_add Bo Eb (EG _ _)
   (tuple_addW1 t b vs.toArray ws.toArray n n2 dd dd2 sl sl2 (by simpa using hv) (by simp[hw])) ⟨ho,ho2,h1 hw⟩
 .refine concat_meets ⟨_,ho,rfl⟩ ⟨_,ho2,rfl⟩ noFill_tuple_add seq_tuple_add Bo Eb (EG _ _)
   (tuple_addW2 t b vs.toArray ws.toArray n n2 dd dd2 sl sl2 (by simpa using hv) (by simpa using hw) (by rw[cI,cI];exact hsz)) ⟨ho,ho2,?_⟩
  rw[e];exact h2 hw
def aL(n d:Nat):Option Int->Nat
 |none=>d
 |some v=>if v<0 then(v+(n:Int)).toNat else min v.toNat n
def nT(n d:Nat):aL n d none=d:=rfl
def jZ(n d k:Nat):aL n d (some (k:Int))=min k n:=by
 show(if(k:Int)<0 then((k:Int)+(n:Int)).toNat else min (k:Int).toNat n)=min k n;rw[if_neg ⋯,dw]
def abb(n d:Nat)(hd:d<=n)(o:Option Int):aL n d o<=n:=by
 cases o with
 |none=>exact hd
 |some v=>
  show(if v<0 then(v+(n:Int)).toNat else min v.toNat n)<=n;by_cases hv:v<0
  .rw[if_pos hv];omega
  .rw[if_neg hv];exact Bu _ _
def IW(v:Int)(n d:Nat):(if v<0 then max (v+(n:Int)) 0 else min v (n:Int))=((aL n d (some v):Nat):Int):=by
 show(if v<0 then max (v+(n:Int)) 0 else min v (n:Int))=(((if v<0 then(v+(n:Int)).toNat else min v.toNat n):Nat):Int);by_cases hv:v<0
 .simp only[if_pos hv];omega
 .simp only[if_neg hv];omega
def aa1(lo hi:Option Int)(n:Nat):Builtin.Slice.sliceAdjust lo hi 1 (n:Int)=(((aL n 0 lo:Nat):Int),((aL n n hi:Nat):Int)):=by
 have h1:¬((1:Int)<0):=⋯;unfold Builtin.Slice.sliceAdjust;simp only[h1,if_false];refine Prod.ext ?_ ?_
 .cases lo with
  |none=>rfl
  |some v=>exact IW v n 0
 .cases hi with
  |none=>rfl
  |some v=>exact IW v n n
def afB(i j:Nat):Builtin.Slice.slicePlaces (i:Int) (j:Int) 1=j-i:=by
 unfold Builtin.Slice.slicePlaces;have h1:(1:Int)>0:=⋯;simp only[h1,if_true,Jv];split<;>omega
def Kz{v:Value}{o:Option Int}{Q:Option Int->Shared->Prop}(p:IsPart v o)(h:Q o s):wpAny (model prog w) A (Builtin.Slice.slicePartIndex v) Q E s:=by
 cases p with
 |none=>exact slicePart_none h
 |int i t=>exact slicePart_int h
def Ow{sl:Addr}{vl vu:Value}{lo hi:Option Int}{n:Nat}{Q:Int×Int×Nat->Shared->Prop}(hs:s.heap.IsSliceOf sl vl vu .none)(pl:IsPart vl lo)(pu:IsPart vu hi)
  (h:Q (((aL n 0 lo:Nat):Int),1,aL n n hi-aL n 0 lo) s):wpAny (model prog w) A (Builtin.Slice.sliceApplied (.ref sl) (pure (n:Int))) Q E s:=by
 obtain⟨os,hos,hcs,hds⟩:=id hs;unfold Builtin.Slice.sliceApplied Builtin.Slice.sliceFields;refine wpAny_bind (wpAny_bind (wpAny_field hos hds (x:=vl) rfl (wpAny_bind (wpAny_field hos hds (x:=vu) rfl (wpAny_bind (wpAny_field hos hds (x:= .none) rfl (wpAny_pure ?_)))))));refine wpAny_bind (slicePart_none ?_);show wpAny _ _ (if((1:Int)==0)=true then _ else _) _ _ s;rw[if_neg ∅];refine wpAny_bind (Kz pl (wpAny_bind (Kz pu (wpAny_bind (wpAny_pure ?_)))));show wpAny _ _ (match Builtin.Slice.sliceAdjust lo hi 1 (n:Int)with|(lo,hi)=>pure (lo,(1:Int),Builtin.Slice.slicePlaces lo hi 1)) _ _ s
 rw[aa1 lo hi n];show wpAny _ _ (pure (((aL n 0 lo:Nat):Int),(1:Int),Builtin.Slice.slicePlaces ((aL n 0 lo:Nat):Int) ((aL n n hi:Nat):Int) 1)) _ _ s;rw[afB];exact wpAny_pure h
def afJ(xs:Array Value)(i k:Nat):((bQ k).filterMap λ(m:Nat)=>xs[((i:Int)+(m:Int)*1).toNat]?).toArray=((xs.toList.drop i).take k).toArray:=by
 have e:(λ(m:Nat)=>xs[((i:Int)+(m:Int)*1).toNat]?)=λm=>xs[i+m]?:=by
  funext m
  have:((i:Int)+(m:Int)*1).toNat=i+m:=⋯;rw[this]
 rw[e];have:=pick_run xs i k;rw[List.filterMap_map]at this;have e2:((λx=>xs[x]?)∘λx=>i+x)=λm=>xs[i+m]?:=rfl;rw[e2]at this;rw[this]
def afz{t sl:Addr}{items:Array Value}{vl vu:Value}{lo hi:Option Int}{Q:Value->Shared->Prop}(ht:IsTup s.heap t items)(hs:s.heap.IsSliceOf sl vl vu .none)(pl:IsPart vl lo)(pu:IsPart vu hi)
  (hw:¬(aL items.size 0 lo=0/\aL items.size items.size hi=items.size))
  (h:Q (.ref s.heap.objs.size) { s with heap:=s.heap.push { cls:= .type "tuple",data:= .seq ((items.toList.drop (aL items.size 0 lo)).take (aL items.size items.size hi-aL items.size 0 lo)).toArray } })
  (hsz:items.size<=sizeLine):wpAny (model prog w) A (getItem (.ref t) (.ref sl)) Q E s:=by
 have xG:sizeOk (.seq ((items.toList.drop (aL items.size 0 lo)).take (aL items.size items.size hi-aL items.size 0 lo)).toArray):=by
  show((items.toList.drop (aL items.size 0 lo)).take (aL items.size items.size hi-aL items.size 0 lo)).toArray.size<=sizeLine;rw[cI,iB,pD,gh];omega
 have hj:aL items.size items.size hi<=items.size:=abb _ _ (aO _) hi;obtain⟨os,hos,hcs,hds⟩:=id hs;have hTs:s.TypeIs (.ref sl) "slice" := ⟨os,hos,hcs⟩;unfold getItem;try with_reducible refine wpAny_holding ?_
 first|refine wpAny_bind (wpAny_pure ?_)|skip
 refine wpAny_bind (wpAny_sequenceKey ht.typeIs ∅ ?_);refine wpAny_bind (wpAny_callSpecial?_slot (name:=Str.ofString "__getitem__") ht.typeIs rJ
  (wpAny_call_entry rJ ht.typeIs entry_tuple_getitem ?_ (args_tuple_getitem _ _)))
 show wpAny _ _ (Builtin.Tuple.tupleItemsOf (.ref t)>>=_) _ _ s;refine wpAny_bind (tupleItemsOf_ ht ?_);refine wpAny_bind (wpAny_typeOf hTs ?_);rw[if_pos ∅];refine wpAny_bind (Ow hs pl pu ?_);have hno:¬((((aL items.size 0 lo:Nat):Int)==0&&(1:Int)==1&&(aL items.size items.size hi-aL items.size 0 lo)==items.size)=true):=by
  intro q;rw[pJ,pJ]at q;have q1:((aL items.size 0 lo:Nat):Int)=0:=eq_of_beq q.1.1;have q2:aL items.size items.size hi-aL items.size 0 lo=items.size:=eq_of_beq q.2;exact hw ⟨⋯,⋯⟩
 show wpAny _ _ (if(((aL items.size 0 lo:Nat):Int)==0&&(1:Int)==1&&(aL items.size items.size hi-aL items.size 0 lo)==items.size)=true then _ else _) _ _ s;rw[if_neg hno,afJ];first
  |exact wpAny_bind (m:=Builtin.Tuple.tupleExact _) (wpAny_newObj_type (wpAny_pure ⟨_,rfl,wpAny_pure h⟩) xG)
  |exact wpAny_bind (m:=Builtin.Tuple.tupleExact _) (wpAny_newObj_type (wpAny_bind (wpAny_pure (wpAny_pure ⟨_,rfl,wpAny_pure h⟩))) xG)
  |exact wpAny_bind (wpAny_bind (m:=Builtin.Tuple.tupleExact _) (wpAny_newObj_type (wpAny_pure (wpAny_pure ⟨_,rfl,wpAny_pure h⟩)) xG))
  |exact wpAny_bind (wpAny_bind (m:=Builtin.Tuple.tupleExact _) (wpAny_newObj_type (wpAny_pure ⟨_,rfl,wpAny_pure h⟩) xG))
end
end HT
namespace L2
open PySem PySem.Spec PyProof.Rows
abbrev TO:=St->Hp->(Option Int->Hp->Prop)->Prop
def PO(X:Cx)(e:Option Expr)(t:TO):Prop:=
 ∀(pins:List (Addr×Obj)) (s:Shared) (σ:St) (H:Hp) (Q:Option Int->Hp->Prop),Inv X pins σ H s->t σ H Q->
  wpAny (model X.prog X.w) X.A (evalPart e X.env) (λu s'=>∃o H',Inv X pins σ H' s'/\IsPart u o/\Q o H') X.xe s
def U9:TO:=λ_ H Q=>Q none H
inductive Xn(x:V)(H:Hp)(Q:Option Int->Hp->Prop):Prop|mk (i:Int) (hx:x = .int i) (q:Q (some i) H)
def Z1(t:TE):TO:=λσ H Q=>t σ H λx H1=>Xn x H1 Q
def intsAre_of{ns:List Int}:∀{us:List Value},Vals (ns.map V.int) us->IntsAre us ns:=by
 induction ns with
 |nil=>intro us r;rw[Ay]at r;cases r;exact .nil
 |cons n ns ih=>
  intro us r;rw[iY]at r;cases r with
  |cons r1 r2=>
   obtain⟨t,e⟩:=r1;subst e;exact .cons n t (ih r2)
section
variable {X:Cx} {e:Expr} {te:TE} {lo hi:Option Expr} {tl th:TO} {pos p2:Pos}
def rz:PO X none U9:=by
 intro pins s σ H Q I h;rw[evalPart_none];exact wpAny_pure ⟨none,H,I,.none,h⟩
def qR(h:PE X e te):PO X (some e) (Z1 te):=by
 intro pins s σ H Q I hw;rw[evalPart_some];refine aF (h pins s σ H _ I hw) λu s1 ⟨x,H1,I1,r1,q1⟩=>?_;obtain⟨i,rfl,q⟩:=q1;obtain⟨t,rfl⟩:=r1;exact⟨some i,H1,I1,.int i t,q⟩
def iM(X:Cx)(r:V->Option Int->Option Int->Hp->VK->Prop):Prop:=
 ∀(pins:List (Addr×Obj)) (s:Shared) (σ:St) (H:Hp) (x:V) (v vl vu:Value) (lo hi:Option Int) (sl:Addr) (Q:VK),Inv X pins σ H s->RelV x v->s.heap.IsSliceOf sl vl vu .none->IsPart vl lo->IsPart vu hi->r x lo hi H Q->
  ∃T id,typeLookup (.type T) "__getitem__" = pure (some (.builtin id))/\s.TypeIs v T/\wpAny (model X.prog X.w) X.A (getItem v (.ref sl)) (EP X pins σ Q) X.xe s
def iM.or{r r':V->Option Int->Option Int->Hp->VK->Prop}(h:iM X r)(h':iM X r'):iM X (λx lo hi H Q=>r x lo hi H Q∨r' x lo hi H Q):=by
 intro pins s σ H x v vl vu lo hi sl Q I rx hs pl pu q;rcases q with q|q
 .exact h pins s σ H x v vl vu lo hi sl Q I rx hs pl pu q
 .exact h' pins s σ H x v vl vu lo hi sl Q I rx hs pl pu q
def Ve(r:V->Option Int->Option Int->Hp->VK->Prop)(te:TE)(tl th:TO):TE:=λσ H Q=>te σ H λx H1=>tl σ H1 λl H2=>th σ H2 λu H3=>r x l u H3 Q
def pY{r:V->Option Int->Option Int->Hp->VK->Prop}(hr:iM X r)(he:PE X e te)(hl:PO X lo tl)(hu:PO X hi th):PE X (.Subscript e (.Slice lo hi none p2) pos) (Ve r te tl th):=by
 intro pins s σ H Q I h;refine Subscript_ (aF (he pins s σ H _ I h) λv s1 ⟨x,H1,I1,r1,q1⟩=>?_);refine wpAny_Slice (aF (hl pins s1 σ H1 _ I1 q1) λvl s2 ⟨l,H2,I2,pl,q2⟩=>aF (hu pins s2 σ H2 _ I2 q2) λvu s3 ⟨u,H3,I3,pu,q3⟩=>?_);rw[evalPart_none];refine wpAny_pure ?_;have I4:Inv X pins σ H3 { s3 with heap:=s3.heap.push { cls:= .type "slice",data:= .fields #[vl,vu,.none] } }:=I3.kept (t':=s3.toks) λb ob q=>Heap.get?_push_of_some _ q;obtain⟨T,id,hT,ht,hg⟩:=hr pins { s3 with heap:=s3.heap.push { cls:= .type "slice",data:= .fields #[vl,vu,.none] } } σ H3 x v vl vu l u s3.heap.objs.size Q I4 r1 (Zt ..) pl pu q3;show wpAny (model X.prog X.w) X.A (subscriptTail e (.Slice lo hi none p2) v (.ref s3.heap.objs.size)) (EP X pins σ Q) X.xe { s3 with heap:=s3.heap.push { cls:= .type "slice",data:= .fields #[vl,vu,.none] } };exact tail_any (ops:=[.ref s3.heap.objs.size,v]) ht hT hg (by with_unfolding_all rfl)
def d7(xs:List V)(lo hi:Option Int):List V:=(xs.drop (HT.aL xs.length 0 lo)).take (HT.aL xs.length xs.length hi-HT.aL xs.length 0 lo)
def MR(xs:List V)(lo hi:Option Int):(d7 xs lo hi).length<=xs.length:=by
 unfold d7;rw[iB,pD];omega
def aa0(K:aA):V->Option Int->Option Int->Hp->VK->Prop:=λx lo hi H Q=>∃a xs,x = .ref a/\aq K H a xs/\
 ¬(HT.aL xs.length 0 lo=0/\HT.aL xs.length xs.length hi=xs.length)/\∀p,H p=none->Q (.ref p) (upd H p (.tup (d7 xs lo hi)))
def R8:iM X (aa0 X.K):=by
 intro pins s σ H x v vl vu lo hi sl Q I rx hs pl pu h;obtain⟨a,xs,rfl,hx,hw,q⟩:=h;cases rx;obtain⟨its,r,ht,hz⟩:=I.tuple hx;have hlen:its.toArray.size=xs.length:=by rw[cI];exact r.length.symm
 refine⟨"tuple",_,rJ.lookup,ht.typeIs,?_⟩;refine HT.afz ht hs pl pu (by rw[hlen];exact hw) ?_ (by rw[hlen];exact hz);rw[hlen];refine⟨.ref s.heap.objs.size,_,I.laid (t':=s.toks) (o:= .tup (d7 xs lo hi)) (λb ob q=>Heap.get?_push_of_some _ q) (aO _) ?_,rfl,q _ (I.hok.fresh (aO _))⟩;exact⟨cJ (MR xs lo hi) hz,_,(r.drop (HT.aL xs.length 0 lo)).take (HT.aL xs.length xs.length hi-HT.aL xs.length 0 lo),IsTup.new _ _⟩
def VF(K:aA):R2:=λx y H Q=>∃a b xs ys,x = .ref a/\y = .ref b/\aq K H a xs/\aq K H b ys/\xs≠[]/\xs.length+ys.length<=sizeLine/\
 (ys=[]->Q (.ref a) H)/\(ys≠[]->∀p,H p=none->Q (.ref p) (upd H p (.tup (xs++ys))))
def Vals.yV{xs:List V}{us:List Value}(r:Vals xs us):us=[]↔xs=[]:=by
 cases r with
 |nil=>simp
 |cons _ _=>simp
def ae8:aX X (binaryOp .Add) (VF X.K):=by
 intro pins s σ H x y v u Q I rx ry h;obtain⟨a,b,xs,ys,rfl,rfl,ha,hb,hx,hz,q1,q2⟩:=h;cases rx;cases ry;obtain⟨its,r1,p1,_⟩:=I.tuple ha;obtain⟨its2,r2,p2,_⟩:=I.tuple hb;refine HT.aeU p1 p2 (λz=>hx (r1.yV.mp z)) (λz=>⟨.ref a,H,I,rfl,q1 (r2.yV.mp z)⟩) (λz=>?_) (by rw[<-r1.length,<-r2.length];exact hz);refine⟨.ref s.heap.objs.size,_,I.laid (t':=s.toks) (o:= .tup (xs++ys)) (λb ob q=>Heap.get?_push_of_some _ q) (aO _) ?_,rfl,q2 (λw=>z (r2.yV.mpr w)) _ (I.hok.fresh (aO _))⟩;exact⟨by rw[gK];exact hz,_,r1.append r2,IsTup.new _ _⟩
end
def nF(n:Nat)(i:Int):Option Nat:=if 0<=i then(if i<n then some i.toNat else none)else if -(n:Int)<=i then some (i+n).toNat else none
def kO{α:Type}(xs:List α)(i:Int):Option α:=(nF xs.length i).bind λj=>xs[j]?
def J0{n:Nat}{i:Int}{j:Nat}(h:nF n i=some j):seqIndex? i n=some j/\j<n/\-(n:Int)<=i/\i<n:=by
 unfold nF at h;by_cases h0:0<=i
 .rw[if_pos h0]at h;by_cases h1:i<n
  .rw[if_pos h1]at h;have e:i.toNat=j:=kY h;exact⟨by rw[seqIndex_of h0 h1,e],⋯,⋯,h1⟩
  .rw[if_neg h1]at h;cases h
 .rw[if_neg h0]at h;by_cases h1:-(n:Int)<=i
  .rw[if_pos h1]at h;have e:(i+n).toNat=j:=kY h;exact⟨by rw[seqIndex_neg ⋯ h1,e],⋯,h1,⋯⟩
  .rw[if_neg h1]at h;cases h
def AW{α:Type}{xs:List α}{i:Int}{v:α}(h:kO xs i=some v):∃j,seqIndex? i xs.length=some j/\xs[j]?=some v/\j<xs.length/\-(xs.length:Int)<=i/\i<xs.length:=by
 unfold kO at h;cases e:nF xs.length i with
 |none=>rw[e]at h;cases h
 |some j=>
  rw[e]at h;obtain⟨h1,h2,h3,h4⟩:=J0 e;exact⟨j,h1,h,h2,h3,h4⟩
def abh{α:Type}{xs:List α}{j:Nat}{v:α}(h:xs[j]?=some v):kO xs (j:Int)=some v:=by
 have hj:j<xs.length:=(List.getElem?_eq_some_iff.mp h).1;have e:nF xs.length (j:Int)=some j:=by
  unfold nF;rw[if_pos ⋯,if_pos ⋯];simp
 unfold kO;rw[e];exact h
def Lp(b:Expr):Prop:=∀o i,subscripted b false o i=operate [o,i] (getItem o i)
def gn(X:Cx)(r:R2):Prop:=
 ∀(value slice:Expr) (pins:List (Addr×Obj)) (s:Shared) (σ:St) (H:Hp) (x y:V) (v u:Value) (Q:VK),Inv X pins σ H s->RelV x v->RelV y u->r x y H Q->
  subscripted slice false v u=operate [v,u] (getItem v u)->wpAny (model X.prog X.w) X.A (subscriptTail value slice v u) (EP X pins σ Q) X.xe s
def FQ(X:Cx)(id:String)(r:V->List V->Hp->VK->Prop):Prop:=
 ∀(pins:List (Addr×Obj)) (s:Shared) (σ:St) (H:Hp) (x:V) (xs:List V) (v:Value) (us:List Value) (Q:VK),Inv X pins σ H s->RelV x v->Vals xs us->r x xs H Q->
  wpAny (model X.prog X.w) X.A (call (.builtin id) (v::us)) (EP X pins σ Q) X.xe s
section
variable {X:Cx} {a b:Expr} {ta tb:TE} {pos:Pos}
def gn.or{r r':R2}(h:gn X r)(h':gn X r'):gn X (λx y H Q=>r x y H Q∨r' x y H Q):=by
 intro value slice pins s σ H x y v u Q I rx ry q hs;rcases q with q|q
 .exact h value slice pins s σ H x y v u Q I rx ry q hs
 .exact h' value slice pins s σ H x y v u Q I rx ry q hs
def aey{r:R2}(hr:gn X r)(ha:PE X a ta)(hb:PE X b tb)(hs:Lp b):PE X (.Subscript a b pos) (qg r ta tb):=by
 intro pins s σ H Q I h;exact Subscript_ (B7 ha hb I h λv u s2 x y H2 I2 rx ry q=>hr a b pins s2 σ H2 x y v u Q I2 rx ry q (hs _ _))
def GP(K:aA):R2:=λx y H Q=>∃p xs i v,x = .ref p/\y = .int i/\aC K H p xs/\kO xs i=some v/\Q v H
def G6(K:aA):R2:=λx y H Q=>∃p xs i v,x = .ref p/\y = .int i/\aq K H p xs/\kO xs i=some v/\Q v H
def QW:R2:=λx y H Q=>∃z i c,x = .str z/\y = .int i/\z.length<=sizeLine/\kO z.cps.toList i=some c/\Q (.str ⟨#[c]⟩) H
def afX:gn X (GP X.K):=by
 intro value slice pins s σ H x y v u Q I rx ry h hs;obtain⟨p,xs,i,z,rfl,rfl,hq,he,q⟩:=h;cases rx;obtain⟨t,rfl⟩:=ry;obtain⟨its,r,pl,hz⟩:=I.list hq;obtain⟨j,h1,h2,h3,h4,h5⟩:=AW he;obtain⟨w,ew,mJ⟩:=r.get h2;have hl:=r.length;have hn:=uP;have fin:EP X pins σ Q w s:=⟨z,H,I,mJ,q⟩;by_cases h0:0<=i
 .have hj:i.toNat=j:=by
   rw[seqIndex_of h0 h5]at h1;exact kY h1
  exact item_listR pl.isList h0 ⋯ (by rw[hj];simpa using ew) fin hs
 .have hj:(i+(its.toArray.size:Int)).toNat=j:=by
   rw[seqIndex_neg ⋯ h4]at h1;rw[cI,<-hl];exact kY h1
  exact subscriptTail_builtinR (x:=w) pl.isList.typeIs slot_list_getitem.lookup
   (wpAny_getItem_list_neg (Q:=λr s'=>r=w/\EP X pins σ Q r s') pl.isList ⋯ (by rw[cI]<;>omega) ⋯ (by rw[hj];simpa using ew) ⟨rfl,fin⟩) hs
def ZQ:gn X (G6 X.K):=by
 intro value slice pins s σ H x y v u Q I rx ry h hs;obtain⟨p,xs,i,z,rfl,rfl,hq,he,q⟩:=h;cases rx;obtain⟨t,rfl⟩:=ry;obtain⟨its,r,pl,hz⟩:=I.tuple hq;obtain⟨j,h1,h2,h3,h4,h5⟩:=AW he;obtain⟨w,ew,mJ⟩:=r.get h2;have hl:=r.length;have hn:=uP;have fin:EP X pins σ Q w s:=⟨z,H,I,mJ,q⟩;exact subscriptTail_builtinR (x:=w) pl.typeIs slot_tuple_getitem.lookup
  (getItem_tuple (j:=j) (Q:=λr s'=>r=w/\EP X pins σ Q r s') pl ⋯ ⋯ (by rw[cI,<-hl];exact h1) (by simpa using ew) ⟨rfl,fin⟩) hs
def SX:gn X QW:=by
 intro value slice pins s σ H x y v u Q I rx ry h hs;obtain⟨z,i,c,rfl,rfl,hz,he,q⟩:=h;obtain⟨t,rfl⟩:=rx;obtain⟨t',rfl⟩:=ry;obtain⟨j,h1,h2,h3,h4,h5⟩:=AW he;have hl:z.cps.toList.length=z.length:=by simp[Str.length]
 rw[hl]at h1 h4 h5;have hn:=uP;exact tail_any (typeIs_str s z t) slot_str_getitem.lookup (getItem_str (c:=c) (by
  have e1:decide (i < -(2^63:Int))=false:=decide_eq_false ⋯;have e2:decide (i≥2^63)=false:=decide_eq_false ⋯;rw[e1,e2,Bool.or_false]) (by rw[h1];simpa using h2) ⟨.str ⟨#[c]⟩,H,I.tok _,⟨_,rfl⟩,q⟩) hs
def rIx(K:aA):R2:=λx y H Q=>GP K x y H Q∨G6 K x y H Q∨QW x y H Q
def Xk:gn X (rIx X.K):=afX.or (ZQ.or SX)
def aee(its:List Value)(n j:Nat)(u:Value):jA (·.setIfInBounds j u) { cls:= .type "list",data:= .seq its.toArray n }={ cls:= .type "list",data:= .seq (its.set j u).toArray n }:=by
 simp[jA]
theorem Inv.lst{pins:List (Addr×Obj)}{σ:St}{H:Hp}{s:Shared}{p:Addr}{xs:List V}(I:Inv X pins σ H s)(h:H p=some (.lst xs)):
  ∃(its:List Value) (n:Nat),Vals xs its/\s.heap.get? p=some { cls:= .type "list",data:= .seq its.toArray n }/\xs.length<=sizeLine:=by
 obtain⟨z,its,n,r,e⟩:=I.hok p _ h;exact⟨its,n,r,e,z⟩
def Inv.ad3{pins:List (Addr×Obj)}{σ:St}{H:Hp}{s:Shared}{p:Addr}{xs ys:List V}{its its':List Value}{n n':Nat}{f:Obj->Obj}(I:Inv X pins σ H s)(h:H p=some (.lst xs))
  (ho:s.heap.get? p=some { cls:= .type "list",data:= .seq its.toArray n }) (hf:f { cls:= .type "list",data:= .seq its.toArray n }={ cls:= .type "list",data:= .seq its'.toArray n' }) (r:Vals ys its') (hz:ys.length<=sizeLine) (t:Nat):
  Inv X pins σ (upd H p (.lst ys)) { s with heap:=s.heap.update p f,toks:=t }:=by
 have e:(s.heap.update p f).get? p=some { cls:= .type "list",data:= .seq its'.toArray n' }:=by
  rw[Heap.get?_update_self f ho (by rw[hf]<;>rfl),hf]
 refine I.write (x:=p) (e:=p) (by rw[h];trivial) (.inl rfl) (λb u hb q=>(Heap.get?_update_other _ _ (nY hb)).trans q) ⟨_,e⟩ ?_;exact⟨hz,its',n',r,e⟩
inductive SSet(o i v:V)(H:Hp)(Q:Hp->Prop):Prop|mk (p:Addr) (xs:List V) (k:Int) (j:Nat) (ho:o = .ref p) (hi:i = .int k) (hp:H p=some (.lst xs)) (hj:nF xs.length k=some j) (q:Q (upd H p (.lst (xs.set j v))))
def acz:V->V->V->Hp->(Hp->Prop)->Prop:=λo i v H Q=>SSet o i v H Q
def set_list:Nj X acz:=by
 intro pins s σ H o i v ov iv u Q I ro ri rv h;obtain⟨p,xs,k,j,rfl,rfl,hp,hj,q⟩:=h;cases ro;obtain⟨t,rfl⟩:=ri;obtain⟨its,n,r,ho,hz⟩:=I.lst hp;obtain⟨h1,h2,h3,h4⟩:=J0 hj;have hl:=r.length;have hn:=uP;have I':Inv X pins σ (upd H p (.lst (xs.set j v))) { s with heap:=s.heap.update p (jA (·.setIfInBounds j u)) }:=
  I.ad3 hp ho (aee its n j u) (r.set rv j) (by rw[yI];exact hz) s.toks
 by_cases h0:0<=k
 .have hk:k.toNat=j:=by
   rw[seqIndex_of h0 h4]at h1;exact kY h1
  exact W.ki_setAt ho h0 ⋯ (by rw[cI,<-hl];exact h4) (by rw[hk];exact⟨_,I',q⟩)
 .have hk:(k+(its.toArray.size:Int)).toNat=j:=by
   rw[seqIndex_neg ⋯ h3]at h1;rw[cI,<-hl];exact kY h1
  exact W.ki_setBack ho ⋯ (by rw[cI,<-hl];exact h3) ⋯ (by rw[hk];exact⟨_,I',q⟩)
def V9(lo hi:Option Int)(n:Nat):(sliceBounds lo hi none n).1=((HT.aL n 0 lo:Nat):Int)/\(sliceBounds lo hi none n).2.1=((HT.aL n n hi:Nat):Int)/\(sliceBounds lo hi none n).2.2=1:=by
 refine⟨?_,?_,rfl⟩
 .cases lo with
  |none=>simp[sliceBounds,HT.aL]
  |some i=>
   simp only[sliceBounds,HT.aL,Qh,show(1:Int)>0 by decide,if_true];by_cases h:i<0
   .simp only[h,if_true]<;>omega
   .simp only[h,if_false]<;>omega
 .cases hi with
  |none=>simp[sliceBounds,HT.aL]
  |some i=>
   simp only[sliceBounds,HT.aL,Qh,show(1:Int)>0 by decide,if_true];by_cases h:i<0
   .simp only[h,if_true]<;>omega
   .simp only[h,if_false]<;>omega
def aaV(its:List Value)(lo hi:Option Int):slicePick its.toArray lo hi none=((its.drop (HT.aL its.length 0 lo)).take (HT.aL its.length its.length hi-HT.aL its.length 0 lo)).toArray:=by
 obtain⟨h1,h2,h3⟩:=V9 lo hi its.toArray.size;unfold slicePick;rw[h1,h2,h3];simp only[sliceRange_one,pick_run,cI]<;>rfl
def abJ(K:aA):V->Option Int->Option Int->Hp->VK->Prop:=λx lo hi H Q=>∃a xs,x = .ref a/\aC K H a xs/\∀p,H p=none->Q (.ref p) (upd H p (.lst (d7 xs lo hi)))
def adC:iM X (abJ X.K):=by
 intro pins s σ H x v vl vu lo hi sl Q I rx hs pl pu h;obtain⟨a,xs,rfl,hx,q⟩:=h;cases rx;obtain⟨its,r,ht,hz⟩:=I.list hx;have hlen:=r.length;refine⟨"list",_,slot_list_getitem.lookup,ht.isList.typeIs,?_⟩;refine wpAny_getItem_list_slice ht.isList hs pl pu .none (by simp) ?_ (by rw[cI]<;>omega);rw[aaV,<-hlen];refine⟨.ref s.heap.objs.size,_,I.laid (t':=s.toks) (o:= .lst (d7 xs lo hi)) (λb ob q=>Heap.get?_push_of_some _ q) (aO _) ?_,rfl,q _ (I.hok.fresh (aO _))⟩;exact⟨cJ (MR xs lo hi) hz,_,0,(r.drop (HT.aL xs.length 0 lo)).take (HT.aL xs.length xs.length hi-HT.aL xs.length 0 lo),Heap.get?_push_size _ rfl⟩
def jc:V->Bool
 |.non=>true
 |.bl _=>true
 |.int _=>true
 |.str _=>true
 |_=>false
def Fx:V->V->Bool
 |.non,.non=>true
 |.bl a,.bl b=>a==b
 |.bl a,.int b=>(if a then 1 else 0)==b
 |.int a,.bl b=>a==(if b then 1 else 0)
 |.int a,.int b=>a==b
 |.str a,.str b=>a==b
 |_,_=>false
def Vt{A:Around}{s:Shared}{y x:V}{u v:Value}(ry:RelV y u)(rx:RelV x v)(fy:jc y=true)(fx:jc x=true):SeqAt.EqAt A s u v (Fx y x):=by
 cases y with
 |non=>
  cases ry;cases x with
  |non=>cases rx;exact SeqAt.EqAt.same _
  |bl b=>cases rx;exact SeqAt.EqAt.none_bool b
  |int b=>obtain⟨t,rfl⟩:=rx;exact SeqAt.EqAt.none_int b t
  |str b=>obtain⟨t,rfl⟩:=rx;exact SeqAt.EqAt.none_str b t
  |_=>exact absurd (show false=true from fx) cV
 |bl a=>
  cases ry;cases x with
  |non=>cases rx;exact SeqAt.EqAt.bool_none a
  |bl b=>cases rx;exact SeqAt.EqAt.bool_bool a b
  |int b=>obtain⟨t,rfl⟩:=rx;exact SeqAt.EqAt.bool_int a b t
  |str b=>obtain⟨t,rfl⟩:=rx;exact SeqAt.EqAt.bool_str a b t
  |_=>exact absurd (show false=true from fx) cV
 |int a=>
  obtain⟨t',rfl⟩:=ry;cases x with
  |non=>cases rx;exact SeqAt.EqAt.int_none a t'
  |bl b=>cases rx;exact SeqAt.EqAt.int_bool a t' b
  |int b=>obtain⟨t,rfl⟩:=rx;exact SeqAt.EqAt.int_int a t' b t
  |str b=>obtain⟨t,rfl⟩:=rx;exact SeqAt.EqAt.int_str a t' b t
  |_=>exact absurd (show false=true from fx) cV
 |str a=>
  obtain⟨t',rfl⟩:=ry;cases x with
  |non=>cases rx;exact SeqAt.EqAt.str_none a t'
  |bl b=>cases rx;exact SeqAt.EqAt.str_bool a t' b
  |int b=>obtain⟨t,rfl⟩:=rx;exact SeqAt.EqAt.str_int a t' b t
  |str b=>obtain⟨t,rfl⟩:=rx;exact SeqAt.EqAt.str_str a t' b t
  |_=>exact absurd (show false=true from fx) cV
 |_=>exact absurd (show false=true from fy) cV
def ab1:gG X (.type "list") (λxs H Q=>∃p ys,xs=[.ref p]/\(aC X.K H p ys∨aq X.K H p ys)/\∀l,H l=none->Q (.ref l) (upd H l (.lst ys))):=by
 intro pins s σ H xs us Q I r h;obtain⟨p,ys,rfl,hq,q⟩:=h;obtain⟨u,rfl,rx⟩:=vals1 r;cases rx;have fin:∀(its:List Value),Vals ys its->ys.length<=sizeLine->∀(h':Heap) (c':Nat),(∀b o',s.heap.get? b=some o'->h'.get? b=some o')->
   h'.get? s.heap.objs.size=some { cls:= .type "list",dict:=none,data:= .seq its.toArray c',slots:=#[] }->EP X pins σ Q (.ref s.heap.objs.size) { s with heap:=h' }:=λits r' hz h' c' kp e=>
  ⟨.ref s.heap.objs.size,_,I.laid (t':=s.toks) kp (aO _) (show cY X.prog X.w _ h' _ (.lst ys)from⟨hz,its,c',r',e⟩),rfl,q _ (I.hok.fresh (aO _))⟩
 rcases hq with hq|hq
 .obtain⟨its,r',pl,hz⟩:=I.list hq;have hlen:=r'.length;obtain⟨o,ho,hc,n,hd⟩:=pl.isList;exact call_list_seq p (.inl rfl) ho hc hd (λh' c' kp e=>fin its r' hz h' c' kp e) (by simp only[cI]<;>omega)
 .obtain⟨its,r',pl,hz⟩:=I.tuple hq;have hlen:=r'.length;obtain⟨o,ho,hc,n,hd⟩:=pl;exact call_list_seq p (.inr rfl) ho hc hd (λh' c' kp e=>fin its r' hz h' c' kp e) (by simp only[cI]<;>omega)
def Sg:gG X (.type "tuple") (λxs H Q=>∃p ys,xs=[.ref p]/\((aC X.K H p ys/\∀l,H l=none->Q (.ref l) (upd H l (.tup ys)))∨(aq X.K H p ys/\Q (.ref p) H))):=by
 intro pins s σ H xs us Q I r h;obtain⟨p,ys,rfl,h⟩:=h;obtain⟨u,rfl,rx⟩:=vals1 r;cases rx;rcases h with⟨hq,q⟩|⟨hq,q⟩
 .obtain⟨its,r',pl,hz⟩:=I.list hq;have hlen:=r'.length;refine call_tuple_list pl.isList (λh' kp=>?_) (by simp only[cI]<;>omega);have I1:Inv X pins σ H { s with heap:=h' }:=I.kept (t':=s.toks) kp;have I2:Inv X pins σ (upd H h'.objs.size (.tup ys)) { s with heap:=h'.push { cls:= .type "tuple",data:= .seq its.toArray } }:=
   I1.laid (t':=s.toks) (λb o e=>Heap.get?_push_of_some _ e) (aO _) (show cY X.prog X.w _ _ _ (.tup ys)from⟨hz,its,r',IsTup.new _ _⟩)
  exact⟨.ref h'.objs.size,_,I2,rfl,q _ (I1.hok.fresh (aO _))⟩
 .obtain⟨its,r',pl,hz⟩:=I.tuple hq;exact call_tuple_same pl ⟨.ref p,H,I,rfl,q⟩
def Cy(K:aA)(T:String)(x:V)(H:Hp):Prop:=match x with
 |.str _=>T = "str"
 |.int _=>T = "int"
 |.ref p=>(T = "list" /\ ∃xs,aC K H p xs)∨(T = "tuple" /\ ∃o,K.lookup p=some o/\o.cls = .type "tuple" /\ o.dict=none)∨
   (T = "dict" /\ ((∃kvs,H p=some (.dK kvs))∨∃kvs,H p=some (.dT kvs)))∨(T = "set" /\ ∃S n,H p=some (.set S n))
 |_=>False
def Ob{pins:List (Addr×Obj)}{σ:St}{H:Hp}{s:Shared}{T:String}{x:V}{v:Value}(I:Inv X pins σ H s)(r:RelV x v)(ty:Cy X.K T x H):
  s.TypeIs v T/\∀a,v = .ref a->∃ob,s.heap.get? a=some ob/\ob.dict=none:=by
 cases x with
 |str z=>
  obtain⟨t,rfl⟩:=r;cases (show T = "str" from ty);exact⟨typeIs_str s z t,λ_ e=>nomatch e⟩
 |int i=>
  obtain⟨t,rfl⟩:=r;cases (show T = "int" from ty);exact⟨typeIs_int s i t,λ_ e=>nomatch e⟩
 |ref p=>
  cases r;rcases ty with⟨rfl,xs,hq⟩|⟨rfl,o,hk,hc,hd⟩|⟨rfl,hk⟩|⟨rfl,S,n,hk⟩
  .obtain⟨its,_,pl,_⟩:=I.list hq;refine⟨pl.isList.typeIs,λa e=>?_⟩;cases e;obtain⟨o,n,e,c,hd,_⟩:=pl;exact⟨o,e,hd⟩
  .refine⟨⟨o,I.rG p o hk,hc⟩,λa e=>?_⟩;cases e;exact⟨o,I.rG _ o hk,hd⟩
  .have z:∃o,s.heap.get? p=some o/\o.ExactDict:=by
    rcases hk with⟨kvs,hk⟩|⟨kvs,hk⟩
    .obtain⟨_,_,_,_,o,_,_,e,ex,_⟩:=I.hok p _ hk;exact⟨o,e,ex⟩
    .obtain⟨_,_,_,_,o,_,_,e,ex,_⟩:=I.hok p _ hk;exact⟨o,e,ex⟩
   obtain⟨o,e,ex⟩:=z;refine⟨⟨o,e,ex.1⟩,λa e2=>?_⟩;cases e2;exact⟨o,e,ex.2.1⟩
  .obtain⟨o,_,_,_,e,ex,_⟩:=I.hok p _ hk;refine⟨⟨o,e,ex.1⟩,λa e2=>?_⟩;cases e2;exact⟨o,e,ex.2.1⟩
 |_=>exact False.elim ty
def NT(K:aA)(T:String)(r:V->List V->Hp->VK->Prop)(to:TE):TE:=λσ H Q=>to σ H λx H1=>Cy K T x H1/\r x [] H1 Q
def JT(K:aA)(T:String)(r:V->List V->Hp->VK->Prop)(to:TE)(t:TA):TE:=λσ H Q=>to σ H λx H1=>Cy K T x H1/\t σ H1 λxs H2=>r x xs H2 Q
variable {o e:Expr} {es:List Expr} {to:TE} {t:TA} {name:Str} {apos cpos:Pos} {T id:String} {r:V->List V->Hp->VK->Prop}
def Uj(pa:PlainAttrs T)(slot:Slot T name id)(hty:typeOf (.builtin id)=pure (.type "method_descriptor"))(hm:FQ X id r)(ho:PE X o to)
  (hbase:attributeBase o name X.env (eval o X.env)=eval o X.env:=by rfl) (hline:(apos.endLine==cpos.line)=true:=by rfl):PE X (.Call (.Attribute o name apos) [] [] cpos) (NT X.K T r to):=by
 intro pins s σ H Q I h;refine wpAny_Call_method0_late hbase hline (aF (ho pins s σ H _ I h) λv s1 ⟨x,H1,I1,r1,ty,q1⟩=>?_);obtain⟨h1,h2⟩:=Ob I1 r1 ty;exact⟨T,id,pa,slot,hty,h1,h2,Pr rfl (PySem.evalArgs_none (hm pins s1 σ H1 x [] v [] Q I1 r1 .nil q1))⟩
def Sv(pa:PlainAttrs T)(slot:Slot T name id)(hty:typeOf (.builtin id)=pure (.type "method_descriptor"))(hm:FQ X id r)(ho:PE X o to)(ha:PA X (e::es) t)
  (hbase:attributeBase o name X.env (eval o X.env)=eval o X.env:=by rfl)
  (hfew:((backTo cpos (starEach (e::es) X.env)).all (λx=>!x.1)&&(backToKw cpos (keywordEach [] X.env)).all (λx=>x.1.isSome)
   && decide ((e::es).length+([]:List Keyword).length+(if([]:List Keyword).isEmpty then 0 else 1)<30))=true:=by rfl)
  (hline:(apos.endLine==cpos.line)=true:=by rfl) (hs:starEach (e::es) X.env=(false,eval e X.env)::starEach es X.env:=by rfl) (hplain:(backTo cpos (starEach es X.env)).any (·.1)=false:=by rfl):
  PE X (.Call (.Attribute o name apos) (e::es) [] cpos) (JT X.K T r to t):=by
 intro pins s σ H Q I h;refine wpAny_Call_method_late hbase hfew hline rfl (aF (ho pins s σ H _ I h) λv s1 ⟨x,H1,I1,r1,ty,q1⟩=>?_);obtain⟨h1,h2⟩:=Ob I1 r1 ty;refine⟨T,id,pa,slot,hty,h1,h2,?_⟩;have hA:=ha cpos pins s1 σ H1 _ I1 q1;rw[hs]at hA⊢;refine Pr (by show(false||(backTo cpos (starEach es X.env)).any (·.1))=false;rw[hplain]<;>rfl) (KR ?_);exact aF hA λus s2 ⟨vs,H2,I2,r2,q2⟩=>hm pins s2 σ H2 x vs v us Q I2 r1 r2 q2
end
def Z8(X:Cx)(id:String)(r:V->List V->Hp->VK->Prop):Prop:=
 ∀(pins:List (Addr×Obj)) (s:Shared) (σ:St) (H:Hp) (x:V) (xs:List V) (v:Value) (us:List Value) (Q:VK),Inv X pins σ H s->RelV x v->Vals xs us->r x xs H Q->
  wpAny (model X.prog X.w) X.A (call (.builtin id) (v::us)) (EP X pins σ Q) X.xe s
def Vals.one{x:V}{us:List Value}(h:Vals [x] us):∃u,us=[u]/\RelV x u:=by
 cases h with
 |cons r h=>cases h;exact⟨_,rfl,r⟩
theorem Vals.rep{xs:List V}{us:List Value}(h:Vals xs us):∀k:Nat,Vals (fu k xs).flatten (fu k us).flatten
 |0=> .nil
 |k+1=>by
  rw[v8,v8,w6,w6];exact Vals.append h (Vals.rep h k)
theorem foldl_rep(its:List Value):∀(k:Nat) (acc:List Value),
  Er (λx1 x2=>x1++x2) acc.toArray (fu k its.toArray)=(acc++(fu k its).flatten).toArray
 |0,acc=>by simp
 |k+1,acc=>by
  have e:acc.toArray++its.toArray=(acc++its).toArray:=by simp
  have e2:(acc++its)++(fu k its).flatten=acc++(fu (k+1) its).flatten:=by
   rw[v8,w6,fG]
  rw[<-e2,<-foldl_rep its k (acc++its),<-e,v8,JG]
section
variable {X:Cx} {pins:List (Addr×Obj)} {σ:St} {H:Hp} {s:Shared} {l b:Addr} {xs ys zs:List V}
def Inv.Sd{its its':List Value}{n:Nat}{f:Array Value->Array Value}{t':Nat}(I:Inv X pins σ H s)(hH:H l=some (.lst xs))
  (e:s.heap.get? l=some { cls:= .type "list",data:= .seq its.toArray n }) (hf:f its.toArray=its'.toArray) (hv:Vals ys its') (hz:ys.length<=sizeLine):
  Inv X pins σ (upd H l (.lst ys)) { s with heap:=s.heap.update l (jA f),toks:=t' }:=by
 have q:=PySem.IsL.update e f;rw[hf]at q;refine I.write (x:=l) (e:=l) (by rw[hH];exact trivial) (.inl rfl) (λb' u hb hu=>(Heap.get?_update_other s.heap (jA f) (nY hb)).trans hu) ⟨_,q⟩ ?_;exact⟨hz,its',_,hv,q⟩
def Inv.Bg{its:List Value}{t':Nat}(I:Inv X pins σ H s)(hv:Vals ys its)(hz:ys.length<=sizeLine):
  Inv X pins σ (upd H s.heap.objs.size (.lst ys)) { s with heap:=s.heap.push { cls:= .type "list",data:= .seq its.toArray },toks:=t' }:=
 I.laid (λ_ _ q=>Heap.get?_push_of_some _ q) (aO _) ⟨hz,its,0,hv,Heap.get?_push_size _ rfl⟩
theorem Inv.fresh(I:Inv X pins σ H s):H s.heap.objs.size=none:=I.hok.fresh (aO _)
def Inv.vI(I:Inv X pins σ H s)(hH:H l=some (.lst xs)):xs.length<=sizeLine/\∃(its:List Value) (n:Nat),Vals xs its/\xs.length=its.length/\s.heap.get? l=some { cls:= .type "list",data:= .seq its.toArray n }:=by
 obtain⟨z,its,n,r,e⟩:=I.hok l _ hH;exact⟨z,its,n,r,r.length,e⟩
def ac6{n:Nat}(h:n<=sizeLine):Builtin.List.listTooLong n=false:=by
 unfold Builtin.List.listTooLong;exact decide_eq_false ⋯
end
section
variable {X:Cx}
inductive W6(x:V)(vs:List V)(H:Hp)(Q:VK):Prop|mk (l:Addr) (xs:List V) (y:V) (hx:x = .ref l) (hv:vs=[y]) (hl:H l=some (.lst xs)) (hz:xs.length<sizeLine) (q:Q .non (upd H l (.lst (xs++[y]))))
def K7:V->List V->Hp->VK->Prop:=λx vs H Q=>W6 x vs H Q
def Gs:Z8 X "list.append" K7:=by
 intro pins s σ H x vs v us Q I rx rv h;obtain⟨l,xs,y,rfl,rfl,hH,hz,q⟩:=h;cases rx;obtain⟨u,rfl,ru⟩:=rv.one;obtain⟨z,its,n,r,hl,e⟩:=I.vI hH;refine call_meets F.slot_list_append ⟨_,e,rfl⟩ F.entry_list_append (F.args_list_append_2 _ _) (PySem.list_append l its.toArray n u (by rw[cI];omega)) ⟨e,?_⟩;refine⟨.non,_,I.Sd (its':=its++[u]) hH e (by simp) (r.append (.cons ru .nil)) ?_,rfl,q⟩;rw[gK,List.length_singleton];omega
def ade:R2:=λx y H Q=>∃l b xs zs,x = .ref l/\y = .ref b/\H l=some (.lst xs)/\H b=some (.lst zs)/\xs.length+zs.length<=sizeLine/\∀p,H p=none->Q (.ref p) (upd H p (.lst (xs++zs)))
def Vj:aX X (binaryOp .Add) ade:=by
 intro pins s σ H x y v u Q I rx ry h;obtain⟨l,b,xs,zs,rfl,rfl,hH,hB,hz,q⟩:=h;cases rx;cases ry;obtain⟨z,its,n,r,hl,e⟩:=I.vI hH;obtain⟨z2,its2,n2,r2,hl2,e2⟩:=I.vI hB;refine PySem.P.add_list e e2 ?_ (by rw[cI,cI];omega);have ea:its.toArray++its2.toArray=(its++its2).toArray:=by simp
 rw[ea];exact⟨.ref _,_,I.Bg (t':=s.toks) (r.append r2) (by rw[gK];omega),rfl,q _ I.fresh⟩
def Zu:R2:=λx y H Q=>∃l k xs,x = .ref l/\y = .int k/\H l=some (.lst xs)/\-(2^63)<=k/\k<2^63/\xs.length*k.toNat<=sizeLine/\
 ∀p,H p=none->Q (.ref p) (upd H p (.lst (fu k.toNat xs).flatten))
def len_rep{α:Type}(xs:List α)(k:Nat):(fu k xs).flatten.length=k*xs.length:=by
 induction k with
 |zero=>simp
 |succ k ih=>rw[v8,w6,gK,ih,wO,Ah]
def adv:aX X (binaryOp .Mult) Zu:=by
 intro pins s σ H x y v u Q I rx ry h;obtain⟨l,k,xs,rfl,rfl,hH,h1,h2,hz,q⟩:=h;cases rx;obtain⟨t,rfl⟩:=ry;obtain⟨z,its,n,r,hl,e⟩:=I.vI hH;have hlen:its.toArray.size*k.toNat<=sizeLine:=by rw[cI,<-hl];exact hz
 have hcap:¬its.toArray.size*k.toNat>(2^63-1)/8:=by
  have:(sizeLine:Nat)<=(2^63-1)/8:=∅;omega
 have hfit:¬(!Builtin.List.listFitsIndex k)=true:=by
  rw[fitsIndex_both h1 h2];exact cV
 have agi:¬Builtin.List.listTooLong (its.toArray.size*k.toNat)=true:=by
  rw[ac6 hlen];exact cV
 have hnew:Er (λx1 x2=>x1++x2) #[] (fu (if its.toArray.isEmpty=true then 0 else k.toNat) its.toArray)=(fu k.toNat its).flatten.toArray:=by
  have f0:∀m:Nat,Er (λx1 x2=>x1++x2) #[] (fu m its.toArray)=(fu m its).flatten.toArray:=λm=>by
   have:=foldl_rep its m [];rw[Hw]at this;exact this
  rw[f0];cases its with
  |nil=>simp
  |cons a r'=>rw[if_neg (by simp)]
 refine wpAny_binaryOp_repeat_ref (T:= "list") (U:= "int") ∅ ⟨_,e,rfl⟩ (λs'=>typeIs_int s' k t) noFill_list_mul F.fills_int_mul HY repeat_list F.slot_int_index.lookup
  (call_meets HY (typeIs_int s k t) F.entry_int_rmul (F.args_int_rmul_2 _ _) (int___rmul___int_list k t l its.toArray n)
   ⟨e,rfl,⟨_,e,rfl⟩,call_meets F.slot_list_mul ⟨_,e,rfl⟩ F.entry_list_mul (F.args_list_mul_2 _ _) (AutoListH.list___mul___list_int_3 l its.toArray n k t hfit hcap agi) ⟨e,?_⟩⟩)
 rw[hnew];exact⟨.ref _,_,I.Bg (t':=s.toks) (r.rep k.toNat) (by rw[len_rep,tZ];exact hz),rfl,q _ I.fresh⟩
end
section
variable {prog:Program} {w:World} {A:Around} {E:Value->Shared->Prop} {s:Shared}
end
section
variable {X:Cx}
end
section
variable {κ:Type} [DecidableEq κ]
def bU(kvs:List (κ×V))(k:κ):Option V:=(kvs.find? λkv=>decide (kv.1=k)).map (·.2)
def putK(kvs:List (κ×V))(k:κ)(v:V):List (κ×V):=
 if(kvs.any λkv=>decide (kv.1=k))=true then kvs.map (λkv=>if kv.1=k then(kv.1,v)else kv)else kvs++[(k,v)]
def jk{p:κ×V}{r:List (κ×V)}{k:κ}(e:p.1=k):bU (p::r) k=some p.2:=by simp[bU,List.find?_cons,e]
def jy{p:κ×V}{r:List (κ×V)}{k:κ}(e:¬p.1=k):bU (p::r) k=bU r k:=by simp[bU,List.find?_cons,e]
theorem vA(k:κ):∀kvs:List (κ×V),(kvs.any λkv=>decide (kv.1=k))=(bU kvs k).isSome
 |[]=>rfl
 |p::r=>by
  rw[vq];by_cases e:p.1=k
  .simp only[jk e,decide_eq_true e,Bool.true_or,Option.isSome_some]
  .rw[jy e,decide_eq_false e,Bool.false_or];exact vA k r
theorem Kw(k j:κ)(y:V):∀kvs:List (κ×V),bU (kvs.map λkv=>if kv.1=k then(kv.1,y)else kv) j=(bU kvs j).map λx=>if j=k then y else x
 |[]=>rfl
 |p::r=>by
  have ih:=Kw k j y r;rw[iY];by_cases h:p.1=k
  .rw[if_pos h];by_cases e:p.1=j
   .rw[jk (p:=(p.1,y)) e,jk e,uT,if_pos (e.symm.trans h)]
   .rw[jy (p:=(p.1,y)) e,jy e,ih]
  .rw[if_neg h];by_cases e:p.1=j
   .rw[jk (p:=p) e,jk e,uT,if_neg (λz=>h (e.trans z))]
   .rw[jy (p:=p) e,jy e,ih]
theorem HD(k j:κ)(y:V):∀kvs:List (κ×V),bU kvs k=none->bU (kvs++[(k,y)]) j=if j=k then some y else bU kvs j
 |[],_=>by
  by_cases e:k=j
  .rw[if_pos e.symm];exact jk (p:=(k,y)) e
  .rw[if_neg (λz=>e z.symm)];exact jy (p:=(k,y)) e
 |p::r,hn=>by
  rw[List.cons_append];have hk:¬p.1=k:=λz=>by rw[jk z]at hn;cases hn
  rw[jy hk]at hn;have ih:=HD k j y r hn;by_cases e:p.1=j
  .rw[jk e,jk e,if_neg (λz=>hk (e.trans z))]
  .rw[jy e,jy e,ih]
def Jx(kvs:List (κ×V))(k j:κ)(y:V):bU (putK kvs k y) j=if j=k then some y else bU kvs j:=by
 unfold putK;by_cases a:(kvs.any λkv=>decide (kv.1=k))=true
 .rw[if_pos a,Kw];rw[vA]at a;by_cases e:j=k
  .obtain⟨x,hx⟩:=Rg.mp a;rw[if_pos e,e,hx,uT,if_pos rfl]
  .rw[if_neg e];cases bU kvs j with
   |none=>rfl
   |some x=>rw[uT,if_neg e]
 .rw[if_neg a];refine HD k j y kvs ?_;rw[vA]at a;cases q:bU kvs k with
  |none=>rfl
  |some x=>rw[q]at a;exact(a rfl).elim
def DQ(kvs:List (κ×V))(k:κ)(v:V):(putK kvs k v).length<=kvs.length+1:=by
 unfold putK;split
 .rw[aM];omega
 .rw[gK,tu,Ox];omega
def aew{kvs:List (κ×V)}{k:κ}(v:V)(h:bU kvs k=none):putK kvs k v=kvs++[(k,v)]:=by
 unfold putK;rw[vA,h];exact if_neg ∅
def gw.Ea{o:Option V}{u:Option Value}(r:gw o u):o.isSome=u.isSome:=by
 cases o with
 |none=>cases u with
  |none=>rfl
  |some _=>exact(show False from r).elim
 |some _=>cases u with
  |none=>exact(show False from r).elim
  |some _=>rfl
def KV.val{kvs:List (κ×V)}{vs:List (κ×Value)}(r:KV kvs vs)(k:κ):gw (bU kvs k) (valueAt vs k):=by
 unfold KV at r;induction r with
 |nil=>exact True.intro
 |@cons p q ps qs h t ih=>
  obtain⟨h1,h2⟩:=h;by_cases e:p.1=k
  .have e':q.1=k:=h1.symm.trans e;have b:valueAt (q::qs) k=some q.2:=by simp[valueAt,List.find?_cons,e']
   rw[jk e,b];exact h2
  .have e':¬q.1=k:=λz=>e (h1.trans z);have b:valueAt (q::qs) k=valueAt qs k:=by simp[valueAt,List.find?_cons,e']
   rw[jy e,b];exact ih
theorem KV.any{kvs:List (κ×V)}{vs:List (κ×Value)}(r:KV kvs vs)(k:κ):(kvs.any λkv=>decide (kv.1=k))=vs.any λkv=>decide (kv.1=k):=by
 unfold KV at r;induction r with
 |nil=>rfl
 |cons h t ih=>rw[vq,vq,ih,h.1]
def KV.repl{kvs:List (κ×V)}{vs:List (κ×Value)}(r:KV kvs vs)(k:κ){y:V}{u:Value}(ry:RelV y u):
  KV (kvs.map λkv=>if kv.1=k then(kv.1,y)else kv) (vs.map λkv=>if kv.1=k then(kv.1,u)else kv):=by
 unfold KV at r⊢;induction r with
 |nil=>exact .nil
 |@cons p q ps qs h t ih=>
  rw[iY,iY];refine .cons ?_ ih;obtain⟨h1,h2⟩:=h;by_cases e:p.1=k
  .rw[if_pos e,if_pos (h1.symm.trans e)];exact⟨h1,ry⟩
  .rw[if_neg e,if_neg (λz=>e (h1.trans z))];exact⟨h1,h2⟩
def KV.put{kvs:List (κ×V)}{vs:List (κ×Value)}(r:KV kvs vs)(k:κ){y:V}{u:Value}(ry:RelV y u):KV (putK kvs k y) (stored vs k u):=by
 unfold putK stored;rw[r.any k];by_cases e:(vs.any λkv=>decide (kv.1=k))=true
 .rw[if_pos e,if_pos e];exact r.repl k ry
 .rw[if_neg e,if_neg e];exact Paired.snoc r ⟨rfl,ry⟩
theorem KV.length{kvs:List (κ×V)}{vs:List (κ×Value)}(r:KV kvs vs):kvs.length=vs.length:=Paired.length r
end
def vh{P:Program}{w:World}{k:Key}{u:Value}(r:RelV (kV k) u):(dN P w).is k u=true:=by
 cases k with
 |inl i=>obtain⟨t,e⟩:=(show ∃t,u=Value.int i t from r);subst e;exact aad P w i t
 |inr x=>obtain⟨t,e⟩:=(show ∃t,u=Value.str x t from r);subst e;exact acN P w x t
theorem Kg{P:Program}{w:World}:∀{ks:List Key} {us:List Value},Vals (ks.map kV) us->ItemsAre (dN P w) ks us
 |[],_,r=>by rw[Ay]at r;cases r;exact .nil
 |k::ks,_,r=>by
  rw[iY]at r;cases r with
  |cons h t=>exact .cons (vh h) (Kg t)
abbrev KT(H:Hp):List (List Key×V)->List (List Key×Addr×Value)->Prop:=Paired λp q=>p.1=q.1/\H q.2.1=some (.tup (p.1.map kV))/\RelV p.2 q.2.2
def KT.val{H:Hp}{kvs:List (List Key×V)}{xs:List (List Key×Addr×Value)}(r:KT H kvs xs)(k:List Key):gw (bU kvs k) ((atKey xs k).map (·.2)):=by
 induction r with
 |nil=>exact True.intro
 |@cons p q ps qs h t ih=>
  obtain⟨h1,_,h2⟩:=h;by_cases e:p.1=k
  .have e':q.1=k:=h1.symm.trans e;have b:atKey (q::qs) k=some q.2:=by simp[atKey,List.find?_cons,e']
   rw[jk e,b];exact h2
  .have e':¬q.1=k:=λz=>e (h1.trans z);have b:atKey (q::qs) k=atKey qs k:=by simp[atKey,List.find?_cons,e']
   rw[jy e,b];exact ih
def KT.repl{H:Hp}{kvs:List (List Key×V)}{xs:List (List Key×Addr×Value)}(r:KT H kvs xs)(k:List Key){y:V}{u:Value}(ry:RelV y u):
  KT H (kvs.map λkv=>if kv.1=k then(kv.1,y)else kv) (xs.map (putAt k u)):=by
 induction r with
 |nil=>exact .nil
 |@cons p q ps qs h t ih=>
  rw[iY,iY];refine .cons ?_ ih;obtain⟨h1,h2,h3⟩:=h;unfold putAt;by_cases e:p.1=k
  .rw[if_pos e,if_pos (h1.symm.trans e)];exact⟨h1,h2,ry⟩
  .rw[if_neg e,if_neg (λz=>e (h1.trans z))];exact⟨h1,h2,h3⟩
def KT.put{H:Hp}{kvs:List (List Key×V)}{xs:List (List Key×Addr×Value)}(r:KT H kvs xs)(k:List Key){b:Addr}{y:V}{u:Value}(hb:H b=some (.tup (k.map kV)))(ry:RelV y u):
  KT H (putK kvs k y) (storedH xs k b u):=by
 have e:(kvs.any λkv=>decide (kv.1=k))=(atKey xs k).isSome:=by
  rw[vA,(r.val k).Ea,Qz]
 unfold putK storedH;rw[e];by_cases q:(atKey xs k).isSome=true
 .rw[if_pos q,if_pos q];exact r.repl k ry
 .rw[if_neg q,if_neg q];exact Paired.snoc r ⟨rfl,hb,ry⟩
def KT.keeps{H H':Hp}{kvs:List (List Key×V)}{xs:List (List Key×Addr×Value)}(r:KT H kvs xs)(ht:∀b ys,H b=some (.tup ys)->H' b=some (.tup ys)):KT H' kvs xs:=
 Paired.CD r λ_ _ z=>⟨z.1,ht _ _ z.2.1,z.2.2⟩
section
variable {P:Program} {w:World} {H:Hp} {h:Heap} {a:Addr}
def Gw{u:HO}(ok:bY P w H h)(e:Rd H a u):cY P w H h a u:=e.ok ok
def Aw{kvs:List (Key×V)}(ok:bY P w H h)(e:Rd H a (.dK kvs)):kvs.length<=sizeLine/\(a==sysModules)=false/\∃vs,KV kvs vs/\h.DictOf (dN P w) a vs:=
 show cY P w H h a (.dK kvs)from Gw ok e
def PX{kvs:List (Key×V)}(ok:bY P w H h)(e:H a=some (.dK kvs)):kvs.length<=sizeLine/\(a==sysModules)=false/\∃vs,KV kvs vs/\h.DictOf (dN P w) a vs:=Aw ok (.inl e)
def zG{ks:List Key}(ok:bY P w H h)(e:H a=some (.tup (ks.map kV))):(tupleKind (dN P w)).is h ks a:=by
 obtain⟨_,its,r,o,h1,h2,n,h3⟩:=(show cY P w H h a (.tup (ks.map kV))from ok a _ e);exact⟨o,its.toArray,n,h1,h2,h3,by simpa using Kg r⟩
def Av{kvs:List (List Key×V)}(ok:bY P w H h)(e:Rd H a (.dT kvs)):kvs.length<=sizeLine/\(a==sysModules)=false/\
  ∃xs,KT H kvs xs/\h.DictOfH (tupleKind (dN P w)) a xs:=by
 obtain⟨z,y,xs,r,o,es,ep,h1,h2,h3,h4,h5⟩:=(show cY P w H h a (.dT kvs)from Gw ok e);refine⟨z,y,xs,r,o,es,ep,h1,h2,h3,h4,λx hx=>?_,h5⟩;have all:∀{l:List (List Key×V)} {m:List (List Key×Addr×Value)},KT H l m->∀x∈m,(tupleKind (dN P w)).is h x.1 x.2.1:=by
  intro l m q;induction q with
  |nil=>intro x hx;exact nomatch hx
  |@cons p q ps qs hq t ih=>
   intro x hx;rcases jg.mp hx with e|hx
   .subst e;exact zG ok (by rw[<-hq.1];exact hq.2.1)
   .exact ih x hx
 exact all r x hx
def Ql{kvs:List (List Key×V)}(ok:bY P w H h)(e:H a=some (.dT kvs)):kvs.length<=sizeLine/\(a==sysModules)=false/\
  ∃xs,KT H kvs xs/\h.DictOfH (tupleKind (dN P w)) a xs:=Av ok (.inl e)
end
def gZ(H:Hp)(a:Addr)(y:V)(r:Option V):Prop:=
 (∃kvs k,Rd H a (.dK kvs)/\y=kV k/\r=bU kvs k)∨∃kvs k b,Rd H a (.dT kvs)/\y = .ref b/\H b=some (.tup (k.map kV))/\r=bU kvs k
def vd(H:Hp)(a:Addr)(y v:V)(H':Hp):Prop:=
 (∃kvs k,H a=some (.dK kvs)/\y=kV k/\kvs.length<sizeLine/\H'=upd H a (.dK (putK kvs k v)))∨
 ∃kvs k b,H a=some (.dT kvs)/\y = .ref b/\H b=some (.tup (k.map kV))/\kvs.length<sizeLine/\H'=upd H a (.dT (putK kvs k v))
theorem gZ.k{H:Hp}{a:Addr}{kvs:List (Key×V)}{k:Key}(e:H a=some (.dK kvs)):gZ H a (kV k) (bU kvs k):= .inl ⟨kvs,k,.inl e,rfl,rfl⟩
def gZ.t{H:Hp}{a b:Addr}{kvs:List (List Key×V)}{k:List Key}(e:H a=some (.dT kvs))(eb:H b=some (.tup (k.map kV))):gZ H a (.ref b) (bU kvs k):= .inr ⟨kvs,k,b,.inl e,rfl,eb,rfl⟩
def vd.t{H:Hp}{a b:Addr}{kvs:List (List Key×V)}{k:List Key}{v:V}(e:H a=some (.dT kvs))(eb:H b=some (.tup (k.map kV)))(hl:kvs.length<sizeLine):
  vd H a (.ref b) v (upd H a (.dT (putK kvs k v))):= .inr ⟨kvs,k,b,e,rfl,eb,hl,rfl⟩
section
variable {X:Cx} {pins:List (Addr×Obj)} {σ:St} {H:Hp} {s:Shared} {a:Addr} {y v:V} {u r:Value} {o:Option V} {A:Around} {E:Value->Shared->Prop}
def Inv.big(I:Inv X pins σ H s):sysModules<s.heap.objs.size:=by
 have h:mainGlobals<s.heap.objs.size:=(I.mod.glob.keeps I.bk).lt;exact Nat.lt_trans ∅ h
def Zd{Q:Value->Shared->Prop}(hu:A.units+1<cLine)(I:Inv X pins σ H s)(g:gZ H a y (some v))(ry:RelV y u)(h:∀w' s',Inv X pins σ H s'->RelV v w'->Q w' s'):
  wpAny (model X.prog X.w) A (getItem (.ref a) u) Q E s:=by
 rcases g with⟨kvs,k,e,ey,l⟩|⟨kvs,k,b,e,ey,eb,l⟩
 .subst ey;obtain⟨z,hd,vs,rel,dd⟩:=Aw I.hok e;obtain⟨w',hw,mJ⟩:=gw.some_of (v:=v) (o:=valueAt vs k) (by rw[l];exact rel.val k);exact wpAny_getItem_of (vh ry) dd.mapOf hw (h w' _ (I.tok _) mJ)
 .subst ey;cases (show u=Value.ref b from ry);obtain⟨z,hd,xs,rel,dd⟩:=Av I.hok e;obtain⟨w',hw,mJ⟩:=gw.some_of (v:=v) (o:=(atKey xs k).map (·.2)) (by rw[l];exact rel.val k);obtain⟨p,hp,hp2⟩:=Option.map_eq_some_iff.mp hw;refine wpAny_getItem_heap (tupleKind_room_in1 hu) (zG I.hok eb) dd hp ?_;rw[hp2];exact h w' _ (I.tok _) mJ
def aed{Q:Value->Shared->Prop}(hu:A.units+1<cLine)(I:Inv X pins σ H s)(g:gZ H a y o)(ry:RelV y u)(h:∀s',Inv X pins σ H s'->Q (.bool (!o.isSome)) s'):
  wpAny (model X.prog X.w) A (compareOp .NotIn u (.ref a)) Q E s:=by
 rcases g with⟨kvs,k,e,ey,l⟩|⟨kvs,k,b,e,ey,eb,l⟩
 .subst ey;obtain⟨z,hd,vs,rel,dd⟩:=Aw I.hok e;refine wpAny_notIn_of (vh ry) hd dd.mapOf ?_;rw[<-(rel.val k).Ea,<-l];exact h _ (I.tok _)
 .subst ey;cases (show u=Value.ref b from ry);obtain⟨z,hd,xs,rel,dd⟩:=Av I.hok e;refine wpAny_notIn_heap (tupleKind_room_in1 hu) (zG I.hok eb) hd dd ?_;have q:=(rel.val k).Ea;rw[Qz]at q;rw[<-q,<-l];exact h _ (I.tok _)
def AZ{h':Heap}{t':Nat}{ob:HO}(I:Inv X pins σ H s)(mu:vm (H a))(hs:Bh a s.heap h')(he:∃q,h'.get? a=some q)(new:cY X.prog X.w (upd H a ob) h' a ob):
  Inv X pins σ (upd H a ob) { s with heap:=h',toks:=t' }:=
 I.write (x:=a) (e:=a) mu (.inl rfl) (λb q hb z=>(hs.2 b hb).trans z) he new
def Jo{P:Program}{w:World}{H':Hp}{h':Heap}{kvs:List (Key×V)}{vs:List (Key×Value)}(z:kvs.length<=sizeLine)(hd:(a==sysModules)=false)(rel:KV kvs vs)(dd:h'.DictOf (dN P w) a vs):
  cY P w H' h' a (.dK kvs):=⟨z,hd,vs,rel,dd⟩
def aaf{H':Hp}{Q:Unit->Shared->Prop}(hu:A.units+1<cLine)(I:Inv X pins σ H s)(g:vd H a y v H')(ry:RelV y u)(rv:RelV v r)(h:∀s',Inv X pins σ H' s'->Q () s'):
  wpAny (model X.prog X.w) A (setItem (.ref a) u r) Q E s:=by
 rcases g with⟨kvs,k,e,ey,l,eH⟩|⟨kvs,k,b,e,ey,eb,l,eH⟩
 .subst ey eH;obtain⟨z,hd,vs,rel,dd⟩:=PX I.hok e;have hz:vs.length<=sizeLine:=by rw[<-rel.length];exact z
  have hl:(putK kvs k v).length<=sizeLine:=by have:=DQ kvs k v;omega
  refine wpAny_setItem_pairs (hsz:=hz) (vh ry) dd λh' qD hs=>h _ ?_;have he:∃q,h'.get? a=some q:=let⟨q,_,_,hq,_⟩:=qD;⟨q,hq⟩;exact AZ I (by rw[e];exact True.intro) hs he (Jo hl hd (rel.put k rv) qD)
 .subst ey eH;cases (show u=Value.ref b from ry);obtain⟨z,hd,xs,rel,dd⟩:=Ql I.hok e;have hz:xs.length<=sizeLine:=by rw[<-Paired.length rel];exact z
  have hl:(putK kvs k v).length<=sizeLine:=by have:=DQ kvs k v;omega
  refine wpAny_setItem_heap (hsz:=hz) (tupleKind_room_in1 hu) (zG I.hok eb) dd λh' qD hs=>h _ ?_;obtain⟨q,es,ep,hq,h2,h3,h4,_,h5⟩:=qD;refine AZ I (by rw[e];exact True.intro) hs ⟨q,hq⟩ ⟨hl,hd,_,(rel.put k eb rv).keeps λc ys ec=>?_,q,es,ep,hq,h2,h3,h4,h5⟩;rw[dF (TR ec e (λz=>nomatch z))];exact ec
end
section
variable {X:Cx} {pins:List (Addr×Obj)} {σ:St} {H:Hp} {s:Shared} {a:Addr} {kvs:List (Key×V)} {k:Key} {u:Value} {A:Around} {E:Value->Shared->Prop}
end
def J2(i:Expr):Prop:=∀ov iv,subscripted i false ov iv=operate [ov,iv] (getItem ov iv)
def YC{prog:Program}{w:World}{A:Around}{E:Value->Shared->Prop}{s:Shared}{env:Env}{value slice:Expr}{pos:Pos}{T id:String}{Q:Value->Shared->Prop}
  (hl:typeLookup (.type T) "__getitem__" = pure (some (.builtin id))) (hs:J2 slice)
  (h:wpAny (model prog w) A (eval value env) (λo s₁=>wpAny (model prog w) A (eval slice env) (λi s₂=>s₂.TypeIs o T/\wpAny (model prog w) A (getItem o i) Q E s₂) E s₁) E s):
  wpAny (model prog w) A (eval (.Subscript value slice pos) env) Q E s:=by
 refine Subscript_ (wpAny_mono h (λo s₁ h₁=>wpAny_mono h₁ (λi s₂ h₂=>?_) λ_ _ x=>x) λ_ _ x=>x);obtain⟨hT,h₂⟩:=h₂;unfold subscriptTail;refine wpAny_bind ?_;rw[getitemInPython_of_ne hT.not_modules];refine wpAny_bind (wpAny_specialOf hT hl ?_);have fin:wpAny (model prog w) A (subscripted slice false o i) (λr s₃=>wpAny (model prog w) A (letTemporaryGo value o r>>=λ_=>pure r) Q E s₃) E s₂:=by
  rw[hs o i];exact wpAny_operating (wpAny_mono h₂ (λr s₃ h₃=>wpAny_bind (wpAny_letTemporaryGo (wpAny_pure h₃))) λ_ _ x=>x)
 first
  |exact wpAny_pure (wpAny_bind fin)
  |exact wpAny_bind (wpAny_pure (wpAny_bind fin))
  |exact wpAny_bind fin
def adI{X:Cx}{pins:List (Addr×Obj)}{σ:St}{H:Hp}{s:Shared}{a:Addr}{y:V}{o:Option V}(I:Inv X pins σ H s)(g:gZ H a y o):s.TypeIs (.ref a) "dict" := by
 rcases g with⟨kvs,k,e,_,_⟩|⟨kvs,k,b,e,_,_,_⟩
 .obtain⟨_,_,vs,_,dd⟩:=Aw I.hok e;exact dd.typeIs
 .obtain⟨_,_,xs,_,dd⟩:=Av I.hok e;exact dd.typeIs
def aaP(td ty:TE):TE:=λσ H Q=>td σ H λx H1=>ty σ H1 λy H2=>∃a v,x = .ref a/\gZ H2 a y (some v)/\Q v H2
def Yy(ty td:TE):TE:=λσ H Q=>ty σ H λy H1=>td σ H1 λx H2=>∃a o,x = .ref a/\gZ H2 a y o/\Q (.bl (!o.isSome)) H2
def Z7(td ty tv:TE):TS:=λD σ H=>tv σ H λv H1=>td σ H1 λx H2=>ty σ H2 λy H3=>∃a H4,x = .ref a/\vd H3 a y v H4/\D.nx σ H4
section
variable {X:Cx} {o i e value:Expr} {pos pos' tpos:Pos} {td ty tv:TE}
def Gz(hu:X.A.units+1<cLine)(ho:PE X o td)(hi:PE X i ty)(hs:J2 i):PE X (.Subscript o i pos) (aaP td ty):=by
 intro pins s σ H Q I h;refine YC PySem.F.slot_dict_getitem.lookup hs (aF (ho pins s σ H _ I h) λu s1 ⟨x,H1,I1,rx,q1⟩=>aF (hi pins s1 σ H1 _ I1 q1) λiv s2 ⟨y,H2,I2,ry,a,v,ex,g,q2⟩=>?_);subst ex;obtain rfl:u=Value.ref a:=rx;exact⟨adI I2 g,Zd hu I2 g ry λw' s3 I3 mJ=>⟨v,H2,I3,mJ,q2⟩⟩
def acF(hu:X.A.units+1<cLine)(hi:PE X i ty)(ho:PE X o td):PC X .NotIn i o (Yy ty td):=by
 intro pins s σ H Q I h;refine aF (hi pins s σ H _ I h) λiv s1 ⟨y,H1,I1,ry,q1⟩=>aF (ho pins s1 σ H1 _ I1 q1) λu s2 ⟨x,H2,I2,rx,a,ov,ex,g,q2⟩=>?_;subst ex;obtain rfl:u=Value.ref a:=rx;exact aed hu I2 g ry λs3 I3=>⟨.bl (!ov.isSome),H2,I3,rfl,q2⟩
def Wd(hu:X.A.units+1<cLine)(ho:PE X o td)(hi:PE X i ty)(hv:PE X value tv)(hs:swapsWith value (some (.Subscript o i pos')) pos.line X.env=pure false):
  PS X (.Assign [.Subscript o i pos'] value pos) (Z7 td ty tv):=by
 intro pins s σ H D I h;refine wpAny_Assign_Subscript (aF (hv pins s σ H _ I h) λr s1 ⟨v,H1,I1,rv,q1⟩=>aF (ho pins s1 σ H1 _ I1 q1) λu s2 ⟨x,H2,I2,rx,q2⟩=>aF (hi pins s2 σ H2 _ I2 q2) λiv s3 ⟨y,H3,I3,ry,a,H4,ex,g,q3⟩=>?_) hs;subst ex;obtain rfl:u=Value.ref a:=rx;exact aaf hu I3 g ry rv λs4 I4=>⟨σ,H4,I4,q3⟩
end
def aeW{P:Program}{w:World}{H:Hp}(h:Heap)(hb:sysModules<h.objs.size):cY P w H (h.push { cls:= .type "dict",data:= .dict #[] }) h.objs.size (.dK []):=
 ⟨cZ _,beq_eq_false_iff_ne.mpr (nY (gP hb)),[],.nil,Heap.DictOf.new h⟩
def aby{P:Program}{w:World}{H:Hp}(h:Heap)(hb:sysModules<h.objs.size):cY P w H (h.push { cls:= .type "dict",data:= .dict #[] }) h.objs.size (.dT []):=
 ⟨cZ _,beq_eq_false_iff_ne.mpr (nY (gP hb)),[],.nil,_,#[],0,Heap.get?_push_size _ rfl,⟨rfl,rfl,rfl⟩,rfl,rfl,List.nodup_nil⟩
def acp:TE:=λ_ H Q=>∀p,H p=none->Q (.ref p) (upd H p (.dT []))
section
variable {X:Cx} {pos:Pos}
def abr:PE X (.Dict [] [] pos) acp:=λpins s σ H Q I h=>
 wpAny_Dict_empty ⟨.ref s.heap.objs.size,_,I.laid (a:=s.heap.objs.size) (o:= .dT []) (t':=s.toks) (λ_ _ q=>Heap.get?_push_of_some _ q) (aO _) (aby s.heap I.big),rfl,h _ (I.hok.fresh (aO _))⟩
end
def EB:List (TE×TE)->St->Hp->(List (V×V)->Hp->Prop)->Prop
 |[],_,H,Q=>Q [] H
 |(tk,tv)::r,σ,H,Q=>tk σ H λx H1=>tv σ H1 λy H2=>EB r σ H2 λps H3=>Q ((x,y)::ps) H3
abbrev VV:List (V×V)->List (Value×Value)->Prop:=Paired λp q=>RelV p.1 q.1/\RelV p.2 q.2
def xT(X:Cx)(pos:Pos)(keys:List (Option Expr))(values:List Expr)(lG:List (TE×TE)):Prop:=
 ∀(pins:List (Addr×Obj)) (s:Shared) (σ:St) (H:Hp) (Q:List (V×V)->Hp->Prop),Inv X pins σ H s->EB lG σ H Q->
  wpAny (model X.prog X.w) X.A (evalPairs (pairTrees keys values X.env pos)) (λvs s'=>∃ps H',Inv X pins σ H' s'/\VV ps vs/\Q ps H') X.xe s
def WY{X:Cx}{pos:Pos}:xT X pos [] [] []:=λpins s σ H Q I h=>pairTrees_nil_walk ⟨[],H,I,.nil,h⟩
def jP{X:Cx}{pos:Pos}{k v:Expr}{ks:List (Option Expr)}{vs:List Expr}{tk tv:TE}{lG:List (TE×TE)}(hk:PE X k tk)(hv:PE X v tv)(hr:xT X pos ks vs lG):
  xT X pos (some k::ks) (v::vs) ((tk,tv)::lG):=λpins s σ H Q I h=>
 pairTrees_cons_walk (aF (hk pins s σ H _ I h) λu s1 ⟨x,H1,I1,rx,q1⟩=>aF (hv pins s1 σ H1 _ I1 q1) λw2 s2 ⟨y,H2,I2,ry,q2⟩=>
  aF (hr pins s2 σ H2 _ I2 q2) λws s3 ⟨ps,H3,I3,rel,q3⟩=>⟨(x,y)::ps,H3,I3,.cons ⟨rx,ry⟩ rel,q3⟩)
def j7(kvs more:List (Key×V)):List (Key×V):=more.foldl (λacc kv=>putK acc kv.1 kv.2) kvs
def KV.merge:∀{more:List (Key×V)} {rs:List (Key×Value)} {kvs:List (Key×V)} {vs:List (Key×Value)},KV more rs->KV kvs vs->KV (j7 kvs more) (merged vs rs):=by
 intro more rs kvs vs r;unfold KV at r;induction r generalizing kvs vs with
 |nil=>intro q;exact q
 |@cons p q ps qs h t ih=>
  intro r0;have e:KV (putK kvs p.1 p.2) (stored vs q.1 q.2):=by
   have:=r0.put p.1 h.2;rw[<-h.1];exact this
  exact ih e
theorem Lz:∀(more kvs:List (Key×V)),(j7 kvs more).length<=kvs.length+more.length
 |[],kvs=>by show kvs.length<=kvs.length+0;omega
 |p::r,kvs=>by
  have h1:=Lz r (putK kvs p.1 p.2);have h2:=DQ kvs p.1 p.2;show(j7 (putK kvs p.1 p.2) r).length<=_;rw[tu];omega
theorem Qi{P:Program}{w:World}:∀{kvs:List (Key×V)} {ws:List (Value×Value)},VV (kvs.map λkv=>(kV kv.1,kv.2)) ws->∃rs,Carries (dN P w) ws rs/\KV kvs rs
 |[],_,r=>by rw[Ay]at r;cases r;exact⟨[],True.intro,.nil⟩
 |p::kvs,_,r=>by
  rw[iY]at r;cases r with
  |@cons a b as bs h t=>
   obtain⟨rs,c,q⟩:=Qi (P:=P) (w:=w) t;obtain⟨b1,b2⟩:=b;exact⟨(p.1,b2)::rs,⟨vh h.1,rfl,c⟩,.cons ⟨rfl,h.2⟩ q⟩
def abC(lG:List (TE×TE)):TE:=λσ H Q=>∀p,H p=none->EB lG σ (upd H p (.dK [])) λps H2=>H2 p=some (.dK [])/\∃kvs:List (Key×V),ps=kvs.map (λkv=>(kV kv.1,kv.2))/\kvs.length<=15/\Q (.ref p) (upd H2 p (.dK (j7 [] kvs)))
def adT{X:Cx}{pos:Pos}{keys:List (Option Expr)}{values:List Expr}{lG:List (TE×TE)}(h:xT X pos keys values lG)(hall:keys.all (·.isSome)=true)(hl:keys.length=values.length)(h0:keys≠[])
  (h15:keys.length<=15):PE X (.Dict keys values pos) (abC lG):=by
 intro pins s σ H Q I q;have hn:=I.hok.fresh (aO s.heap.objs.size);have I1:=I.laid (a:=s.heap.objs.size) (o:= .dK []) (h':=s.heap.push { cls:= .type "dict",data:= .dict #[] }) (t':=s.toks) (λ_ _ q=>Heap.get?_push_of_some _ q) (aO _) (aeW s.heap I.big);refine wpAny_Dict_walk (knd:=dN X.prog X.w) hall hl h0 h15 (aF (h pins _ σ _ _ I1 (q _ hn)) λws s2 ⟨ps,H2,I2,rel,e,kvs,ep,lk,q2⟩=>?_);subst ep;obtain⟨rs,c,rk⟩:=Qi (P:=X.prog) (w:=X.w) rel;obtain⟨z,hd,vs0,r0,dd⟩:=PX I2.hok e;cases r0;refine⟨rs,c,dd,λh' qD hs=>⟨.ref s.heap.objs.size,_,?_,rfl,q2⟩⟩;have hz:(j7 [] kvs).length<=sizeLine:=by
  have h1:=Lz kvs [];rw[Ox]at h1;rw[sizeLine_eq];omega
 have he:∃q,h'.get? s.heap.objs.size=some q:=let⟨q,_,_,hq,_⟩:=qD;⟨q,hq⟩;exact AZ I2 (by rw[e];exact True.intro) hs he (Jo hz hd (rk.merge .nil) qD)
section
variable {X:Cx} {pins:List (Addr×Obj)} {σ:St} {H:Hp} {s:Shared} {a:Addr} {y d:V} {u r:Value} {o:Option V} {A:Around} {E:Value->Shared->Prop}
end
section
variable {X:Cx} {o e f:Expr} {apos cpos:Pos} {td ty tx:TE}
end
section
variable {X:Cx} {pins:List (Addr×Obj)} {σ:St} {H:Hp} {s:Shared} {a:Addr} {kvs:List (Key×V)} {A:Around} {E:Value->Shared->Prop}
end
section
variable {X:Cx} {pins:List (Addr×Obj)} {σ:St} {H:Hp} {s:Shared} {a:Addr} {y:V} {u:Value} {A:Around} {E:Value->Shared->Prop}
end
end L2
namespace yj
open PySem PySem.W PySem.Calls PyProof.Rows
def afU{P:Params}{h:Heap}:∀(ns:List Int) (vs:List Value),WellAll P h vs (ns.map WData.int)->IntsAre vs ns:=by
 intro ns;induction ns with
 |nil=>
  intro vs w;rw[Ay]at w;cases w;exact .nil
 |cons n ns ih=>
  intro vs w;rw[iY]at w;cases w with
  |cons a b=>
   cases a;exact .cons _ _ (ih _ b)
def agm{l:OpenLaw}{n:Nat}(hn:l.most=some n){P:Params}{h:Heap}{args:List WData}{vals:List Value}
  (hpre:l.row.toRowW.claim.pre args=true) (hwl:WellAll P h vals args):
  ∃a vs ns,vals=[Value.ref a]/\args=[WData.list (ns.map WData.int)]/\h.get? a=some { cls:= .type "list",data:= .seq vs.toArray }/\IntsAre vs ns/\ns.length<=n:=by
 have hsh:WShape.hasAll [] args [.list .int]=true:=(pre_splitW hpre).1;have hc:l.pre.holds [] { args:=args }=true:=(pre_splitW hpre).2;obtain⟨d,r,rfl,h1,h2⟩:=hasAllW_cons hsh;obtain rfl:=hasAllW_nil h2;obtain⟨xs,rfl,h3⟩:=hasW_list h1;obtain⟨ns,rfl⟩:=items_int h3;have hlen:ns.length<=n:=by
  unfold OpenLaw.pre at hc;have h4:(WTm.not (.lt (.lit (.int (n:Int))) (.len (.arg 0)))).holds [] { args:=[.list (ns.map .int)] }=true:=by
   have h4:=(holds_andW hc).1;rw[hn]at h4;exact h4
  have h5:=condW_of h4 (w_not (w_lt w_lit (w_len_list (w_arg rfl))));rw[aM]at h5;refine Nat.le_of_not_lt λq=>?_;have q':(n:Int)<((ns.length:Nat):Int):=⋯;first
   |(rw[decide_eq_true q']at h5;exact absurd h5 ∅)
   |(simp at h5;omega)
 cases hwl with
 |cons w1 w2=>
  cases w2;cases w1 with
  |list ho hall=>exact⟨_,_,ns,rfl,rfl,ho,afU ns _ hall,hlen⟩
def aaF(l:OpenLaw)(args:List WData):l.row.toRowW.claim.post args (.bool true) args=true:=
 postW_of (r:=l.row.toRowW) (X:=(true==true))
  (show WShape.has [] (.bool true) .bool=true by first|rfl|decide|simp[WShape.has,WShape.arms,WShape.armsAll])
  (show(WTm.eq .res (.lit (.bool true))).value [] { args:=args,res:=some (.bool true),after:=args }=some (.bool (true==true))from w_eq_bool (w_res rfl) w_lit) rfl
section
variable {prog:Program} {w:World} {A:Around} {E:Value->Shared->Prop} {s:Shared} {K:Frag}
end
end yj
namespace L2
open PySem PySem.Spec PyProof.Rows
def Zw{vs:List Value}{ns:List Int}(h:IntsAre vs ns):Vals (ns.map V.int) vs:=by
 induction h with
 |nil=>exact .nil
 |cons n t h ih=>exact .cons ⟨t,rfl⟩ ih
def Only(H:Hp):Prop:=∀b,H b=none∨∃o xs,H b=some (.gH o (.lst xs))
def Vg{P:Program}{w:World}{K:aA}{mg mb:Str->Option Value}{CX:lB}{k:Nat}{fa a:Addr}{fd:FuncData}{x:Str}{sp:Sp}{s₁:Shared}{vs:List Value}{ns:List Int}
  (KX:K.In s₁.heap) (hns:s₁.heap.Ns mainGlobals mg) (hb:s₁.heap.Ns builtinsNs mb) (hbb:∀x:Str,x≠ "__name__" -> mb x=bootBuiltins x) (hlim:s₁.heap.NoLimit) (hdig:s₁.heap.NoDigits) (hg:s₁.gens=#[])
  (ha:s₁.heap.get? a=some { cls:= .type "list",data:= .seq vs.toArray }) (hi:IntsAre vs ns) (hl:ns.length<=sizeLine) (hr:bI k callerA)
  (F:∀base:Heap,K.In base->base.Ns mainGlobals mg->j8 P w K mg base CX k fa fd [x] sp) (hbind:∀(s:Shared) (u:Value),BindsTo s fd ⟨[u],[]⟩ [(x,u)])
  (hsp:∀H:Hp,Only H->aC K H a (ns.map V.int)->sp [.ref a] H (λv _=>v = .bl true) λ_ _ _=>False)
  (BX:∀H e s',CX [] H s₁ (λ_ _ _=>False) e s'->False):
  codeAny (model P w) callerA (.call (.ref fa) ⟨[.ref a],[]⟩) (λr s'=>r = .ok (.ret (.bool true))/\OldK s₁.heap s'.heap/\s'.os=s₁.os/\AllBare s'.gens) s₁:=by
 have rv:=Zw hi;have lenV:=hi.length;have core:∀H:Hp,Only H->aC K H a (ns.map V.int)->bY P w H s₁.heap->(∀b,H b≠none->b=a)->(H a≠none->K.lookup a=none)->
   codeAny (model P w) callerA (.call (.ref fa) ⟨[.ref a],[]⟩) (λr s'=>r = .ok (.ret (.bool true))/\OldK s₁.heap s'.heap/\s'.os=s₁.os/\AllBare s'.gens) s₁:=by
  intro H hO hS hok hA hK;have Qj:∀{b:Addr} {o:Obj},s₁.heap.get? b=some o->H b=none->(nq s₁.heap H).get? b=some o:=λe n=>agh e n;have uJ:∀{b:Addr} {o:Obj} {es:Array DictEntry} {ep:Nat},s₁.heap.get? b=some o->o.data = .dict es ep->H b=none:=λ{b o es ep} e d=>by
   cases q:H b with
   |none=>rfl
   |some u=>
    have e':b=a:=hA b (by rw[q];simp);subst e';rw[ha]at e;cases e;have d':Data.seq vs.toArray _=Data.dict es ep:=d;cases d'
  have uw:∀{b:Addr} {m:Str->Option Value},s₁.heap.Ns b m->(nq s₁.heap H).Ns b m:=λ{b m} ⟨o,es,ep,e,d,r⟩=>⟨o,es,ep,Qj e (uJ e d),d,r⟩;have M6:K.In (nq s₁.heap H):=λb o e=>Qj (KX b o e) (by
   cases q:H b with
   |none=>rfl
   |some u=>
    have e':b=a:=hA b (by rw[q];simp);subst e';rw[hK (by rw[q];simp)]at e;cases e)
  have hM:Mod K mg (nq s₁.heap H):=⟨M6,uw hns,⟨mb,uw hb,hbb⟩,let⟨mc,h1,h2⟩:=hlim;⟨mc,uw h1,h2⟩,let⟨mc,h1,h2⟩:=hdig;⟨mc,uw h1,h2⟩⟩;have e0:wK P w K mg (nq s₁.heap H) callerA [] s₁ H:=⟨rfl,hM,λb o e=>Yn e,yu (adw _ _),trivial,λb hb=>absurd (show b∈([]:List Addr)from hb) (by simp),hok,.of_eq hg⟩;refine codeAny_mono ((F _ M6 (uw hns)).run callerA [] s₁ H ⟨[.ref a],[]⟩ [.ref a] [.ref a] _ _ hr e0 (hbind s₁ (.ref a)) (.cons rfl .nil) (hsp H hO hS)) λr s' h=>?_;cases r with
  |error e=>exact(BX H e s' h).elim
  |ok fl=>
   cases fl with
   |next=>exact False.elim h
   |brk=>exact False.elim h
   |cont=>exact False.elim h
   |ret u=>
    obtain⟨v,H',os,bare,un,hok',r',q⟩:=h;have q':v = .bl true:=q;subst q';obtain rfl:u=Value.bool true:=r';refine⟨rfl,OldK.of_keep λb o e=>?_,os,bare⟩;cases q:H b with
    |none=>exact un.keep b o e q (by intro z;exact absurd (show b∈([]:List Addr)from z) (by simp)) (by simp)
    |some u=>
     rcases hO b with z|⟨ob,xs,z⟩
     .rw[q]at z;cases z
     .have z2:=un.gY b ob _ z;obtain⟨e1,_⟩:=hok b _ z;obtain⟨e2,_⟩:=hok' b _ z2;rw[e]at e1;cases e1;exact e2
 cases hk:K.lookup a with
 |some o=>
  have e:=KX a o hk;rw[ha]at e;cases e;refine core (λ_=>none) (λ_=> .inl rfl) (.inr ⟨_,vs.toArray,_,hk,rfl,rfl,rfl,by rw[cI,lenV];exact hl,by simpa using rv⟩) (λb u z=>by have z':(none:Option HO)=some u:=z;cases z') (λb z=>absurd rfl z) λz=>absurd rfl z
 |none=>
  refine core (λb=>if b=a then some (.gH { cls:= .type "list",data:= .seq vs.toArray } (.lst (ns.map V.int)))else none) (λb=>?_) (.inl (.inr ⟨{ cls:= .type "list",data:= .seq vs.toArray },if_pos rfl⟩)) (λb u z=>?_) (λb z=>?_) λ_=>hk
  .by_cases hb:b=a
   .exact .inr ⟨_,_,if_pos hb⟩
   .exact .inl (if_neg hb)
  .by_cases hb:b=a
   .have z':=(if_pos hb).symm.trans z;cases z';subst hb;exact⟨ha,by rw[aM];exact hl,vs,_,rv,ha⟩
   .have z':=(if_neg hb).symm.trans z;cases z'
  .by_cases hb:b=a
   .exact hb
   .exact absurd (if_neg hb) z
def jH(s:Stmt):Arguments:=match s with
 |.FunctionDef _ a _ _ _ _ _ _ _ _=>a
 |_=>{ posonlyargs:=[],args:=[],vararg:=none,kwonlyargs:=[],kw_defaults:=[],kwarg:=none,defaults:=[] }
def f9(s:Stmt):List Stmt:=match s with
 |.FunctionDef _ _ b _ _ _ _ _ _ _=>b
 |_=>[]
def aQ(s:Stmt):Scope:=match s with
 |.FunctionDef _ _ _ _ _ _ sc _ _ _=>sc
 |_=>{ kind:= .function,names:=[],isGenerator:=false,isCoroutine:=false }
abbrev E0:XK:=λ_ _ _=>False
structure m9(K:aA)(x qual:Str)(st:Stmt)(f:Addr)(fd:FuncData):Prop where
 ex:∃(oc:Value) (od:Option Addr) (kV doc pm:Value) (an:Option Addr) (cdv ct:Value) (osl:Array (Option Value)),
  fd=jr x qual (jH st) (f9 st) (aQ st) .none kV doc pm an cdv ct/\K.lookup f=some ⟨oc,od,.func fd,osl⟩/\vG K cdv qual=true
 kp:rM K (.ref f)=true
section
variable {P:Program} {w:World} {K:aA} {mg:Str->Option Value} {base:Heap}
def m9.binds{x qual:Str}{st:Stmt}{f:Addr}{fd:FuncData}{ps:List Str}(F:m9 K x qual st f fd)
  (h:∀(kV doc pm:Value) (an:Option Addr) (cdv ct:Value) (us:List Value),us.length=ps.length->bindArgs (jr x qual (jH st) (f9 st) (aQ st) .none kV doc pm an cdv ct) ⟨us,[]⟩=pure (ps.zip us)):Binds K fd ps []:=by
 obtain⟨oc,od,kV,doc,pm,an,cdv,ct,osl,rfl,lk,hcd⟩:=F.ex;exact .all (h kV doc pm an cdv ct)
def J1{x qual:Str}{st:Stmt}{f:Addr}{oc:Value}{od an:Option Addr}{osl:Array (Option Value)}{kV doc pm cdv ct:Value}(l:K.lookup f=some ⟨oc,od,.func (jr x qual (jH st) (f9 st) (aQ st) .none kV doc pm an cdv ct),osl⟩)
  (c:vG K cdv qual=true) (k:rM K (.ref f)=true):m9 K x qual st f (jr x qual (jH st) (f9 st) (aQ st) .none kV doc pm an cdv ct):=⟨⟨oc,od,kV,doc,pm,an,cdv,ct,osl,rfl,l,c⟩,k⟩
end
def kZ{n:Nat}(h:n<=1000):n<sizeLine:=C7 h ∅
section
variable {X:Cx}
def pv(i:Nat){x:Str}{pos:Pos}(hN:X.N[i]?=some x:=by rfl)(hv:Ag X.env.scope x:=by first|exact mz rfl|exact jq (mz rfl)|exact jq (jq rfl))(hd:(x==("__debug__" : Str))=false:=by decide)
  (hcd:(x==("__classdict__" : Str))=false:=by decide):PE X (.Name x pos) (Oi i):=abt hN hv hd hcd
end
def oJ{A B:Prop}(h:B):if false=true then A else B:=by
 rw[if_neg cV];exact h
def UO{A B:Prop}(h:A):if true=true then A else B:=by
 rw[if_pos rfl];exact h
def cP{c A B:Prop}[Decidable c](h1:c->A)(h2:¬c->B):if c then A else B:=by
 by_cases h:c
 .rw[if_pos h];exact h1 h
 .rw[if_neg h];exact h2 h
def Same(H H':Hp):Prop:=∀b o,H b=some o->H' b=some o
def Same.refl(H:Hp):Same H H:=λ_ _ h=>h
def Same.trans{H H1 H2:Hp}(a:Same H H1)(b:Same H1 H2):Same H H2:=λc o h=>b c o (a c o h)
def Same.free{H H':Hp}(e:Same H H'){l:Addr}(h:H' l=RN):H l=RN:=by
 cases q:H l with
 |none=>rfl
 |some o=>
  rw[e l o q]at h;cases h
def Same.seq{K:aA}{H H':Hp}{a:Addr}{xs:List V}(e:Same H H')(h:aC K H a xs):aC K H' a xs:=by
 rcases h with(h|⟨o,h⟩)|h
 .exact .inl (.inl (e _ _ h))
 .exact .inl (.inr ⟨o,e _ _ h⟩)
 .exact .inr h
section
variable {κ:Type} [DecidableEq κ]
end
def K1{us:List Value}(h:us.length=0):us=[]:=oV h
def wU{us:List Value}{n:Nat}(h:us.length=n+1):∃a r,us=a::r/\r.length=n:=by
 cases us with
 |nil=>cases h
 |cons a r=>exact⟨a,r,rfl,Nat.succ.inj h⟩
def JW{us:List Value}(h:us.length=1):∃a,us=[a]:=by
 obtain⟨a,r,rfl,k⟩:=wU h;obtain rfl:=K1 k;exact⟨a,rfl⟩
def Jk{us:List Value}(h:us.length=2):∃a b,us=[a,b]:=by
 obtain⟨a,r,rfl,k⟩:=wU h;obtain⟨b,rfl⟩:=JW k;exact⟨a,b,rfl⟩
def Ka{us:List Value}(h:us.length=3):∃a b c,us=[a,b,c]:=by
 obtain⟨a,r,rfl,k⟩:=wU h;obtain⟨b,c,rfl⟩:=Jk k;exact⟨a,b,c,rfl⟩
def Zj{us:List Value}(h:us.length=4):∃a b c d,us=[a,b,c,d]:=by
 obtain⟨a,r,rfl,k⟩:=wU h;obtain⟨b,c,d,rfl⟩:=Ka k;exact⟨a,b,c,d,rfl⟩
structure jX(P:Program)(w:World)(outer:List Env)(H:Hp)(s:Shared)(E:XK)(e:Value)(s':Shared):Prop where
 ex:∃(ea C:Addr) (a0:Value) (B:Heap) (H':Hp),e = .ref ea/\s'.os=s.os/\AllBare s'.gens/\Heap.FlyingW B outer ea (.ref C) a0 s'.heap/\bY P w H' B/\Un (frs outer) [] H H' s.heap s'.heap/\
  (∀b o,s.heap.get? b=some o->b∈frs outer∨∃o',B.get? b=some o')/\E (.ref C) none H'
def Rr{P:Program}{w:World}{outer:List Env}{H:Hp}{s s':Shared}{e:Value}(h:jX P w outer H s E0 e s'):False:=by
 obtain⟨_,_,_,_,_,_,_,_,_,_,_,_,q⟩:=h.ex;exact q
def Zy{X:Cx}:Passes (jX X.prog X.w) X E0:=λ_ _ _ _ _ _ _ h=>(Rr h).elim
section
variable {X:Cx} {pins:List (Addr×Obj)} {σ:St} {H:Hp} {s:Shared}
def Inv.Ew(I:Inv X pins σ H s){b:Addr}{o:Obj}(e:X.s₀.heap.get? b=some o)(hb:b∉X.fs):b∉frs X.stack:=λz=>by
 rcases jg.mp (I.yX b z)with q|q
 .exact absurd (dI (cu e) I.ok.above) (by rw[<-q];exact jw _)
 .exact hb q
def zK(I:Inv X pins σ H s){b:Addr}{o:Obj}(e:s.heap.get? b=some o)(hb:b∉frs X.stack):(yh s.heap (frs X.stack)).get? b=some o:=W.hideAll_get _ e hb
def Inv.ae0(I:Inv X pins σ H s):bY X.prog X.w H (yh s.heap (frs X.stack)):=λb o e=>
 (I.hok b o e).stay (λc u hc q=>zK I q λz=>by
  have n:=I.CK c z;rcases hc with rfl|hc
  .rw[n]at e;cases e
  .rw[n]at hc;cases hc) (λ_ q=>q) λ_ _ q=>q
def Inv.Oo(I:Inv X pins σ H s)(hex:X.ex=[]){H':Hp}{h':Heap}(keep:∀b o,s.heap.get? b=some o->H b=none->b∉frs X.stack->h'.get? b=some o)
  (slot:∀b o,s.heap.get? b=some o->H b=none->b∈X.fs->∃sl,h'.get? b=some { o with slots:=sl }) (free:∀b o,s.heap.get? b=some o->H b=none->H' b=none) (there:∀b o,s.heap.get? b=some o->∃o',h'.get? b=some o')
  (tups:∀b xs,H b=some (.tup xs)->H' b=some (.tup xs)) (gY:∀b o u,H b=some (.gH o u)->H' b=some (.gH o u)) (iQ:∀b ps,H b=some (.mQ ps)->∃more,H' b=some (.mQ (ps++more))):
  Un (frs X.outer) [] X.H₀ H' X.s₀.heap h':=by
 have nx:∀b:Addr,b∉X.ex:=λb=>by rw[hex];simp
 refine⟨λb o e n hb _=>?_,λb o e n hb _=>?_,λb o e n _=>?_,λb o e _=>?_,λb xs e=>tups b xs (I.base.tups b xs e),λb o u e=>gY b o u (I.base.gY b o u e),λb ps e=>?_⟩
 .exact keep b o (I.base.keep b o e n hb (nx b)) (I.base.free b o e n (nx b)) (I.Ew e hb)
 .obtain⟨sl,e1⟩:=I.base.slot b o e n hb (nx b);obtain⟨sl',e2⟩:=slot b _ e1 (I.base.free b o e n (nx b)) hb;exact⟨sl',e2⟩
 .obtain⟨o',e1⟩:=I.base.there b o e (nx b);exact free b o' e1 (I.base.free b o e n (nx b))
 .obtain⟨o',e1⟩:=I.base.there b o e (nx b);exact there b o' e1
 .obtain⟨m1,e1⟩:=I.base.iQ b ps e;obtain⟨m2,e2⟩:=iQ b _ e1;exact⟨m1++m2,by rw[e2,Ij]⟩
end
abbrev cU(P:Program)(w:World)(K:aA)(mg:Str->Option Value)(base:Heap)(N:List Str)(qual:Str)(scope:Scope)(f:Addr)(cdv:Value)(A:Around)(outer:List Env)(s:Shared)(H:Hp)(E:XK):Cx:=
 tY (jX P w) P w K mg base N qual scope f cdv A outer s H E
section
variable {P:Program} {w:World} {K:aA} {mg:Str->Option Value} {base:Heap} {N:List Str} {qual:Str} {scope:Scope} {f:Addr} {cdv:Value} {A:Around} {outer:List Env} {s₀:Shared} {H₀:Hp} {E:XK}
def acL{pins:List (Addr×Obj)}{σ:St}{H:Hp}{s:Shared}{h1:Heap}{e C:Addr}{vs:List Value}(I:Inv (cU P w K mg base N qual scope f cdv A outer s₀ H₀ E) pins σ H s)(hx:Heap.MadeExcOf s.heap h1 e (.ref C) vs)(q:E (.ref C) none H):
  (cU P w K mg base N qual scope f cdv A outer s₀ H₀ E).xe (.ref e) { s with heap:=h1 }:=by
 have hin:∀env∈envOfC qual scope s₀.heap.objs.size f cdv::outer,∀a,env.frame=some a->a∈frs (envOfC qual scope s₀.heap.objs.size f cdv::outer):=λenv he a ha=>Gi.mpr ⟨env,he,ha⟩;refine wpAny_leaves_madeW (base:=yh s.heap (frs (envOfC qual scope s₀.heap.objs.size f cdv::outer))) (h:=s.heap) (L:=s₀.heap.objs.size) I.ok.frames rfl (λb o q=>W.of_hideAll _ q) (W.funFrames_hide I.stack hin) hx λh' t x1 x2 x3 x4=>?_;have up:∀b o,s.heap.get? b=some o->b∈frs (envOfC qual scope s₀.heap.objs.size f cdv::outer)->∃sl,h'.get? b=some { o with slots:=sl }:=λb o e hb=>by
  obtain⟨_,o',ho',hd⟩:=I.stack.mem hb;rw[e]at ho';cases ho';exact x4 b o (hx.keeps b o e) hd
 refine⟨e,C,.ref t,_,H,rfl,I.os,I.bare,x1,I.ae0,I.Oo rfl (λb o e _ hb=>x1.1 b o (zK I e hb)) (λb o e _ hb=>up b o e (gO _ hb)) (λ_ _ _ n=>n) (λb o e=>?_) (λ_ _ z=>z) (λ_ _ _ z=>z) (λb ps z=>⟨#[],by rw[z];simp⟩),λb o e=>?_,q⟩
 .by_cases hb:b∈frs (envOfC qual scope s₀.heap.objs.size f cdv::outer)
  .obtain⟨sl,z⟩:=up b o e hb;exact⟨_,z⟩
  .exact⟨o,x1.1 b o (zK I e hb)⟩
 .by_cases hb:b∈frs outer
  .exact .inl hb
  .obtain⟨o',e1⟩:=I.base.there b o e (by intro z;cases z);exact .inr ⟨o',zK I e1 (I.Ew e hb)⟩
def Tz:Passes (jX P w) (cU P w K mg base N qual scope f cdv A outer s₀ H₀ E) E:=by
 intro pins σ H s e s' I h;obtain⟨ea,C,a0,B,H',rfl,os,bare,fl,hok,un,old,q⟩:=h.ex;refine wpAny_leaves_onW (L:=s₀.heap.objs.size) I.ok.frames rfl fl λh' x1 x2=>?_;have inB:∀b o,s.heap.get? b=some o->b∉frs (envOfC qual scope s₀.heap.objs.size f cdv::outer)->∃o',B.get? b=some o'/\s'.heap.get? b=some o':=λb o e hb=>by
  rcases old b o e with z|⟨o',z⟩
  .exact absurd z hb
  .exact⟨o',z,fl.1 b o' z⟩
 have up:∀b o,s'.heap.get? b=some o->b∈frs (envOfC qual scope s₀.heap.objs.size f cdv::outer)->∃sl,h'.get? b=some { o with slots:=sl }:=λb o e hb=>by
  obtain⟨_,o',ho',hd⟩:=fl.2.2.1.mem hb;rw[e]at ho';cases ho';exact x2 b o e hd
 refine⟨ea,C,a0,B,H',rfl,os.trans I.os,bare,x1,hok,I.Oo rfl (λb o e n hb=>?_) (λb o e n hb=>?_) (λb o e n=>un.free b o e n (by simp)) (λb o e=>?_) un.tups un.gY un.iQ,λb o e=>?_,q⟩
 .obtain⟨o',e1,e2⟩:=inB b o e hb;have e3:=un.keep b o e n hb (by simp);rw[e2]at e3;cases e3;exact x1.1 b _ e1
 .obtain⟨sl,e1⟩:=un.slot b o e n (gO _ hb) (by simp);obtain⟨sl',e2⟩:=up b _ e1 (gO _ hb);exact⟨sl',e2⟩
 .by_cases hb:b∈frs (envOfC qual scope s₀.heap.objs.size f cdv::outer)
  .obtain⟨o',e1⟩:=un.there b o e (by simp);obtain⟨sl,e2⟩:=up b o' e1 hb;exact⟨_,e2⟩
  .obtain⟨o',e1,_⟩:=inB b o e hb;exact⟨o',x1.1 b o' e1⟩
 .by_cases hb:b∈frs outer
  .exact .inl hb
  .obtain⟨o',e1⟩:=I.base.there b o e (by intro z;cases z);obtain⟨o2,e2,_⟩:=inB b o' e1 (I.Ew e hb);exact .inr ⟨o2,e2⟩
end
def afg(C:Addr)(E:XK)(t:TA):TS:=λ_ σ H=>t σ H λvs H1=>vs.length<=sizeLine/\E (.ref C) none H1
structure yq(mg:Str->Option Value)(base:Heap)(x:Str)(C:Addr):Prop where
 ex:∃bm newId,OwnCls x C bm newId mg base/\∃(Bn inN:String) (bmN:List Value) (B nid initId:String),ExcBaseFacts Bn newId inN bmN/\bm.contains (.type Bn)=true/\ExcBaseFacts B nid initId bm
def Nx{P:Program}{w:World}{K:aA}{mg:Str->Option Value}{base:Heap}{N:List Str}{qual:Str}{scope:Scope}{f:Addr}{cdv:Value}{A:Around}{outer:List Env}{s₀:Shared}{H₀:Hp}{E:XK}
  {x:Str} {C:Addr} {np cpos pos:Pos} {e:Expr} {es:List Expr} {t:TA} (O:yq mg base x C) (hg:Gl (cU P w K mg base N qual scope f cdv A outer s₀ H₀ E) x) (ha:PA (cU P w K mg base N qual scope f cdv A outer s₀ H₀ E) (e::es) t)
  (hdb:(x==("__debug__" : Str))=false:=by decide)
  (he:starEach (e::es) (cU P w K mg base N qual scope f cdv A outer s₀ H₀ E).env=(false,eval e (cU P w K mg base N qual scope f cdv A outer s₀ H₀ E).env)::starEach es (cU P w K mg base N qual scope f cdv A outer s₀ H₀ E).env:=by rfl)
  (hpl:(backTo cpos (starEach es (cU P w K mg base N qual scope f cdv A outer s₀ H₀ E).env)).any (·.1)=false:=by rfl):
  PS (cU P w K mg base N qual scope f cdv A outer s₀ H₀ E) (.Raise (some (.Call (.Name x np) (e::es) [] cpos)) none pos) (afg C E t):=by
 intro pins s σ H D I h;obtain⟨bm,newId,O,Bn,inN,bmN,B,nid,initId,Fn,hBn,FB⟩:=O.ex;obtain⟨tl,Nn,nm,q,bs,hdct,sn,sub,ab,col,dd,k0,k1,k2,k3,k5,mN,hC,hN,hni,T⟩:=O.obj;refine wpAny_Raise_call_subU (C:=C) (nm:=nm) (q:=q) (N:=Nn) (bs:=bs) (bm:=tl) (hdct:=hdct) (sn:=sn) (sub:=sub) (ab:=ab) (col:=col) (dd:=dd) (k0:=k0) (k1:=k1) (k2:=k2) (k3:=k3) (k5:=k5)
  Fn hBn FB (mN:=mN) (T.hasType FB.hasBase) (I.ok.hd rfl) (by rw[he];show(false||(backTo cpos (starEach es (cU P w K mg base N qual scope f cdv A outer s₀ H₀ E).env)).any (·.1))=false;rw[hpl];rfl) hni (Fw I hg O.bound ⟨rfl,?_⟩ hdb)
 have h2:=ha cpos pins s σ H _ I h;rw[he]at h2⊢;refine KR (wpAny_mono h2 (λus s2 ⟨vs,H2,I2,r,z,q⟩=>⟨rfl,by rw[<-r.length];exact z,I2.bk _ _ hC,hN.keeps I2.bk,T.keeps I2.bk,λh' e hm=>acL I2 hm q⟩) λ_ _ y=>y)
def m9.K8{P:Program}{w:World}{K:aA}{mg:Str->Option Value}{base:Heap}{x qual:Str}{st:Stmt}{f:Addr}{fd:FuncData}{N ps:List Str}{k:Nat}{sp:Sp}(F:m9 K x qual st f fd)(S:aZ N ps (aQ st))(len:∀vs H Q E,sp vs H Q E->vs.length=ps.length)
  (hbody:∀(cdv:Value) (A:Around) (outer:List Env) (s:Shared) (H:Hp) (vs:List V) (Q:VK) (E:XK),bI k (A.deeper (envOfC qual (aQ st) s.heap.objs.size f cdv))->sp vs H Q E->
   ∃t,eZ (cU P w K mg base N qual (aQ st) f cdv A outer s H E) (f9 st) t/\t { nx:=λ_ H'=>Q .non H',rt:=Q } (start N vs) H):j8 P w K mg base (jX P w) (k+1) f fd ps sp:=by
 obtain⟨oc,od,kV,doc,pm,an,cdv,ct,osl,rfl,lk,hcd⟩:=F.ex;exact WZ lk hcd S len λA outer s H vs Q E hr hsp=>hbody cdv A outer s H vs Q E hr hsp
def m9.okN{P:Program}{w:World}{K:aA}{mg:Str->Option Value}{base:Heap}{x qual:Str}{st:Stmt}{f:Addr}{fd:FuncData}{N ps:List Str}{k:Nat}{sp:Sp}(F:m9 K x qual st f fd)(S:aZ N ps (aQ st))(len:∀vs H Q E,sp vs H Q E->vs.length=ps.length)
  (hbody:∀(cdv:Value) (A:Around) (outer:List Env) (s:Shared) (H:Hp) (vs:List V) (Q:VK) (E:XK),bI k (A.deeper (envOfC qual (aQ st) s.heap.objs.size f cdv))->sp vs H Q E->
   ∃t,eZ (cU P w K mg base N qual (aQ st) f cdv A outer s H E).vo (f9 st) t/\t { nx:=λ_ H'=>Q .non H',rt:=Q } (start N vs) H):j8 P w K mg base (jX P w) (k+1) f fd ps sp:=
 F.K8 S len λcdv A outer s H vs Q E hr h=>let⟨t,a,b⟩:=hbody cdv A outer s H vs Q E hr h;⟨t,a.vo,b⟩
section
variable {X:Cx}
def aX.imp{f:Value->Value->Sem Value}{r r':R2}(h:aX X f r)(i:∀x y H Q,r' x y H Q->r x y H Q):aX X f r':=λpins s σ H x y v u Q I rx ry q=>h pins s σ H x y v u Q I rx ry (i _ _ _ _ q)
def gn.imp{r r':R2}(h:gn X r)(i:∀x y H Q,r' x y H Q->r x y H Q):gn X r':=λvalue slice pins s σ H x y v u Q I rx ry q hs=>h value slice pins s σ H x y v u Q I rx ry (i _ _ _ _ q) hs
def RD{x:Str}{i:Int}{pos:Pos}(hg:Gl X x)(hm:∃t,X.mg x=some (.int i t))(hd:(x==("__debug__" : Str))=false:=by decide):PE X (.Name x pos) (tC (.int i)):=by
 obtain⟨t,e⟩:=hm;exact UL hg e ⟨t,rfl⟩ hd
structure fV(P:Program)(w:World)(K:aA)(mg:Str->Option Value)(base:Heap)(x:Str)(k:Nat)(ps:List Str)(sp:Sp):Prop where
 ex:∃(g:Addr) (gd:FuncData),mg x=some (.ref g)/\rM K (.ref g)=true/\Binds K gd ps []/\j8 P w K mg base (jX P w) k g gd ps sp
def U8{x:Str}{k k':Nat}{ps:List Str}{sp:Sp}{p pos:Pos}{e:Expr}{es:List Expr}{t:TA}(C:fV X.prog X.w X.K X.mg X.base x k ps sp)(hr:bI k' X.A)(hg:Gl X x)(ha:PA X (e::es) t)
  (hk:k<=k':=by decide) (hd:(x==("__debug__" : Str))=false:=by decide)
  (he:starEach (e::es) X.env=(false,eval e X.env)::starEach es X.env:=by rfl) (hpl:(backTo pos (starEach es X.env)).any (·.1)=false:=by rfl):PE X (.Call (.Name x p) (e::es) [] pos) (yU sp [] E0 t):=by
 obtain⟨g,gd,hm,hkp,hb,F⟩:=C.ex;exact Lw F (hr.mono hk) hg hm hkp hb .nil Zy ha hd he hpl
def E3{P:Program}{w:World}{K:aA}{mg:Str->Option Value}{base:Heap}{N:List Str}{qual:Str}{scope:Scope}{f:Addr}{cdv:Value}{A:Around}{outer:List Env}{s₀:Shared}{H₀:Hp}{E:XK}
  {x:Str} {k k':Nat} {ps:List Str} {sp:Sp} {p pos:Pos} {e:Expr} {es:List Expr} {t:TA} (C:fV P w K mg base x k ps sp) (hr:bI k' (cU P w K mg base N qual scope f cdv A outer s₀ H₀ E).A) (hg:Gl (cU P w K mg base N qual scope f cdv A outer s₀ H₀ E) x)
  (ha:PA (cU P w K mg base N qual scope f cdv A outer s₀ H₀ E) (e::es) t) (hk:k<=k':=by decide) (hd:(x==("__debug__" : Str))=false:=by decide)
  (he:starEach (e::es) (cU P w K mg base N qual scope f cdv A outer s₀ H₀ E).env=(false,eval e (cU P w K mg base N qual scope f cdv A outer s₀ H₀ E).env)::starEach es (cU P w K mg base N qual scope f cdv A outer s₀ H₀ E).env:=by rfl)
  (hpl:(backTo pos (starEach es (cU P w K mg base N qual scope f cdv A outer s₀ H₀ E).env)).any (·.1)=false:=by rfl):
  PE (cU P w K mg base N qual scope f cdv A outer s₀ H₀ E) (.Call (.Name x p) (e::es) [] pos) (yU sp [] E t):=by
 obtain⟨g,gd,hm,hkp,hb,F⟩:=C.ex;exact Lw (X:=cU P w K mg base N qual scope f cdv A outer s₀ H₀ E) F (hr.mono hk) hg hm hkp hb .nil Tz ha hd he hpl
def Yp{prog:Program}{w:World}{A:Around}{E:Value->Shared->Prop}{s:Shared}{t b:Addr}{vs ws:List Value}{Q:Value->Shared->Prop}(ht:IsTup s.heap t vs.toArray)(hb:IsTup s.heap b ws.toArray)(hv:vs=[])
  (h1:Q (.ref b) s):wpAny (model prog w) A (binaryOp .Add (.ref t) (.ref b)) Q E s:=by
 obtain⟨⟨cls,dd,data,sl⟩,ho,hc,n,hd⟩:=id ht;obtain⟨⟨cls2,dd2,data2,sl2⟩,ho2,hc2,n2,hd2⟩:=id hb;simp only at hc hd hc2 hd2;subst hc hd hc2 hd2;exact concat_meets ⟨_,ho,rfl⟩ ⟨_,ho2,rfl⟩ noFill_tuple_add seq_tuple_add Bo Eb (EG _ _)
   (tuple_addW0 t b vs.toArray ws.toArray n n2 dd dd2 sl sl2 (by simp[hv])) ⟨ho,ho2,h1⟩
def Xb(K:aA):R2:=λx y H Q=>∃a b ys,x = .ref a/\y = .ref b/\aq K H a []/\aq K H b ys/\Q (.ref b) H
def abf:aX X (binaryOp .Add) (Xb X.K):=by
 intro pins s σ H x y v u Q I rx ry h;obtain⟨a,b,ys,rfl,rfl,ha,hb,q⟩:=h;cases rx;cases ry;obtain⟨its,r1,p1,_⟩:=I.tuple ha;obtain⟨its2,r2,p2,_⟩:=I.tuple hb;exact Yp p1 p2 (r1.yV.mpr rfl) ⟨.ref b,H,I,rfl,q⟩
def yN(K:aA):R2:=λx y H Q=>match x,y with
 |.int i,.int j=>Q (.int (i+j)) H
 |.str i,.str j=>i.length+j.length<=sizeLine/\Q (.str (i++j)) H
 |.ref a,.ref b=>(∃xs ys,H a=some (.lst xs)/\H b=some (.lst ys)/\xs.length+ys.length<=sizeLine/\∀p,H p=none->Q (.ref p) (upd H p (.lst (xs++ys))))∨
   (∃xs ys,aq K H a xs/\aq K H b ys/\xs.length+ys.length<=sizeLine/\(xs=[]->Q (.ref b) H)/\(xs≠[]->ys=[]->Q (.ref a) H)/\(xs≠[]->ys≠[]->∀p,H p=none->Q (.ref p) (upd H p (.tup (xs++ys)))))
 |_,_=>False
def v_add:aX X (binaryOp .Add) (yN X.K):=by
 refine((ac3.or Yc).or (Vj.or (ae8.or abf))).imp λx y H Q h=>?_;unfold yN at h;split at h
 .exact .inl (.inl ⟨_,_,rfl,rfl,h⟩)
 .exact .inl (.inr ⟨_,_,rfl,rfl,h⟩)
 .rcases h with⟨xs,ys,h1,h2,h3,h4⟩|⟨xs,ys,h1,h2,h3,h4,h5,h6⟩
  .exact .inr (.inl ⟨_,_,xs,ys,rfl,rfl,h1,h2,h3,h4⟩)
  .by_cases hx:xs=[]
   .subst hx;exact .inr (.inr (.inr ⟨_,_,ys,rfl,rfl,h1,h2,h4 rfl⟩))
   .exact .inr (.inr (.inl ⟨_,_,xs,ys,rfl,rfl,h1,h2,hx,h3,h5 hx,h6 hx⟩))
 .exact h.elim
def Ls:R2:=λx y H Q=>match x,y with
 |.int i,.int j=>IntMulOk i j/\Q (.int (i*j)) H
 |.ref l,.int k=>∃xs,H l=some (.lst xs)/\-(2^63)<=k/\k<2^63/\xs.length*k.toNat<=sizeLine/\∀p,H p=none->Q (.ref p) (upd H p (.lst (fu k.toNat xs).flatten))
 |_,_=>False
def XS:aX X (binaryOp .Mult) (rI IntMulOk λi j=> .int (i*j)):=vg λ_ _ _ _ _ _ _ hc q=>mul_int q hc
def v_mul:aX X (binaryOp .Mult) Ls:=by
 refine(XS.or adv).imp λx y H Q h=>?_;unfold Ls at h;split at h
 .exact .inl ⟨_,_,rfl,rfl,h.1,h.2⟩
 .obtain⟨xs,h1,h2,h3,h4,h5⟩:=h;exact .inr ⟨_,_,xs,rfl,rfl,h1,h2,h3,h4,h5⟩
 .exact h.elim
inductive Sh(K:aA)(p:Addr)(i:Int)(H:Hp)(Q:VK):Prop|mk (xs:List V) (v:V) (hs:aC K H p xs∨aq K H p xs) (ha:kO xs i=some v) (q:Q v H)
def xQ(K:aA):R2:=λx y H Q=>match x,y with
 |.ref p,.int i=>Sh K p i H Q
 |.str z,.int i=>∃c,z.length<=sizeLine/\kO z.cps.toList i=some c/\Q (.str ⟨#[c]⟩) H
 |_,_=>False
def aa4:gn X (xQ X.K):=by
 refine Xk.imp λx y H Q h=>?_;unfold xQ at h;split at h
 .obtain⟨xs,v,h1|h1,h2,h3⟩:=h
  .exact .inl ⟨_,xs,_,v,rfl,rfl,h1,h2,h3⟩
  .exact .inr (.inl ⟨_,xs,_,v,rfl,rfl,h1,h2,h3⟩)
 .obtain⟨c,h1,h2,h3⟩:=h;exact .inr (.inr ⟨_,_,c,rfl,rfl,h1,h2,h3⟩)
 .exact h.elim
def Mp(H:Hp):V->Option String
 |.non=>some "NoneType"
 |.bl _=>some "bool"
 |.int _=>some "int"
 |.str _=>some "str"
 |.ref a=>match H a with
  |some (.lst _)=>some "list"
  |some (.gH _ (.lst _))=>some "list"
  |some (.tup _)=>some "tuple"
  |some (.dK _)=>some "dict"
  |_=>none
 |_=>none
def v_sum(hc:X.calm=true):gG X (.builtin "sum") (λxs H Q=>∃(l:Addr) (ns:List Int),xs=[.ref l]/\aC X.K H l (ns.map V.int)/\Q (.int ns.sum) H):=by
 intro pins s σ H xs us Q I r h;obtain⟨l,ns,rfl,hl,q⟩:=h;obtain⟨u,rfl,ru⟩:=r.one;cases ru;obtain⟨its,rv,pl,hz⟩:=I.list hl;have hi:=intsAre_of rv;obtain⟨xs,hx⟩:=hi.allInts.items;have hl':s.heap.IsList l (intItems xs):=hx▸pl.isList;refine sum_intListG (I.ok.hd hc) hl' λh' tk t' hk=>?_;have e1:ns=xs.toList.map (·.1):=by
  rw[<-nums_intItems,<-hx];exact(show numsOf its.toArray.toList=ns from hi.numsOf).symm
 have e2:preSum (numAt xs) xs.size=ns.sum:=by
  rw[preSum_eq,uI (by simp),e1]
 rw[e2];exact⟨.int _,H,I.kept hk,⟨_,rfl⟩,q⟩
def QG(K:aA)(tl:TE):TI:=λσ H R=>tl σ H λx H1=>∃a,x = .ref a/\(((∃xs,aC K H1 a xs)/\R (uW K a) H1)∨((∃xs,aq K H1 a xs)/\R (yw K a) H1))
def aas{tg l:Expr}{tl:TE}(hl:PE X l tl):PI X tg l (QG X.K tl):=by
 intro pins s σ H R I h;refine aF (hl pins s σ H _ I h) λv s1 ⟨x,H1,I1,r1,a,e,q⟩=>?_;subst e;cases r1;rcases q with⟨⟨xs,hq⟩,q⟩|⟨⟨xs,hq⟩,q⟩
 .have hh:PI X tg l (TY X.K λσ' H' Q=>Q (.ref a) H')->True:=λ_=>trivial;obtain⟨its,rv,p,hz⟩:=I1.list hq;refine wpAny_pyIter_list p.isList ?_;refine⟨s1.heap.objs.size,[s1.heap.objs.size],_,_,H1,rfl,I1.kept (t':=s1.toks) λb o e=>Heap.get?_push_of_some _ e,abx a _,⟨_,Heap.get?_push_size _ rfl,rfl,rfl⟩,λb hb=>?_,q⟩;have e:b=s1.heap.objs.size:=by simpa using hb
  subst e;exact I1.vf (aO _) (I1.hok.fresh (aO _))
 .obtain⟨its,rv,p,hz⟩:=I1.tuple hq;refine wpAny_pyIter_tuple (show s1.heap.IsTuple a its.toArray from p) ?_;refine⟨s1.heap.objs.size,[s1.heap.objs.size],_,_,H1,rfl,I1.kept (t':=s1.toks) λb o e=>Heap.get?_push_of_some _ e,abe a _,⟨_,Heap.get?_push_size _ rfl,rfl,rfl⟩,λb hb=>?_,q⟩;have e:b=s1.heap.objs.size:=by simpa using hb
  subst e;exact I1.vf (aO _) (I1.hok.fresh (aO _))
end
theorem FZ{env:Env}:∀(names:List (Str×NameKind)) (acc:List (Str×Addr)),(∀y∈names,y.2 = .free->∃c,env.cells.lookup y.1=some c)->(∀p∈acc,env.cells.lookup p.1=some p.2)->
 ∃cl,(forIn names acc λ(y:Str×NameKind) (cs:List (Str×Addr))=>match y with|(name,kind)=>if(kind== .free)=true then do let a<-cellOf env name;pure (ForInStep.yield ((name,a)::cs))else pure (ForInStep.yield cs))=(pure cl:Sem _)/\(∀p∈cl,env.cells.lookup p.1=some p.2)/\(∀p∈acc,p∈cl)/\∀y∈names,y.2 = .free->∃c,(y.1,c)∈cl
 |[],acc,_,ha=>⟨acc,rfl,ha,λ_ h=>h,λ_ h=>nomatch h⟩
 |(n,k)::r,acc,hf,ha=>by
  have hr:∀y∈r,y.2 = .free->∃c,env.cells.lookup y.1=some c:=λy hy=>hf y (gO _ hy);by_cases hk:k = .free
  .subst hk;obtain⟨c,hc⟩:=hf (n,.free) mU rfl;obtain⟨cl,e,h1,h2,h3⟩:=FZ r ((n,c)::acc) hr (λp hp=>by
    rcases jg.mp hp with rfl|hp
    .exact hc
    .exact ha p hp)
   refine⟨cl,?_,h1,λp hp=>h2 p (gO _ hp),λy hy hyf=>?_⟩
   .rw[Q7];simp only[beq_self_eq_true,if_true,cellOf,hc,pure_bind];exact e
   .rcases jg.mp hy with rfl|hy
    .exact⟨c,h2 _ mU⟩
    .exact h3 y hy hyf
  .have hb:(k==NameKind.free)=false:=by simpa using hk
   obtain⟨cl,e,h1,h2,h3⟩:=FZ r acc hr ha;refine⟨cl,?_,h1,h2,λy hy hyf=>?_⟩
   .rw[Q7];simp only[hb,pC,if_false,pure_bind];exact e
   .rcases jg.mp hy with rfl|hy
    .exact absurd hyf hk
    .exact h3 y hy hyf
def aeS{env:Env}{scope:Scope}(hf:∀y∈scope.names,y.2 = .free->∃c,env.cells.lookup y.1=some c):
  ∃cl,closureFor scope env=pure cl/\(∀x c,cl.lookup x=some c->env.cells.lookup x=some c)/\∀y∈scope.names,y.2 = .free->∃c,cl.lookup y.1=some c:=by
 obtain⟨cl,e,h1,_,h3⟩:=FZ (env:=env) scope.names [] hf (λ_ h=>nomatch h);refine⟨cl,?_,λx c h=>h1 (x,c) (nR h),λy hy hyf=>?_⟩
 .unfold closureFor;simp only[bind_pure_comp]at e⊢;rw[e];rfl
 .obtain⟨c,hc⟩:=h3 y hy hyf;cases q:cl.lookup y.1 with
  |some d=>exact⟨d,rfl⟩
  |none=>
   have z:=List.lookup_eq_none_iff.mp q (y.1,c) hc;simp at z
def Ft(sc:Scope)(cl:List (Str×Addr))(C:Addr)(env:Env):Env:=
 { scope:=sc,locals:=C,globals:=env.globals,cells:=cl,qual:=env.qual,func:=none,code:=env.code,frame:=env.frame,builtins:=env.builtins }
def eY(X:Cx)(sc:Scope)(N:List Str)(cl:List (Str×Addr))(C:Addr)(s₀:Shared)(H₀:Hp)(ex:List Addr):Cx:=
 { X with env:=Ft sc cl C X.env,N:=N,s₀:=s₀,H₀:=H₀,outer:=X.stack,ex:=ex,fn:=λ_=>false,pn:=[],xe:=λ_ _=>False }
def cst(ix:List (Option Nat))(σ:St):St:=ix.map λo=>match o with
 |none=>none
 |some i=>match σ[i]? with
  |some v=>v
  |none=>none
def sS(X:Cx)(ifs:List Expr)(t:TT):Prop:=
 ∀(pins:List (Addr×Obj)) (s:Shared) (σ:St) (H:Hp) (Q:Bool->Hp->Prop),Inv X pins σ H s->t σ H Q->
  wpAny (model X.prog X.w) X.A (forIn ifs true λc r=>if r=true then do let ok<-isTrue c X.env (eval c X.env);pure (ForInStep.yield ok)else pure (ForInStep.yield r)) (TP X pins σ Q) X.xe s
def tQ:TT:=λ_ H Q=>Q true H
def lY{X:Cx}:sS X [] tQ:=λ_ _ _ H _ I h=>wpAny_tests_nil ⟨H,I,h⟩
def Hf{X:Cx}{c:Expr}{t:TT}(h:PT X c t):sS X [c] t:=λpins s σ H Q I q=>wpAny_tests_one (h pins s σ H Q I q)
def aeX{prog:Program}{w:World}{A:Around}{R:Result->Shared->Prop}{s:Shared}{elt target iter:Expr}{ifs:List Expr}{scope:Scope}{pos:Pos}{it acc:Value}{env:Env}(I:Nat->Shared->Prop)
  (turn:∀n s,I n s->wpAny (model prog w) A (pyNext it) (λr s₁=>match r with
   |none=>R (.ok .next) s₁
   |some v=>wpAny (model prog w) A (letOwnedTupleGo target it v) (λ_ s₀=>wpAny (model prog w) A (assign target env v) (λ_ s₂=>
     wpAny (model prog w) A (forIn ifs true λc r=>if r=true then do let ok<-isTrue c env (eval c env);pure (ForInStep.yield ok)else pure (ForInStep.yield r)) (λok s₃=>
      if ok=true then wpAny (model prog w) A (eval elt env) (λx s₄=>
       wpAny (model prog w) A (call (.builtin "list.append") [acc,x]) (λ_ s₅=>∃m,m<n/\I m s₅) (λ_ _=>False) s₄) (λ_ _=>False) s₃
      else ∃m,m<n/\I m s₃) (λ_ _=>False) s₂) (λ_ _=>False) s₀) (λ_ _=>False) s₁) (λ_ _=>False) s)
  (n:Nat) (h:I n s):
  codeAny (model prog w) A (.compLoop (.ListComp elt [⟨target,iter,ifs,0⟩] scope pos) 0 it acc env) R s:=by
 refine codeAny_loop rfl I (λn s hI=>?_) n h;show wpAny _ A ((compTurn (.ListComp elt [⟨target,iter,ifs,0⟩] scope pos) 0 it acc env).onRaise (λx=>do noteFrame x env;theTreesLotGoes x)) _ _ s
 refine wpAny_noted ?_;rw[compTurn_list];refine wpAny_bind (wpAny_standAt (wpAny_bind (wpAny_mono (turn n s hI) (λr s₁ h₁=>?_) λ_ _ h'=>h'.elim)));cases r with
 |none=>exact wpAny_pure h₁
 |some v=>
  refine wpAny_bind (wpAny_mono h₁ (λ_ s₀ h₀=>?_) λ_ _ h'=>h'.elim);refine wpAny_bind (wpAny_mono h₀ (λ_ s₂ h₂=>wpAny_bind (wpAny_mono h₂ (λok s₃ h₃=>?_) λ_ _ h'=>h'.elim)) λ_ _ h'=>h'.elim);cases ok with
  |false=>exact wpAny_pure ⟨rfl,h₃⟩
  |true=>
   exact wpAny_bind (wpAny_bind (wpAny_mono h₃ (λx s₄ h₄=>wpAny_bind (wpAny_mono h₄ (λ_ s₅ h₅=>wpAny_pure (wpAny_pure ⟨rfl,h₅⟩)) λ_ _ h'=>h'.elim)) λ_ _ h'=>h'.elim))
structure oh(ix:List (Option Nat))(g:TG)(tc:TT)(te:TE)(σ:St)(Q:VK)(J:It)(H1:Hp):Prop where
 go:∀D,H1 D=none->∃W:Nat->Nat->St->Hp->Prop,(∃m,W 0 m (cst ix σ) (upd H1 D (.lst [])))/\
  ∀i m σ' H',W i m σ' H'->(J.stop i H'/\Q (.ref D) H')∨(J.go i H'/\∀x H2,J.nD i H' x H2->g x σ' H2 λσ3 H3=>tc σ3 H3 λb H4=>
   if b=true then te σ3 H4 λy H5=>∃ys,H5 D=some (.lst ys)/\ys.length<sizeLine/\∃m',m'<m/\W (i+1) m' σ3 (upd H5 D (.lst (ys++[y])))
   else ∃m',m'<m/\W (i+1) m' σ3 H4)
def FJ(ix:List (Option Nat))(wi:TI)(g:TG)(tc:TT)(te:TE):TE:=λσ H Q=>wi σ H λJ H1=>oh ix g tc te σ Q J H1
structure wM(X:Cx)(scope sc:Scope)(N:List Str)(ix:List (Option Nat)):Prop where
 rel:relabel scope X.env=sc
 kind:scope.kind = .function
 cell:∀y∈scope.names,y.2≠ .cell
 names:∀x∈scope.names,x.2 = .local->scope.names.lookup x.1=some .local
 free:∀y∈scope.names,y.2 = .free->X.env.kindOf y.1=some .cell∨X.env.kindOf y.1=some .free
 len:N.length=ix.length
 ix:∀(j:Nat) (x:Str) (i:Nat),N[j]?=some x->ix[j]?=some (some i)->X.N[i]?=some x/\(x,NameKind.free)∈scope.names/\(sc.names.lookup x=some .cell∨sc.names.lookup x=some .free)
 has:∀x,(sc.names.lookup x=some .cell∨sc.names.lookup x=some .free)->(x,NameKind.free)∈scope.names
def Q6{X:Cx}{tg iter elt:Expr}{ifs:List Expr}{scope sc:Scope}{pos ip:Pos}{wi:TI}{g:TG}{tc:TT}{te:TE}{N:List Str}{ix:List (Option Nat)}(O:wM X scope sc N ix)(hc:X.calm=true)(hi:PI X tg iter wi)
  (hb:∀cl C s₀ H₀ ex,PG (eY X sc N cl C s₀ H₀ ex) tg g/\sS (eY X sc N cl C s₀ H₀ ex) ifs tc/\PE (eY X sc N cl C s₀ H₀ ex) elt te) (hs:∀x,foldedSetIterable iter X.env x=pure x)
  {use:Option (Value->Sem Unit)} {QQ:Value->Shared->Prop} {pins:List (Addr×Obj)} {s:Shared} {σ:St} {H:Hp} {Q:VK} (I:Inv X pins σ H s) (h:FJ ix wi g tc te σ H Q)
  (fin:∀(D C:Addr) (s6:Shared) (H5:Hp) (m:Str->Option Value),Inv X pins σ H5 s6->s6.heap.Ns C m->lK X pins H5 C->Q (.ref D) H5->compPost (model X.prog X.w) X.A X.xe use QQ (.ref D) C (.ok .next) s6):
  wpAny (model X.prog X.w) X.A (comprehension (.ListComp elt [⟨tg,iter,ifs,0⟩] scope pos) scope X.env ip (newList []) false (eval iter X.env) use) QQ X.xe s:=by
 have hcl:∃cl,closureFor scope X.env=pure cl/\(∀x c,cl.lookup x=some c->X.env.cells.lookup x=some c)/\∀y∈scope.names,y.2 = .free->∃c,cl.lookup y.1=some c:=
  aeS λy hy hf=>I.ok.has y.1 (O.free y hy hf)
 obtain⟨cl,Zf,qK,Ly⟩:=hcl;refine wpAny_comprehension_free (use:=use) rfl hs Zf O.kind O.names (aF (hi pins s σ H _ I h) λv s1 h1=>aF h1 λitv s2 h2=>?_);obtain⟨it,fp,tn,J,H2,e,I2,T,st2,f2,q2⟩:=h2;subst e;obtain⟨W,⟨m0,w0⟩,turn⟩:=q2.go s2.heap.objs.size I2.fresh;refine wpAny_newObj_type ?_;have I3:=I2.Bg (its:=[]) (t':=s2.toks) (ys:=[]) .nil (cZ _);generalize Ky:upd H2 s2.heap.objs.size (.lst [])=H3 at I3 w0;have eD:H3 s2.heap.objs.size=some (.lst []):=by rw[<-Ky];exact aG
 have adB:∀b∈fp,b≠s2.heap.objs.size:=λb hb z=>by
  obtain⟨o,ho,_⟩:=T.obj _ _ st2 b hb;exact absurd (cu ho) (by rw[z];exact jw _)
 have st3:tn 0 (s2.heap.push { cls:= .type "list",dict:=none,data:= .seq ([]:List Value).toArray }):=T.keep _ _ _ st2 λb _ o e=>Heap.get?_push_of_some _ e;have f3:∀b∈fp,lK X pins H3 b:=λb hb=>⟨by rw[<-Ky,dF (adB b hb)];exact(f2 b hb).1,(f2 b hb).2⟩;generalize UZ:({ s2 with heap:=s2.heap.push { cls:= .type "list",dict:=none,data:= .seq ([]:List Value).toArray },toks:=s2.toks }:Shared)=s3 at I3;have Nz:tn 0 s3.heap:=by rw[<-UZ];exact st3
 refine wpAny_newFunctionEnv O.cell (λy hy=>nomatch hy) (λh4 aeK Yi=>?_) O.kind;have FD:∀b o,s3.heap.get? b=some o->h4.get? b=some o:=λb o e=>(Yi.2 b (gP (cu e))).trans (Heap.get?_push_of_some _ e);have I4:Inv X pins σ H3 { s3 with heap:=h4,toks:=s3.toks+([]:List (Str×Value)).length }:=I3.kept FD;have aeN:({ newEnv scope s3.heap.objs.size X.env.globals cl X.env.qual none .none (some X.env) builtinsNs with scope:=relabel scope X.env }:Env)=Ft sc cl s3.heap.objs.size X.env:=by rw[O.rel];rfl
 rw[aeN];show codeAny _ _ _ (compPost (model X.prog X.w) X.A X.xe use QQ (.ref s2.heap.objs.size) s3.heap.objs.size) _;generalize eC:s3.heap.objs.size=C;generalize G7:({ s3 with heap:=h4,toks:=s3.toks+([]:List (Str×Value)).length }:Shared)=s4 at I4;have BZ:s4.heap=h4:=by rw[<-G7]
 have o4s:s4.os=s3.os:=by rw[<-G7]
 have fC:∀b∈fp,b≠C:=λb hb z=>by
  obtain⟨o,ho,_⟩:=T.obj _ _ Nz b hb;exact absurd (cu ho) (by rw[z,eC];exact jw _)
 have QV:(eY X sc N cl C s3 H3 fp).Ok:=by
  refine⟨I3.ok.mod,?_,I3.ok.glob,I3.ok.blt,yu eC,λx y c h1 h2=>I3.ok.inj x y c (qK x c h1) (qK y c h2),λx hx=>?_,λx c z _=>(nomatch z),I3.ok.hd,I3.ok.frames,.inl rfl,λb hb=>⟨fC b hb,λx c e=>(f3 b hb).2.2.2.2.1 x c (qK x c e)⟩,
   I3.bs,cJ I3.ok.oW I3.sz,λb o e hb=>?_,λb hb z=>?_,I3.stack,I3.CK⟩
  .show sc.kind = .function;rw[<-O.rel];exact O.kind
  .exact Ly (x,.free) (O.has x hx) rfl
  .rcases(f3 b hb).2.2.2.1 with z|z
   .exact I3.ok.vp b o e z
   .exact absurd (dI (cu e) (cJ I3.ok.oW z)) (jw _)
  .rcases jg.mp (I3.yX b z)with z|z
   .exact(f3 b hb).2.1 z
   .exact(f3 b hb).2.2.1 z
 have IC:Inv (eY X sc N cl C s3 H3 fp) [] (cst ix σ) H3 s4:=by
  refine⟨QV,o4s,I4.bare,?_,?_,λx c e=>I4.cell x c (qK x c e),?_,λx c e=>I4.lA x c (qK x c e),λp hp=>(nomatch hp),I4.hok,?_⟩
  .rw[BZ];exact Un.kept FD
  .refine⟨_,by rw[BZ,<-eC];exact aeK,λj x v e1 e2 e3=>?_⟩;have e2':(cst ix σ)[j]?=some (some v):=e2;unfold cst at e2';rw[List.getElem?_map]at e2';cases q:ix[j]? with
   |none=>rw[q]at e2';cases e2'
   |some o=>
    rw[q]at e2';cases o with
    |none=>cases e2'
    |some i=>
     obtain⟨hx,hm,hsc⟩:=O.ix j x i e1 q;cases q2:σ[i]? with
     |none=>simp[q2]at e2'
     |some w'=>
      simp[q2]at e2';subst e2';obtain⟨m,hn,hl⟩:=I4.loc;have kf:=O.free (x,.free) hm rfl;have vis:Ag X.env.scope x:=by
       rcases kf with k|k
       .exact .inr (.inl k)
       .exact .inr (.inr k)
      obtain⟨u,r,l⟩:=hl i x v hx q2 vis;refine⟨u,r,?_⟩;rcases l with⟨k,_⟩|⟨_,c,e,z⟩
      .rcases kf with k'|k'
       .rw[k]at k';cases k'
       .rw[k]at k';cases k'
      .obtain⟨c',e'⟩:=Ly (x,.free) hm rfl;have:=qK x c' e';rw[e]at this;cases this;exact .inr ⟨hsc,c,e',z⟩
  .rw[<-eC];exact I3.fresh
  .show(cst ix σ).length=N.length;rw[O.len];simp[cst]
 have fZ:tn 0 s4.heap:=T.keep _ _ _ Nz λb _ o e=>by rw[BZ];exact FD b o e
 have stat:∀{H':Hp},(∀b∈fp,H' b=none)->∀b∈fp,lK (eY X sc N cl C s3 H3 fp) [] H' b:=λhn b hb=>
  ⟨hn b hb,fC b hb,QV.vZ b hb,.inl hb,λx c e=>(f3 b hb).2.2.2.2.1 x c (qK x c e),λp hp=>(nomatch hp)⟩
 obtain⟨hg,ht,he⟩:=hb cl C s3 H3 fp;have loop:codeAny (model X.prog X.w) X.A (.compLoop (.ListComp elt [⟨tg,iter,ifs,0⟩] scope pos) 0 (.ref it) (.ref s2.heap.objs.size) (Ft sc cl C X.env))
   (compPost (model X.prog X.w) X.A X.xe use QQ (.ref s2.heap.objs.size) C) s4:=by
  refine aeX (λn s'=>∃i σ' H',Inv (eY X sc N cl C s3 H3 fp) [] σ' H' s'/\tn i s'.heap/\(∀b∈fp,H' b=none)/\W i n σ' H') ?_ m0 ⟨0,cst ix σ,H3,IC,fZ,λb hb=>(f3 b hb).1,w0⟩;rintro n s5 ⟨i,σ5,H5,I5,dG,xM,w5⟩;rcases turn i n σ5 H5 w5 with⟨stop,qn⟩|⟨go,step⟩
  .refine aF (T.done (eY X sc N cl C s3 H3 fp) rfl rfl rfl hc i [] s5 σ5 H5 (λ_ _=>False) I5 (stat xM) dG stop) λr s6 ⟨hr,I6⟩=>?_;subst hr;obtain⟨m,hn,_⟩:=id I6.loc;have I7:Inv X pins σ H5 s6:=I3.ae4 (ch:=fp) I6.os I6.base I6.hok I6.bare λb hb=>⟨(f3 b hb).2.2.2.1,(f3 b hb).2.1,(f3 b hb).2.2.2.2.1,(f3 b hb).2.2.2.2.2⟩;exact fin _ C s6 H5 m I7 hn (I3.vf (yu eC) I6.free) qn
  .refine aF (T.item (eY X sc N cl C s3 H3 fp) rfl rfl rfl hc i [] s5 σ5 H5 (λ_ _=>False) I5 (stat xM) dG go) λr s6 ⟨u,hr,h6⟩=>?_;subst hr;refine aF h6 λ_ s7 ⟨x,H7,I7,r7,y7,Fy,fr7⟩=>?_;have I7':=I7.pinned (stat fr7) (T.obj _ _ Fy);have again:∀{σ9:St} {H9:Hp} {s9:Shared} {m':Nat},Inv (eY X sc N cl C s3 H3 fp) ([]++um fp s7.heap) σ9 H9 s9->m'<n->W (i+1) m' σ9 H9->
     ∃m,m<n/\∃i σ' H',Inv (eY X sc N cl C s3 H3 fp) [] σ' H' s9/\tn i s9.heap/\(∀b∈fp,H' b=none)/\W i m σ' H':=λ{σ9 H9 s9 m'} I9 hm w9=>by
    refine⟨m',hm,i+1,σ9,H9,I9.vD,T.keep _ _ _ Fy λb hb o e=>(I9.pin (b,o) (iK _ (iK _ (uG hb e)))).1,λb hb=>?_,w9⟩;obtain⟨o,e,d⟩:=T.obj _ _ Fy b hb;exact(I9.pin (b,o) (iK _ (iK _ (uG hb e)))).2.1
   refine aF (hg _ s7 σ5 H7 x u _ I7' r7 (step x H7 y7)) λ_ s8 ⟨σ8,H8,I8,q8⟩=>?_;refine aF (ht _ s8 σ8 H8 _ I8 q8) λb s9 ⟨H9,I9,q9⟩=>?_;cases b with
   |false=>
    rw[if_neg cV]at q9;obtain⟨m',hm,w9⟩:=q9;rw[if_neg cV];exact again I9 hm w9
   |true=>
    rw[if_pos rfl]at q9;rw[if_pos rfl];refine aF (he _ s9 σ8 H9 _ I9 q9) λy Va ⟨yv,rE,I10,r10,ys,e10,eE,m',hm,w10⟩=>?_;refine aF (Gs _ Va σ8 rE (.ref s2.heap.objs.size) [yv] (.ref s2.heap.objs.size) [y] (λ_ H'=>W (i+1) m' σ8 H') I10 rfl (.cons r10 .nil) ⟨_,ys,yv,rfl,rfl,e10,eE,w10⟩) λ_ s11 ⟨_,uV,Wq,_,w11⟩=>?_;exact again Wq hm w11
 exact codeAny_compStart_list loop (T.self _ _ _ _ _ fZ loop)
def ud{X:Cx}{tg iter elt:Expr}{ifs:List Expr}{scope sc:Scope}{pos:Pos}{wi:TI}{g:TG}{tc:TT}{te:TE}{N:List Str}{ix:List (Option Nat)}(O:wM X scope sc N ix)(hc:X.calm=true)(hi:PI X tg iter wi)
  (hb:∀cl C s₀ H₀ ex,PG (eY X sc N cl C s₀ H₀ ex) tg g/\sS (eY X sc N cl C s₀ H₀ ex) ifs tc/\PE (eY X sc N cl C s₀ H₀ ex) elt te)
  (hs:∀x,foldedSetIterable iter X.env x=pure x:=by intro _;rfl):PE X (.ListComp elt [⟨tg,iter,ifs,0⟩] scope pos) (FJ ix wi g tc te):=by
 intro pins s σ H Q I h;rw[eval_ListComp];exact Q6 (use:=none) (QQ:=EP X pins σ Q) O hc hi hb hs I h λD C s6 H5 m I7 hn f q=>⟨m,hn,λh' hs'=>⟨.ref D,H5,I7.turned (it:=C) (t':=s6.toks) (λb o hb e=>(hs'.2 b hb).trans e) f.1 f.2.1 f.2.2.2.1 f.2.2.2.2.1 f.2.2.2.2.2,rfl,q⟩⟩
def uE{X:Cx}{i:Nat}{y:Str}{py spos:Pos}{tg iter elt:Expr}{ifs:List Expr}{scope sc:Scope}{pos:Pos}{wi:TI}{g:TG}{tc:TT}{te:TE}{N:List Str}{ix:List (Option Nat)}(hN:X.N.Nodup)(hi':X.N[i]?=some y)(hx:Loc X.env.scope y)
  (O:wM X scope sc N ix) (hc:X.calm=true) (hi:PI X tg iter wi)
  (hb:∀cl C s₀ H₀ ex,PG (eY X sc N cl C s₀ H₀ ex) tg g/\sS (eY X sc N cl C s₀ H₀ ex) ifs tc/\PE (eY X sc N cl C s₀ H₀ ex) elt te)
  (hs:∀x,foldedSetIterable iter X.env x=pure x:=by intro _;rfl) (hsw:swapsWith (.ListComp elt [⟨tg,iter,ifs,0⟩] scope pos) (some (.Name y py)) spos.line X.env=pure true:=by rfl)
  (hf:X.fn y=true∨X.env.scope.names.lookup y=some .local:=by first|exact .inl rfl|exact .inr rfl|assumption):
  PS X (.Assign [.Name y py] (.ListComp elt [⟨tg,iter,ifs,0⟩] scope pos) spos) (wN (FJ ix wi g tc te) (iU i)):=by
 intro pins s σ H D I h;rw[exec_Assign_Name_used _ _ _ _ hsw];refine wpAny_bind (wpAny_standAt (wpAny_bind ?_));show wpAny _ X.A (do let _<-comprehension (.ListComp elt [⟨tg,iter,ifs,0⟩] scope pos) scope X.env _ (newList []) false (eval iter X.env) (some (assign (.Name y py) X.env))) _ _ s
 refine wpAny_bind (wpAny_mono (Q6 (use:=some (assign (.Name y py) X.env)) (QQ:=λ_ s'=>∃σ' H',Inv X pins σ' H' s'/\D.nx σ' H') O hc hi hb hs I h λD1 C s6 H5 m I7 hn f q=>?_) (λ_ s' ⟨σ',H',I',q'⟩=>wpAny_pure (wpAny_pure ⟨σ',H',I',q'⟩)) λ_ _ e=>e);obtain⟨o,es,ep,ho,hc1,hc2⟩:=id hn;have I8:=I7.pinned (fp:=[C]) (λb hb=>by
  have e:b=C:=by simpa using hb
  subst e;exact f) (λb hb=>by
  have e:b=C:=by simpa using hb
  subst e;exact⟨o,ho,λv z=>by first|(rw[hc1.2]at z;cases z)|(rw[hc2.1]at z;cases z)|(rw[hc1]at z;cases z)|(simp_all)⟩)
 show wpAny _ X.A (assign (.Name y py) X.env (.ref D1)) _ _ _;refine wpAny_assign_Name (A8 I8 hN hi' hx (v:= .ref D1) rfl (λs7 I9=>?_) hf);have hC:=(I9.pin (C,o) (iK _ (iK _ (uG (by simp) ho)))).1;refine⟨m,⟨o,es,ep,hC,hc1,hc2⟩,λh' hs'=>⟨_,H5,I9.vD.turned (it:=C) (t':=s7.toks) (λb o hb e=>(hs'.2 b hb).trans e) f.1 f.2.1 f.2.2.2.1 f.2.2.2.2.1 f.2.2.2.2.2,q⟩⟩
mutual
inductive gF(K:aA)(H:Hp):V->PyData->Prop
 |non:gF K H .non .none
 |bl (b:Bool):gF K H (.bl b) (.bool b)
 |int (i:Int):gF K H (.int i) (.int i)
 |str (x:Str):gF K H (.str x) (.str x)
 |lst {a:Addr} {xs:List V} {ds:List PyData}:aC K H a xs->ji K H xs ds->gF K H (.ref a) (.list ds)
 |tup {a:Addr} {xs:List V} {ds:List PyData}:aq K H a xs->ji K H xs ds->gF K H (.ref a) (.tuple ds)
inductive ji(K:aA)(H:Hp):List V->List PyData->Prop
 |nil:ji K H [] []
 |cons {x:V} {d:PyData} {xs:List V} {ds:List PyData}:gF K H x d->ji K H xs ds->ji K H (x::xs) (d::ds)
end
section
variable {X:Cx} {pins:List (Addr×Obj)} {σ:St} {H:Hp} {s:Shared}
mutual
theorem Inv.reads(I:Inv X pins σ H s):∀{x:V} {d:PyData} {u:Value},gF X.K H x d->RelV x u->∃as,Reads s.heap u d as
 |_,_,_,.non,r=>by cases r;exact⟨_,.none⟩
 |_,_,_,.bl b,r=>by cases r;exact⟨_,.bool b⟩
 |_,_,_,.int i,r=>by obtain⟨t,rfl⟩:=r;exact⟨_,.int i t⟩
 |_,_,_,.str x,r=>by obtain⟨t,rfl⟩:=r;exact⟨_,.str x t⟩
 |_,_,_,.lst hq hs,r=>by
  cases r;obtain⟨its,rv,pl,_⟩:=I.list hq;obtain⟨as,ra⟩:=Inv.readsAll I hs rv;obtain⟨o,ho,hc,n,hd⟩:=pl.isList;exact⟨_,.list ho hc hd (by simpa using ra)⟩
 |_,_,_,.tup hq hs,r=>by
  cases r;obtain⟨its,rv,pl,_⟩:=I.tuple hq;obtain⟨as,ra⟩:=Inv.readsAll I hs rv;obtain⟨o,ho,hc,n,hd⟩:=pl;exact⟨_,.tuple ho hc hd (by simpa using ra)⟩
theorem Inv.readsAll(I:Inv X pins σ H s):∀{xs:List V} {ds:List PyData} {us:List Value},ji X.K H xs ds->Vals xs us->∃as,ReadsAll s.heap us ds as
 |_,_,_,.nil,.nil=>⟨_,.nil⟩
 |_,_,_,.cons h1 h2,.cons r1 r2=>by
  obtain⟨as,a⟩:=Inv.reads I h1 r1;obtain⟨bs,b⟩:=Inv.readsAll I h2 r2;exact⟨_,.cons a b⟩
end
theorem ji.ints{K:aA}{H:Hp}:∀ns:List Int,ji K H (ns.map V.int) (ns.map Eh)
 |[]=> .nil
 |n::r=> .cons (.int n) (ji.ints r)
def jN(kb:List (Key×V)):List (Key×V)->Bool
 |[]=>true
 |(k,v)::r=>match bU kb k with
  |none=>false
  |some y=>Fx v y&&jN kb r
theorem Eo{A:Around}{kb:List (Key×V)}{vb:List (Key×Value)}(hb:KV kb vb)(fb:kb.all (λp=>jc p.2)=true):∀{ka:List (Key×V)} {va:List (Key×Value)},KV ka va->ka.all (λp=>jc p.2)=true->
  W.KeqHits A s vb va (jN kb ka)
 |[],_,.nil,_=> .nil
 |(k,v)::r,(k',v')::r',.cons ⟨e,rv⟩ t,f=>by
  cases (show k=k' from e);rw[List.all_cons,pJ]at f;have hv:=KV.val hb k;cases q:bU kb k with
  |none=>
   have hn:valueAt vb k=none:=gw.none_of (by rw[q]at hv;exact hv);have e2:jN kb ((k,v)::r)=false:=by simp[jN,q]
   rw[e2];exact .miss hn
  |some y=>
   rw[q]at hv;obtain⟨u,hu,ru⟩:=gw.some_of hv;have fy:jc y=true:=by
    unfold bU at q;cases q2:kb.find? (λkv=>decide (kv.1=k))with
    |none=>rw[q2]at q;cases q
    |some p=>
     rw[q2]at q;cases q;exact oZ.mp fb p (List.mem_of_find?_eq_some q2)
   have e2:jN kb ((k,v)::r)=(Fx v y&&jN kb r):=by simp[jN,q]
   rw[e2];exact .hit hu (Vt rv ru f.1 fy) (Eo hb fb t f.2)
end
section
variable {X:Cx}
def oH(K:aA)(g:Bool->Bool):R2:=λx y H Q=>match x,y with
 |.int i,.int j=>Q (.bl (g (decide (i=j)))) H
 |.bl i,.bl j=>Q (.bl (g (decide (i=j)))) H
 |.str i,.str j=>Q (.bl (g (decide (i=j)))) H
 |.non,.non=>Q (.bl (g true)) H
 |.ref a,.ref b=>(∃d e,gF K H (.ref a) d/\gF K H (.ref b) e/\SeqAt.shaped d=true/\SeqAt.shaped e=true/\Q (.bl (g (u9 d e))) H)∨
   (∃ka kb,H a=some (.dK ka)/\H b=some (.dK kb)/\ka.all (λp=>jc p.2)=true/\kb.all (λp=>jc p.2)=true/\Q (.bl (g (ka.length==kb.length&&jN kb ka))) H)
 |.non,.ref _=>False
 |.ref _,.non=>False
 |x,y=>BK x y=true/\Q (.bl (g (decide (x=y)))) H
def abU{k:Nat}(hr:bI k X.A):aX X (compareOp .Eq) (λx y H Q=>∃d e,gF X.K H x d/\gF X.K H y e/\SeqAt.shaped d=true/\SeqAt.shaped e=true/\Q (.bl (u9 d e)) H):=by
 intro pins s σ H x y v u Q I rx ry h;obtain⟨d,e,h1,h2,h3,h4,q⟩:=h;obtain⟨as,ra⟩:=I.reads h1 rx;obtain⟨bs,rb⟩:=I.reads h2 ry;exact eq_dataH ra rb h3 h4 hr.units ⟨.bl _,H,I,rfl,q⟩
def Xu{k:Nat}(hr:bI k X.A):aX X (compareOp .NotEq) (λx y H Q=>∃d e,gF X.K H x d/\gF X.K H y e/\SeqAt.shaped d=true/\SeqAt.shaped e=true/\Q (.bl (!u9 d e)) H):=by
 intro pins s σ H x y v u Q I rx ry h;obtain⟨d,e,h1,h2,h3,h4,q⟩:=h;obtain⟨as,ra⟩:=I.reads h1 rx;obtain⟨bs,rb⟩:=I.reads h2 ry;exact ne_dataH ra rb h3 h4 hr.units ⟨.bl _,H,I,rfl,q⟩
def aeg{k:Nat}(hr:bI k X.A):aX X (compareOp .Eq) (λx y H Q=>∃a b ka kb,x = .ref a/\y = .ref b/\H a=some (.dK ka)/\H b=some (.dK kb)/\ka.all (λp=>jc p.2)=true/\kb.all (λp=>jc p.2)=true/\Q (.bl (ka.length==kb.length&&jN kb ka)) H):=by
 intro pins s σ H x y v u Q I rx ry h;obtain⟨a,b,ka,kb,rfl,rfl,h1,h2,h3,h4,q⟩:=h;cases rx;cases ry;obtain⟨_,ea,va,ra,da⟩:ka.length<=sizeLine/\(a==sysModules)=false/\∃vs,KV ka vs/\s.heap.DictOf (dN X.prog X.w) a vs:=I.hok a _ h1;obtain⟨_,eb,vb,rb,db⟩:kb.length<=sizeLine/\(b==sysModules)=false/\∃vs,KV kb vs/\s.heap.DictOf (dN X.prog X.w) b vs:=I.hok b _ h2;refine W.keq_eq ea eb da db hr.Ip (λ_=>Eo rb h4 ra h3) ⟨.bl _,H,I,?_,q⟩;show _=Value.bool _;rw[Paired.length ra,Paired.length rb]
def UN{k:Nat}(hr:bI k X.A):aX X (compareOp .NotEq) (λx y H Q=>∃a b ka kb,x = .ref a/\y = .ref b/\H a=some (.dK ka)/\H b=some (.dK kb)/\ka.all (λp=>jc p.2)=true/\kb.all (λp=>jc p.2)=true/\Q (.bl (!(ka.length==kb.length&&jN kb ka))) H):=by
 intro pins s σ H x y v u Q I rx ry h;obtain⟨a,b,ka,kb,rfl,rfl,h1,h2,h3,h4,q⟩:=h;cases rx;cases ry;obtain⟨_,ea,va,ra,da⟩:ka.length<=sizeLine/\(a==sysModules)=false/\∃vs,KV ka vs/\s.heap.DictOf (dN X.prog X.w) a vs:=I.hok a _ h1;obtain⟨_,eb,vb,rb,db⟩:kb.length<=sizeLine/\(b==sysModules)=false/\∃vs,KV kb vs/\s.heap.DictOf (dN X.prog X.w) b vs:=I.hok b _ h2;refine W.keq_ne ea eb da db hr.Ip (λ_=>Eo rb h4 ra h3) ⟨.bl _,H,I,?_,q⟩;show _=Value.bool _;rw[Paired.length ra,Paired.length rb]
def Hx{i j:Int}:decide (V.int i=V.int j)=decide (i=j):=by simp
def G9{i j:Bool}:decide (V.bl i=V.bl j)=decide (i=j):=by simp
def Mi{i j:Str}:decide (V.str i=V.str j)=decide (i=j):=by simp
def v_eq{k:Nat}(hr:bI k X.A):aX X (compareOp .Eq) (oH X.K id):=by
 refine(Xi.or ((abU hr).or (aeg hr))).imp λx y H Q h=>?_;unfold oH at h;split at h
 .exact .inl ⟨rfl,by rw[Hx];exact h⟩
 .exact .inl ⟨rfl,by rw[G9];exact h⟩
 .exact .inl ⟨rfl,by rw[Mi];exact h⟩
 .exact .inl ⟨rfl,by rw[decide_eq_true rfl];exact h⟩
 .rcases h with⟨d,e,h⟩|⟨ka,kb,h⟩
  .exact .inr (.inl ⟨d,e,h⟩)
  .exact .inr (.inr ⟨_,_,ka,kb,rfl,rfl,h⟩)
 .exact h.elim
 .exact h.elim
 .exact .inl h
def adH{k:Nat}(hr:bI k X.A):aX X (compareOp .NotEq) (oH X.K not):=by
 refine(acO.or ((Xu hr).or (UN hr))).imp λx y H Q h=>?_;unfold oH at h;split at h
 .exact .inl ⟨rfl,by rw[Hx];exact h⟩
 .exact .inl ⟨rfl,by rw[G9];exact h⟩
 .exact .inl ⟨rfl,by rw[Mi];exact h⟩
 .exact .inl ⟨rfl,by rw[decide_eq_true rfl];exact h⟩
 .rcases h with⟨d,e,h⟩|⟨ka,kb,h⟩
  .exact .inr (.inl ⟨d,e,h⟩)
  .exact .inr (.inr ⟨_,_,ka,kb,rfl,rfl,h⟩)
 .exact h.elim
 .exact h.elim
 .exact .inl h
end
end L2
namespace PySem.SeqAt
open AutoSeq1 (wpAny_loadPart')
open MeetsSeq MeetsSeq2 MeetsSeq3 SeqRoads2
def adL(b:Int)(u:Tok)(l:Addr)(c:Value)(dd:Option Addr)(es:Array DictEntry)(n:Nat)(sl:Array (Option Value)):
  Meets (Builtin.«int.__eq__» ⟨[.int b u,.ref l],[]⟩) (λ_ R s=>s.heap.get? l=some { cls:=c,dict:=dd,data:= .dict es n,slots:=sl }/\R (.ok (.ret .notImplemented)) s):=
 .of_wp λprog w A R s h=>by obtain⟨hp,g,d,tk,os⟩:=s;obtain⟨hl,h⟩:=h;wp_walk using wpAny_loadPart' hl,wpAny_load hl;exact⟨_,rfl,h⟩
section
variable {A:Around} {s:Shared}
def RcAt.int_dict{l:Addr}{o:Obj}(b:Int)(u:Tok)(ho:s.heap.get? l=some o)(hc:o.cls = .type "dict"){es:Array DictEntry}{ep:Nat}(hd:o.data = .dict es ep)(hu:A.units<cLine):RcAt A s (.int b u) (.ref l) false:=λprog w E Q h=>by
 have ty:s.TypeIs (.ref l) "dict" := ⟨o,ho,hc⟩;obtain⟨cls,dd,data,sl⟩:=o;simp only at hc hd;subst hc hd;refine rc_eq_decline_or (k:=false) (typeIs_int s b u) ty ∅ F.sub_dict_int F.slot_int_eq GK
  (λ_ hq=>call_meets F.slot_int_eq (typeIs_int s b u) F.entry_int_eq (F.args_int_eq_2 _ _) (adL b u l (.type "dict") dd es ep sl) ⟨ho,hq⟩)
  (λ_ hq=>wpAny_call_entry GK ty F.entry_dict_eq ?_ (F.args_dict_eq_2 _ _))
  (λ_ hq=>wpAny_of_eq (rfl:isSame (.int b u) (.ref l)=pure false) hq) (.inr hu) h
 show wpAny _ _ (Builtin.Dict.dictSlotArgs "__eq__" ⟨[.ref l,.int b u],[]⟩>>=_) _ _ s;refine wpAny_bind ?_;unfold Builtin.Dict.dictSlotArgs;refine wpAny_bind (wpAny_notOrdered_dict ty ?_);show wpAny _ _ (pure (Value.ref l,Value.int b u)) _ _ s;refine wpAny_pure ?_;refine wpAny_bind (wpAny_isInstance (T:= "int") (typeIs_int s b u) PySem.F.sub_int_dict ?_);simp only[Bool.not_false,if_true];exact wpAny_bind (wpAny_rule (wpAny_pure ⟨_,rfl,hq⟩))
theorem EqAt.int_dict{l:Addr}{o:Obj}(b:Int)(u:Tok)(ho:s.heap.get? l=some o)(hc:o.cls = .type "dict"){es:Array DictEntry}{ep:Nat}(hd:o.data = .dict es ep)(hu:A.units<cLine):EqAt A s (.int b u) (.ref l) false:=λprog w E Q h=>by
 unfold eqBool;refine wpAny_holding ?_;refine wpAny_ite_split (λhab=>absurd (eq_of_beq hab) nofun) (λ_=>?_);exact wpAny_bind (RcAt.int_dict b u ho hc hd hu prog w E _ (wpAny_truthy_bool h))
end
end PySem.SeqAt
namespace L2
open PySem PySem.Spec PyProof.Rows
section
variable {X:Cx}
def lH(x:V)(n:Int):Bool:=match x with
 |.int i=>n==i
 |.bl b=>n==(if b then 1 else 0)
 |_=>false
def af6{pins:List (Addr×Obj)}{σ:St}{H:Hp}{s:Shared}{x:V}{v:Value}{t:String}{k:Nat}(I:Inv X pins σ H s)(hr:bI k X.A)(rx:RelV x v)(ty:Mp H x=some t)(n:Int)(u:Tok):SeqAt.EqAt X.A.in1 s (.int n u) v (lH x n):=by
 have hu:X.A.in1.units<cLine:=by
  have h1:=hr.units;have h2:X.A.in1.units<=X.A.units+1:=by first|exact aO _|(simp[Around.in1];done)|exact BL _
  omega
 cases x with
 |non=>cases rx;exact SeqAt.EqAt.int_none n u
 |bl b=>cases rx;exact SeqAt.EqAt.int_bool n u b
 |int i=>obtain⟨t',rfl⟩:=rx;exact SeqAt.EqAt.int_int n u i t'
 |str x=>obtain⟨t',rfl⟩:=rx;exact SeqAt.EqAt.int_str n u x t'
 |ref a=>
  cases rx;have ty':(match H a with
   |some (.lst _)=>some "list"
   |some (.gH _ (.lst _))=>some "list"
   |some (.tup _)=>some "tuple"
   |some (.dK _)=>some "dict"
   |_=>none)=some t:=ty
  split at ty'
  .rename_i xs e
   obtain⟨its,_,pl,_⟩:=I.list (aC.of e);exact SeqAt.EqAt.int_list n u pl.isList hu
  .rename_i o xs e
   obtain⟨its,_,pl,_⟩:=I.list (a:=a) (xs:=xs) (.inl (.inr ⟨o,e⟩));exact SeqAt.EqAt.int_list n u pl.isList hu
  .rename_i xs e
   obtain⟨its,_,pl,_⟩:=I.tuple (aq.of e);exact SeqAt.EqAt.int_tuple n u pl hu
  .rename_i kvs e
   obtain⟨_,_,vs,_,o,es,ep,h1,h2,h3,_⟩:kvs.length<=sizeLine/\(a==sysModules)=false/\∃vs,KV kvs vs/\s.heap.DictOf (dN X.prog X.w) a vs:=I.hok a _ e;exact SeqAt.EqAt.int_dict n u h1 h2.1 h3 hu
  .cases ty'
 |_=>cases ty
def zT(x:V)(u:Value):Bool:=match u with
 |.int n _=>lH x n
 |_=>false
def QY(K:aA)(g:Bool->Bool):R2:=λx y H Q=>∃(p:Addr) (ns:List Int) (t:String),y = .ref p/\aC K H p (ns.map V.int)/\Mp H x=some t/\Q (.bl (g (ns.any (lH x)))) H
theorem any_ints{x:V}:∀{ns:List Int} {us:List Value},IntsAre us ns->us.any (zT x)=ns.any (lH x)
 |_,_,.nil=>rfl
 |_,_,.cons n t r=>by rw[vq,vq,any_ints r];rfl
def aa2{us:List Value}{ns:List Int}(h:IntsAre us ns):∀u∈us,∃n t,u = .int n t:=by
 induction h with
 |nil=>intro u hu;cases hu
 |cons n t r ih=>
  intro u hu;rcases jg.mp hu with rfl|hu
  .exact⟨n,t,rfl⟩
  .exact ih u hu
def X5{k:Nat}(hr:bI k X.A):aX X (compareOp .In) (QY X.K id):=by
 intro pins s σ H x y v u Q I rx ry h;obtain⟨p,ns,t,rfl,hq,ty,q⟩:=h;cases ry;obtain⟨its,r,pl,hz⟩:=I.list hq;have hi:=intsAre_of r;refine SeqAt.in_listAt (zT x) pl.isList (λw hw=>?_) ⟨.bl _,H,I,rfl,?_⟩
 .obtain⟨n,t',rfl⟩:=aa2 hi w (by simpa using hw);exact af6 I hr rx ty n t'
 .rw[show its.toArray.any (zT x)=its.any (zT x)by simp,any_ints hi];exact q
end
def boot_sum:bootBuiltins "sum" = some (.builtin "sum"):=by decide +kernel
def boot_max:bootBuiltins "max" = some (.builtin "max"):=by decide +kernel
def boot_int:bootBuiltins "int" = some (.type "int"):=by decide +kernel
def boot_tuple:bootBuiltins "tuple" = some (.type "tuple"):=by decide +kernel
def boot_list:bootBuiltins "list" = some (.type "list"):=by decide +kernel
structure Fn(K:aA)(mg:Str->Option Value)(x:Str)(st:Stmt)(ps:List Str):Prop where
 ex:∃(f:Addr) (fd:FuncData),m9 K x x st f fd/\mg x=some (.ref f)/\Binds K fd ps []
def Fn.cal{P:Program}{w:World}{K:aA}{mg:Str->Option Value}{base:Heap}{x:Str}{st:Stmt}{N ps:List Str}{k:Nat}{sp:Sp}(F:Fn K mg x st ps)(S:aZ N ps (aQ st))(len:∀vs H Q E,sp vs H Q E->vs.length=ps.length)
  (hbody:∀(f:Addr) (cdv:Value) (A:Around) (outer:List Env) (s:Shared) (H:Hp) (vs:List V) (Q:VK) (E:XK),bI k (A.deeper (envOfC x (aQ st) s.heap.objs.size f cdv))->sp vs H Q E->
   ∃t,eZ (cU P w K mg base N x (aQ st) f cdv A outer s H E).vo (f9 st) t/\t { nx:=λ_ H'=>Q .non H',rt:=Q } (start N vs) H):fV P w K mg base x (k+1) ps sp:=by
 obtain⟨f,fd,F,m,b⟩:=F.ex;exact⟨f,fd,m,F.kp,b,F.okN S len λcdv A outer s H vs Q E hr h=>hbody f cdv A outer s H vs Q E hr h⟩
def Fn.wZ{P:Program}{w:World}{K:aA}{mg:Str->Option Value}{base:Heap}{x:Str}{st:Stmt}{N ps:List Str}{k:Nat}{sp:Sp}(F:Fn K mg x st ps)(S:aZ N ps (aQ st))(len:∀vs H Q E,sp vs H Q E->vs.length=ps.length)
  (hbody:∀(f:Addr) (cdv:Value) (A:Around) (outer:List Env) (s:Shared) (H:Hp) (vs:List V) (Q:VK) (E:XK),bI k (A.deeper (envOfC x (aQ st) s.heap.objs.size f cdv))->sp vs H Q E->
   ∃t,eZ (cU P w K mg base N x (aQ st) f cdv A outer s H E) (f9 st) t/\t { nx:=λ_ H'=>Q .non H',rt:=Q } (start N vs) H):fV P w K mg base x (k+1) ps sp:=by
 obtain⟨f,fd,F,m,b⟩:=F.ex;exact⟨f,fd,m,F.kp,b,F.K8 S len λcdv A outer s H vs Q E hr h=>hbody f cdv A outer s H vs Q E hr h⟩
def Same.new{H:Hp}{p:Addr}(h:H p=none)(o:HO):Same H (upd H p o):=λb u q=>by rw[dF (oA q h)];exact q
theorem Same.upd{H H':Hp}{p:Addr}(g:Same H H')(h:H p=none)(o:HO):Same H (L2.upd H' p o):=λb u q=>by rw[dF (oA q h)];exact g b u q
def Same.Dn{K:aA}{H H':Hp}{a:Addr}{xs:List V}(e:Same H H')(h:aq K H a xs):aq K H' a xs:=by
 rcases h with(h|⟨o,h⟩)|h
 .exact .inl (.inl (e _ _ h))
 .exact .inl (.inr ⟨o,e _ _ h⟩)
 .exact .inr h
def mulL{i j:Int}(h1:-(2^64)<i)(h2:i<2^64):IntMulOk i j:= .of_left (intBits_le_64 h1 h2)
def mulR{i j:Int}(h1:-(2^64)<j)(h2:j<2^64):IntMulOk i j:= .of_right (intBits_le_64 h1 h2)
def jm{N:List Str}(h:decide N.Nodup=true:=by kernel_rfl):N.Nodup:=of_decide_eq_true h
abbrev jF(l:List (Str×NameKind)):Scope:={ kind:= .function,names:=l,isGenerator:=false,isCoroutine:=false }
def jt{X:Cx}{scope sc:Scope}{N:List Str}{ix:List (Option Nat)}(sc':relabel scope X.env=sc:=by kernel_rfl)(kind:scope.kind = .function:=by kernel_rfl)(cell:scope.names.all (λy=>y.2 != .cell)=true:=by kernel_rfl)
  (names:scope.names.all (λx=>x.2 != .local||scope.names.lookup x.1==some .local)=true:=by kernel_rfl)
  (free:scope.names.all (λy=>y.2 != .free||(X.env.scope.names.lookup y.1==some .cell||X.env.scope.names.lookup y.1==some .free))=true:=by kernel_rfl)
  (len:N.length=ix.length:=by kernel_rfl)
  (hix:(N.zip ix).all (λp=>match p.2 with
   |none=>true
   |some i=>X.N[i]?==some p.1&&scope.names.any (λy=>y.1==p.1&&y.2== .free)&&(sc.names.lookup p.1==some .cell||sc.names.lookup p.1==some .free))=true:=by kernel_rfl)
  (has:sc.names.all (λy=>(y.2 != .cell&&y.2 != .free)||scope.names.any (λz=>z.1==y.1&&z.2== .free))=true:=by kernel_rfl):wM X scope sc N ix:=by
 have mem:∀x:Str,scope.names.any (λy=>y.1==x&&y.2== .free)=true->(x,NameKind.free)∈scope.names:=λx h=>by
  obtain⟨y,hy,e⟩:=Mq.mp h;rw[pJ]at e;obtain⟨a,b⟩:=y;have e1:a=x:=eq_of_beq e.1;have e2:b = .free:=eq_of_beq e.2;subst e1;subst e2;exact hy
 refine⟨sc',kind,λy hy e=>?_,λx hx e=>?_,λy hy e=>?_,len,λj x i h1 h2=>?_,λx hx=>?_⟩
 .have:=oZ.mp cell y hy;rw[e]at this;cases this
 .have:=oZ.mp names x hx;rw[e]at this;simpa using this
 .have:=oZ.mp free y hy;rw[e]at this;simpa[Env.kindOf]using this
 .have hm:(x,some i)∈N.zip ix:=by
   have:(N.zip ix)[j]?=some (x,some i):=by
    rw[List.getElem?_zip_eq_some];exact⟨h1,h2⟩
   exact List.mem_of_getElem? this
  have:=oZ.mp hix _ hm;simp only[pJ]at this;obtain⟨⟨a1,a2⟩,a3⟩:=this;refine⟨eq_of_beq a1,mem x a2,?_⟩;rw[yW]at a3;rcases a3 with z|z
  .exact .inl (eq_of_beq z)
  .exact .inr (eq_of_beq z)
 .have hm:∃k,(x,k)∈sc.names/\(k = .cell∨k = .free):=by
   rcases hx with z|z
   .exact⟨_,nR z,.inl rfl⟩
   .exact⟨_,nR z,.inr rfl⟩
  obtain⟨k,hk,e⟩:=hm;have:=oZ.mp has _ hk;rw[yW]at this;rcases this with z|z
  .rcases e with e|e<;>(subst e;simp at z)
  .exact mem x z
structure bG(K:aA)(x:Str)(st:Stmt):Prop where
 ex:∃(f:Addr) (oc:Value) (od:Option Addr) (kV doc pm:Value) (an:Option Addr) (cdv ct:Value) (sl:Array (Option Value)),fH K mainGlobals x=some (some (.ref f))/\
  K.lookup f=some ⟨oc,od,.func (jr x x (jH st) (f9 st) (aQ st) .none kV doc pm an cdv ct),sl⟩/\vG K cdv x=true/\rM K (.ref f)=true
def aeB{K:aA}{x:Str}{st:Stmt}{f:Addr}{oc:Value}{od:Option Addr}{kV doc pm:Value}{an:Option Addr}{cdv ct:Value}{sl:Array (Option Value)}(a:fH K mainGlobals x=some (some (.ref f)))
  (l:K.lookup f=some ⟨oc,od,.func (jr x x (jH st) (f9 st) (aQ st) .none kV doc pm an cdv ct),sl⟩) (c:vG K cdv x=true) (k:rM K (.ref f)=true):bG K x st:=
 ⟨f,oc,od,kV,doc,pm,an,cdv,ct,sl,a,l,c,k⟩
def bG.fn{K:aA}{h:Heap}{mg:Str->Option Value}{x:Str}{st:Stmt}{ps:List Str}(F:bG K x st)(X:K.In h)(G:h.Ns mainGlobals mg)
  (hb:∀(kV doc pm:Value) (an:Option Addr) (cdv ct:Value) (us:List Value),us.length=ps.length->bindArgs (jr x x (jH st) (f9 st) (aQ st) .none kV doc pm an cdv ct) ⟨us,[]⟩=pure (ps.zip us)):Fn K mg x st ps:=by
 obtain⟨f,oc,od,kV,doc,pm,an,cdv,ct,sl,a,l,c,k⟩:=F.ex;have FF:=J1 (st:=st) l c k;exact⟨f,_,FF,oO X G a,FF.binds hb⟩
def bG.bO{K:aA}{h:Heap}{mg:Str->Option Value}{x:Str}{st:Stmt}{ps:List Str}(F:bG K x st)(X:K.In h)(G:h.Ns mainGlobals mg)
  (hb:∀(kV doc pm:Value) (an:Option Addr) (cdv ct:Value) (us:List Value),us.length=ps.length->bindArgs (jr x x (jH st) (f9 st) (aQ st) .none kV doc pm an cdv ct) ⟨us,[]⟩=pure (ps.zip us):=by
   intro _ _ _ _ _ _ us hl;first
    |(obtain⟨_,rfl⟩:=L2.JW hl;rfl)
    |(obtain⟨_,_,rfl⟩:=L2.Jk hl;rfl)
    |(obtain⟨_,_,_,rfl⟩:=L2.Ka hl;rfl)
    |(obtain⟨_,_,_,_,rfl⟩:=L2.Zj hl;rfl)
    |(obtain rfl:=L2.K1 hl;rfl)
    |(obtain⟨_,_,_,_,_,rfl⟩:=L2.us5 hl;rfl)
    |(obtain⟨_,_,_,_,_,_,rfl⟩:=L2.us6 hl;rfl)):Fn K mg x st ps:=F.fn X G hb
def bL{N P:List Str}{sc:Scope}(kind:sc.kind = .function:=by rfl)(co:sc.isCoroutine=false:=by rfl)(gen:sc.isGenerator=false:=by rfl)(nd:N.Nodup:=by decide +kernel)(pre:N.take P.length=P:=by rfl)
  (par:∀x∈P,sc.names.lookup x=some .local∨sc.names.lookup x=some .cell:=by decide +kernel) (AK:∀y∈sc.names,y.2≠ .free:=by decide +kernel):aZ N P sc:=⟨kind,co,gen,nd,pre,par,AK⟩
structure uO(J:It)(xs:List V)(H1:Hp):Prop where
 go:∀i H',Same H1 H'->i<xs.length->J.go i H'
 nD:∀i H' x H2,Same H1 H'->J.nD i H' x H2->H2=H'/\(i<xs.length->xs[i]?=some x)
 stop:∀i H',Same H1 H'->xs.length<=i->J.stop i H'
def aeY{K:aA}{a:Addr}{xs:List V}{H1:Hp}(hq:aC K H1 a xs):uO (uW K a) xs H1:=
 ⟨λi H' g h=>⟨xs,xs[i],g.seq hq,by simp[h]⟩,λi H' x H2 g y=>⟨y.1,λ_=>y.2 xs (g.seq hq)⟩,λi H' g h=>⟨xs,g.seq hq,h⟩⟩
def XD{K:aA}{a:Addr}{xs:List V}{H1:Hp}(hq:aq K H1 a xs):uO (yw K a) xs H1:=
 ⟨λi H' g h=>⟨xs,xs[i],g.Dn hq,by simp[h]⟩,λi H' x H2 g y=>⟨y.1,λ_=>y.2 xs (g.Dn hq)⟩,λi H' g h=>⟨xs,g.Dn hq,h⟩⟩
def zE{lo:Int}{n:Nat}{H1:Hp}:uO (gQ lo n) ((bQ n).map λi=>V.int (lo+(i:Nat))) H1:=
 ⟨λi H' g h=>show i<n by simpa using h,λi H' x H2 g y=>⟨y.1,λh=>by
  have h':i<n:=by simpa using h
  rw[List.getElem?_map,List.getElem?_range h',y.2];rfl⟩,λi H' g h=>show n<=i by simpa using h⟩
def vL{J:It}{xs:List V}{ix:List (Option Nat)}{tc:TT}{te:TE}{σ:St}{H1:Hp}{Q:VK}(I:uO J xs H1)(hz:xs.length<=sizeLine){rest:St}(hst:cst ix σ=none::rest)(p:V->Bool)(F:V->V)
  (ht:∀H' x,Same H1 H'->x∈xs->∀k:Bool->Hp->Prop,k (p x) H'->tc (some x::rest) H' k)
  (he:∀H' x,Same H1 H'->x∈xs->p x=true->∀k:VK,k (F x) H'->te (some x::rest) H' k)
  (hQ:∀D,H1 D=none->Q (.ref D) (upd H1 D (.lst ((xs.filter p).map F)))):
  oh ix (iU 0) tc te σ Q J H1:=by
 constructor;intro D hD;refine⟨λi m σ' H'=>m=xs.length-i/\i<=xs.length/\(∃o,σ'=o::rest)/\H'=upd H1 D (.lst (((xs.take i).filter p).map F)),⟨xs.length,by simp,cZ _,⟨none,hst⟩,by simp⟩,?_⟩;rintro i m σ' H' ⟨rfl,hi,⟨o,rfl⟩,rfl⟩;have g:Same H1 (upd H1 D (.lst (((xs.take i).filter p).map F))):=Same.new hD _;by_cases hlt:i<xs.length
 .refine .inr ⟨I.go i _ g hlt,λx H2 y=>?_⟩;obtain⟨rfl,hx⟩:=I.nD i _ x H2 g y;have hx:=hx hlt;have hm:x∈xs:=List.mem_of_getElem? hx;have et:xs.take (i+1)=xs.take i++[x]:=by
   rw[Fv,hx];rfl
  show tc (some x::rest) _ _;refine ht _ x g hm _ ?_;cases hp:p x with
  |true=>
   rw[if_pos rfl];refine he _ x g hm hp _ ⟨_,aG,?_,xs.length-(i+1),⋯,rfl,hlt,⟨_,rfl⟩,?_⟩
   .have h1:(((xs.take i).filter p).map F).length<=i:=by
     rw[aM];exact cJ (Jt _ _) (by rw[iB];omega)
    omega
   .rw[ado,et,KL,iJ];simp[hp]
  |false=>
   rw[if_neg cV];refine⟨xs.length-(i+1),⋯,rfl,hlt,⟨_,rfl⟩,?_⟩;rw[et,KL];simp[hp]
 .have e:i=xs.length:=⋯;subst e;refine .inl ⟨I.stop _ _ g (aO _),?_⟩;rw[sG];exact hQ D hD
structure Bar(t:TE)(σ:St)(H:Hp)(Q:VK):Prop where
 go:t σ H Q
def ZJ(t:TE):TE:=λσ H Q=>Bar t σ H Q
def Bar.by{t:TE}{σ:St}{H:Hp}{Q:VK}(R:V->Hp->Prop)(h:∀k:VK,(∀v H1,R v H1->k v H1)->t σ H k)(q:∀v H1,R v H1->Q v H1):Bar t σ H Q:=⟨h Q q⟩
def Fo{X:Cx}{e:Expr}{t:TE}(h:PE X e t):PE X e (ZJ t):=λpins s σ H Q I q=>h pins s σ H Q I q.go
structure m5(t:TS)(D:Ends)(σ:St)(H:Hp):Prop where
 go:t D σ H
def adn(t:TS):TS:=λD σ H=>m5 t D σ H
def rC{X:Cx}{st:Stmt}{t:TS}(h:PS X st t):PS X st (adn t):=λpins s σ H D I q=>h pins s σ H D I q.go
theorem m5.by{t:TS}{D:Ends}{σ:St}{H:Hp}(R:St->Hp->Prop)(h:∀N:St->Hp->Prop,(∀σ' H',R σ' H'->N σ' H')->t { D with nx:=N } σ H)(q:∀σ' H',R σ' H'->D.nx σ' H'):m5 t D σ H:=by
 constructor;exact h D.nx q
end L2
namespace HT
open PySem PyProof.Rows
section
variable {prog:Program} {w:World} {A:Around} {E:Value->Shared->Prop} {s:Shared}
def adf{t sl:Addr}{items:Array Value}{vl vu:Value}{lo hi:Option Int}{Q:Value->Shared->Prop}(ht:IsTup s.heap t items)(hs:s.heap.IsSliceOf sl vl vu .none)(pl:IsPart vl lo)(pu:IsPart vu hi)
  (hw:aL items.size 0 lo=0/\aL items.size items.size hi=items.size) (h:Q (.ref t) s):wpAny (model prog w) A (getItem (.ref t) (.ref sl)) Q E s:=by
 obtain⟨os,hos,hcs,hds⟩:=id hs;have hTs:s.TypeIs (.ref sl) "slice" := ⟨os,hos,hcs⟩;unfold getItem;try with_reducible refine wpAny_holding ?_
 first|refine wpAny_bind (wpAny_pure ?_)|skip
 refine wpAny_bind (wpAny_sequenceKey ht.typeIs ∅ ?_);refine wpAny_bind (wpAny_callSpecial?_slot (name:=Str.ofString "__getitem__") ht.typeIs rJ
  (wpAny_call_entry rJ ht.typeIs entry_tuple_getitem ?_ (args_tuple_getitem _ _)))
 show wpAny _ _ (Builtin.Tuple.tupleItemsOf (.ref t)>>=_) _ _ s;refine wpAny_bind (tupleItemsOf_ ht ?_);refine wpAny_bind (wpAny_typeOf hTs ?_);rw[if_pos ∅];refine wpAny_bind (Ow hs pl pu ?_);have hyes:(((aL items.size 0 lo:Nat):Int)==0&&(1:Int)==1&&(aL items.size items.size hi-aL items.size 0 lo)==items.size)=true:=by
  rw[hw.1,hw.2];simp
 show wpAny _ _ (if(((aL items.size 0 lo:Nat):Int)==0&&(1:Int)==1&&(aL items.size items.size hi-aL items.size 0 lo)==items.size)=true then _ else _) _ _ s;rw[if_pos hyes];unfold Builtin.Tuple.tupleIsExact;refine wpAny_bind (wpAny_bind (wpAny_typeOf ht.typeIs (wpAny_pure ?_)));rw[if_pos ∅];exact wpAny_bind (wpAny_rule (wpAny_pure ⟨_,rfl,wpAny_pure h⟩))
end
end HT
namespace L2
open PySem PySem.Spec PyProof.Rows
section
variable {X:Cx}
def ZC:iM X (λx lo hi H Q=>∃a xs,x = .ref a/\aq X.K H a xs/\(HT.aL xs.length 0 lo=0/\HT.aL xs.length xs.length hi=xs.length)/\Q (.ref a) H):=by
 intro pins s σ H x v vl vu lo hi sl Q I rx hs pl pu h;obtain⟨a,xs,rfl,hx,hw,q⟩:=h;cases rx;obtain⟨its,r,ht,hz⟩:=I.tuple hx;have hlen:its.toArray.size=xs.length:=by rw[cI];exact r.length.symm
 refine⟨"tuple",_,rJ.lookup,ht.typeIs,?_⟩;exact HT.adf ht hs pl pu (by rw[hlen];exact hw) ⟨.ref a,H,I,rfl,q⟩
end
section
variable {X:Cx} (K:aA)
def iM.imp{r r':V->Option Int->Option Int->Hp->VK->Prop}(h:iM X r)(i:∀x lo hi H Q,r' x lo hi H Q->r x lo hi H Q):iM X r':=λpins s σ H x v vl vu lo hi sl Q I rx hs pl pu q=>h pins s σ H x v vl vu lo hi sl Q I rx hs pl pu (i _ _ _ _ _ q)
def abH(hK:X.K=K:=by rfl):aX X (binaryOp .Add) (yN K):=by subst hK;exact v_add
def xix(hK:X.K=K:=by rfl):gn X (xQ K):=by subst hK;exact aa4
def gq{k:Nat}(hr:bI k X.A)(hK:X.K=K:=by rfl):aX X (compareOp .Eq) (oH K id):=by subst hK;exact v_eq hr
def R4{k:Nat}(hr:bI k X.A)(hK:X.K=K:=by rfl):aX X (compareOp .NotEq) (oH K not):=by subst hK;exact adH hr
def LV{k:Nat}(hr:bI k X.A)(hK:X.K=K:=by rfl):aX X (compareOp .In) (QY K id):=by subst hK;exact X5 hr
def agc(hK:X.K=K:=by rfl):gG X (.builtin "len") (λxs H Q=>∃x n,xs=[x]/\AF K x H n/\Q (.int n) H):=by subst hK;exact aeC
def Ji(hc:X.calm=true)(hK:X.K=K:=by rfl):gG X (.builtin "sum") (λxs H Q=>∃(l:Addr) (ns:List Int),xs=[.ref l]/\aC K H l (ns.map V.int)/\Q (.int ns.sum) H):=by subst hK;exact v_sum hc
def xlist(hK:X.K=K:=by rfl):gG X (.type "list") (λxs H Q=>∃p ys,xs=[.ref p]/\(aC K H p ys∨aq K H p ys)/\∀l,H l=none->Q (.ref l) (upd H l (.lst ys))):=by subst hK;exact ab1
def n6(hK:X.K=K:=by rfl):gG X (.type "tuple") (λxs H Q=>∃p ys,xs=[.ref p]/\((aC K H p ys/\∀l,H l=none->Q (.ref l) (upd H l (.tup ys)))∨(aq K H p ys/\Q (.ref p) H))):=by subst hK;exact Sg
def Qf(K:aA):V->Option Int->Option Int->Hp->VK->Prop:=λx lo hi H Q=>match x with
 |.ref a=>(∃xs,aC K H a xs/\∀p,H p=none->Q (.ref p) (upd H p (.lst (d7 xs lo hi))))∨
   (∃xs,aq K H a xs/\¬(HT.aL xs.length 0 lo=0/\HT.aL xs.length xs.length hi=xs.length)/\∀p,H p=none->Q (.ref p) (upd H p (.tup (d7 xs lo hi))))∨
   (∃xs,aq K H a xs/\(HT.aL xs.length 0 lo=0/\HT.aL xs.length xs.length hi=xs.length)/\Q (.ref a) H)
 |_=>False
def qm(hK:X.K=K:=by rfl):iM X (Qf K):=by
 subst hK;refine(adC.or (R8.or ZC)).imp λx lo hi H Q h=>?_;unfold Qf at h;split at h
 .rcases h with⟨xs,h⟩|⟨xs,h⟩|⟨xs,h⟩
  .exact .inl ⟨_,xs,rfl,h⟩
  .exact .inr (.inl ⟨_,xs,rfl,h⟩)
  .exact .inr (.inr ⟨_,xs,rfl,h⟩)
 .exact h.elim
def Cj{tg l:Expr}{tl:TE}(hl:PE X l tl)(hK:X.K=K:=by rfl):PI X tg l (QG K tl):=by subst hK;exact aas hl
def wW{es:List Expr}{k:Nat}{t:mC}{n:Nat}{pos:Pos}(hc:X.calm=true)(h:tW X es t)(hK:X.K=K:=by rfl)
  (hn:(assignEach es X.env).length=n:=by rfl) (hst:(assignEach es X.env).findIdx? (·.1)=none:=by rfl):PG X (.Tuple es k pos) (J8 K n t):=by subst hK;exact aaE hc h hn hst
def CV{o e:Expr}{to:TE}{te:TE}{apos cpos:Pos}(ho:PE X o to)(he:PE X e te)(hK:X.K=K:=by rfl)
  (hbase:attributeBase o "append" X.env (eval o X.env)=eval o X.env:=by rfl)
  (hfew:((backTo cpos (starEach [e] X.env)).all (λx=>!x.1)&&(backToKw cpos (keywordEach [] X.env)).all (λx=>x.1.isSome)
   && decide ([e].length+([]:List Keyword).length+(if([]:List Keyword).isEmpty then 0 else 1)<30))=true:=by rfl)
  (hline:(apos.endLine==cpos.line)=true:=by rfl) (hs:starEach [e] X.env=(false,eval e X.env)::starEach [] X.env:=by rfl):
  PE X (.Call (.Attribute o "append" apos) [e] [] cpos) (JT K "list" K7 to (qe te xZ)):=by
 subst hK;exact Sv PySem.F.plainAttrs_list PySem.F.slot_list_append PySem.F.type_list_append Gs ho (aV he aj hs) hbase hfew hline hs rfl
end
section
variable {X:Cx} {es:List Expr} {te:TE} {t:TA}
def cW{c:Const}{j}{p:Pos}(h:PE X (.Constant c j p) te)(hr:PA X es t):PA X ((.Constant c j p)::es) (qe te t):=aV h hr rfl
def ak{x:Str}{p:Pos}(h:PE X (.Name x p) te)(hr:PA X es t):PA X ((.Name x p)::es) (qe te t):=aV h hr rfl
def Lb{as:List Expr}{j}{p:Pos}(h:PE X (.Tuple as j p) te)(hr:PA X es t):PA X ((.Tuple as j p)::es) (qe te t):=aV h hr rfl
def cT{a:Expr}{o:Operator}{b:Expr}{p:Pos}(h:PE X (.BinOp a o b p) te)(hr:PA X es t):PA X ((.BinOp a o b p)::es) (qe te t):=aV h hr rfl
def zY{o:UnaryOp}{a:Expr}{p:Pos}(h:PE X (.UnaryOp o a p) te)(hr:PA X es t):PA X ((.UnaryOp o a p)::es) (qe te t):=aV h hr rfl
end
section
variable {X:Cx} {pins:List (Addr×Obj)} {σ:St} {H:Hp} {s:Shared}
end
structure Ol(K:aA)(C:Addr):Prop where
 ga:mR K (.ref C) "__getattribute__" = some (some (.builtin "BaseException.__getattribute__"))
 gt:mR K (.ref C) "__getattr__" = some none
 cl:mR K (.ref C) "__class__" = some (some (.builtin "object.__class__"))
 mb:rF K C (.type "BaseException")=some true
 mo:rF K C (.type "object")=some true
 is:(W.clsIn K C).isSome=true
section
variable {prog:Program} {w:World} {A:Around} {E:Value->Shared->Prop} {h:Heap} {g:Array GenState} {d:Drawn} {t:Nat} {os:OsState} {a C:Addr} {o:Obj} {K:aA}
end
def PF{K:aA}{h:Heap}{mg:Str->Option Value}{x:Str}{C:Addr}{newId inN Bn:String}{bmN:List Value}(X:K.In h)(G:h.Ns mainGlobals mg)(e:fH K mainGlobals x=some (some (.ref C)))
  (q:wI K C [.type "ValueError",.type "Exception",.type "BaseException",.type "object"] newId=true) (Fn:ExcBaseFacts Bn newId inN bmN)
  (hBn:[Value.type "ValueError",.type "Exception",.type "BaseException",.type "object"].contains (.type Bn)=true):yq mg h x C:=by
 refine⟨_,newId,⟨oO X G e,?_⟩,Bn,inN,bmN,_,_,_,Fn,hBn,Ds⟩;unfold wI at q;split at q
 .rename_i dd cd sl ho
  split at q
  .rename_i C' bm k0 k1 k2 k3 n k5 hm hs
   simp only[pJ,beq_iff_eq,Aj]at q;obtain⟨⟨⟨⟨⟨rfl,rfl⟩,hdel⟩,ht⟩,hok⟩,hni⟩:=q;obtain⟨nm,bs,mro,ns,qn,hdc,sn,sub,ab,col,del⟩:=cd;dsimp only at hm hdel hok hni;subst hm;subst hdel;have hsl:sl=#[k0,k1,k2,k3,some (.builtin n),k5]:=by
    obtain⟨l⟩:=sl;simp only at hs;rw[hs]
   subst hsl;exact⟨bm,ns,nm,qn,bs,hdc,sn,sub,ab,col,dd,k0,k1,k2,k3,k5,_,X _ _ ho,.of_isNs (W.isNs_of_in X hok),W.nsMap_none_of_in X hok hni,W.tail_of_in X ht⟩
  .cases q
 .cases q
section
variable {X:Cx} {a:Expr} {ta:TE}
end
end L2
namespace L2
open PySem
theorem HX:∀ns:List Int,QN (ns.map Eh)=true
 |[]=>rfl
 |n::r=>by
  have:=HX r;simp[QN,Ik,this]
theorem Mu:∀ns:List Int,Gn (ns.map Eh)<=1
 |[]=>by simp[Gn]
 |n::r=>by
  have:=Mu r;simp[Gn,HC];omega
def OV(ns:List Int):SeqAt.shaped (.list (ns.map .int))=true:=by
 have h1:=HX ns;have h2:=Mu ns;simp only[SeqAt.shaped,Ik,HC,h1,Bool.true_and];exact decide_eq_true ⋯
def adZ(ns ms:List Int):u9 (.list (ns.map .int)) (.list (ms.map .int))=decide (ns=ms):=by
 rw[u9];exact W.ked_eqvAll ns ms
def aem{K:aA}{g:Bool->Bool}{H:Hp}{a b:Addr}{ns ms:List Int}{Q:VK}(ha:aC K H a (ns.map V.int))(hb:aC K H b (ms.map V.int))(q:Q (.bl (g (decide (ns=ms)))) H):oH K g (.ref a) (.ref b) H Q:=
 .inl ⟨_,_,.lst ha (ji.ints ns),.lst hb (ji.ints ms),OV ns,OV ms,by rw[adZ];exact q⟩
end L2
set_option maxHeartbeats 4000000
namespace yj
open PySem PySem.W PySem.Calls PyProof.Rows
def afi{ns:List Int}(h:WData.layableAll [WData.list (ns.map WData.int)]=true):∀x∈ns,Builtin.Int.intBits x<=1048576:=by
 intro x hx;obtain⟨h1,_,h3⟩:=layableW_iff.mp (layW_cons h).1;simp only[WData.canLay]at h1;simp only[WData.weight]at h3;have hm:WData.int x∈ns.map WData.int:=fB.mpr ⟨x,hx,rfl⟩;have hc:WData.canLayAll (ns.map WData.int)=true:=by simpa using h1
 obtain⟨_,_,c⟩:=items_part hm hc;have e:WData.weight (.int x)=Builtin.Int.intBits x:=rfl;rw[e]at c;have:(2:Nat)^20=1048576:=∅;omega
def abj{l:OpenLaw}{n:Nat}{q:Program}{loose:List Str}{XP:(Str->Option Value)->Heap->Prop}{YP:World->Heap->Prop}{d:DefRec}
  (hn:l.most=some n) (hdf:d.params.defaults=[])
  (call:∀(w:World) (s₀ s₁:Shared) (mg mb:Str->Option Value) (fa:Addr) (o:Obj) (pm cd doc:Value) (a:Addr) (vs:List Value) (ns:List Int),
   Ground q loose [] XP w s₀ mg mb s₁.heap->YP w s₁.heap->
   s₁.heap.get? fa=some o->o.data = .func (docDef d.name d.params d.body d.scope pm cd doc)->s₁.heap.CodeRec cd d.name->mg d.name=some (.ref fa)->
   s₁.heap.get? a=some { cls:= .type "list",data:= .seq vs.toArray }->IntsAre vs ns->ns.length<=n->(∀x∈ns,Builtin.Int.intBits x<=1048576)->s₁.gens=#[]->
   codeAny (model l.prog w) callerA (.call (.ref fa) ⟨[.ref a],[]⟩) (λr s'=>r = .ok (.ret (.bool true))/\OldK s₁.heap s'.heap/\s'.os=s₁.os/\AllBare s'.gens) s₁):
  WalkO q loose XP YP l.row.toRowW d [] (λf vs=>Ku f vs):=by
 intro w s₀ s₁ mg mb G Y fa o pm cd doc dV kV ho hd hcd hD hmg hg args vals as hpre hlay hrd hwl hlo;obtain rfl:dV = .none:=Dflts.none hD hdf;obtain rfl:kV = .none:=Dflts.noKw hD;obtain⟨a,vs,ns,rfl,rfl,hobj,hints,hlen⟩:=agm hn hpre hwl;refine enter_call (codeAny_mono (call w s₀ s₁ mg mb fa o pm cd doc a vs ns G Y ho (fd_plain hd) hcd hmg hobj hints hlen (afi hlay) hg) λr s' hq=>?_);obtain⟨rfl,h2,h3,h4⟩:=hq;exact⟨.inl ⟨.bool true,.bool true,[],rfl,λ_=>rfl,.bool true,aaF l _,λ_=>⟨Uh,λ_ hm=>(nomatch hm)⟩⟩,h2,h3,h4⟩
end yj
namespace L2
open PySem PySem.Spec PyProof.Rows
def Uv{l:W.OpenLaw}{n k:Nat}{q:Program}{loose:List Str}{XP:(Str->Option Value)->Heap->Prop}{YP:World->Heap->Prop}{d:DefRec}{K:Params->aA}{CX:World->lB}{sp:World->Sp}{x:Str}
  (hn:l.most=some n) (hn2:n<=sizeLine) (hdf:d.params.defaults=[]) (hr:bI k callerA)
  (hY:∀(w:World) (h:Heap),YP w h->(K w.params).In h)
  (F:∀(w:World) (mg:Str->Option Value) (fa:Addr) (h:Heap),(K w.params).In h->h.Ns mainGlobals mg->mg d.name=some (.ref fa)->
   ∃fd:FuncData,(∀(s:Shared) (u:Value),BindsTo s fd ⟨[u],[]⟩ [(x,u)])/\
    ∀base:Heap,(K w.params).In base->base.Ns mainGlobals mg->j8 l.prog w (K w.params) mg base (CX w) k fa fd [x] (sp w))
  (hsp:∀(w:World) (H:Hp) (a:Addr) (ns:List Int),ns.length<=n->(∀x∈ns,Builtin.Int.intBits x<=1048576)->Only H->aC (K w.params) H a (ns.map V.int)->sp w [.ref a] H (λv _=>v = .bl true) λ_ _ _=>False)
  (BX:∀(w:World) (H:Hp) (s:Shared) (e:Value) (s':Shared),CX w [] H s (λ_ _ _=>False) e s'->False):
  W.WalkO q loose XP YP l.row.toRowW d [] (λf vs=>Ku f vs):=by
 refine yj.abj hn hdf λw s₀ s₁ mg mb fa o pm cd doc a vs ns G Y ho hd hcd hmg hobj hints hlen afb hg=>?_;have KX:=hY w _ Y;obtain⟨fd,hb,hF⟩:=F w mg fa _ KX G.T.g hmg;exact Vg KX G.T.g G.T.b G.T.builtins G.T.nolimit G.T.nodigits hg hobj hints (cJ hlen hn2) hr hF hb (λH hO hS=>hsp w H a ns hlen afb hO hS) λH e s'=>BX w H s₁ e s'
section
variable {X:Cx}
def K3:V->List V->Hp->VK->Prop:=λx vs H Q=>∃n:Int,x = .int n/\vs=[]/\Q (.int (Builtin.Int.intBits n:Nat)) H
def R6:FQ X "int.bit_length" K3:=by
 intro pins s σ H x vs v us Q I rx rv h;obtain⟨n,rfl,rfl,q⟩:=h;obtain⟨t,rfl⟩:=rx;cases rv;exact call_gives F.slot_int_bit_length (typeIs_int s n t) F.entry_int_bit_length (F.args_int_bit_length_1 _) (AutoIntG2.int_bit_length_int_0 n t) ⟨.int _,H,I.tok _,⟨_,rfl⟩,q⟩
def acU(K:aA){o:Expr}{to:TE}{apos cpos:Pos}(ho:PE X o to)(hK:X.K=K:=by rfl)(hbase:attributeBase o "bit_length" X.env (eval o X.env)=eval o X.env:=by rfl)(hline:(apos.endLine==cpos.line)=true:=by rfl):
  PE X (.Call (.Attribute o "bit_length" apos) [] [] cpos) (NT K "int" K3 to):=by
 subst hK;exact Uj PySem.F.plainAttrs_int PySem.F.slot_int_bit_length PySem.F.type_int_bit_length R6 ho hbase hline
end
section
variable {X:Cx}
def Ie:aX X (binaryOp .Pow) (rI (λi j=>0<=j/\(pA i:Int)*j<=2^27) λi j=> .int (i^j.toNat)):=vg λ_ _ _ _ _ _ _ hc q=>pow_int hc.1 hc.2 q
end
end L2
namespace Tm
open PySem PyProof.Rows
def gal:Bool->Keyed->Array Keyed->Nat->Nat->Nat->StateT SortSt Sem (Option Nat):=sortPriv% PySem.Builtin.gallop
def Xj:Array Keyed->Array Keyed->StateT SortSt Sem (Array Keyed):=sortPriv% PySem.Builtin.mergeLo
def VX:Array Keyed->Array Keyed->StateT SortSt Sem (Array Keyed):=sortPriv% PySem.Builtin.mergeHi
def I1(p:Keyed):Prop:=∃a t,p.1 = .int a t
def nm(p:Keyed):Int:=numOf p.1
def bx(l:Bool)(k x:Int):Bool:=if l then decide (x<k)else !decide (k<x)
def WK{l:Bool}{k x y:Int}(h:bx l k y=true)(hx:x<=y):bx l k x=true:=by
 cases l<;>simp[bx]at h⊢<;> omega
def Y7{l:Bool}{k x y:Int}(h:bx l k x=false)(hx:x<=y):bx l k y=false:=by
 cases l<;>simp[bx]at h⊢<;> omega
section
variable {prog:Program} {w:World} {A:Around} {E:Value->Shared->Prop} {s:Shared}
def vN{st:SortSt}{x y:Keyed}{Q:Option Bool->SortSt->Prop}(hk:kindOf st=oneType')(hx:I1 x)(hy:I1 y)
  (h:Q (some (decide (nm x<nm y))) st):wpS (model prog w) A E s (lt' x y) Q st:=by
 obtain⟨a,t,e⟩:=hx;obtain⟨b,u,e'⟩:=hy;rw[lt'_eq];unfold nm at h;rw[e,e']at h;apply wpS_bind;apply wpS_get;rw[hk,keyLt'_oneType,e,e'];exact wpS_bind (wpS_lift (wpAny_attempt (oneLt_int ⟨rfl,wpS_pure h⟩)))
def dg{st:SortSt}{xs:Array Keyed}{i:Nat}{p:Keyed}{Q:Keyed->SortSt->Prop}(e:xs[i]?=some p)(h:Q p st):
  wpS (model prog w) A E s (elem' xs i) Q st:=by
 rw[elem'_eq,e];exact wpS_pure h
def vX{st:SortSt}{l:Bool}{key:Keyed}{xs:Array Keyed}{i:Nat}{p:Keyed}{Q:Option Bool->SortSt->Prop}(hk:kindOf st=oneType')(hy:I1 key)
  (e:xs[i]?=some p) (hx:I1 p) (h:Q (some (bx l (nm key) (nm p))) st):
  wpS (model prog w) A E s (elem' xs i>>=λx=>ite (l=true) (lt' x key) (lt' key x>>=λr=>pure (r.map λb=>!b))) Q st:=by
 apply wpS_bind;apply dg e;cases l
 .exact wpS_bind (vN hk hy hx (wpS_pure h))
 .exact vN hk hx hy h
structure Up(xs:Array Keyed)(b n:Nat)(f:Nat->Keyed):Prop where
 at_:∀i,i<n->xs[b+i]?=some (f i)
 int:∀i,i<n->I1 (f i)
 up:∀i j,i<=j->j<n->nm (f i)<=nm (f j)
def tV{st:SortSt}{l:Bool}{key:Keyed}{xs:Array Keyed}{b n hint:Nat}{f:Nat->Keyed}{Q:Option Nat->SortSt->Prop}(hk:kindOf st=oneType')(hy:I1 key)
  (U:Up xs b n f) (hh:hint<n)
  (h:∀k,k<=n->(∀i,i<k->bx l (nm key) (nm (f i))=true)->(∀i,k<=i->i<n->bx l (nm key) (nm (f i))=false)->Q (some k) st):
  wpS (model prog w) A E s (gal l key xs b n hint) Q st:=by
 refine wpS_bind (vX hk hy (U.at_ hint hh) (U.int hint hh) ?_);dsimp only;have mono:∀i j,i<=j->j<n->bx l (nm key) (nm (f j))=true->bx l (nm key) (nm (f i))=true:=λi j hi hj g=>WK g (U.up i j hi hj);have pX:∀i j,i<=j->j<n->bx l (nm key) (nm (f i))=false->bx l (nm key) (nm (f j))=false:=λi j hi hj g=>Y7 g (U.up i j hi hj);generalize hg:(λi=>bx l (nm key) (nm (f i)))=g at *;have eg:∀i,bx l (nm key) (nm (f i))=g i:=λi=>congrFun hg i;simp only[eg]at h mono pX;rw[eg];have fin:∀lo hi:Nat,lo<=hi/\hi<=n/\(∀i,i<lo->g i=true)/\(∀i,hi<=i->i<n->g i=false)->lo≥hi->Q (some hi) st:=λlo hi B e=>h hi B.2.1 (λi h'=>B.2.2.1 i ⋯) B.2.2.2;cases hb:g hint
 .rw[if_neg (by simp)];refine wpS_bind (wpS_mono (wpS_forRange (Q:=λ(c:Option (Option Nat)×Nat×Nat) st'=>st'=st/\c.1=none/\(hint+1-min c.2.2 (hint+1)<=hint-c.2.1/\hint-c.2.1<=n/\(∀i,i<hint+1-min c.2.2 (hint+1)->g i=true)/\(∀i,hint-c.2.1<=i->i<n->g i=false)))
   (I:=λx (c:Option (Option Nat)×Nat×Nat) st'=>st'=st/\c.1=none/\c.2.1<c.2.2/\x<c.2.2/\c.2.1<=hint/\g (hint-c.2.1)=false) ?_ ?_ ⟨rfl,rfl,∅,∅,cZ _,hb⟩) ?_)
  .rintro x ⟨r,la,o⟩ st' _ hx ⟨rfl,rfl,h1,h2,h3,h4⟩;dsimp only at h1 h2 h3 h4⊢;split
   .exact wpS_pure ⟨rfl,rfl,by dsimp only;omega,by dsimp only;omega,λi hi=>by dsimp only at hi;omega,λi hi hn=>pX _ _ hi hn h4⟩
   .refine wpS_bind (vX hk hy (U.at_ _ ⋯) (U.int _ ⋯) ?_);dsimp only;rw[eg];cases hc:g (hint-o)
    .exact wpS_pure ⟨rfl,rfl,by dsimp only;omega,by dsimp only;omega,by dsimp only;omega,hc⟩
    .exact wpS_pure ⟨rfl,rfl,by dsimp only;omega,by dsimp only;omega,λi hi=>mono i (hint-o) (by dsimp only at hi;omega) ⋯ hc,λi hi hn=>pX _ _ hi hn h4⟩
  .rintro⟨r,la,o⟩ st' ⟨rfl,rfl,h1,h2,h3,h4⟩;dsimp only at h1 h2 h3 h4⊢;exact⟨rfl,rfl,⋯,⋯,λi hi=>⋯,λi hi hn=>pX _ _ hi hn h4⟩
  rintro⟨r,la,o⟩ st' ⟨rfl,rfl,B⟩;dsimp only at B⊢;generalize hint+1-min o (hint+1)=lo at *;generalize hint-la=hi at *;refine wpS_bind (wpS_mono (wpS_forRange (Q:=λ(c:Option (Option Nat)×Nat×Nat) s'=>s'=st'/\c.1=none/\Q (some c.2.2) st')
   (I:=λx (c:Option (Option Nat)×Nat×Nat) s'=>s'=st'/\c.1=none/\c.2.2-c.2.1<=n-x/\(c.2.1<=c.2.2/\c.2.2<=n/\(∀i,i<c.2.1->g i=true)/\(∀i,c.2.2<=i->i<n->g i=false))) ?_ ?_ ⟨rfl,rfl,by dsimp only;omega,B⟩) ?_)
  .rintro x ⟨r,lo,hi⟩ s' _ hx ⟨rfl,rfl,h1,B⟩;dsimp only at h1 B⊢;split
   .exact wpS_pure ⟨rfl,rfl,fin _ _ B ‹_›⟩
   .obtain⟨b1,b2,b3,b4⟩:=B;refine wpS_bind (vX hk hy (U.at_ _ ⋯) (U.int _ ⋯) ?_);dsimp only;rw[eg];cases hc:g (lo+(hi-lo)/2)
    .exact wpS_pure ⟨rfl,rfl,by dsimp only;omega,by dsimp only;omega,by dsimp only;omega,b3,λi hi' hn=>pX _ _ hi' hn hc⟩
    .exact wpS_pure ⟨rfl,rfl,by dsimp only;omega,by dsimp only;omega,b2,λi hi'=>mono i _ (by dsimp only at hi';omega) ⋯ hc,b4⟩
  .rintro⟨r,lo,hi⟩ s' ⟨rfl,rfl,h1,B⟩;exact⟨rfl,rfl,fin _ _ B (by dsimp only at h1 ⊢;omega)⟩
  .rintro⟨r,lo,hi⟩ s' ⟨rfl,rfl,q⟩;exact wpS_pure q
 .rw[if_pos rfl];refine wpS_bind (wpS_mono (wpS_forRange (Q:=λ(c:Option (Option Nat)×Nat×Nat) st'=>st'=st/\c.1=none/\(hint+c.2.1+1<=hint+min c.2.2 (n-hint)/\hint+min c.2.2 (n-hint)<=n/\(∀i,i<hint+c.2.1+1->g i=true)/\(∀i,hint+min c.2.2 (n-hint)<=i->i<n->g i=false)))
   (I:=λx (c:Option (Option Nat)×Nat×Nat) st'=>st'=st/\c.1=none/\c.2.1<c.2.2/\x<c.2.2/\hint+c.2.1<n/\g (hint+c.2.1)=true) ?_ ?_ ⟨rfl,rfl,∅,∅,hh,hb⟩) ?_)
  .rintro x ⟨r,la,o⟩ st' _ hx ⟨rfl,rfl,h1,h2,h3,h4⟩;dsimp only at h1 h2 h3 h4⊢;split
   .exact wpS_pure ⟨rfl,rfl,by dsimp only;omega,by dsimp only;omega,λi hi=>mono i _ (by dsimp only at hi;omega) h3 h4,λi hi hn=>by dsimp only at hi;omega⟩
   .refine wpS_bind (vX hk hy (U.at_ _ ⋯) (U.int _ ⋯) ?_);dsimp only;rw[eg];cases hc:g (hint+o)
    .exact wpS_pure ⟨rfl,rfl,by dsimp only;omega,by dsimp only;omega,λi hi=>mono i _ (by dsimp only at hi;omega) h3 h4,λi hi hn=>pX _ _ (by dsimp only at hi;omega) hn hc⟩
    .exact wpS_pure ⟨rfl,rfl,by dsimp only;omega,by dsimp only;omega,by dsimp only;omega,hc⟩
  .rintro⟨r,la,o⟩ st' ⟨rfl,rfl,h1,h2,h3,h4⟩;dsimp only at h1 h2 h3 h4⊢;exact⟨rfl,rfl,⋯,⋯,λi hi=>mono i _ ⋯ h3 h4,λi hi hn=>⋯⟩
  rintro⟨r,la,o⟩ st' ⟨rfl,rfl,B⟩;dsimp only at B⊢;generalize hint+la+1=lo at *;generalize hint+min o (n-hint)=hi at *;refine wpS_bind (wpS_mono (wpS_forRange (Q:=λ(c:Option (Option Nat)×Nat×Nat) s'=>s'=st'/\c.1=none/\Q (some c.2.2) st')
   (I:=λx (c:Option (Option Nat)×Nat×Nat) s'=>s'=st'/\c.1=none/\c.2.2-c.2.1<=n-x/\(c.2.1<=c.2.2/\c.2.2<=n/\(∀i,i<c.2.1->g i=true)/\(∀i,c.2.2<=i->i<n->g i=false))) ?_ ?_ ⟨rfl,rfl,by dsimp only;omega,B⟩) ?_)
  .rintro x ⟨r,lo,hi⟩ s' _ hx ⟨rfl,rfl,h1,B⟩;dsimp only at h1 B⊢;split
   .exact wpS_pure ⟨rfl,rfl,fin _ _ B ‹_›⟩
   .obtain⟨b1,b2,b3,b4⟩:=B;refine wpS_bind (vX hk hy (U.at_ _ ⋯) (U.int _ ⋯) ?_);dsimp only;rw[eg];cases hc:g (lo+(hi-lo)/2)
    .exact wpS_pure ⟨rfl,rfl,by dsimp only;omega,by dsimp only;omega,by dsimp only;omega,b3,λi hi' hn=>pX _ _ hi' hn hc⟩
    .exact wpS_pure ⟨rfl,rfl,by dsimp only;omega,by dsimp only;omega,b2,λi hi'=>mono i _ (by dsimp only at hi';omega) ⋯ hc,b4⟩
  .rintro⟨r,lo,hi⟩ s' ⟨rfl,rfl,h1,B⟩;exact⟨rfl,rfl,fin _ _ B (by dsimp only at h1 ⊢;omega)⟩
  .rintro⟨r,lo,hi⟩ s' ⟨rfl,rfl,q⟩;exact wpS_pure q
def g(xs:Array Keyed)(i:Nat):Keyed:=xs[i]?.getD (.none,.none)
def kx(xs:Array Keyed)(i:Nat):Int:=nm (g xs i)
def cR{xs:Array Keyed}{i:Nat}(h:i<xs.size):xs[i]?=some (g xs i):=by unfold g;rw[Array.getElem?_eq_getElem h];rfl
def fY{xs:Array Keyed}{i:Nat}(h:i<xs.size):g xs i=xs.toList[i]'(by simpa using h):=by unfold g;rw[Array.getElem?_eq_getElem h];simp
structure Mg(r:Keyed->Keyed->Prop)(o x y T:List Keyed):Prop where
 perm:(o++x++y).Perm T
 xu:o.Pairwise r
 le:∀p∈o,∀q∈x++y,r p q
variable {r:Keyed->Keyed->Prop} {o x y z T:List Keyed}
def Mg.a(h:Mg r o (z++x) y T)(hs:z.Pairwise r)(hx:∀p∈z,∀q∈x,r p q)(hy:∀p∈z,∀q∈y,r p q):Mg r (o++z) x y T:=by
 refine⟨by simpa using h.perm,jM.mpr ⟨h.xu,hs,λp hp q hq=>h.le p hp q (by simp[hq])⟩,λp hp q hq=>?_⟩;rcases fK.mp hp with hp|hp
 .exact h.le p hp q (by rcases fK.mp hq with e|e<;>simp[e])
 .rcases fK.mp hq with e|e
  .exact hx p hp q e
  .exact hy p hp q e
def Mg.b(h:Mg r o x (z++y) T)(hs:z.Pairwise r)(hx:∀p∈z,∀q∈x,r p q)(hy:∀p∈z,∀q∈y,r p q):Mg r (o++z) x y T:=by
 refine⟨?_,jM.mpr ⟨h.xu,hs,λp hp q hq=>h.le p hp q (by simp[hq])⟩,λp hp q hq=>?_⟩
 .refine Hq ?_ h.perm;simp only[fG];refine DK _ ?_;rw[<-fG,<-fG];exact KW _ GQ
 .rcases fK.mp hp with hp|hp
  .exact h.le p hp q (by rcases fK.mp hq with e|e<;>simp[e])
  .rcases fK.mp hq with e|e
   .exact hx p hp q e
   .exact hy p hp q e
def Mg.done(h:Mg r o x y T)(hx:x.Pairwise r)(hy:y.Pairwise r)(hc:∀p∈x,∀q∈y,r p q):(o++x++y).Perm T/\(o++x++y).Pairwise r:=by
 refine⟨h.perm,?_⟩;rw[fG];exact jM.mpr ⟨h.xu,jM.mpr ⟨hx,hy,hc⟩,h.le⟩
def Mg.last(h:Mg r o x y T)(hx:x.Pairwise r)(hy:y.Pairwise r)(hc:∀p∈y,∀q∈x,r p q):(o++y++x).Perm T/\(o++y++x).Pairwise r:=by
 refine⟨Hq ?_ h.perm,?_⟩
 .rw[fG,fG];exact DK _ GQ
 .rw[fG];exact jM.mpr ⟨h.xu,jM.mpr ⟨hy,hx,hc⟩,λp hp q hq=>h.le p hp q (by rcases fK.mp hq with e|e<;>simp[e])⟩
def Le(p q:Keyed):Prop:=nm p<=nm q
structure Inc(xs:Array Keyed):Prop where
 int:∀i,i<xs.size->I1 (g xs i)
 up:∀i j,i<=j->j<xs.size->kx xs i<=kx xs j
def iZ{xs:Array Keyed}{k:Nat}{p:Keyed}(h:p∈xs.toList.drop k):∃i,k<=i/\i<xs.size/\p=g xs i:=by
 obtain⟨i,hi,e⟩:=v7 h;rw[pD,gh]at hi;refine⟨k+i,⋯,⋯,?_⟩;rw[<-e,Ra,fY ⋯]
def jf{xs:Array Keyed}{k:Nat}{p:Keyed}(h:p∈xs.toList.take k):∃i,i<k/\i<xs.size/\p=g xs i:=by
 obtain⟨i,hi,e⟩:=v7 h;rw[iB,gh]at hi;refine⟨i,⋯,⋯,?_⟩;rw[<-e,Hu,fY ⋯]
def wQ{xs:Array Keyed}{k n:Nat}{p:Keyed}(h:p∈(xs.toList.drop k).take n):∃i,k<=i/\i<k+n/\i<xs.size/\p=g xs i:=by
 obtain⟨i,hi,e⟩:=v7 h;rw[iB,pD,gh]at hi;refine⟨k+i,⋯,⋯,⋯,?_⟩;rw[<-e,Hu,Ra,fY ⋯]
def Inc.pw{xs:Array Keyed}(h:Inc xs):xs.toList.Pairwise Le:=by
 refine Fp.mpr λi j hi hj hij=>?_;have:=h.up i j ⋯ (by simpa using hj);unfold kx at this
 rwa [fY (by simpa using hi),fY (by simpa using hj)]at this
def Inc.seg{xs:Array Keyed}(h:Inc xs){b n:Nat}(hn:b+n<=xs.size):Up xs b n (λi=>g xs (b+i)):=
 ⟨λi hi=>cR ⋯,λi hi=>h.int _ ⋯,λi j hij hj=>h.up _ _ ⋯ ⋯⟩
def SG(st st':SortSt):Prop:=kindOf st'=kindOf st/\arrOf st'=arrOf st/\pendingOf st'=pendingOf st/\failedOf st'=failedOf st
def SG.refl(st:SortSt):SG st st:=⟨rfl,rfl,rfl,rfl⟩
theorem SG.trans{a b c:SortSt}(h:SG a b)(h':SG b c):SG a c:=⟨h'.1.trans h.1,h'.2.1.trans h.2.1,h'.2.2.1.trans h.2.2.1,h'.2.2.2.trans h.2.2.2⟩
def Rs(a b m:Array Keyed):Prop:=m.toList.Perm (a.toList++b.toList)/\m.toList.Pairwise Le
structure Lo(a b out:Array Keyed)(i j:Nat):Prop where
 ia:i<=a.size
 ib:j<=b.size
 sz:out.size=i+j
 mg:Mg Le out.toList (a.toList.drop i) (b.toList.drop j) (a.toList++b.toList)
variable {a b out:Array Keyed} {i j k:Nat}
def Lo.ka(h:Lo a b out i j)(ha:Inc a)(hk:i+k<=a.size)(hl:∀m,i<=m->m<i+k->∀q∈b.toList.drop j,Le (g a m) q):Lo a b (out++a.extract i (i+k)) (i+k) j:=by
 have e:(a.extract i (i+k)).toList=(a.toList.drop i).take k:=by simp[oB,wu]
 refine⟨hk,h.ib,by rw[yK,qT,h.sz];omega,?_⟩;have hp:=ha.pw;have hd:a.toList.drop i=(a.toList.drop i).take k++a.toList.drop (i+k):=by rw[<-M9,Du]
 have h2:=h.mg;rw[hd]at h2;rw[iC,e];have hp2:(a.toList.drop i).Pairwise Le:=hp.sublist (sZ _ _);rw[hd]at hp2;obtain⟨p1,p2,p3⟩:=jM.mp hp2;exact h2.a p1 p3 λp hp q hq=>by
  obtain⟨m,h1,h2,_,rfl⟩:=wQ hp;exact hl m h1 h2 q hq
def Lo.kb(h:Lo a b out i j)(hb:Inc b)(hk:j+k<=b.size)(hl:∀m,j<=m->m<j+k->∀q∈a.toList.drop i,Le (g b m) q):Lo a b (out++b.extract j (j+k)) i (j+k):=by
 have e:(b.extract j (j+k)).toList=(b.toList.drop j).take k:=by simp[oB,wu]
 refine⟨h.ia,hk,by rw[yK,qT,h.sz];omega,?_⟩;have hp:=hb.pw;have hd:b.toList.drop j=(b.toList.drop j).take k++b.toList.drop (j+k):=by rw[<-M9,Du]
 have h2:=h.mg;rw[hd]at h2;rw[iC,e];have hp2:(b.toList.drop j).Pairwise Le:=hp.sublist (sZ _ _);rw[hd]at hp2;obtain⟨p1,p2,p3⟩:=jM.mp hp2;exact h2.b p1 (λp hp q hq=>by
  obtain⟨m,h1,h2,_,rfl⟩:=wQ hp;exact hl m h1 h2 q hq) p3
def ext1{xs:Array Keyed}(h:i<xs.size):xs.extract i (i+1)=#[g xs i]:=by
 apply Array.ext';rw[fY h];simp[oB,List.take_one]
def Lo.a1(h:Lo a b out i j)(ha:Inc a)(hk:i<a.size)(hl:∀q∈b.toList.drop j,Le (g a i) q):Lo a b (out.push (g a i)) (i+1) j:=by
 have:=h.ka ha (k:=1) ⋯ λm h1 h2=>by rw[show m=i by omega];exact hl
 rw[ext1 hk]at this;simpa using this
def Lo.b1(h:Lo a b out i j)(hb:Inc b)(hk:j<b.size)(hl:∀q∈a.toList.drop i,Le (g b j) q):Lo a b (out.push (g b j)) i (j+1):=by
 have:=h.kb hb (k:=1) ⋯ λm h1 h2=>by rw[show m=j by omega];exact hl
 rw[ext1 hk]at this;simpa using this
theorem Lo.done(h:Lo a b out i j)(ha:Inc a)(hb:Inc b)(hc:i=a.size∨j=b.size):Rs a b (out++a.extract i++b.extract j):=by
 have:=h.mg.done (ha.pw.sublist (sZ _ _)) (hb.pw.sublist (sZ _ _)) λp hp q hq=>by
  obtain⟨m,h1,h2,_⟩:=iZ hp;obtain⟨m',h1',h2',_⟩:=iZ hq;omega
 unfold Rs;have e:∀(x:Array Keyed) (i:Nat),(x.extract i).toList=x.toList.drop i:=λx i=>by simp[oB];exact uI (by simp)
 rw[iC,iC,e,e];exact this
theorem Lo.last(h:Lo a b out i j)(ha:Inc a)(hb:Inc b)(hc:i+1=a.size)(hl:∀m,m<b.size->kx b m<kx a (a.size-1)):Rs a b (out++b.extract j++a.extract i):=by
 have:=h.mg.last (ha.pw.sublist (sZ _ _)) (hb.pw.sublist (sZ _ _)) λp hp q hq=>by
  obtain⟨m,h1,h2,rfl⟩:=iZ hp;obtain⟨m',h1',h2',rfl⟩:=iZ hq;rw[show m'=a.size-1 by omega];exact gJ (hl m h2)
 unfold Rs;have e:∀(x:Array Keyed) (i:Nat),(x.extract i).toList=x.toList.drop i:=λx i=>by simp[oB];exact uI (by simp)
 rw[iC,iC,e,e];exact this
def aU{σ α:Type}{M:Model}{c:Prop}[Decidable c]{t e:StateT σ Sem α}{Q:α->σ->Prop}{st:σ}(ht:c->wpS M A E s t Q st)(he:¬c->wpS M A E s e Q st):wpS M A E s (ite c t e) Q st:=by
 by_cases h:c
 .rw[if_pos h];exact ht h
 .rw[if_neg h];exact he h
structure Lv(a b out:Array Keyed)(i j x:Nat):Prop where
 lo:Lo a b out i j
 ia:i+1<a.size
 ib:j<b.size
 sz:x<out.size
def aaY{st:SortSt}{Q:Array Keyed->SortSt->Prop}(hk:kindOf st=oneType')(ha:Inc a)(hb:Inc b)(h1:1<=a.size)(h2:1<=b.size)
  (hf:kx b 0<kx a 0) (hl:∀m,m<b.size->kx b m<kx a (a.size-1)) (h:∀m st',SG st st'->Rs a b m->Q m st'):
  wpS (model prog w) A E s (Xj a b) Q st:=by
 refine wpS_bind (wpS_lift (wpAny_rule ⟨rfl,?_⟩));refine wpS_bind (dg (cR h2) ?_);have L0:Lo a b #[g b 0] 0 1:=by
  have:Lo a b #[] 0 0:=⟨⋯,⋯,rfl,⟨by simp,by simp,by simp⟩⟩;refine this.b1 hb h2 λq hq=>?_;obtain⟨m,_,h2',rfl⟩:=iZ hq;exact gJ (yH hf (ha.up _ _ ⋯ h2'))
 refine aU (λc=>wpS_pure (h _ _ (.refl _) (L0.done ha hb (.inr (by simpa using c))))) λc1=>?_;refine aU (λc=>wpS_pure (h _ _ (.refl _) (L0.last ha hb (by simpa using c) hl))) λc2=>?_;have c1':¬1=b.size:=by simpa using c1
 have c2':¬1=a.size:=by simpa using c2
 refine wpS_bind (wpS_get ?_);refine wpS_bind (wpS_mono (wpS_forRange (Q:=λ(c:Option (Array Keyed)×Array Keyed×Nat×Nat×Nat) st'=>SG st st'/\∃m,c.1=some m/\Rs a b m)
  (I:=λx (c:Option (Array Keyed)×Array Keyed×Nat×Nat×Nat) st'=>SG st st'/\c.1=none/\Lv a b c.2.1 c.2.2.1 c.2.2.2.1 x) ?_ ?_ ⟨.refl _,rfl,L0,by dsimp only;omega,by dsimp only;omega,C6⟩) ?_)
 .rintro x ⟨r,out,ia,ib,mg⟩ st' _ hx ⟨S,rfl,V⟩;refine wpS_bind (wpS_mono (wpS_forRange (Q:=λ(c:Option (Array Keyed)×Array Keyed×Nat×Nat×Nat×Nat) st''=>st''=st'/\((c.1=none/\Lv a b c.2.1 c.2.2.1 c.2.2.2.1 (x+1))∨∃m,c.1=some m/\Rs a b m))
   (I:=λy (c:Option (Array Keyed)×Array Keyed×Nat×Nat×Nat×Nat) st''=>st''=st'/\c.1=none/\Lv a b c.2.1 c.2.2.1 c.2.2.2.1 (x+y)) ?_ ?_ ⟨rfl,rfl,V⟩) ?_)
  .rintro y ⟨r,out,ia,ib,ac,bc⟩ st'' _ hy ⟨rfl,rfl,⟨L,hi,hj,hz⟩⟩;dsimp only at L hi hj hz;have hi':ia<a.size:=⋯;refine wpS_bind (dg (cR hj) ?_);refine wpS_bind (dg (cR hi') ?_);refine wpS_bind (vN (S.1.trans hk) (hb.int _ hj) (ha.int _ hi') ?_);refine aU (λc=>?_) (λc=>?_)
   .have c':kx b ib<kx a ia:=of_decide_eq_true c;refine wpS_bind (dg (cR hj) ?_);have L':Lo a b (out.push (g b ib)) ia (ib+1):=L.b1 hb hj λq hq=>by
     obtain⟨m,h1,h2,rfl⟩:=iZ hq;exact gJ (yH c' (ha.up _ _ h1 h2))
    refine aU (λd=>wpS_pure ⟨rfl,.inr ⟨_,rfl,L'.done ha hb (.inr (by simpa using d))⟩⟩) (λd=>?_);have d':¬ib+1=b.size:=by simpa using d
    have e:=L'.sz;have e':=L.sz;exact aU (λ_=>wpS_pure ⟨rfl,.inl ⟨rfl,L',hi,by dsimp only;omega,by dsimp only;omega⟩⟩) (λ_=>wpS_pure ⟨rfl,rfl,L',hi,by dsimp only;omega,by dsimp only;omega⟩)
   .have c':¬kx b ib<kx a ia:=λz=>c (decide_eq_true z);refine wpS_bind (dg (cR hi') ?_);have L':Lo a b (out.push (g a ia)) (ia+1) ib:=L.a1 ha hi' λq hq=>by
     obtain⟨m,h1,h2,rfl⟩:=iZ hq;exact iI (j4.mp c') (hb.up _ _ h1 h2)
    refine aU (λd=>wpS_pure ⟨rfl,.inr ⟨_,rfl,L'.last ha hb (by simpa using d) hl⟩⟩) (λd=>?_);have d':¬ia+1+1=a.size:=by simpa using d
    have e:=L'.sz;have e':=L.sz;exact aU (λ_=>wpS_pure ⟨rfl,.inl ⟨rfl,L',by dsimp only;omega,hj,by dsimp only;omega⟩⟩) (λ_=>wpS_pure ⟨rfl,rfl,L',by dsimp only;omega,hj,by dsimp only;omega⟩)
  .rintro⟨r,out,ia,ib,ac,bc⟩ st'' ⟨rfl,rfl,⟨L,hi,hj,hz⟩⟩;exact⟨rfl,.inl ⟨rfl,L,hi,hj,by dsimp only at hz ⊢;omega⟩⟩
  rintro⟨r,out,ia,ib,ac,bc⟩ st'' ⟨rfl,⟨rfl,V⟩|⟨m,rfl,R⟩⟩
  rotate_left
  .exact wpS_pure ⟨S,m,rfl,R⟩
  refine wpS_bind (wpS_lift (wpAny_rule ⟨rfl,?_⟩));refine wpS_bind (wpS_mono (wpS_forRange (Q:=λ(c:Option (Array Keyed)×Array Keyed×Nat×Nat×Nat×Nat×Nat) st2=>SG st st2/\((c.1=none/\Lv a b c.2.1 c.2.2.1 c.2.2.2.1 (x+1))∨∃m,c.1=some m/\Rs a b m))
   (I:=λy (c:Option (Array Keyed)×Array Keyed×Nat×Nat×Nat×Nat×Nat) st2=>SG st st2/\c.1=none/\Lv a b c.2.1 c.2.2.1 c.2.2.2.1 (x+1)) ?_ ?_ ⟨S,rfl,V⟩) ?_)
  .rintro y ⟨r,out,ia,ib,mg,ac,bc⟩ st2 _ hy ⟨S2,rfl,⟨L,hi,hj,hz⟩⟩;dsimp only at L hi hj hz;refine aU (λ_=>?_) (λ_=>?_);all_goals
    refine wpS_bind (wpS_modify ?_);refine wpS_bind (dg (cR hj) ?_);refine wpS_bind (tV (S2.1.trans hk) (hb.int _ hj) (ha.seg (b:=ia) (n:=a.size-ia) ⋯) (show 0<a.size-ia by omega) λk hk1 hk2 hk3=>?_);replace hk3:∀i,k<=i->i<a.size-ia->bx false (kx b ib) (kx a (ia+i))=false:=hk3;replace hk2:∀i,i<k->bx false (kx b ib) (kx a (ia+i))=true:=hk2;replace hk1:k<=a.size-ia:=hk1;have S3:=S2;have hq:∀m,ia<=m->m<ia+k->kx a m<=kx b ib:=λm h1 h2=>by
     have:=hk2 (m-ia) ⋯;rw[show ia+(m-ia)=m by omega]at this;simp only[bx,pC,if_false,Aj,decide_eq_false_iff_not]at this;exact j4.mp this
    have nA:∀m,ia+k<=m->m<a.size->kx b ib<kx a m:=λm h1 h2=>by
     have:=hk3 (m-ia) ⋯ ⋯;rw[show ia+(m-ia)=m by omega]at this;simp only[bx,pC,if_false,B3,decide_eq_true_eq]at this;exact this
    have hkl:ia+k<a.size:=by
     apply Qt;intro z;have:=hq (a.size-1) ⋯ ⋯;have:=hl ib hj;omega
    have LA:Lo a b (out++a.extract ia (ia+k)) (ia+k) ib:=L.ka ha ⋯ λm h1 h2 q hq'=>by
     obtain⟨m',g1,g2,rfl⟩:=iZ hq';exact iI (hq m h1 h2) (hb.up _ _ g1 g2)
    have eA:=LA.sz;have eL:=L.sz;apply aU
    case' ht=>
     intro c;refine aU (λd=>wpS_pure ⟨S3,.inr ⟨_,rfl,LA.last ha hb (by simpa using d) hl⟩⟩) (λd=>?_);refine aU (λd2=>absurd (by simpa using d2) (gP hkl)) (λ_=>?_);have hi2:ia+k+1<a.size:=by
      have:¬ia+k+1=a.size:=by simpa using d
      omega
     have hz2:x+1<(out++a.extract ia (ia+k)).size:=⋯;generalize out++a.extract ia (ia+k)=O at *;generalize ia+k=I at *
    case' he=>
     intro c;have k0:k=0:=⋯;subst k0;have hi2:=hi;have hz2:=hz;have LA:=L;generalize out=O at *;generalize ia=I at *
    all_goals
     refine wpS_bind (dg (cR hj) ?_);have LB:Lo a b (O.push (g b ib)) I (ib+1):=LA.b1 hb hj λq hq'=>by
      obtain⟨m',g1,g2,rfl⟩:=iZ hq';exact gJ (nA _ g1 g2)
     refine aU (λd=>wpS_pure ⟨S3,.inr ⟨_,rfl,LB.done ha hb (.inr (by simpa using d))⟩⟩) (λd=>?_);have hj2:ib+1<b.size:=by
      have:¬ib+1=b.size:=by simpa using d
      omega
     have hI:I<a.size:=⋯;refine wpS_bind (dg (cR hI) ?_);refine wpS_bind (tV (S3.1.trans hk) (ha.int _ hI) (hb.seg (b:=ib+1) (n:=b.size-(ib+1)) ⋯) (show 0<b.size-(ib+1)by omega) λk hk1 hk2 hk3=>?_);replace hk3:∀i,k<=i->i<b.size-(ib+1)->bx true (kx a I) (kx b (ib+1+i))=false:=hk3;replace hk2:∀i,i<k->bx true (kx a I) (kx b (ib+1+i))=true:=hk2;replace hk1:k<=b.size-(ib+1):=hk1;have hq2:∀m,ib+1<=m->m<ib+1+k->kx b m<=kx a I:=λm h1 h2=>by
      have:=hk2 (m-(ib+1)) ⋯;rw[show ib+1+(m-(ib+1))=m by omega]at this;simp only[bx,if_true,decide_eq_true_eq]at this;exact gJ this
     have nB:∀m,ib+1+k<=m->m<b.size->kx a I<=kx b m:=λm h1 h2=>by
      have:=hk3 (m-(ib+1)) ⋯ ⋯;rw[show ib+1+(m-(ib+1))=m by omega]at this;simp only[bx,if_true,decide_eq_false_iff_not]at this;exact j4.mp this
     have LC:Lo a b (O.push (g b ib)++b.extract (ib+1) (ib+1+k)) I (ib+1+k):=LB.kb hb ⋯ λm h1 h2 q hq'=>by
      obtain⟨m',g1,g2,rfl⟩:=iZ hq';exact iI (hq2 m h1 h2) (ha.up _ _ g1 g2)
     have eC:=LC.sz;have Wy:=LA.sz;apply aU
     case' ht=>
      intro c;refine aU (λd=>wpS_pure ⟨S3,.inr ⟨_,rfl,LC.done ha hb (.inr (by simpa using d))⟩⟩) (λd=>?_);have hj3:ib+1+k<b.size:=by
       have:¬ib+1+k=b.size:=by simpa using d
       omega
      have Dj:x+1<(O.push (g b ib)++b.extract (ib+1) (ib+1+k)).size:=⋯;generalize O.push (g b ib)++b.extract (ib+1) (ib+1+k)=O' at *;generalize ib+1+k=J at *
     case' he=>
      intro c;have k0:k=0:=⋯;subst k0;have hj3:=hj2;have LC:=LB;have Dj:x+1<(O.push (g b ib)).size:=by rw[Ba];omega
      generalize O.push (g b ib)=O' at *;generalize ib+1=J at *
     all_goals
      refine wpS_bind (dg (cR hI) ?_);have LD:Lo a b (O'.push (g a I)) (I+1) J:=LC.a1 ha hI λq hq'=>by
       obtain⟨m',g1,g2,rfl⟩:=iZ hq';exact nB _ g1 g2
      refine aU (λd=>wpS_pure ⟨S3,.inr ⟨_,rfl,LD.last ha hb (by simpa using d) hl⟩⟩) (λd=>?_);have vP:I+1+1<a.size:=by
       have:¬I+1+1=a.size:=by simpa using d
       omega
      have v5:x+1<(O'.push (g a I)).size:=by rw[Ba];omega
      exact aU (λ_=>wpS_pure ⟨S3,.inl ⟨rfl,LD,vP,hj3,v5⟩⟩) (λ_=>wpS_pure ⟨S3,rfl,LD,vP,hj3,v5⟩)
  .rintro⟨r,out,ia,ib,mg,ac,bc⟩ st2 ⟨S2,rfl,V⟩;exact⟨S2,.inl ⟨rfl,V⟩⟩
  rintro⟨r,out,ia,ib,mg,ac,bc⟩ st2 ⟨S2,⟨rfl,V⟩|⟨m,rfl,R⟩⟩
  .exact wpS_bind (wpS_modify (wpS_pure ⟨S2.trans ⟨rfl,rfl,rfl,rfl⟩,rfl,V⟩))
  .exact wpS_pure ⟨S2,m,rfl,R⟩
 .rintro⟨r,out,ia,ib,mg⟩ st' ⟨S,rfl,⟨L,hi,hj,hz⟩⟩;have:=L.sz;dsimp only at this hi hj hz;omega
 .rintro⟨r,out,ia,ib,mg⟩ st' ⟨S,m,rfl,R⟩;exact wpS_pure (h m st' S R)
def Ge(p q:Keyed):Prop:=Le q p
structure Hi(a b out:Array Keyed)(i j:Nat):Prop where
 ia:i<=a.size
 ib:j<=b.size
 sz:out.size+i+j=a.size+b.size
 mg:Mg Ge out.toList (a.toList.take i).reverse (b.toList.take j).reverse (a.toList++b.toList)
def Af{xs:Array Keyed}(hk:k<=i)(hi:i<=xs.size):(xs.toList.take i).reverse=((xs.toList.drop k).take (i-k)).reverse++(xs.toList.take k).reverse:=by
 rw[<-vO,<-List.take_add,show k+(i-k)=i by omega]
def Qx{xs:Array Keyed}:(xs.extract k i).reverse.toList=((xs.toList.drop k).take (i-k)).reverse:=by simp[oB]
def Inc.pr{xs:Array Keyed}(h:Inc xs):(xs.toList.take i).reverse.Pairwise Ge:=Im.mpr (h.pw.sublist (GB _ _))
def Hi.ka(h:Hi a b out i j)(ha:Inc a)(hk:k<=i)(hl:∀m,k<=m->m<i->∀q∈b.toList.take j,Le q (g a m)):Hi a b (out++(a.extract k i).reverse) k j:=by
 have hi:=h.ia;refine⟨⋯,h.ib,by have:=h.sz;rw[yK,Np,qT];omega,?_⟩;have h2:=h.mg;rw[Af hk hi]at h2;have hp:=ha.pr (i:=i);rw[Af hk hi]at hp;obtain⟨p1,p2,p3⟩:=jM.mp hp;rw[iC,Qx];exact h2.a p1 p3 λp hp q hq=>by
  obtain⟨m,h1,h2,_,rfl⟩:=wQ (oG.mp hp);exact hl m h1 ⋯ q (oG.mp hq)
def Hi.kb(h:Hi a b out i j)(hb:Inc b)(hk:k<=j)(hl:∀m,k<=m->m<j->∀q∈a.toList.take i,Le q (g b m)):Hi a b (out++(b.extract k j).reverse) i k:=by
 have hi:=h.ib;refine⟨h.ia,⋯,by have:=h.sz;rw[yK,Np,qT];omega,?_⟩;have h2:=h.mg;rw[Af hk hi]at h2;have hp:=hb.pr (i:=j);rw[Af hk hi]at hp;obtain⟨p1,p2,p3⟩:=jM.mp hp;rw[iC,Qx];exact h2.b p1 (λp hp q hq=>by
  obtain⟨m,h1,h2,_,rfl⟩:=wQ (oG.mp hp);exact hl m h1 ⋯ q (oG.mp hq)) p3
def Hi.a1(h:Hi a b out i j)(ha:Inc a)(hk:1<=i)(hl:∀q∈b.toList.take j,Le q (g a (i-1))):Hi a b (out.push (g a (i-1))) (i-1) j:=by
 have hi:=h.ia;have:=h.ka ha (k:=i-1) ⋯ λm h1 h2=>by rw[show m=i-1 by omega];exact hl
 have e:=ext1 (xs:=a) (i:=i-1) ⋯;rw[show i-1+1=i by omega]at e;rw[e]at this;simpa using this
def Hi.b1(h:Hi a b out i j)(hb:Inc b)(hk:1<=j)(hl:∀q∈a.toList.take i,Le q (g b (j-1))):Hi a b (out.push (g b (j-1))) i (j-1):=by
 have hi:=h.ib;have:=h.kb hb (k:=j-1) ⋯ λm h1 h2=>by rw[show m=j-1 by omega];exact hl
 have e:=ext1 (xs:=b) (i:=j-1) ⋯;rw[show j-1+1=j by omega]at e;rw[e]at this;simpa using this
def Rs.rev{m:List Keyed}{T:List Keyed}(h:m.reverse.Perm T/\m.reverse.Pairwise Ge):m.Perm T/\m.Pairwise Le:=
 ⟨(Ej m).symm.trans h.1,Im.mp h.2⟩
def Hi.done(h:Hi a b out i j)(ha:Inc a)(hb:Inc b)(hc:i=0∨j=0):Rs a b (a.extract 0 i++b.extract 0 j++out.reverse):=by
 have:=h.mg.last ha.pr hb.pr λp hp q hq=>by
  obtain⟨m,h1,_⟩:=jf (oG.mp hp);obtain⟨m',h1',_⟩:=jf (oG.mp hq);omega
 refine Rs.rev ?_;have e:∀(x:Array Keyed) (i:Nat),(x.extract 0 i).toList=x.toList.take i:=λx i=>by simp[oB]
 rw[iC,iC,e,e,Lq,vO,vO,Hs,<-fG];exact this
def Hi.first(h:Hi a b out i j)(ha:Inc a)(hb:Inc b)(hc:j=1)(hf:kx b 0<kx a 0):Rs a b (b.extract 0 j++a.extract 0 i++out.reverse):=by
 have:=h.mg.done ha.pr hb.pr λp hp q hq=>by
  obtain⟨m,h1,h2,rfl⟩:=jf (oG.mp hp);obtain⟨m',h1',_,rfl⟩:=jf (oG.mp hq);rw[show m'=0 by omega];exact gJ (yH hf (ha.up _ _ ⋯ h2))
 refine Rs.rev ?_;have e:∀(x:Array Keyed) (i:Nat),(x.extract 0 i).toList=x.toList.take i:=λx i=>by simp[oB]
 rw[iC,iC,e,e,Lq,vO,vO,Hs,<-fG];exact this
structure Hv(a b out:Array Keyed)(i j x:Nat):Prop where
 hi:Hi a b out i j
 ia:1<=i
 ib:2<=j
 sz:x<out.size
def Hi.more(h:Hi a b out i j){x:Nat}(h':x+i+j<a.size+b.size):x<out.size:=by have:=h.sz;omega
def adU{st:SortSt}{Q:Array Keyed->SortSt->Prop}(hk:kindOf st=oneType')(ha:Inc a)(hb:Inc b)(h1:1<=a.size)(h2:1<=b.size)
  (hf:kx b 0<kx a 0) (hl:∀m,m<b.size->kx b m<kx a (a.size-1)) (h:∀m st',SG st st'->Rs a b m->Q m st'):
  wpS (model prog w) A E s (VX a b) Q st:=by
 have h1':a.size-1<a.size:=⋯;refine wpS_bind (wpS_lift (wpAny_rule ⟨rfl,?_⟩));refine wpS_bind (dg (cR h1') ?_);have L0:Hi a b #[g a (a.size-1)] (a.size-1) b.size:=by
  have:Hi a b #[] a.size b.size:=by
   refine⟨⋯,⋯,by simp,⟨?_,by simp,by simp⟩⟩;rw[<-gh,<-gh,sG,sG];simpa using List.Perm.append (Ej _) (Ej _)
  refine this.a1 ha h1 λq hq=>?_;obtain⟨m,_,h2',rfl⟩:=jf hq;exact gJ (hl m h2')
 refine aU (λc=>wpS_pure (h _ _ (.refl _) (L0.done ha hb (.inl (by simpa using c))))) λc1=>?_;refine aU (λc=>wpS_pure (h _ _ (.refl _) (L0.first ha hb (by simpa using c) hf))) λc2=>?_;have c1':¬a.size-1=0:=by simpa using c1
 have c2':¬b.size=1:=by simpa using c2
 refine wpS_bind (wpS_get ?_);refine wpS_bind (wpS_mono (wpS_forRange (Q:=λ(c:Option (Array Keyed)×Nat×Nat×Array Keyed×Nat) st'=>SG st st'/\∃m,c.1=some m/\Rs a b m)
  (I:=λx (c:Option (Array Keyed)×Nat×Nat×Array Keyed×Nat) st'=>SG st st'/\c.1=none/\Hv a b c.2.2.2.1 c.2.1 c.2.2.1 x) ?_ ?_ ⟨.refl _,rfl,L0,by dsimp only;omega,by dsimp only;omega,C6⟩) ?_)
 .rintro x ⟨r,ia,ib,out,mg⟩ st' _ hx ⟨S,rfl,V⟩;refine wpS_bind (wpS_mono (wpS_forRange (Q:=λ(c:Option (Array Keyed)×Nat×Nat×Array Keyed×Nat×Nat) st''=>st''=st'/\((c.1=none/\Hv a b c.2.2.2.1 c.2.1 c.2.2.1 (x+1))∨∃m,c.1=some m/\Rs a b m))
   (I:=λy (c:Option (Array Keyed)×Nat×Nat×Array Keyed×Nat×Nat) st''=>st''=st'/\c.1=none/\Hv a b c.2.2.2.1 c.2.1 c.2.2.1 (x+y)) ?_ ?_ ⟨rfl,rfl,V⟩) ?_)
  .rintro y ⟨r,ia,ib,out,ac,bc⟩ st'' _ hy ⟨rfl,rfl,⟨L,hi,hj,hz⟩⟩;dsimp only at L hi hj hz;have eI:=L.ia;have eJ:=L.ib;have hi':ia-1<a.size:=⋯;have hj':ib-1<b.size:=⋯;refine wpS_bind (dg (cR hj') ?_);refine wpS_bind (dg (cR hi') ?_);refine wpS_bind (vN (S.1.trans hk) (hb.int _ hj') (ha.int _ hi') ?_);refine aU (λc=>?_) (λc=>?_)
   .have c':kx b (ib-1)<kx a (ia-1):=of_decide_eq_true c;refine wpS_bind (dg (cR hi') ?_);have L':Hi a b (out.push (g a (ia-1))) (ia-1) ib:=L.a1 ha hi λq hq=>by
     obtain⟨m,h1,h2,rfl⟩:=jf hq;exact gJ (OG (hb.up _ _ ⋯ hj') c')
    refine aU (λd=>wpS_pure ⟨rfl,.inr ⟨_,rfl,L'.done ha hb (.inl (by simpa using d))⟩⟩) (λd=>?_);have d':¬ia-1=0:=by simpa using d
    have e:=L'.sz;have e':=L.sz;exact aU (λ_=>wpS_pure ⟨rfl,.inl ⟨rfl,L',by dsimp only;omega,hj,by dsimp only;omega⟩⟩) (λ_=>wpS_pure ⟨rfl,rfl,L',by dsimp only;omega,hj,by dsimp only;omega⟩)
   .have c':¬kx b (ib-1)<kx a (ia-1):=λz=>c (decide_eq_true z);refine wpS_bind (dg (cR hj') ?_);have L':Hi a b (out.push (g b (ib-1))) ia (ib-1):=L.b1 hb ⋯ λq hq=>by
     obtain⟨m,h1,h2,rfl⟩:=jf hq;exact iI (ha.up _ _ ⋯ hi') (j4.mp c')
    refine aU (λd=>wpS_pure ⟨rfl,.inr ⟨_,rfl,L'.first ha hb (by simpa using d) hf⟩⟩) (λd=>?_);have d':¬ib-1=1:=by simpa using d
    have e:=L'.sz;have e':=L.sz;exact aU (λ_=>wpS_pure ⟨rfl,.inl ⟨rfl,L',hi,by dsimp only;omega,by dsimp only;omega⟩⟩) (λ_=>wpS_pure ⟨rfl,rfl,L',hi,by dsimp only;omega,by dsimp only;omega⟩)
  .rintro⟨r,ia,ib,out,ac,bc⟩ st'' ⟨rfl,rfl,⟨L,hi,hj,hz⟩⟩;exact⟨rfl,.inl ⟨rfl,L,hi,hj,by dsimp only at hz ⊢;omega⟩⟩
  rintro⟨r,ia,ib,out,ac,bc⟩ st'' ⟨rfl,⟨rfl,V⟩|⟨m,rfl,R⟩⟩
  rotate_left
  .exact wpS_pure ⟨S,m,rfl,R⟩
  refine wpS_bind (wpS_lift (wpAny_rule ⟨rfl,?_⟩));refine wpS_bind (wpS_mono (wpS_forRange (Q:=λ(c:Option (Array Keyed)×Nat×Nat×Array Keyed×Nat×Nat×Nat) st2=>SG st st2/\((c.1=none/\Hv a b c.2.2.2.1 c.2.1 c.2.2.1 (x+1))∨∃m,c.1=some m/\Rs a b m))
   (I:=λy (c:Option (Array Keyed)×Nat×Nat×Array Keyed×Nat×Nat×Nat) st2=>SG st st2/\c.1=none/\Hv a b c.2.2.2.1 c.2.1 c.2.2.1 (x+1)) ?_ ?_ ⟨S,rfl,V⟩) ?_)
  .rintro y ⟨r,ia,ib,out,mg,ac,bc⟩ st2 _ hy ⟨S2,rfl,⟨L,hi,hj,hz⟩⟩;dsimp only at L hi hj hz;have eI:=L.ia;have eJ:=L.ib;have hj':ib-1<b.size:=⋯;refine aU (λ_=>?_) (λ_=>?_);all_goals
    refine wpS_bind (wpS_modify ?_);refine wpS_bind (dg (cR hj') ?_);refine wpS_bind (tV (S2.1.trans hk) (hb.int _ hj') (ha.seg (b:=0) (n:=ia) ⋯) (show ia-1<ia by omega) λk hk1 hk2 hk3=>?_);replace hk3:∀i,k<=i->i<ia->bx false (kx b (ib-1)) (kx a (0+i))=false:=hk3;replace hk2:∀i,i<k->bx false (kx b (ib-1)) (kx a (0+i))=true:=hk2;replace hk1:k<=ia:=hk1;have S3:=S2;have hq:∀m,k<=m->m<ia->kx b (ib-1)<kx a m:=λm h1 h2=>by
     have:=hk3 m h1 h2;rw[eO]at this;simp only[bx,pC,if_false,B3,decide_eq_true_eq]at this;exact this
    have nA:∀m,m<k->kx a m<=kx b (ib-1):=λm h1=>by
     have:=hk2 m h1;rw[eO]at this;simp only[bx,pC,if_false,Aj,decide_eq_false_iff_not]at this;exact j4.mp this
    have LA:Hi a b (out++(a.extract k ia).reverse) k ib:=L.ka ha hk1 λm h1 h2 q hq'=>by
     obtain⟨m',g1,g2,rfl⟩:=jf hq';exact gJ (OG (hb.up _ _ ⋯ hj') (hq m h1 h2))
    have eA:=LA.sz;have eL:=L.sz;apply aU
    case' ht=>
     intro c;refine aU (λd=>wpS_pure ⟨S3,.inr ⟨_,rfl,LA.done ha hb (.inl (by simpa using d))⟩⟩) (λd=>?_);have hi2:1<=k:=by
      have:¬k=0:=by simpa using d
      omega
     have hz2:x+1<(out++(a.extract k ia).reverse).size:=⋯;generalize out++(a.extract k ia).reverse=O at *;generalize Vi:k=I at *
    case' he=>
     intro c;replace c:¬ia-k>0:=c;have k0:k=ia:=⋯;subst k0;have hi2:=hi;have hz2:=hz;have LA:=L;generalize out=O at *;generalize Vi:k=I at *
    all_goals
     have hjj:ib-1<b.size:=hj';refine wpS_bind (dg (cR hjj) ?_);have LB:Hi a b (O.push (g b (ib-1))) I (ib-1):=LA.b1 hb ⋯ λq hq'=>by
      obtain⟨m',g1,g2,rfl⟩:=jf hq';exact nA _ g1
     refine aU (λd=>wpS_pure ⟨S3,.inr ⟨_,rfl,LB.first ha hb (by simpa using d) hf⟩⟩) (λd=>?_);have hj2:2<=ib-1:=by
      have:¬ib-1=1:=by simpa using d
      omega
     have hI:I-1<a.size:=by have:=LA.ia;omega
     refine wpS_bind (dg (cR hI) ?_);have hjn:0+(ib-1)<=b.size:=⋯;refine wpS_bind (tV (S3.1.trans hk) (ha.int _ hI) (hb.seg hjn) (show ib-1-1<ib-1 by omega) λk hk1 hk2 hk3=>?_);replace hk3:∀i,k<=i->i<ib-1->bx true (kx a (I-1)) (kx b (0+i))=false:=hk3;replace hk2:∀i,i<k->bx true (kx a (I-1)) (kx b (0+i))=true:=hk2;replace hk1:k<=ib-1:=hk1;have hq2:∀m,k<=m->m<ib-1->kx a (I-1)<=kx b m:=λm h1 h2=>by
      have:=hk3 m h1 h2;rw[eO]at this;simp only[bx,if_true,decide_eq_false_iff_not]at this;exact j4.mp this
     have nB:∀m,m<k->kx b m<kx a (I-1):=λm h1=>by
      have:=hk2 m h1;rw[eO]at this;simp only[bx,if_true,decide_eq_true_eq]at this;exact this
     have LC:Hi a b (O.push (g b (ib-1))++(b.extract k (ib-1)).reverse) I k:=LB.kb hb hk1 λm h1 h2 q hq'=>by
      obtain⟨m',g1,g2,rfl⟩:=jf hq';exact iI (ha.up _ _ ⋯ hI) (hq2 m h1 h2)
     have eC:=LC.sz;have Wy:=LA.sz;apply aU
     case' ht=>
      intro c;refine aU (λd=>wpS_pure ⟨S3,.inr ⟨_,rfl,LC.first ha hb (by simpa using d) hf⟩⟩) (λd=>?_);refine aU (λd=>wpS_pure ⟨S3,.inr ⟨_,rfl,LC.done ha hb (.inr (by simpa using d))⟩⟩) (λd2=>?_);have hj3:2<=k:=by
       have:¬k=1:=by simpa using d
       have:¬k=0:=by simpa using d2
       omega
      have Dj:x+1<(O.push (g b (ib-1))++(b.extract k (ib-1)).reverse).size:=⋯
     case' he=>
      intro c;replace c:¬ib-1-k>0:=c;have k0:k=ib-1:=⋯;subst k0;have hj3:=hj2;have LC:=LB;have Dj:x+1<(O.push (g b (ib-1))).size:=by rw[Ba];omega
     all_goals
      refine wpS_bind (dg (cR hI) ?_);have LD:=LC.a1 ha hi2 λq hq'=>by
       obtain⟨m',g1,g2,rfl⟩:=jf hq';exact gJ (nB _ g1)
      refine aU (λd=>wpS_pure ⟨S3,.inr ⟨_,rfl,LD.done ha hb (.inl (by simpa using d))⟩⟩) (λd=>?_);have vP:1<=I-1:=by
       have:¬I-1=0:=by simpa using d
       omega
      have v5:=LD.more (x:=x+1) (by have:=LC.sz;omega);exact aU (λ_=>wpS_pure ⟨S3,.inl ⟨rfl,LD,vP,hj3,v5⟩⟩) (λ_=>wpS_pure ⟨S3,rfl,LD,vP,hj3,v5⟩)
  .rintro⟨r,ia,ib,out,mg,ac,bc⟩ st2 ⟨S2,rfl,V⟩;exact⟨S2,.inl ⟨rfl,V⟩⟩
  rintro⟨r,ia,ib,out,mg,ac,bc⟩ st2 ⟨S2,⟨rfl,V⟩|⟨m,rfl,R⟩⟩
  .exact wpS_bind (wpS_modify (wpS_pure ⟨S2.trans ⟨rfl,rfl,rfl,rfl⟩,rfl,V⟩))
  .exact wpS_pure ⟨S2,m,rfl,R⟩
 .rintro⟨r,ia,ib,out,mg⟩ st' ⟨S,rfl,⟨L,hi,hj,hz⟩⟩;have:=L.sz;dsimp only at this hi hj hz;omega
 .rintro⟨r,ia,ib,out,mg⟩ st' ⟨S,m,rfl,R⟩;exact wpS_pure (h m st' S R)
end
section
variable {prog:Program} {w:World} {A:Around} {E:Value->Shared->Prop} {s:Shared}
variable {a b out:Array Keyed} {i j k:Nat}
def Seg(xs:Array Keyed)(s n:Nat):Prop:=∀i j,s<=i->i<=j->j<s+n->kx xs i<=kx xs j
def AI(xs:Array Keyed):Prop:=∀i,i<xs.size->I1 (g xs i)
def ac4(m:List Keyed):∀(o:Nat) (xs:Array Keyed) (s:Nat),s+o+m.length<=xs.size->∀i,
  ((m.zipIdx o).foldl (λa x=>a.setIfInBounds (s+x.2) x.1) xs)[i]?=if s+o<=i/\i<s+o+m.length then m[i-(s+o)]? else xs[i]?:=by
 induction m with
 |nil=>intro o xs s h i;rw[if_neg (by simp)];rfl
 |cons p m ih=>
  intro o xs s h i;rw[List.zipIdx_cons,JG,ih _ _ _ (by simp at h ⊢;omega)];simp only[tu]at h⊢;by_cases c:s+(o+1)<=i/\i<s+(o+1)+m.length
  .rw[if_pos c,if_pos ⋯,show i-(s+o)=i-(s+(o+1))+1 by omega];rfl
  .rw[if_neg c,Array.getElem?_setIfInBounds];by_cases e:s+o=i
   .subst e;rw[if_pos rfl,if_pos ⋯,if_pos ⋯,pK];rfl
   .rw[if_neg e,if_neg ⋯]
def lay(xs:Array Keyed)(s:Nat)(m:Array Keyed):Array Keyed:=m.toList.zipIdx.foldl (λa x=>a.setIfInBounds (s+x.2) x.1) xs
def yR{xs m:Array Keyed}{s:Nat}(h:s+m.size<=xs.size)(i:Nat):(lay xs s m)[i]?=if s<=i/\i<s+m.size then m[i-s]? else xs[i]?:=by
 unfold lay;rw[ac4 _ 0 _ _ (by simpa using h)];simp
def Xc{xs m:Array Keyed}{s:Nat}(h:s+m.size<=xs.size):(lay xs s m).toList=xs.toList.take s++m.toList++xs.toList.drop (s+m.size):=by
 apply List.ext_getElem?;intro i;rw[Array.getElem?_toList,yR h];by_cases c:i<s
 .rw[if_neg ⋯,fG,List.getElem?_append_left (by simp;omega),List.getElem?_take_of_lt c,Array.getElem?_toList]
 .by_cases d:i<s+m.size
  .rw[if_pos ⋯,fG,List.getElem?_append_right (by simp;omega),List.getElem?_append_left (by simp;omega),Array.getElem?_toList];congr 1;simp;omega
  .rw[if_neg ⋯,List.getElem?_append_right (by simp;omega),List.getElem?_drop,Array.getElem?_toList];congr 1;simp;omega
def Ut{σ:Type}{M:Model}{Q:PUnit->σ->Prop}{st st':σ}(h:Q ⟨⟩ st'):wpS M A E s (set st':StateT σ Sem PUnit) Q st:=by
 unfold wpS;rw[StateT.run_set];exact wpAny_pure ⟨rfl,h⟩
def oF{xs:Array Keyed}{u v:Nat}(h:i<v-u)(hv:v<=xs.size):g (xs.extract u v) i=g xs (u+i):=by
 unfold g;rw[Array.getElem?_extract,if_pos ⋯]
def Seg.inc{xs:Array Keyed}{u n:Nat}(h:Seg xs u n)(hI:AI xs)(hn:u+n<=xs.size){v t:Nat}(hv:u<=v)(ht:t<=u+n):Inc (xs.extract v t):=by
 have e:(xs.extract v t).size=t-v:=by rw[qT];omega
 refine⟨λi hi=>?_,λi j hij hj=>?_⟩
 .rw[e]at hi;rw[oF hi ⋯];exact hI _ ⋯
 .rw[e]at hj;unfold kx;rw[oF ⋯ ⋯,oF hj ⋯];exact h _ _ ⋯ ⋯ ⋯
def Seg.up{xs:Array Keyed}{u n:Nat}(h:Seg xs u n)(hI:AI xs)(hn:u+n<=xs.size):Up xs u n (λi=>g xs (u+i)):=
 ⟨λi hi=>cR ⋯,λi hi=>hI _ ⋯,λi j hij hj=>h _ _ ⋯ ⋯ ⋯⟩
def Jd{xs:Array Keyed}{u v:Nat}{p:Keyed}(hv:v<=xs.size)(h:p∈(xs.extract u v).toList):∃m,u<=m/\m<v/\p=g xs m:=by
 obtain⟨i,hi,e⟩:=v7 h;have hi':i<v-u:=by simp at hi;omega
 refine⟨u+i,⋯,⋯,?_⟩;rw[<-e,<-oF hi' hv,fY (by simp;omega)]
def agj{st:SortSt}{Q:Bool->SortSt->Prop}{p:Array (Nat×Nat×Nat)}{xs:Array Keyed}(hk:kindOf st=oneType')(hf:failedOf st=none)(hp:pendingOf st=p)(hx:arrOf st=xs)(hI:AI xs)
  {sa na pw sb nb pw':Nat} (e1:p[i]?=some (sa,na,pw)) (e2:p[i+1]?=some (sb,nb,pw')) (hs:sb=sa+na) (hn:1<=na) (hm:1<=nb) (hz:sb+nb<=xs.size) (S1:Seg xs sa na) (S2:Seg xs sb nb)
  (h:∀st',kindOf st'=oneType'->failedOf st'=none->pendingOf st'=(p.setIfInBounds i (sa,na+nb,pw)).eraseIdxIfInBounds (i+1)->(arrOf st').toList.Perm xs.toList->
   (∀m,m<sa∨sa+na+nb<=m->(arrOf st')[m]?=xs[m]?)->Seg (arrOf st') sa (na+nb)->Q true st'):wpS (model prog w) A E s (mergeAt' i) Q st:=by
 subst hp;subst hx;refine wpS_bind (wpS_get ?_);rw[e1,e2];refine wpS_bind (Ut ?_);have hsb:sb<(arrOf st).size:=⋯;refine wpS_bind (dg (cR hsb) ?_);refine wpS_bind (tV hk (hI sb ⋯) (S1.up hI ⋯) (show 0<na by omega) λk hk1 hk2 hk3=>?_);replace hk2:∀i,i<k->bx false (kx (arrOf st) sb) (kx (arrOf st) (sa+i))=true:=hk2;replace hk3:∀i,k<=i->i<na->bx false (kx (arrOf st) sb) (kx (arrOf st) (sa+i))=false:=hk3;have qa:∀m,sa<=m->m<sa+k->kx (arrOf st) m<=kx (arrOf st) sb:=λm h1 h2=>by
  have:=hk2 (m-sa) ⋯;rw[show sa+(m-sa)=m by omega]at this;simp only[bx,pC,if_false,Aj,decide_eq_false_iff_not]at this;exact j4.mp this
 have na':∀m,sa+k<=m->m<sb->kx (arrOf st) sb<kx (arrOf st) m:=λm h1 h2=>by
  have:=hk3 (m-sa) ⋯ ⋯;rw[show sa+(m-sa)=m by omega]at this;simp only[bx,pC,if_false,B3,decide_eq_true_eq]at this;exact this
 have stay:(∀m,sa<=m->m<sb->∀m',sb<=m'->m'<sb+nb->kx (arrOf st) m<=kx (arrOf st) m')->Seg (arrOf st) sa (na+nb):=λhh u v hu huv hv=>by
  by_cases c:v<sb
  .exact S1 u v hu huv ⋯
  .by_cases d:u<sb
   .exact hh u hu d v ⋯ ⋯
   .exact S2 u v ⋯ huv ⋯
 refine aU (λc=>wpS_pure ?_) (λc=>?_)
 .have c':na-k=0:=by simpa using c
  exact h _ hk hf rfl (B5 _) (λ_ _=>rfl) (by
   exact stay λm h1 h2 m' h3 h4=>iI (qa m h1 ⋯) (S2 _ _ ⋯ h3 h4))
 have c':¬na-k=0:=by simpa using c
 have hs1:sa+k+(na-k)-1=sb-1:=⋯;have hs2:sa+k+(na-k)-1<(arrOf st).size:=⋯;refine wpS_bind (dg (cR hs2) ?_);refine wpS_bind (tV hk (hI _ hs2) (S2.up hI hz) (show nb-1<nb by omega) λk2 hq1 hq2 zX=>?_);rw[hs1]at hq2 zX;replace hq2:∀i,i<k2->bx true (kx (arrOf st) (sb-1)) (kx (arrOf st) (sb+i))=true:=hq2;replace zX:∀i,k2<=i->i<nb->bx true (kx (arrOf st) (sb-1)) (kx (arrOf st) (sb+i))=false:=zX;have qb:∀m,sb<=m->m<sb+k2->kx (arrOf st) m<kx (arrOf st) (sb-1):=λm h1 h2=>by
  have:=hq2 (m-sb) ⋯;rw[show sb+(m-sb)=m by omega]at this;simp only[bx,if_true,decide_eq_true_eq]at this;exact this
 have KP:∀m,sb+k2<=m->m<sb+nb->kx (arrOf st) (sb-1)<=kx (arrOf st) m:=λm h1 h2=>by
  have:=zX (m-sb) ⋯ ⋯;rw[show sb+(m-sb)=m by omega]at this;simp only[bx,if_true,decide_eq_false_iff_not]at this;exact j4.mp this
 refine aU (λc=>wpS_pure ?_) (λd=>?_)
 .have c':k2=0:=by simpa using c
  exact h _ hk hf rfl (B5 _) (λ_ _=>rfl) (stay λm h1 h2 m' h3 h4=>iI (S1 m (sb-1) h1 ⋯ ⋯) (KP m' ⋯ h4))
 have d':¬k2=0:=by simpa using d
 have sx:((arrOf st).extract (sa+k) sb).size=sb-(sa+k):=by rw[qT];omega
 have sy:((arrOf st).extract sb (sb+k2)).size=k2:=by rw[qT];omega
 have ix:Inc ((arrOf st).extract (sa+k) sb):=S1.inc hI ⋯ ⋯ ⋯;have iy:Inc ((arrOf st).extract sb (sb+k2)):=S2.inc hI hz ⋯ ⋯;have ff:kx ((arrOf st).extract sb (sb+k2)) 0<kx ((arrOf st).extract (sa+k) sb) 0:=by
  unfold kx;rw[oF ⋯ ⋯,oF ⋯ ⋯];exact na' _ ⋯ ⋯
 have ll:∀m,m<((arrOf st).extract sb (sb+k2)).size->kx ((arrOf st).extract sb (sb+k2)) m<kx ((arrOf st).extract (sa+k) sb) (((arrOf st).extract (sa+k) sb).size-1):=λm hm'=>by
  rw[sy]at hm';rw[sx];unfold kx;rw[oF ⋯ ⋯,oF ⋯ ⋯,show sa+k+(sb-(sa+k)-1)=sb-1 by omega];exact qb _ ⋯ ⋯
 have fin:∀m,Rs ((arrOf st).extract (sa+k) sb) ((arrOf st).extract sb (sb+k2)) m->(lay (arrOf st) (sa+k) m).toList.Perm (arrOf st).toList/\
   (∀i,i<sa∨sa+na+nb<=i->(lay (arrOf st) (sa+k) m)[i]?=(arrOf st)[i]?)/\Seg (lay (arrOf st) (sa+k) m) sa (na+nb):=λm R=>by
  have sm:m.size=sb-(sa+k)+k2:=by
   have:=R.1.length_eq;rw[gK,gh,gh,gh,sx,sy]at this;exact this
  have hl:sa+k+m.size<=(arrOf st).size:=⋯;refine⟨?_,λi hi=>?_,?_⟩
  .rw[Xc hl];have e:(arrOf st).toList=(arrOf st).toList.take (sa+k)++(((arrOf st).extract (sa+k) sb).toList++((arrOf st).extract sb (sb+k2)).toList)++(arrOf st).toList.drop (sa+k+m.size):=by
    apply List.ext_getElem?;intro i;by_cases c1:i<sa+k
    .rw[fG,List.getElem?_append_left (by simp;omega),List.getElem?_take_of_lt c1]
    .by_cases c2:i<sa+k+m.size
     .rw[fG,List.getElem?_append_right (by simp;omega),List.getElem?_append_left (by simp;omega),iB,gh,Hr ⋯];by_cases c3:i<sb
      .rw[List.getElem?_append_left (by simp;omega),Array.getElem?_toList,Array.getElem?_toList,Array.getElem?_extract,if_pos ⋯];congr 1;omega
      .rw[List.getElem?_append_right (by simp;omega),Array.getElem?_toList,Array.getElem?_toList,Array.getElem?_extract,gh,sx,if_pos ⋯];congr 1;omega
     .rw[List.getElem?_append_right (by simp;omega),List.getElem?_drop];congr 1;simp;omega
   conv=>rhs;rw[e]
   exact KW _ (DK _ R.1)
  .rw[yR hl,if_neg ⋯]
  .have kl:∀i,i<sa+k∨sb+k2<=i->kx (lay (arrOf st) (sa+k) m) i=kx (arrOf st) i:=λi hi=>by
    unfold kx g;rw[yR hl,if_neg ⋯]
   have km:∀i,sa+k<=i->i<sb+k2->kx (lay (arrOf st) (sa+k) m) i=kx m (i-(sa+k)):=λi h1 h2=>by
    unfold kx g;rw[yR hl,if_pos ⋯]
   have mm:∀i,i<m.size->∃u,sa+k<=u/\u<sb+k2/\kx m i=kx (arrOf st) u:=λi hi=>by
    have:g m i∈m.toList:=by rw[fY hi];exact sI _
    rcases fK.mp (R.1.mem_iff.mp this)with z|z
    .obtain⟨u,u1,u2,e⟩:=Jd ⋯ z;exact⟨u,u1,⋯,by unfold kx;rw[e]⟩
    .obtain⟨u,u1,u2,e⟩:=Jd ⋯ z;exact⟨u,⋯,u2,by unfold kx;rw[e]⟩
   have ms:∀i j,i<=j->j<m.size->kx m i<=kx m j:=λi j hij hj=>by
    rcases Nat.lt_or_eq_of_le hij with hl'|rfl
    .have:=Fp.mp R.2 i j (by simp;omega) (by simpa using hj) hl';unfold kx;rw[fY ⋯,fY hj];exact this
    .exact sO _
   have low:∀u v,sa<=u->u<sa+k->sa+k<=v->v<sb+nb->kx (arrOf st) u<=kx (arrOf st) v:=λu v h1 h2 h3 h4=>by
    by_cases c:v<sb
    .exact S1 _ _ h1 ⋯ ⋯
    .exact iI (qa u h1 h2) (S2 _ _ ⋯ ⋯ h4)
   have high:∀u v,sa+k<=u->u<sb+k2->sb+k2<=v->v<sb+nb->kx (arrOf st) u<=kx (arrOf st) v:=λu v h1 h2 h3 h4=>by
    by_cases c:u<sb
    .exact iI (S1 u (sb-1) ⋯ ⋯ ⋯) (KP v h3 h4)
    .exact S2 _ _ ⋯ ⋯ h4
   intro u v hu huv hv;by_cases c1:u<sa+k
   .rw[kl u (.inl c1)];by_cases c2:v<sa+k
    .rw[kl v (.inl c2)];exact S1 _ _ hu huv ⋯
    .by_cases c3:v<sb+k2
     .rw[km v ⋯ c3];obtain⟨z,z1,z2,e⟩:=mm (v-(sa+k)) ⋯;rw[e];exact low _ _ hu c1 z1 ⋯
     .rw[kl v (.inr ⋯)];exact low _ _ hu c1 ⋯ ⋯
   .by_cases c2:u<sb+k2
    .rw[km u ⋯ c2];by_cases c3:v<sb+k2
     .rw[km v ⋯ c3];exact ms _ _ ⋯ ⋯
     .rw[kl v (.inr ⋯)];obtain⟨z,z1,z2,e⟩:=mm (u-(sa+k)) ⋯;rw[e];exact high _ _ z1 z2 ⋯ ⋯
    .rw[kl u (.inr ⋯),kl v (.inr ⋯)];exact S2 _ _ ⋯ huv ⋯
 have s1:1<=((arrOf st).extract (sa+k) sb).size:=⋯;have s2:1<=((arrOf st).extract sb (sb+k2)).size:=⋯;refine aU (λ_=>?_) (λ_=>?_)
 case' refine_1=>refine wpS_bind (aaY hk ix iy s1 s2 ff ll λm st' S R=>?_)
 case' refine_2=>refine wpS_bind (adU hk ix iy s1 s2 ff ll λm st' S R=>?_)
 all_goals
  obtain⟨f1,f2,f3⟩:=fin m R;have e:failedOf st'=none:=S.2.2.2.trans hf;have eL:lay (arrOf st') (sa+k) m=lay (arrOf st) (sa+k) m:=congrArg (λz=>lay z (sa+k) m) S.2.1;refine wpS_bind (wpS_modify (wpS_bind (wpS_get (wpS_pure ?_))));rw[<-eL]at f1 f2 f3;show Q (failedOf st').isNone _;rw[e];exact h _ (S.1.trans hk) e S.2.2.1 f1 f2 f3
end
section
variable {prog:Program} {w:World} {A:Around} {E:Value->Shared->Prop} {s:Shared}
variable {a b out:Array Keyed} {i j k:Nat}
structure Ch(lo hi:Nat)(st st':SortSt):Prop where
 kind:kindOf st'=kindOf st
 failed:failedOf st'=failedOf st
 pend:pendingOf st'=pendingOf st
 perm:(arrOf st').toList.Perm (arrOf st).toList
 out:∀m,m<lo∨hi<=m->(arrOf st')[m]?=(arrOf st)[m]?
theorem Ch.refl{lo hi:Nat}(st:SortSt):Ch lo hi st st:=⟨rfl,rfl,rfl,B5 _,λ_ _=>rfl⟩
theorem Ch.trans{lo hi:Nat}{s1 s2 s3:SortSt}(h:Ch lo hi s1 s2)(h':Ch lo hi s2 s3):Ch lo hi s1 s3:=
 ⟨h'.kind.trans h.kind,h'.failed.trans h.failed,h'.pend.trans h.pend,h'.perm.trans h.perm,λm hm=>(h'.out m hm).trans (h.out m hm)⟩
def AI.perm{xs ys:Array Keyed}(h:AI xs)(hp:ys.toList.Perm xs.toList):AI ys:=λi hi=>by
 have:g ys i∈xs.toList:=hp.mem_iff.mp (by rw[fY hi];exact sI _);obtain⟨m,h1,e⟩:=v7 this;rw[<-e,<-fY (by simpa using h1)];exact h m (by simpa using h1)
def Nd(xs:Array Keyed):Prop:=(xs.toList.map nm).Nodup
def Nd.perm{xs ys:Array Keyed}(h:Nd xs)(hp:ys.toList.Perm xs.toList):Nd ys:=(hp.map nm).nodup_iff.mpr h
def Nd.ne{xs:Array Keyed}(h:Nd xs)(hij:i<j)(hj:j<xs.size):kx xs i≠kx xs j:=by
 have:=Fp.mp h i j (by simp;omega) (by simpa using hj) hij;unfold kx;rw[fY ⋯,fY hj];simpa using this
def rR{xs ys:Array Keyed}(hp:ys.toList.Perm xs.toList):ys.size=xs.size:=by simpa using hp.length_eq
def uN{st:SortSt}{Q:Option Bool->SortSt->Prop}(hk:kindOf st=oneType')(hI:AI (arrOf st))(hi:i<(arrOf st).size)(hj:j<(arrOf st).size)
  (h:Q (some (decide (kx (arrOf st) i<kx (arrOf st) j))) st):wpS (model prog w) A E s (ltAt' i j) Q st:=by
 rw[ltAt'_eq];exact wpS_bind (wpS_get (wpS_bind (dg (cR hi) (wpS_bind (dg (cR hj) (vN hk (hI _ hi) (hI _ hj) h))))))
def Seg.next{xs:Array Keyed}{lo n:Nat}(h:Seg xs lo n)(h':1<=n->kx xs (lo+n-1)<=kx xs (lo+n)):Seg xs lo (n+1):=λi j hi hij hj=>by
 by_cases c:j<lo+n
 .exact h i j hi hij c
 .obtain rfl:j=lo+n:=⋯;by_cases d:i=lo+n
  .rw[d];exact sO _
  .exact iI (h i (lo+n-1) hi ⋯ ⋯) (h' ⋯)
def Gy{st:SortSt}{lo nrem u:Nat}{Q:Option (Option Nat)×Nat->SortSt->Prop}(hk:kindOf st=oneType')(hI:AI (arrOf st))(hz:lo+nrem<=(arrOf st).size)(hu:1<=u)(hn:u<=nrem)
  (S:Seg (arrOf st) lo u) (h:∀n,u<=n->n<=nrem->Seg (arrOf st) lo n->(n=nrem∨kx (arrOf st) (lo+n)<kx (arrOf st) (lo+n-1))->Q (none,n) st):
  wpS (model prog w) A E s (forIn [u:nrem] ((none:Option (Option Nat)),u) λ_ c=>ltAt' (lo+c.2) (lo+c.2-1)>>=λx=>match x with
   |some sm=>ite (sm=true) (pure (ForInStep.done (none,c.2))) (pure (ForInStep.yield (none,c.2+1)))
   |_=>pure (ForInStep.done (some none,c.2))) Q st:=by
 refine wpS_forRange (I:=λx (c:Option (Option Nat)×Nat) st'=>st'=st/\c=(none,x)/\Seg (arrOf st) lo x) ?_ ?_ ⟨rfl,rfl,S⟩
 .rintro x c st' hx hx' ⟨rfl,rfl,S'⟩;refine wpS_bind (uN hk hI (by dsimp only;omega) (by dsimp only;omega) ?_);refine aU (λc=>?_) (λc=>?_)
  .exact wpS_pure (h x hx ⋯ S' (.inr (of_decide_eq_true c)))
  .exact wpS_pure ⟨rfl,rfl,S'.next λ_=>j4.mp λz=>c (decide_eq_true z)⟩
 .rintro c st' ⟨rfl,rfl,S'⟩;rw[show max u nrem=nrem by omega]at S'⊢;exact h _ hn (aO _) S' (.inl rfl)
def RK{xs:Array Keyed}{lo n:Nat}(h:lo+n<=xs.size)(hi:lo<=i)(hj:i<lo+n):kx (mirror xs lo (lo+n) ((lo+n-lo)/2)) i=kx xs (lo+(lo+n)-1-i):=by
 unfold kx g;rw[getElem?_mirror_all h,if_pos ⟨hi,hj⟩]
def ab0{st:SortSt}{lo nrem:Nat}{Q:Option Nat->SortSt->Prop}(hk:kindOf st=oneType')(hI:AI (arrOf st))(hN:Nd (arrOf st))(hz:lo+nrem<=(arrOf st).size)(h1:1<=nrem)
  (h:∀n st',Ch lo (lo+nrem) st st'->1<=n->n<=nrem->Seg (arrOf st') lo n->Q (some n) st'):wpS (model prog w) A E s (countRun' lo nrem) Q st:=by
 refine wpS_bind (Gy hk hI hz (aO 1) h1 (λi j hi hij hj=>by rw[show i=j by omega];exact sO _) λn n1 n2 S hor=>?_);refine aU (λc=>wpS_pure (h _ _ (.refl _) n1 n2 S)) (λc=>?_);have c':¬n=nrem:=by simpa using c
 have hlt:=hor.resolve_left c';refine aU (λc2=>?_) (λc2=>?_)
 .replace c2:n>1:=c2;have z1:lo<(arrOf st).size:=⋯;have z2:lo+n-1<(arrOf st).size:=⋯;refine wpS_bind (uN hk hI z1 z2 ?_);refine aU (λc3=>wpS_pure (h _ _ (.refl _) n1 n2 S)) (λc3=>?_);have e1:=S lo (lo+n-1) ⋯ ⋯ ⋯;have e2:=hN.ne (i:=lo) (j:=lo+n-1) ⋯ z2;have f:kx (arrOf st) lo<kx (arrOf st) (lo+n-1):=⋯;exact absurd (decide_eq_true f) c3
 .have n0:n=1:=by
   have:¬n>1:=c2;omega
  subst n0;refine wpS_bind (wpS_lift (wpAny_rule ⟨rfl,?_⟩));refine wpS_bind (wpS_mono (wpS_forRange (Q:=λ(c:Option (Option Nat)×Nat×Nat) st'=>st'=st/\∃n,c=(none,n,0)/\2<=n/\n<=nrem/\∀i j,lo<=i->i<=j->j<lo+n->kx (arrOf st) j<=kx (arrOf st) i)
   (I:=λx (c:Option (Option Nat)×Nat×Nat) st'=>st'=st/\c=(none,x,0)/\∀i j,lo<=i->i<=j->j<lo+x->kx (arrOf st) j<=kx (arrOf st) i) ?_ ?_ ⟨rfl,rfl,?_⟩) ?_)
  .rintro x c st' hx hx' ⟨rfl,rfl,D⟩;have z1:lo+x<(arrOf st').size:=⋯;have z2:lo+x-1<(arrOf st').size:=⋯;refine wpS_bind (uN hk hI z1 z2 ?_);refine aU (λc=>?_) (λc=>?_)
   .have c3:kx (arrOf st') (lo+x)<kx (arrOf st') (lo+x-1):=of_decide_eq_true c;refine aU (λz=>absurd z (jw 0)) (λ_=>wpS_pure ⟨rfl,rfl,λi j hi hij hj=>?_⟩);by_cases d:j<lo+x
    .exact D i j hi hij d
    .obtain rfl:j=lo+x:=⋯;by_cases d2:i=lo+x
     .rw[d2];exact sO _
     .exact iI (gJ c3) (D i (lo+x-1) hi ⋯ ⋯)
   .have c3:¬kx (arrOf st') (lo+x)<kx (arrOf st') (lo+x-1):=λz=>c (decide_eq_true z);refine wpS_bind (uN hk hI z2 z1 ?_);have e2:=hN.ne (i:=lo+x-1) (j:=lo+x) ⋯ z1;have f:kx (arrOf st') (lo+x-1)<kx (arrOf st') (lo+x):=⋯;exact aU (λ_=>wpS_pure ⟨rfl,x,rfl,hx,⋯,D⟩) (λc4=>absurd (decide_eq_true f) c4)
  .rintro c st' ⟨rfl,rfl,D⟩;rw[show max (1+1) nrem=nrem by omega]at D⊢;exact⟨rfl,nrem,rfl,⋯,aO _,D⟩
  .intro i j hi hij hj;by_cases d:i=j
   .rw[d];exact sO _
   .rw[show i=lo by omega,show j=lo+1 by omega];exact gJ hlt
  rintro c st' ⟨rfl,n,rfl,n1,n2,D⟩;refine aU (λz=>absurd z (jw 0)) (λ_=>?_);refine wpS_bind (wpS_reverse ?_);have hz':lo+n<=(arrOf st').size:=⋯;have KC:1<=n:=⋯;have hp:(mirror (arrOf st') lo (lo+n) ((lo+n-lo)/2)).toList.Perm (arrOf st').toList:=(Cu.mp (mirror_perm _ _ _ _));have C:Ch lo (lo+nrem) st' (setArr st' (mirror (arrOf st') lo (lo+n) ((lo+n-lo)/2))):=
   ⟨rfl,rfl,rfl,hp,λm hm=>by show(mirror _ _ _ _)[m]?=_;rw[getElem?_mirror_all hz',if_neg ⋯]⟩
  refine wpS_bind (Gy hk (hI.perm hp) (by rw[rR hp];exact hz) KC n2 (λi j hi hij hj=>?_) λm m1 m2 S' _=>wpS_pure (h m _ C (cJ KC m1) m2 S'));replace hj:j<lo+n:=hj;show kx (mirror _ _ _ _) i<=kx (mirror _ _ _ _) j;rw[RK hz' hi ⋯,RK hz' ⋯ hj];exact D _ _ ⋯ ⋯ ⋯
def acZ{st:SortSt}{src dst:Nat}{Q:Unit->SortSt->Prop}(h:Q () (setArr st (bubble (arrOf st) src (src-dst)))):wpS (model prog w) A E s (moveDown' src dst) Q st:=by
 rw[moveDown'_eq];exact wpS_modify h
def aef{st:SortSt}{lo n ok:Nat}{Q:Bool->SortSt->Prop}(hk:kindOf st=oneType')(hI:AI (arrOf st))(hz:lo+n<=(arrOf st).size)(h1:1<=ok)(h2:ok<=n)(S:Seg (arrOf st) lo ok)
  (h:∀st',Ch lo (lo+n) st st'->Seg (arrOf st') lo n->Q true st'):wpS (model prog w) A E s (binarySort' lo n ok) Q st:=by
 refine wpS_bind (wpS_mono (wpS_forRange (Q:=λ(c:Option Bool×Unit) st'=>c.1=none/\Ch lo (lo+n) st st'/\Seg (arrOf st') lo n)
  (I:=λx (c:Option Bool×Unit) st'=>c.1=none/\Ch lo (lo+n) st st'/\Seg (arrOf st') lo x) ?_ ?_ ⟨rfl,.refl _,by rw[show max ok 1=ok by omega];exact S⟩) ?_)
 .rintro k ⟨r,⟨⟩⟩ st' hx hkn ⟨rfl,C,S'⟩;have e:=rR C.perm;have hI':=hI.perm C.perm;have hk':=C.kind.trans hk;have zk:lo+k<(arrOf st').size:=⋯;refine wpS_bind (wpS_mono (wpS_forRange (Q:=λ(c:Option Bool×Nat×Nat) s2=>s2=st'/\c.1=none/\c.2.1<=k/\(∀m,m<c.2.1->kx (arrOf st') (lo+m)<=kx (arrOf st') (lo+k))/\(∀m,c.2.1<=m->m<k->kx (arrOf st') (lo+k)<kx (arrOf st') (lo+m)))
   (I:=λy (c:Option Bool×Nat×Nat) s2=>s2=st'/\c.1=none/\c.2.1<=c.2.2/\c.2.2<=k/\c.2.2-c.2.1<=k-y/\(∀m,m<c.2.1->kx (arrOf st') (lo+m)<=kx (arrOf st') (lo+k))/\(∀m,c.2.2<=m->m<k->kx (arrOf st') (lo+k)<kx (arrOf st') (lo+m))) ?_ ?_
   ⟨rfl,rfl,cZ _,aO _,aO _,λm hm=>absurd hm (Bb _),λm h1 h2=>absurd h2 (Nat.not_lt.mpr h1)⟩) ?_)
  .rintro y ⟨r,l,u⟩ s2 _ hy ⟨rfl,rfl,b1,b2,b3,b4,b5⟩;dsimp only at b1 b2 b3 b4 b5;refine aU (λc=>wpS_pure ⟨rfl,rfl,by dsimp only;omega,b4,λm m1 m2=>b5 m (cJ c m1) m2⟩) (λc=>?_);replace c:¬l≥u:=c;have zm:lo+(l+u)/2<(arrOf s2).size:=⋯;refine wpS_bind (uN hk' hI' zk zm ?_);refine aU (λd=>?_) (λd=>?_)
   .have d':kx (arrOf s2) (lo+k)<kx (arrOf s2) (lo+(l+u)/2):=of_decide_eq_true d;exact wpS_pure ⟨rfl,rfl,by dsimp only;omega,by dsimp only;omega,by dsimp only;omega,b4,λm m1 m2=>yH d' (S' _ _ ⋯ (by dsimp only at m1;omega) ⋯)⟩
   .have d':¬kx (arrOf s2) (lo+k)<kx (arrOf s2) (lo+(l+u)/2):=λz=>d (decide_eq_true z);exact wpS_pure ⟨rfl,rfl,by dsimp only;omega,by dsimp only;omega,by dsimp only;omega,λm m1=>iI (S' _ _ ⋯ (by dsimp only at m1;omega) ⋯) (j4.mp d'),b5⟩
  .rintro⟨r,l,u⟩ s2 ⟨rfl,rfl,b1,b2,b3,b4,b5⟩;dsimp only at b1 b2 b3 b4 b5⊢;exact⟨rfl,rfl,⋯,b4,λm m1 m2=>b5 m ⋯ m2⟩
  rintro⟨r,l,u⟩ s2 ⟨rfl,rfl,b1,b4,b5⟩;dsimp only at b1 b4 b5;refine wpS_bind (acZ (wpS_pure ?_));have hd:lo+k-(lo+l)<=lo+k:=⋯;have hp:(bubble (arrOf s2) (lo+k) (lo+k-(lo+l))).toList.Perm (arrOf s2).toList:=Cu.mp (bubble_perm _ _ _);refine⟨rfl,C.trans ⟨rfl,rfl,rfl,hp,λm hm=>?_⟩,?_⟩
  .show(bubble _ _ _)[m]?=_;rw[getElem?_bubble zk _ hd,if_neg ⋯,if_neg ⋯]
  .have kb:∀i,kx (bubble (arrOf s2) (lo+k) (lo+k-(lo+l))) i=if i=lo+l then kx (arrOf s2) (lo+k)else if lo+l<i/\i<=lo+k then kx (arrOf s2) (i-1)else kx (arrOf s2) i:=λi=>by
    unfold kx g;rw[getElem?_bubble zk _ hd,show lo+k-(lo+k-(lo+l))=lo+l by omega];split
    .rfl
    .split<;>rfl
   intro i j hi hij hj;show kx (bubble _ _ _) i<=kx (bubble _ _ _) j;rw[kb,kb];by_cases c1:i=lo+l
   .rw[if_pos c1];by_cases c2:j=lo+l
    .rw[if_pos c2];exact sO _
    .rw[if_neg c2,if_pos ⋯];have:=b5 (j-1-lo) ⋯ ⋯;rw[show lo+(j-1-lo)=j-1 by omega]at this;exact gJ this
   .rw[if_neg c1];by_cases c3:lo+l<i/\i<=lo+k
    .rw[if_pos c3,if_neg ⋯,if_pos ⋯];exact S' _ _ ⋯ ⋯ ⋯
    .rw[if_neg c3];by_cases c2:j=lo+l
     .rw[if_pos c2];have:=b4 (i-lo) ⋯;rw[show lo+(i-lo)=i by omega]at this;exact this
     .rw[if_neg c2];by_cases c4:lo+l<j/\j<=lo+k
      .rw[if_pos c4];exact S' _ _ ⋯ ⋯ ⋯
      .rw[if_neg c4];exact S' _ _ ⋯ ⋯ ⋯
 .rintro⟨r,⟨⟩⟩ st' ⟨rfl,C,S'⟩;rw[show max (max ok 1) n=n by omega]at S';exact⟨rfl,C,S'⟩
 .rintro⟨r,⟨⟩⟩ st' ⟨rfl,C,S'⟩;exact wpS_pure (h _ C S')
end
section
variable {prog:Program} {w:World} {A:Around} {E:Value->Shared->Prop} {s:Shared}
variable {xs ys:Array Keyed} {i j k u v:Nat} {l r:List (Nat×Nat×Nat)}
def cN(xs:Array Keyed):List (Nat×Nat×Nat)->Nat->Nat->Prop
 |[],u,v=>u=v
 |e::r,u,v=>e.1=u/\1<=e.2.1/\Seg xs u e.2.1/\cN xs r (u+e.2.1) v
theorem cN.app:∀{l:List (Nat×Nat×Nat)} {u:Nat},cN xs (l++r) u v↔∃m,cN xs l u m/\cN xs r m v
 |[],u=>⟨λh=>⟨u,rfl,h⟩,λ⟨m,h1,h2⟩=>by cases h1;exact h2⟩
 |e::l,u=>by
  show _/\_/\_/\cN xs (l++r) _ v↔_;rw[cN.app];constructor
  .rintro⟨a,b,c,m,d,e⟩;exact⟨m,⟨a,b,c,d⟩,e⟩
  .rintro⟨m,⟨a,b,c,d⟩,e⟩;exact⟨a,b,c,m,d,e⟩
theorem cN.le:∀{l:List (Nat×Nat×Nat)} {u:Nat},cN xs l u v->u+l.length<=v
 |[],u,h=>by cases h;simp
 |e::l,u,h=>by have:=h.2.2.2.le;have:=h.2.1;simp;omega
def Seg.congr{u n:Nat}(h:Seg xs u n)(hh:∀m,u<=m->m<u+n->ys[m]?=xs[m]?):Seg ys u n:=λi j hi hij hj=>by
 have:=h i j hi hij hj;unfold kx g at this ⊢;rwa [hh i hi ⋯,hh j ⋯ hj]
theorem cN.congr:∀{l:List (Nat×Nat×Nat)} {u:Nat},cN xs l u v->(∀m,u<=m->m<v->ys[m]?=xs[m]?)->cN ys l u v
 |[],u,h,_=>h
 |e::l,u,h,hh=>by
  have:=h.2.2.2.le;exact⟨h.1,h.2.1,h.2.2.1.congr λm h1 h2=>hh m h1 ⋯,h.2.2.2.congr λm h1 h2=>hh m ⋯ h2⟩
theorem cN.map:∀{l r:List (Nat×Nat×Nat)} {u:Nat},(r.map λe=>(e.1,e.2.1))=(l.map λe=>(e.1,e.2.1))->cN xs l u v->cN xs r u v
 |[],[],u,_,h=>h
 |[],_::_,u,e,h=>by simp at e
 |_::_,[],u,e,h=>by simp at e
 |a::l,b::r,u,e,h=>by
  simp only[iY,List.cons.injEq,Prod.mk.injEq]at e;obtain⟨⟨e1,e2⟩,e3⟩:=e;refine⟨e1.trans h.1,by rw[e2];exact h.2.1,by rw[e2];exact h.2.2.1,?_⟩;rw[e2];exact cN.map e3 h.2.2.2
structure Ok(xs:Array Keyed)(st:SortSt)(lo:Nat):Prop where
 kind:kindOf st=oneType'
 failed:failedOf st=none
 perm:(arrOf st).toList.Perm xs.toList
 ch:cN (arrOf st) (pendingOf st).toList 0 lo
 le:lo<=xs.size
def HM{st:SortSt}{t lo:Nat}{Q:Bool->SortSt->Prop}(hI:AI xs)(O:Ok xs st lo)(ht:t+1<(pendingOf st).size)
  (h:∀st',Ok xs st' lo->(pendingOf st').size+1=(pendingOf st).size->(∀m,lo<=m->(arrOf st')[m]?=(arrOf st)[m]?)->Q true st'):wpS (model prog w) A E s (mergeAt' t) Q st:=by
 obtain⟨l1,⟨sa,na,pw⟩,⟨sb,nb,pw'⟩,l2,hl,hlen⟩:∃l1 x y l2,(pendingOf st).toList=l1++x::y::l2/\l1.length=t:=
  ⟨(pendingOf st).toList.take t,(pendingOf st).toList[t]'(by simp;omega),(pendingOf st).toList[t+1]'(by simp;omega),(pendingOf st).toList.drop (t+2),by
   rw[<-MG,<-MG,Du],by simp;omega⟩
 have hc:=O.ch;rw[hl]at hc;obtain⟨m,c1,e1,c2,c3,e2,c4,c5,c6⟩:=cN.app.mp hc;dsimp only at e1 c2 c3 e2 c4 c5 c6;subst e1;have hle:=c6.le;have hsz:=rR O.perm;have hlo:=O.le;refine agj (p:=pendingOf st) (xs:=arrOf st) (sa:=sa) (na:=na) (pw:=pw) (sb:=sb) (nb:=nb) (pw':=pw') O.kind O.failed rfl rfl (hI.perm O.perm) ?_ ?_ e2 c2 c4 ⋯ c3 (by rw[e2];exact c5) λst' h1 h2 h3 h4 h5 h6=>?_
 .rw[<-Array.getElem?_toList,hl,<-hlen,List.getElem?_append_right (aO _)];simp
 .rw[<-Array.getElem?_toList,hl,<-hlen,List.getElem?_append_right ⋯];simp
 have hp:(pendingOf st').toList=l1++(sa,na+nb,pw)::l2:=by
  rw[h3,Array.toList_eraseIdxIfInBounds,Array.toList_setIfInBounds,hl,<-hlen];simp;rw[List.eraseIdx_append_of_length_le ⋯];simp
 refine h st' ⟨h1,h2,h4.trans O.perm,?_,hlo⟩ ?_ λm hm=>h5 m ⋯
 .rw[hp];have:=c1.le;exact cN.app.mpr ⟨sa,c1.congr λm _ hm=>h5 m ⋯,rfl,by dsimp only;omega,h6,(show cN _ l2 (sa+(na+nb)) lo by
   rw[<-yx];exact c6.congr λm hm _=>h5 m ⋯)⟩
 .rw[<-gh,<-gh,hp,hl];simp;omega
def cN.pwr{p:Array (Nat×Nat×Nat)}{f:Nat×Nat×Nat->Nat×Nat×Nat}(hf:∀e,((f e).1,(f e).2.1)=(e.1,e.2.1))(h:cN xs p.toList u v):cN xs (p.modify i f).toList u v:=by
 refine cN.map ?_ h;apply List.ext_getElem?;intro k;rw[List.getElem?_map,List.getElem?_map,Array.getElem?_toList,Array.getElem?_toList,Array.getElem?_modify];split
 .cases p[k]? with
  |none=>rfl
  |some e=>simp only[uT];exact congrArg some (hf e)
 .rfl
theorem Ok.push{st st':SortSt}{lo N:Nat}{q:Array (Nat×Nat×Nat)}(O:Ok xs st lo)(S:Seg (arrOf st) lo N)(h1:1<=N)(h2:lo+N<=xs.size)(hk:kindOf st'=kindOf st)(hf:failedOf st'=failedOf st)
  (ha:arrOf st'=arrOf st) (hp:pendingOf st'=q.push (lo,N,0)) (hq:cN (arrOf st) q.toList 0 lo):Ok xs st' (lo+N):=
 ⟨hk.trans O.kind,hf.trans O.failed,by rw[ha];exact O.perm,by rw[hp,ha,Array.toList_push];exact cN.app.mpr ⟨lo,hq,rfl,h1,S,rfl⟩,h2⟩
def abF{st:SortSt}{Q:Unit->SortSt->Prop}(hI:AI xs)(hN:Nd xs)(h2:2<=xs.size)(hk:kindOf st=oneType')(hf:failedOf st=none)(hp:pendingOf st=#[])(hx:arrOf st=xs)
  (h:∀st',(arrOf st').toList.Perm xs.toList->failedOf st'=none->Seg (arrOf st') 0 xs.size->Q () st'):wpS (model prog w) A E s sortRuns' Q st:=by
 refine wpS_bind (wpS_get ?_);have esz:(arrOf st).size=xs.size:=by rw[hx]
 refine wpS_bind (wpS_mono (wpS_forRange (Q:=λ(c:Option Unit×Nat) st'=>c.1=none/\Ok xs st' xs.size)
  (I:=λx (c:Option Unit×Nat) st'=>c.1=none/\x<=c.2/\Ok xs st' c.2) ?_ ?_ ⟨rfl,aO _,hk,hf,by rw[hx],by rw[hp];rfl,cZ _⟩) ?_)
 .rintro x ⟨r,lo⟩ st' _ hxs ⟨rfl,sJ,O⟩;dsimp only at sJ O;have hlo:=O.le;refine aU (λc=>wpS_pure ⟨rfl,?_⟩) (λc=>?_)
  .replace c:(arrOf st).size<=lo:=c;rw[show xs.size=lo by omega];exact O
  replace c:¬(arrOf st).size<=lo:=c;have es:=rR O.perm;refine wpS_bind (ab0 O.kind (hI.perm O.perm) (hN.perm O.perm) (show lo+((arrOf st).size-lo)<=_ by omega) (show 1<=(arrOf st).size-lo by omega) λn st2 C n1 n2 S=>?_);replace n2:n<=(arrOf st).size-lo:=n2;have O2:Ok xs st2 lo:=⟨C.kind.trans O.kind,C.failed.trans O.failed,C.perm.trans O.perm,by rw[C.pend];exact O.ch.congr λm _ hm=>C.out m (.inl hm),hlo⟩;apply aU
  case' ht=>
   intro c;replace c:n<minRun' (arrOf st).size (arrOf st).size 0:=c;have es2:=rR O2.perm;refine wpS_bind (wpS_lift (wpAny_rule ⟨rfl,?_⟩));obtain⟨N,eN⟩:∃N,N=min ((arrOf st).size-lo) (minRun' (arrOf st).size (arrOf st).size 0):=⟨_,rfl⟩;have f1:lo+min ((arrOf st).size-lo) (minRun' (arrOf st).size (arrOf st).size 0)<=(arrOf st2).size:=⋯;have f2:n<=min ((arrOf st).size-lo) (minRun' (arrOf st).size (arrOf st).size 0):=⋯;have N1:1<=N:=⋯;have N2:lo+N<=xs.size:=⋯;refine wpS_bind (aef O2.kind (hI.perm O2.perm) f1 n1 f2 S λst3 C3 S3=>?_);have O3:Ok xs st3 lo:=⟨C3.kind.trans O2.kind,C3.failed.trans O2.failed,C3.perm.trans O2.perm,by rw[C3.pend];exact O2.ch.congr λm _ hm=>C3.out m (.inl hm),hlo⟩;have S4:Seg (arrOf st3) lo N:=by rw[eN];exact S3
   refine aU (λz=>absurd z (by simp)) (λ_=>?_)
  case' he=>
   intro c;obtain⟨N,eN⟩:∃N,N=n:=⟨_,rfl⟩;have N1:1<=N:=⋯;have N2:lo+N<=xs.size:=⋯;have S4:Seg (arrOf st2) lo N:=by rw[eN];exact S
   have O3:=O2
  all_goals
   refine wpS_bind (wpS_get ?_);split
   .refine wpS_bind (wpS_mono (wpS_forRange (Q:=λ(c:Option Unit×Unit) fZ=>c.1=none/\Ok xs fZ lo/\Seg (arrOf fZ) lo N)
     (I:=λ_ (c:Option Unit×Unit) fZ=>c.1=none/\Ok xs fZ lo/\Seg (arrOf fZ) lo N) ?_ (λ_ _ z=>z) ⟨rfl,O3,S4⟩) ?_)
    .rintro x ⟨r,⟨⟩⟩ dG _ _ ⟨rfl,O5,S5⟩;refine wpS_bind (wpS_get ?_);dsimp only;by_cases hs:(pendingOf dG).size>1
     .rw[if_pos hs];obtain⟨⟨e1,e2,e3⟩,he⟩:∃e,(pendingOf dG)[(pendingOf dG).size-2]?=some e:=⟨_,Array.getElem?_eq_getElem ⋯⟩;rw[he];refine aU (λ_=>wpS_pure ⟨rfl,O5,S5⟩) (λ_=>?_);have hs':(pendingOf dG).size-2+1<(pendingOf dG).size:=⋯;refine wpS_bind (HM hI O5 hs' λvQ O6 _ o6=>?_);exact aU (λz=>absurd z (by simp)) (λ_=>wpS_pure ⟨rfl,O6,S5.congr λm h1 _=>o6 m h1⟩)
     .rw[if_neg hs];exact wpS_pure ⟨rfl,O5,S5⟩
    .rintro⟨r,⟨⟩⟩ fZ ⟨rfl,O4,S5⟩;refine wpS_bind (wpS_modify (wpS_bind (wpS_modify (wpS_pure ⟨rfl,?_,?_⟩))))
     .subst eN;exact IV sJ N1
     .subst eN;exact O4.push S5 N1 N2 rfl rfl rfl rfl (O4.ch.pwr λ_=>rfl)
   .refine wpS_bind (wpS_modify (wpS_pure ⟨rfl,?_,?_⟩))
    .subst eN;exact IV sJ N1
    .subst eN;exact O3.push S4 N1 N2 rfl rfl rfl rfl O3.ch
 .rintro⟨r,lo⟩ st' ⟨rfl,sJ,O⟩;dsimp only at sJ O;have hlo:=O.le;rw[show max 0 (arrOf st).size=xs.size by omega]at sJ;rw[show lo=xs.size by omega]at O;exact⟨rfl,O⟩
 .rintro⟨r,lo⟩ st' ⟨rfl,O⟩;have hc:=O.ch.le;refine wpS_bind (wpS_mono (wpS_forRange (Q:=λ(c:Option Unit×Unit) fZ=>c.1=none/\Ok xs fZ xs.size/\(pendingOf fZ).size<=1)
   (I:=λx (c:Option Unit×Unit) fZ=>c.1=none/\Ok xs fZ xs.size/\(pendingOf fZ).size<=xs.size+1-x) ?_ ?_ ⟨rfl,O,by simp at hc;omega⟩) ?_)
  .rintro x ⟨r,⟨⟩⟩ dG _ hx' ⟨rfl,O5,z5⟩;refine wpS_bind (wpS_get ?_);refine aU (λc=>wpS_pure ⟨rfl,O5,c⟩) (λc=>?_);replace c:¬(pendingOf dG).size<=1:=c;have go:∀t,t+1<(pendingOf dG).size->wpS (model prog w) A E s (mergeAt' t) (λa vQ=>a=true/\Ok xs vQ xs.size/\(pendingOf vQ).size<=xs.size+1-(x+1)) dG:=λt ht=>
    HM hI O5 ht λvQ O6 e6 _=>⟨rfl,O6,⋯⟩
   refine wpS_bind (wpS_mono (go _ ?_) λa vQ=>?_)
   .have key:∀(c:Prop) (_:Decidable c) (n:Nat),2<=n->(if c then n-2-1 else n-2)+1<n:=λc _ n hn=>by split<;>omega
    exact key _ _ _ (show 2<=(pendingOf dG).size by omega)
   .rintro⟨rfl,O6,z6⟩;exact aU (λz=>absurd z (by simp)) (λ_=>wpS_pure ⟨rfl,O6,z6⟩)
  .rintro⟨r,⟨⟩⟩ dG ⟨rfl,O5,z5⟩;exact⟨rfl,O5,by rw[show max 0 (arrOf st).size=xs.size by omega]at z5;omega⟩
  .rintro⟨r,⟨⟩⟩ dG ⟨rfl,O5,z5⟩;refine wpS_pure (h dG O5.perm O5.failed ?_);have hc:=O5.ch
   match hl:(pendingOf dG).toList with
   |[]=>rw[hl]at hc;have:0=xs.size:=hc;omega
   |[e]=>
    rw[hl]at hc;have e1:0+e.2.1=xs.size:=hc.2.2.2;rw[<-e1,eO];exact hc.2.2.1
   |e::e'::r=>have:=congrArg RX hl;simp at this;omega
end
section
variable {prog:Program} {w:World} {A:Around} {E:Value->Shared->Prop} {s:Shared}
def afw{vs:List Value}{ns:List Int}(hI:IntsAre vs ns):AI (pairsOf vs):=λi hi=>by
 have h:g (pairsOf vs) i∈(pairsOf vs).toList:=by rw[fY hi];exact sI _
 rw[pairsOf_toList]at h;exact hI.all _ (mem_zip_self h).2
def af3{vs:List Value}{ns:List Int}(hI:IntsAre vs ns):(pairsOf vs).toList.map nm=ns:=by
 rw[pairsOf_toList,<-hI.nums];show(vs.zip vs).map (numOf∘Prod.fst)=_;rw[<-gj (f:=Prod.fst) (g:=numOf),List.map_fst_zip (aO _)]
def JC{xs:Array Keyed}{i:Nat}:K xs i=kx xs i:=by
 unfold K kx g nm;cases xs[i]?<;>rfl
def aau{vs:List Value}{ns:List Int}(hI:IntsAre vs ns)(hd:ns.Nodup)(h2:2<=vs.length){Q:Unit×SortSt->Shared->Prop}
  (h:∀st',failedOf st'=none->(arrOf st').size=vs.length->(∃ns',IntsAre ((arrOf st').map (·.2)).toList ns'/\ns'.Perm ns/\ns'.Pairwise (·<=·))->Q ((),st') s):
  wpAny (model prog w) A (sortRuns'.run (SortSt.mk' oneType' (vs.toArray.zip vs.toArray) #[] 7 none)) Q E s:=by
 refine wpAny_mono (abF (xs:=pairsOf vs) (Q:=λ_ st'=>failedOf st'=none/\(arrOf st').toList.Perm (pairsOf vs).toList/\Seg (arrOf st') 0 (pairsOf vs).size) (afw hI) ?_ (by rw[pairsOf_size];exact h2) rfl rfl rfl rfl λst' p f S=>⟨f,p,S⟩) ?_ λ_ _ e=>e
 .unfold Nd;rw[af3 hI];exact hd
 .rintro⟨⟨⟩,st'⟩ s' ⟨rfl,f,p,S⟩;exact h st' f ((rR p).trans (pairsOf_size _)) (sorted_out hI (Cu.mpr p) λi j hij hj=>by rw[JC,JC];exact S i j (cZ _) hij ⋯)
def acs{a:Addr}{vs:List Value}{ns:List Int}{n:Nat}{P:PySem.Fin->Shared->Prop}(ho:s.heap.get? a=some (seqObj "list" vs.toArray n))(hI:IntsAre vs ns)(hd:ns.Nodup)(h2:2<=vs.length)(hz:vs.length<=5000)
  (h:∀(out:Array Value) (ns':List Int),IntsAre out.toList ns'->ns'.Perm ns->ns'.Pairwise (·<=·)->P (.done (.ret .none)) { s with heap:=sortedHeap s.heap a vs out }):
  wpAny (model prog w) A (Builtin.«list.sort» ⟨[.ref a],[]⟩) P E s:=by
 rw[list_sort_plain];refine wpAny_bind (listItems_at ho rfl ?_);refine wpAny_bind (listUpdate_at ho rfl ?_ (by rw[cI,sizeLine_eq];omega) (cZ _));obtain⟨e1,ho1⟩:∃e1,(s.heap.update a (jA λ_=>(#[]:Array Value))).get? a=some (seqObj "list" #[] e1):=⟨_,get?_update_seq ho λ_=>#[]⟩;refine wpAny_bind (seqEpoch_at ho1 rfl (wpAny_bind (wpAny_newTuple ?_ (by show vs.length<=_;rw[sizeLine_eq];omega))));refine wpAny_bind (wpAny_newList (wpAny_holding ?_) (cZ _));have ho6:(((s.heap.update a (jA λ_=>#[])).push (seqObj "tuple" vs.toArray 0)).push (seqObj "list" #[] 0)).get? a=some (seqObj "list" #[] e1):=Heap.get?_push_of_some _ (Heap.get?_push_of_some _ ho1);show wpAny (model prog w) A _ P E { s with heap:=((s.heap.update a (jA λ_=>(#[]:Array Value))).push (seqObj "tuple" vs.toArray 0)).push (seqObj "list" #[] 0) };dsimp only;have h2':¬vs.toArray.size<2:=by rw[cI];omega
 rw[if_neg h2',if_neg h2'];obtain⟨v₁,v₂,rest,rfl⟩:∃v₁ v₂ rest,vs=v₁::v₂::rest:=by
  match vs,h2 with
  |v₁::v₂::rest,_=>exact⟨v₁,v₂,rest,rfl⟩
 rw[keyKind_ints hI];refine wpAny_bind (wpAny_pure (wpAny_bind (aau hI hd h2 λst' f z R=>?_)));obtain⟨ns',r1,r2,r3⟩:=R;dsimp only;refine wpAny_bind (seqEpoch_at ho6 rfl (wpAny_bind (listUpdate_at ho6 rfl ?_ (cZ _) (by rw[Array.size_map,z,sizeLine_eq];omega))));rw[f];simp only[bne_self_eq_false,pC,if_false];exact wpAny_pure (h _ ns' r1 r2 r3)
def acu{l:Addr}{vs:List Value}{ns:List Int}{Q:Value->Shared->Prop}(hl:s.heap.IsList l vs.toArray)(hI:IntsAre vs ns)(hd:ns.Nodup)(hz:vs.length<=5000)
  (h:∀(out:Array Value) (ns':List Int),IntsAre out.toList ns'->ns'.Perm ns->ns'.Pairwise (·<=·)->Q (.ref (s.heap.objs.size+1)) { s with heap:=sortedAll s.heap vs out }):
  wpAny (model prog w) A (call (.builtin "sorted") [.ref l]) Q E s:=by
 by_cases h64:vs.length<64
 .exact sorted_ints hl hI h64 h
 refine Calls.call_function_entry kind_sorted plain_sorted entry_sorted (args_sorted1 _) ?_;unfold Builtin.«sorted»;refine wpAny_bind (m:=checkCount "sorted" 1 1 _) (wpAny_pure (wpAny_bind (collect_list hl ?_ (by rw[sizeLine_eq];omega))));refine wpAny_bind (wpAny_newList ?_ (by rw[sizeLine_eq];omega));have hsz:((s.heap.push (seqObj "list" #[] 0)).update s.heap.objs.size (jA (·++vs.toArray))).objs.size=s.heap.objs.size+1:=by rw[Heap.size_update,size_push']
 have hoL:(((s.heap.push (seqObj "list" #[] 0)).update s.heap.objs.size (jA (·++vs.toArray))).push (seqObj "list" vs.toArray 0)).get? (s.heap.objs.size+1)=some (seqObj "list" vs.toArray 0):=by rw[<-hsz];exact Heap.get?_push_size _ rfl
 show wpAny _ _ _ _ _ { s with heap:=((s.heap.push (seqObj "list" #[] 0)).update s.heap.objs.size (jA (·++vs.toArray))).push (seqObj "list" vs.toArray 0) };rw[hsz];exact wpAny_bind (wpAny_holding (wpAny_call_entry slot_list_sort ⟨_,hoL,rfl⟩ entry_list_sort (acs hoL hI hd ⋯ hz λout ns' a1 a2 a3=>⟨_,rfl,wpAny_pure ⟨_,rfl,h out ns' a1 a2 a3⟩⟩) (args_list_sort _)))
end
end Tm
namespace L2
open PySem PySem.Spec PyProof.Rows
section
variable {X:Cx}
theorem G4:∀{ns:List Int} {us:List Value},Vals (ns.map V.int) us->IntsAre us ns
 |[],_,.nil=> .nil
 |n::ns,_,.cons ⟨t,e⟩ r=>by rw[e];exact .cons n t (G4 r)
theorem Oh:∀{vs:List Value} {ns:List Int},IntsAre vs ns->Vals (ns.map V.int) vs
 |_,_,.nil=> .nil
 |_,_,.cons n t h=> .cons ⟨t,rfl⟩ (Oh h)
def aga:gG X (.builtin "sorted") (λvs H Q=>∃(l:Addr) (ns:List Int),vs=[.ref l]/\H l=some (.lst (ns.map V.int))/\ns.Nodup/\ns.length<=5000/\
  ∀(l':Addr) (ns':List Int),ns'.Perm ns->ns'.Pairwise (·<=·)->H l'=none->Q (.ref l') (upd H l' (.lst (ns'.map V.int)))):=by
 intro pins s σ H vs us Q I r h;obtain⟨l,ns,rfl,hl,hd,hz,q⟩:=h;obtain⟨u,rfl,ru⟩:=r.one;cases ru;obtain⟨z,its,nn,rv,hlen,eo⟩:=I.vI hl;have hil:s.heap.IsList l its.toArray:=⟨_,eo,rfl,_,rfl⟩;have hli:=rv.length;rw[aM]at hli;refine Tm.acu hil (G4 rv) hd ⋯ λout ns' a1 a2 a3=>?_;obtain⟨e,he⟩:=sortedAll_at s.heap its out;have hz':(ns'.map V.int).length<=sizeLine:=by rw[aM,a2.length_eq,sizeLine_eq];omega
 exact⟨.ref _,_,I.laid (t':=s.toks) (λb o e=>sortedAll_old e) (BL _) (show cY X.prog X.w _ _ _ (.lst (ns'.map V.int))from⟨hz',out.toList,e,Oh a1,by simpa using he⟩),rfl,q _ ns' a2 a3 (I.hok.fresh (BL _))⟩
def aes:bootBuiltins "sorted" = some (.builtin "sorted"):=by decide +kernel
end
def bI.hu{k:Nat}{A:Around}(r:bI k A):A.units+1<cLine:=by have:=r.un;omega
def aag{prog:Program}{w:World}{d:Addr}(hd:(d==sysModules)=false):
  MeetsIn prog w (Builtin.«dict.__len__» ⟨[.ref d],[]⟩) (λ_ R s=>∃n o es ep,s.heap.get? d=some o/\o.data = .dict es ep/\es.size=n/\R (.ok (.ret (.int n s.toks))) { s with toks:=s.toks+1 }):=
 .of_wp λA R s ⟨n,o,es,ep,ho,hdat,hn,h⟩=>by
  show wpAny _ _ (dictSize d>>=_) _ _ s;unfold dictSize;refine wpAny_bind (wpAny_bind (wpAny_dictEntries ho hdat (wpAny_pure ?_)));show wpAny _ _ (Builtin.Dict.pendingCount d>>=_) _ _ s;refine wpAny_bind (wpAny_pendingCount_other hd ?_);refine wpAny_ret_mkInt ?_;rw[yF,hn];exact h
def aaQ{prog:Program}{w:World}{A:Around}{E:Value->Shared->Prop}{s:Shared}{d:Addr}{n:Nat}{o:Obj}{es:Array DictEntry}{ep:Nat}{Q:Value->Shared->Prop}(hd:(d==sysModules)=false)(hty:s.TypeIs (.ref d) "dict")
  (ho:s.heap.get? d=some o) (hdat:o.data = .dict es ep) (hn:es.size=n) (hfit:(n:Int)<2^63)
  (h:Q (.int n (s.toks+1)) { s with toks:=s.toks+1+1 }):wpAny (model prog w) A (Builtin.«len» ⟨[.ref d],[]⟩) (λfin s'=>∃r,fin = .done (.ret r)/\Q r s') E s:=by
 unfold Builtin.«len»;refine wpAny_bind (m:=oneArg "len" _) (wpAny_pure ?_);refine wpAny_bind (m:=callSpecial? (.ref d) (Str.ofString "__len__")) (wpAny_callSpecial?_slot (name:=Str.ofString "__len__") hty Qw
  (call_meetsIn Qw hty PySem.F.entry_dict_len (PySem.F.args_dict_len_1 _) (aag hd) ⟨n,o,es,ep,ho,hdat,hn,?_⟩))
 show wpAny _ _ _ _ _ { s with toks:=s.toks+1 };refine wpAny_bind (wpAny_holding (wpAny_pure ?_));refine wpAny_bind (wpAny_letGo ?_);show wpAny _ _ (if((n:Nat):Int)<0 then _ else _) _ _ _;rw[if_neg ⋯];show wpAny _ _ (if((n:Nat):Int)≥2^63 then _ else _) _ _ _;rw[if_neg ⋯];exact wpAny_bind (wpAny_mkInt (wpAny_pure ⟨_,rfl,h⟩))
def Kd{X:Cx}:gG X (.builtin "len") (λxs H Q=>∃a kvs,xs=[V.ref a]/\H a=some (.dT kvs)/\Q (.int kvs.length) H):=by
 intro pins s σ H xs us Q I r h;obtain⟨a,kvs,rfl,ha,q⟩:=h;obtain⟨u,rfl,ru⟩:=vals1 r;cases ru;obtain⟨z,hd,xs,rel,dd⟩:=Ql I.hok ha;have ty:=dd.typeIs;obtain⟨o,es,ep,ho,hc,hdat,he,_⟩:=id dd;have e1:es.size=kvs.length:=by
  rw[size_of_entries he];exact rel.length.symm
 refine PySem.Calls.call_function_entry PySem.kind_len PySem.plain_len PySem.entry_len (PySem.args_len1 _) (aaQ hd ty ho hdat e1 (by rw[sizeLine_eq]at z;omega) ?_);exact⟨.int kvs.length,H,I.tok _,⟨_,rfl⟩,q⟩
end L2
namespace PyProof.Rows
open PySem
section
variable {prog:Program} {w:World} {A:Around} {E:Value->Shared->Prop} {s:Shared}
end
end PyProof.Rows
namespace L2
open PySem PySem.Spec PyProof.Rows
section
variable {X:Cx} {pos:Pos}
end
def rY(lo:Int)(n:Nat):It:=⟨λi _=>i<n,λi H x H'=>H'=H/\x = .int (lo-i),λi _=>n<=i⟩
def ZF{P:Program}{w:World}{K:aA}{tg:Expr}(it:Addr)(lo:Int)(n:Nat):Turn P w K tg (rY lo n) [it] it (λi h=>IsRangeIter h it (lo+(i:Nat)*(-1)) ((n:Int)-(i:Nat)) (-1)) where
 mem:=by simp
 obj:=λi h st b hb=>by
  have e:b=it:=by simpa using hb
  subst e;exact⟨_,st,λv z=>by
   have z':Data.fields _=Data.cell v:=z;cases z'⟩
 keep:=λi h h' st k=>k it (by simp) _ st
 item:=by
  intro X hP hw hK hc i pins s σ H E I hf st hg;subst hP hw hK;obtain⟨f0,f1,f2,f3,f4,f5⟩:=hf it (by simp);have W:=Walks.range (prog:=X.prog) (w:=X.w) (I.ok.hd hc) it lo (-1) n;refine W.item i s _ _ hg st λv h' tk hv st' kk=>?_;obtain⟨t,rfl⟩:=hv;have I1:Inv X pins σ H { s with heap:=h',toks:=tk }:=I.turned (λb o hb e=>kk b o (by simpa using hb) e) f0 f1 f3 f4 f5;refine⟨_,rfl,zN (s:={ s with heap:=h',toks:=tk }) (n:= "range_iterator") st' rfl rfl ∅ ⟨.int (lo-i),H,I1,⟨t,?_⟩,⟨rfl,rfl⟩,st',λb hb=>(hf b hb).1⟩⟩;rw[Int.mul_neg_one];rfl
 done:=by
  intro X hP hw hK hc i pins s σ H E I hf st hg;subst hP hw hK;obtain⟨f0,f1,f2,f3,f4,f5⟩:=hf it (by simp);exact wpAny_pyNext_range_end (I.ok.hd hc) st (by have:n<=i:=hg;omega) λh' eb=>⟨rfl,I.turned (t':=s.toks) (λb o hb e=>eb b o hb e) f0 f1 f3 f4 f5⟩
 self:=λ_ _ _ _ _ st h=>wpAny_pyIter_rangeiter st h
def rangeSize_down(a b:Int):Builtin.Range.rangeSize a b (-1)=if b<a then a-b else 0:=by
 unfold Builtin.Range.rangeSize;simp only[show ¬(-1:Int)>0 by decide,if_false,Int.neg_neg,Jv];split<;>omega
def small_down{a b:Int}(ha:-(2^62)<=a)(ha':a<2^62)(hb:-(2^62)<=b)(hb':b<2^62):Builtin.Range.small a b (-1)=true:=by
 unfold Builtin.Range.small;rw[rangeSize_down];simp only[Builtin.Range.rangeFitsLong,pJ,yW,decide_eq_true_eq,beq_iff_eq,show ¬(-1:Int)>0 by decide,if_false];split<;>omega
section
variable {X:Cx} {tg:Expr}
def Yu{pins:List (Addr×Obj)}{σ:St}{H:Hp}{s:Shared}{R:It->Hp->Prop}{E:Value->Shared->Prop}{lo hi:Int}{t u v:Tok}{tk:Nat}(I:Inv X pins σ H s)(h1:-(2^62)<=lo)(h2:lo<2^62)(h3:-(2^62)<=hi)(h4:hi<2^62)
  (q:R (rY lo (lo-hi).toNat) H):wpAny (model X.prog X.w) X.A (pyIter (.ref s.heap.objs.size)) (CP X pins σ tg R) E { s with heap:=s.heap.push { cls:= .type "range",data:= .fields #[.int lo t,.int hi u,.int (-1) v] },toks:=tk }:=by
 refine wpAny_pyIter_range (IsRange.new ..) (small_down h1 h2 h3 h4) ?_;have I1:Inv X pins σ H { s with heap:=s.heap.push { cls:= .type "range",data:= .fields #[.int lo t,.int hi u,.int (-1) v] },toks:=tk }:=I.kept λb o e=>Heap.get?_push_of_some _ e;refine⟨(s.heap.push { cls:= .type "range",data:= .fields #[.int lo t,.int hi u,.int (-1) v] }).objs.size,[(s.heap.push { cls:= .type "range",data:= .fields #[.int lo t,.int hi u,.int (-1) v] }).objs.size],_,_,H,rfl,
  I1.kept (t':=tk) λb o e=>Heap.get?_push_of_some _ e,ZF _ lo (lo-hi).toNat,?_,λb hb=>?_,q⟩
 .have e1:lo+((0:Nat):Int)*(-1)=lo:=by simp
  have e2:(((lo-hi).toNat:Nat):Int)-((0:Nat):Int)=Builtin.Range.rangeSize lo hi (-1):=by rw[rangeSize_down];split<;>omega
  show IsRangeIter _ _ (lo+((0:Nat):Int)*(-1)) ((((lo-hi).toNat:Nat):Int)-((0:Nat):Int)) (-1);rw[e1,e2];exact Heap.get?_push_size _ rfl
 .have e:b=(s.heap.push { cls:= .type "range",data:= .fields #[.int lo t,.int hi u,.int (-1) v] }).objs.size:=by simpa using hb
  subst e;exact I1.vf (aO _) (I1.hok.fresh (aO _))
def afc(ta:TA):TI:=λσ H R=>ta σ H λvs H1=>∃i j:Int,vs=[.int i,.int j,.int (-1)]/\(-(2^62)<=i/\i<2^62/\-(2^62)<=j/\j<2^62)/\R (rY i (i-j).toNat) H1
def Ov{a b c:Expr}{ta:TA}{p pos:Pos}(hg:Gl X "range")(hm:X.mg "range" = none)(ha:PA X [a,b,c] ta)(hs:starEach [a,b,c] X.env=(false,eval a X.env)::starEach [b,c] X.env:=by rfl)(hs2:(backTo pos (starEach [b,c] X.env)).any (·.1)=false:=by rfl):
  PI X tg (.Call (.Name "range" p) [a,b,c] [] pos) (afc ta):=by
 intro pins s σ H R I h;refine Call_ (pW I hg hm boot_range (sH (aF (ha pos pins s σ H _ I h) λus s1 ⟨vs,H1,I1,r1,q1⟩=>?_) hs hs2));obtain⟨i,j,e,⟨q1,q2,q3,q4⟩,q⟩:=q1;subst e;cases r1 with
 |cons r rr=>
  cases rr with
  |cons r' rr=>
   cases rr with
   |cons r'' rr=>
    cases rr;obtain⟨t,rfl⟩:=r;obtain⟨t',rfl⟩:=r';obtain⟨t'',rfl⟩:=r'';exact call_range_3 ∅ (Yu (tk:=s1.toks) I1 q1 q2 q3 q4 q) (.inl (Mz ⋯))
end
def GC{lo:Int}{n:Nat}{g:TG}{tb:TS}{D:Ends}{σ:St}{H:Hp}(Pv:Nat->St->Hp->Prop)(h0:Pv 0 σ H)
  (hs:∀i σ H,i<n->Pv i σ H->g (.int (lo-i)) σ H λσ2 H2=>tb { D with nx:=Pv (i+1),ct:=Pv (i+1),bk:=D.nx } σ2 H2) (hd:∀σ H,Pv n σ H->D.nx σ H):
  ∃W:Nat->Nat->St->Hp->Prop,(∃m,W 0 m σ H)/\∀i m σ H,W i m σ H->
   ((rY lo n).stop i H/\D.nx σ H)∨((rY lo n).go i H/\∃N:St->Hp->Prop,(∀σ' H',N σ' H'->∃m',m'<m/\W (i+1) m' σ' H')/\∀x H',(rY lo n).nD i H x H'->g x σ H' λσ2 H2=>tb { D with nx:=N,ct:=N,bk:=D.nx } σ2 H2):=by
 refine⟨λi m σ H=>m=n-i/\i<=n/\Pv i σ H,⟨n,by simp,cZ _,h0⟩,?_⟩;rintro i m σ H ⟨rfl,hi,p⟩;by_cases hlt:i<n
 .refine .inr ⟨hlt,Pv (i+1),λσ' H' p'=>⟨n-(i+1),⋯,rfl,hlt,p'⟩,λx H' y=>?_⟩;obtain⟨e,y⟩:=y;subst e y;exact hs i σ _ hlt p
 .have e:i=n:=⋯;subst e;exact .inl ⟨aO _,hd σ H p⟩
section
variable {X:Cx}
end
theorem Rx:∀(ys:List Value) (k:Nat),(∀(i:Nat) (v:Value),ys[i]?=some v->∃t,v=Value.int ((k+i:Nat):Int) t)->Vals ((bQ ys.length).map λi=>V.int ((k+i:Nat):Int)) ys
 |[],_,_=> .nil
 |y::r,k,h=>by
  rw[tu,JR,iY,gj];obtain⟨t,e⟩:=h 0 y rfl;have q:=Rx r (k+1) λi v hv=>by
   obtain⟨t,e⟩:=h (i+1) v (by simpa using hv);exact⟨t,by rw[e,show k+1+i=k+(i+1)by omega]⟩
  refine .cons ⟨t,by rw[e]⟩ ?_;have e2:((λi=>V.int ((k+i:Nat):Int))∘Nat.succ)=λi=>V.int ((k+1+i:Nat):Int):=by
   funext i
   show V.int ((k+(i+1):Nat):Int)=_;rw[show k+(i+1)=k+1+i by omega]
  rw[e2];exact q
section
variable {X:Cx}
def afn(ta:TA):TE:=λσ H Q=>ta σ H λvs H1=>∃n:Nat,vs=[.int n]/\n<=5000/\∀l,H1 l=none->Q (.ref l) (upd H1 l (.lst ((bQ n).map λi=>V.int (i:Nat))))
def aap{a:Expr}{ta:TA}{p p2 pos pos2:Pos}(hc:X.calm=true)(hg:Gl X "list")(hm:X.mg "list" = none)(hg2:Gl X "range")(hm2:X.mg "range" = none)(ha:PA X [a] ta)
  (hs2:starEach [a] X.env=[(false,eval a X.env)]:=by rfl)
  (hs:starEach [.Call (.Name "range" p2) [a] [] pos2] X.env=[(false,eval (.Call (.Name "range" p2) [a] [] pos2) X.env)]:=by rfl):
  PE X (.Call (.Name "list" p) [.Call (.Name "range" p2) [a] [] pos2] [] pos) (afn ta):=by
 intro pins s σ H Q I h;refine wpAny_Call_Name_kw (pW I hg hm boot_list ?_ ∅ ∅);refine sH ?_ hs rfl;rw[hs];show wpAny _ _ (spliced ((false,eval (.Call (.Name "range" p2) [a] [] pos2) X.env)::backTo pos [])) _ _ s;refine N7 ?_;refine Call_ (pW I hg2 hm2 boot_range (sH (aF (ha pos2 pins s σ H _ I h) λus s1 ⟨vs,H1,I1,r1,q1⟩=>?_) hs2 rfl));obtain⟨n,e,hn,q⟩:=q1;subst e;cases r1 with
 |cons r rr=>
  cases rr;obtain⟨t,rfl⟩:=r;refine call_range_1 ?_;refine MQ ?_;have I2:Inv X pins σ H1 { s1 with heap:=s1.heap.push { cls:= .type "range",data:= .fields #[.int 0 s1.toks,.int (n:Int) t,.int 1 (s1.toks+1)] },toks:=s1.toks+1+1 }:=I1.kept λb o e=>Heap.get?_push_of_some _ e;have jl:n<=2^24:=cJ hn ∅;have sz:Builtin.Range.rangeSize 0 (n:Int) 1=(n:Int):=by rw[rangeSize_one];split<;>omega
  have V1:Builtin.Range.small 0 (n:Int) 1=true:=small_one ∅ ∅ ⋯ ⋯;refine call_list_range (n:=n) (I1.ok.hd hc) (IsRange.new ..) V1 sz jl λh' tk acc' c' hk hS hacc=>?_;have hv:=Rx acc'.toList 0 λi v hv=>by
   obtain⟨t,e⟩:=hacc.2 i v (by simpa using hv);exact⟨t,by rw[e];simp⟩
  have hl:acc'.toList.length=n:=by simpa using hacc.1
  rw[hl]at hv;have ev:((bQ n).map λi=>V.int ((0+i:Nat):Int))=(bQ n).map λi=>V.int (i:Nat):=pN λi _=>by rw[eO]
  rw[ev]at hv;refine⟨.ref _,_,I2.laid (t':=tk) (o:= .lst ((bQ n).map λi=>V.int (i:Nat))) hk (aO _) ?_,rfl,q _ (I2.hok.fresh (aO _))⟩;exact⟨by rw[aM,kI];exact cJ hn ∅,acc'.toList,c',hv,by simpa using hS⟩
end
end L2
namespace Rm
def tk(b n:Int):Int:=if b=0 then n else n%b
def u0(n:Int):tk 0 n=n:=if_pos rfl
def iV{b:Int}(h:b≠0)(n:Int):tk b n=n%b:=if_neg h
def ig(b n:Int):tk b (tk b n)=tk b n:=by
 unfold tk;split
 .rfl
 .exact mY _ (m6 b)
def d9(b x y:Int):tk b (tk b x+y)=tk b (x+y):=by
 unfold tk;split
 .rfl
 .exact Int.emod_add_emod ..
def jQ(b x y:Int):tk b (x+tk b y)=tk b (x+y):=by
 rw[j6,d9,j6]
def dU(b x y:Int):tk b (x*tk b y)=tk b (x*y):=by
 unfold tk;split
 .rfl
 .rw[pU,mY _ (m6 b),<-pU]
def lu(b x y:Int):tk b (tk b x*y)=tk b (x*y):=by
 rw[fj,dU,fj]
def fX{b x x' y y':Int}(h:tk b x=tk b x')(h':tk b y=tk b y'):tk b (x+y)=tk b (x'+y'):=by
 rw[<-d9,<-jQ,h,h',jQ,d9]
def S(rule:List Int)(f:Nat->Int)(n:Nat):Nat->Int
 |0=>0
 |m+1=>S rule f n m+rule.getD m 0*f (n-1-m)
theorem yZ{rule:List Int}{f g:Nat->Int}{n:Nat}:∀{m:Nat},(∀k,k<m->f (n-1-k)=g (n-1-k))->S rule f n m=S rule g n m
 |0,_=>rfl
 |m+1,h=>by
  unfold S;rw[yZ λk hk=>h k ⋯,h m ⋯]
theorem xW{rule:List Int}{f:Nat->Int}{n d:Nat}:∀{m:Nat},m<=n->S rule (λi=>f (d+i)) n m=S rule f (d+n) m
 |0,_=>rfl
 |m+1,h=>by
  unfold S;rw[xW ⋯,show d+n-1-m=d+(n-1-m)by omega]
theorem Od(b:Int){rule:List Int}{f g:Nat->Int}{c:Int}{n:Nat}:∀m:Nat,tk b (S rule (λi=>tk b (f i+c*g i)) n m)=tk b (S rule f n m+c*S rule g n m)
 |0=>by simp[S]
 |m+1=>by
  unfold S;have h1:=Od b (rule:=rule) (f:=f) (g:=g) (c:=c) (n:=n) m;have h2:tk b (rule.getD m 0*tk b (f (n-1-m)+c*g (n-1-m)))=tk b (rule.getD m 0*(f (n-1-m)+c*g (n-1-m))):=dU ..;rw[fX h1 h2];congr 1;rw[vB,vB,Al (rule.getD m 0) c];omega
theorem getD_map{f:Int->Int}(h0:f 0=0):∀(l:List Int) (k:Nat),(l.map f).getD k 0=f (l.getD k 0)
 |[],k=>by simp[h0]
 |x::r,0=>by simp
 |x::r,k+1=>by
  have:=getD_map h0 r k;simpa using this
def row(b:Int)(rule starts:List Int):Nat->List Int
 |0=>[]
 |n+1=>row b rule starts n++[if n<starts.length then starts.getD n 0 else tk b (S rule (λi=>(row b rule starts n).getD i 0) n rule.length)]
theorem jD(b:Int)(rule starts:List Int):∀n,(row b rule starts n).length=n
 |0=>rfl
 |n+1=>by simp[row,jD b rule starts n]
def at_(b:Int)(rule starts:List Int)(n:Nat):Int:=(row b rule starts (n+1)).getD n 0
theorem El(b:Int)(rule starts:List Int):∀{n i:Nat},i<n->(row b rule starts n).getD i 0=at_ b rule starts i
 |n+1,i,h=>by
  by_cases e:i=n
  .subst e;rfl
  .have hi:i<n:=⋯;have hl:=jD b rule starts n;have:=El b rule starts (n:=n) (i:=i) hi;rw[<-this];show(row b rule starts n++_).getD i 0=_;rw[List.getD_eq_getElem?_getD,List.getElem?_append_left ⋯,<-List.getD_eq_getElem?_getD]
def Aq(b:Int)(rule starts:List Int)(n:Nat):at_ b rule starts n=if n<starts.length then starts.getD n 0 else tk b (S rule (λi=>(row b rule starts n).getD i 0) n rule.length):=by
 unfold at_;have hl:=jD b rule starts n;show(row b rule starts n++_).getD n 0=_;rw[List.getD_eq_getElem?_getD,List.getElem?_append_right ⋯,hl];simp
def nO{b:Int}{rule starts:List Int}{n:Nat}(h:n<starts.length):at_ b rule starts n=starts.getD n 0:=by
 rw[Aq,if_pos h]
def mL{b:Int}{rule starts:List Int}{n:Nat}(hl:rule.length=starts.length)(h:starts.length<=n):at_ b rule starts n=tk b (S rule (at_ b rule starts) n rule.length):=by
 rw[Aq,if_neg ⋯];congr 1;refine yZ λk hk=>El b rule starts ⋯
theorem wC(b:Int)(rule starts:List Int):∀n,row b rule starts n=(bQ n).map (at_ b rule starts)
 |0=>rfl
 |n+1=>by
  rw[zW,iJ,<-wC b rule starts n];show _++[_]=_++[at_ b rule starts n];rw[Aq]
def aaR(b:Int)(rule starts:List Int)(n:Nat):row b rule starts (n+1)=row b rule starts n++[at_ b rule starts n]:=by
 rw[Aq];rfl
def yd{b:Int}{rule starts:List Int}(hl:rule.length=starts.length){g:Nat->Int}(h1:∀i,i<starts.length->g i=starts.getD i 0)
  (h2:∀i,starts.length<=i->g i=tk b (S rule g i rule.length)):∀n,at_ b rule starts n=g n:=by
 intro n;induction n using xU with
 |ind n ih=>
  by_cases h:n<starts.length
  .rw[nO h,h1 n h]
  .rw[mL hl ⋯,h2 n ⋯];congr 1;exact yZ λk hk=>ih _ ⋯
theorem uX{b:Int}{rule starts:List Int}:∀{n:Nat},n<=starts.length->row b rule starts n=starts.take n
 |0,_=>by simp[row]
 |n+1,h=>by
  rw[aaR,uX ⋯,nO ⋯,Fv,List.getD_eq_getElem?_getD,List.getElem?_eq_getElem ⋯];rfl
def Vf{b:Int}{rule starts w:List Int}{d:Nat}(hl:rule.length=starts.length)(hw:w.length=starts.length)(h:∀i,i<w.length->w.getD i 0=at_ b rule starts (d+i))(n:Nat):
  at_ b rule w n=at_ b rule starts (d+n):=by
 refine yd ⋯ (g:=λi=>at_ b rule starts (d+i)) (λi hi=>(h i hi).symm) (λi hi=>?_) n;rw[xW ⋯,mL hl ⋯]
def Rp{b c:Int}{rule s1 s2 s3:List Int}(h1:rule.length=s1.length)(h2:rule.length=s2.length)(h3:rule.length=s3.length)
  (h:∀i,i<s3.length->s3.getD i 0=tk b (s1.getD i 0+c*s2.getD i 0)) (n:Nat):at_ b rule s3 n=tk b (at_ b rule s1 n+c*at_ b rule s2 n):=by
 refine yd h3 (g:=λi=>tk b (at_ b rule s1 i+c*at_ b rule s2 i)) (λi hi=>?_) (λi hi=>?_) n
 .rw[nO ⋯,nO ⋯,h i hi]
 .rw[Od,mL h1 ⋯,mL h2 ⋯,d9,<-jQ,dU,jQ]
def Bd(n:Nat)(x:Int):Prop:=x.natAbs<2^n
def Bd.mono{m n:Nat}{x:Int}(h:Bd m x)(hmn:m<=n):Bd n x:=dI h (Nat.pow_le_pow_right ∅ hmn)
def Bd.zero(n:Nat):Bd n 0:=Nat.pow_pos ∅
def Bd.of{n:Nat}{x:Int}(h1:-(2^n)<x)(h2:x<2^n):Bd n x:=by
 unfold Bd;have e:((2^n:Nat):Int)=(2:Int)^n:=by simp
 omega
def Bd.emod{n:Nat}{x b:Int}(hb:0<b)(h:Bd n b):Bd n (x%b):=by
 unfold Bd at *;have:=rN x (show b≠0 by omega);have:=tH x hb;omega
def X7(l:List Int)(k:Nat):l.getD k 0=0∨l.getD k 0∈l:=by
 by_cases h:k<l.length
 .right;rw[List.getD_eq_getElem?_getD,List.getElem?_eq_getElem h];exact sI h
 .left;rw[List.getD_eq_getElem?_getD,List.getElem?_eq_none ⋯];rfl
theorem Bd.getD{l:List Int}{n:Nat}(h:∀x∈l,Bd n x)(k:Nat):Bd n (l.getD k 0):=by
 rcases X7 l k with e|e
 .rw[e];exact .zero n
 .exact h _ e
def ZY{b x:Int}{n:Nat}(hb:0<=b)(hb':Bd n b)(h:Bd n x):Bd n (tk b x):=by
 unfold tk;split
 .exact h
 .exact Bd.emod ⋯ hb'
def zu{b:Int}{rule starts:List Int}(hl:rule.length=starts.length)(hb:0<b)(hs:∀x∈starts,0<=x/\x<b)(n:Nat):0<=at_ b rule starts n/\at_ b rule starts n<b:=by
 by_cases h:n<starts.length
 .rw[nO h,List.getD_eq_getElem?_getD,List.getElem?_eq_getElem h];exact hs _ (sI h)
 .rw[mL hl ⋯,iV ⋯];exact⟨rN _ ⋯,tH _ hb⟩
end Rm
namespace Om
def uo:List Nat:=[2,3,5,7,11,13,17,19,23,29,31,37,41,43,47,53,59,61,67,71,73,79,83,89,97,101,103,107,109,113,127,131,137,139,149,151,157,163,167,173,179,181,191,193,197,199,211,223,227,229,233,239,241,251,257,263,269,271,277,281,283,293,307,311,313,317,331,337,347,349,353,359,367,373,379,383,389,397,401,409,419,421,431,433,439,443,449,457,461,463,467,479,487,491,499,503,509,521,523,541,547,557,563,569,571,577,587,593,599,601,607,613,617,619,631,641,643,647,653,659,661,673,677,683,691,701,709,719,727,733,739,743,751,757,761,769,773,787,797,809,811,821,823,827,829,839,853,857,859,863,877,881,883,887,907,911,919,929,937,941,947,953,967,971,977,983,991,997]
def mod_mul{x y x' y' p:Int}(h:x%p=x'%p)(h':y%p=y'%p):(x*y)%p=(x'*y')%p:=by
 rw[pU,h,h',<-pU]
theorem Cd{x x' p:Int}(h:x%p=x'%p):∀n:Nat,(x^n)%p=(x'^n)%p
 |0=>by simp
 |n+1=>by rw[qd,qd];exact mod_mul (Cd h n) h
def Keeps(p a:Int)(e:Nat)(power square:Int)(left:Nat):Prop:=(power*square^left)%p=(a^e)%p
def afL(p a:Int)(e:Nat):Keeps p a e 1 a e:=by unfold Keeps;rw[mD]
theorem CN(x:Int):∀n:Nat,(x*x)^n=x^(2*n)
 |0=>by simp
 |n+1=>by
  rw[qd,CN x n,show 2*(n+1)=2*n+1+1 by omega,qd,qd,qH]
def acY{p a:Int}{e:Nat}{power square:Int}{left:Nat}(h:Keeps p a e power square left)(ho:left%2=1):Keeps p a e (power*square%p) (square*square%p) (left/2):=by
 unfold Keeps at *;have h1:(power*square%p)%p=(power*square)%p:=mY _ (m6 p);have h2:=Cd (p:=p) (x:=square*square%p) (x':=square*square) (mY _ (m6 p)) (left/2);rw[mod_mul h1 h2,<-h,CN,qH];have e2:left=2*(left/2)+1:=⋯
 conv=>rhs;rw[e2,qd]
 rw[fj square]
def Wu{p a:Int}{e:Nat}{power square:Int}{left:Nat}(h:Keeps p a e power square left)(ho:¬left%2=1):Keeps p a e power (square*square%p) (left/2):=by
 unfold Keeps at *;have h2:=Cd (p:=p) (x:=square*square%p) (x':=square*square) (mY _ (m6 p)) (left/2);rw[mod_mul rfl h2,<-h,CN];have e2:left=2*(left/2):=⋯
 conv=>rhs;rw[e2]
def XM{p a:Int}{e:Nat}{power square:Int}(h:Keeps p a e power square 0):power%p=a^e%p:=by
 unfold Keeps at h
 rwa [Int.pow_zero,iu]at h
end Om
namespace Pm
open Rm
def sm:Nat->(Nat->Int)->Int
 |0,_=>0
 |n+1,f=>sm n f+f n
theorem bW{f g:Nat->Int}:∀{n:Nat},(∀k,k<n->f k=g k)->sm n f=sm n g
 |0,_=>rfl
 |n+1,h=>by rw[sm,sm,bW λk hk=>h k ⋯,h n ⋯]
theorem uc:∀n:Nat,sm n (λ_=>0)=0
 |0=>rfl
 |n+1=>by rw[sm,uc n];rfl
def uK{f:Nat->Int}{n:Nat}(h:∀k,k<n->f k=0):sm n f=0:=by rw[bW h,uc]
theorem mW(f:Nat->Int):∀n:Nat,sm (n+1) f=f 0+sm n (λi=>f (i+1))
 |0=>by simp[sm]
 |n+1=>by
  rw[sm,mW f n,sm,KZ]
theorem rZ(f g:Nat->Int):∀n:Nat,sm n (λk=>f k+g k)=sm n f+sm n g
 |0=>rfl
 |n+1=>by rw[sm,sm,sm,rZ f g n];omega
theorem jT(c:Int)(f:Nat->Int):∀n:Nat,sm n (λk=>c*f k)=c*sm n f
 |0=>by simp[sm]
 |n+1=>by rw[sm,sm,jT c f n,vB]
theorem mH{f:Nat->Int}{m:Nat}:∀{n:Nat},m<=n->(∀k,m<=k->k<n->f k=0)->sm n f=sm m f
 |0,h,_=>by rw[show m=0 by omega]
 |n+1,h,h0=>by
  by_cases e:m=n+1
  .rw[e]
  .rw[sm,mH (n:=n) ⋯ (λk h1 h2=>h0 k h1 ⋯),h0 n ⋯ ⋯,fL]
def tk0(b:Int):tk b 0=0:=by unfold tk;split<;>simp
theorem eG{b:Int}{f g:Nat->Int}:∀{n:Nat},(∀k,k<n->tk b (f k)=tk b (g k))->tk b (sm n f)=tk b (sm n g)
 |0,_=>rfl
 |n+1,h=>by
  rw[sm,sm];exact fX (eG λk hk=>h k ⋯) (h n ⋯)
theorem Cv(f:Nat->Int):∀n:Nat,((bQ n).map f).sum=sm n f
 |0=>rfl
 |n+1=>by rw[zW,iJ,List.sum_append,Cv f n];simp[sm]
def cv:(Nat->Int)->(Nat->Int)->Nat->Int
 |f,g,0=>f 0*g 0
 |f,g,k+1=>f 0*g (k+1)+cv (λi=>f (i+1)) g k
theorem dz:∀(f g:Nat->Int) (k:Nat),cv f g k=sm (k+1) (λj=>f j*g (k-j))
 |f,g,0=>by simp[cv,sm]
 |f,g,k+1=>by
  rw[cv,dz _ g k,mW (λj=>f j*g (k+1-j))];refine congrArg (_ + ·) (bW λj hj=>?_);rw[show k+1-(j+1)=k-j by omega]
theorem Ec:∀(f g:Nat->Int) (k:Nat),cv f g (k+1)=cv f (λi=>g (i+1)) k+f (k+1)*g 0
 |f,g,0=>rfl
 |f,g,k+1=>by
  rw[cv,Ec (λi=>f (i+1)) g k,cv,KZ]
theorem m7:∀(f g:Nat->Int) (k:Nat),cv f g k=cv g f k
 |f,g,0=>fj _ _
 |f,g,k+1=>by
  rw[cv,Ec,m7 (λi=>f (i+1)) g k,j6,fj]
def uR{f f' g g':Nat->Int}{k:Nat}(h:∀i,i<=k->f i=f' i)(h':∀i,i<=k->g i=g' i):cv f g k=cv f' g' k:=by
 rw[dz,dz];exact bW λj hj=>by rw[h j ⋯,h' _ ⋯]
def gD{b:Int}{f f' g g':Nat->Int}{k:Nat}(h:∀i,i<=k->tk b (f i)=tk b (f' i))(h':∀i,i<=k->tk b (g i)=tk b (g' i)):tk b (cv f g k)=tk b (cv f' g' k):=by
 rw[dz,dz];exact eG λj hj=>by rw[<-lu,<-dU,h j ⋯,h' _ ⋯,dU,lu]
def iT(f f' g:Nat->Int)(k:Nat):cv (λi=>f i+f' i) g k=cv f g k+cv f' g k:=by
 rw[dz,dz,dz,<-rZ];exact bW λj _=>DM ..
def FW(f g g':Nat->Int)(k:Nat):cv f (λi=>g i+g' i) k=cv f g k+cv f g' k:=by
 rw[m7,iT,m7,m7 g']
def jU(c:Int)(f g:Nat->Int)(k:Nat):cv (λi=>c*f i) g k=c*cv f g k:=by
 rw[dz,dz,<-jT];exact bW λj _=>qH ..
theorem fM:∀(f g h:Nat->Int) (k:Nat),cv (cv f g) h k=cv f (cv g h) k
 |f,g,h,0=>by simp[cv,qH]
 |f,g,h,k+1=>by
  have e:(λi=>cv f g (i+1))=λi=>f 0*(λi=>g (i+1)) i+cv (λi=>f (i+1)) g i:=rfl;rw[cv,e,iT (λi=>f 0*(λi=>g (i+1)) i),jU,fM (λi=>f (i+1)) g h k,cv,cv,cv];rw[vB,qH];omega
def j9{f g:Nat->Int}{k:Nat}(h:∀i,i<=k->f i=0∨g (k-i)=0):cv f g k=0:=by
 rw[dz];exact uK λj hj=>by rcases h j ⋯ with e|e<;>rw[e]<;>simp
def co(p:List Int)(k:Nat):Int:=p.getD k 0
def fR(k:Nat):co [] k=0:=by simp[co]
def fD(x:Int)(r:List Int):co (x::r) 0=x:=by simp[co]
def jR(x:Int)(r:List Int)(k:Nat):co (x::r) (k+1)=co r k:=by simp[co]
def bh{p:List Int}{k:Nat}(h:p.length<=k):co p k=0:=by
 rw[co,List.getD_eq_getElem?_getD,List.getElem?_eq_none h];rfl
def tD{p:List Int}{k:Nat}(h:k<p.length):co p k=p[k]:=by
 rw[co,List.getD_eq_getElem?_getD,List.getElem?_eq_getElem h];rfl
def ED{p:List Int}{k:Nat}(h:k<p.length):co p k∈p:=by rw[tD h];exact sI h
def aR(n:Nat)(f:Nat->Int):List Int:=(bQ n).map f
def bN(n:Nat)(f:Nat->Int):(aR n f).length=n:=by simp[aR]
def dj(n:Nat)(f:Nat->Int)(k:Nat):co (aR n f) k=if k<n then f k else 0:=by
 by_cases h:k<n
 .rw[if_pos h,co,aR,List.getD_eq_getElem?_getD,List.getElem?_map,List.getElem?_range h];rfl
 .rw[if_neg h,bh (by rw[bN];omega)]
def IZ(n:Nat)(f:Nat->Int):aR (n+1) f=aR n f++[f n]:=by
 rw[aR,zW,iJ];rfl
def HB(p:List Int):aR p.length (co p)=p:=by
 apply List.ext_getElem (by rw[bN]);intro i h1 h2;simp only[aR,List.getElem_map,List.getElem_range];exact tD h2
def yp{p q:List Int}(hl:p.length=q.length)(h:∀k,co p k=co q k):p=q:=by
 rw[<-HB p,<-HB q,hl];exact pN λk _=>h k
def zJ(p:List Int)(i:Nat)(x:Int)(k:Nat)(hi:i<p.length):co (p.set i x) k=if k=i then x else co p k:=by
 unfold co;rw[List.getD_eq_getElem?_getD,List.getElem?_set,List.getD_eq_getElem?_getD];by_cases e:i=k
 .subst e;simp[hi]
 .rw[if_neg e,if_neg (λz=>e z.symm)]
def Ii{f:Int->Int}(h:f 0=0)(p:List Int)(k:Nat):co (p.map f) k=f (co p k):=getD_map h p k
def pQ(p q:List Int)(k:Nat):co (p++q) k=if k<p.length then co p k else co q (k-p.length):=by
 unfold co;by_cases h:k<p.length
 .rw[if_pos h,List.getD_eq_getElem?_getD,List.getElem?_append_left h,<-List.getD_eq_getElem?_getD]
 .rw[if_neg h,List.getD_eq_getElem?_getD,List.getElem?_append_right ⋯,<-List.getD_eq_getElem?_getD]
def trim:List Int->List Int
 |[]=>[]
 |x::r=>if x=0/\trim r=[]then[]else x::trim r
theorem mq:∀(p:List Int) (k:Nat),co (trim p) k=co p k
 |[],k=>rfl
 |x::r,k=>by
  rw[trim];have ih:=mq r;by_cases h:x=0/\trim r=[]
  .rw[if_pos h];rw[h.2]at ih;cases k with
   |zero=>rw[fR,fD,h.1]
   |succ k=>rw[jR,<-ih k,fR,fR]
  .rw[if_neg h];cases k with
   |zero=>rw[fD,fD]
   |succ k=>rw[jR,jR,ih k]
def Df{p:List Int}:trim p=[]↔∀k,co p k=0:=by
 constructor
 .intro h k;rw[<-mq,h,fR]
 .intro h;induction p with
  |nil=>rfl
  |cons x r ih=>
   rw[trim,if_pos ⟨by have:=h 0;rwa [fD]at this,ih λk=>by have:=h (k+1);rwa [jR]at this⟩]
theorem u5:∀{p q:List Int},(∀k,co p k=co q k)->trim p=trim q
 |[],q,h=>by rw[show trim q=[]from Df.mpr λk=>by rw[<-h k,fR]];rfl
 |x::r,[],h=>by rw[show trim (x::r)=[]from Df.mpr λk=>by rw[h k,fR]];rfl
 |x::r,y::s,h=>by
  have e1:=h 0;rw[fD,fD]at e1;have e2:trim r=trim s:=u5 λk=>by have:=h (k+1);rwa [jR,jR]at this
  rw[trim,trim,e1,e2]
def U5(p:List Int):trim (trim p)=trim p:=u5 (mq p)
theorem pL:∀p:List Int,(trim p).length<=p.length
 |[]=>aO _
 |x::r=>by
  have:=pL r;rw[trim];split
  .simp
  .simp;omega
theorem LN:∀{p:List Int} {n:Nat},(∀k,n<=k->co p k=0)->(trim p).length<=n
 |[],n,_=>cZ _
 |x::r,0,h=>by rw[Df.mpr λk=>h k (cZ _)];exact aO 0
 |x::r,n+1,h=>by
  have:=LN (p:=r) (n:=n) λk hk=>by have:=h (k+1) ⋯;rwa [jR]at this
  rw[trim];split
  .simp
  .simp;omega
def Iz(p:List Int):trim (p++[0])=trim p:=u5 λk=>by
 rw[pQ];by_cases h:k<p.length
 .rw[if_pos h]
 .rw[if_neg h,bh (p:=p) ⋯];cases k-p.length with
  |zero=>rfl
  |succ j=>rw[jR,fR]
theorem Ep:∀(p:List Int) {x:Int},x≠0->trim (p++[x])=p++[x]
 |[],x,h=>by simp[trim,h]
 |y::r,x,h=>by
  show trim (y::(r++[x]))=_;rw[trim,Ep r h,if_neg (by simp)];rfl
def abQ{p:List Int}{x:Int}(h:x∈trim p):x∈p:=by
 induction p with
 |nil=>exact h
 |cons y r ih=>
  rw[trim]at h;split at h
  .cases h
  .rcases jg.mp h with rfl|h
   .exact mU
   .exact gO _ (ih h)
structure Py(b:Int)(p:List Int):Prop where
 tr:trim p=p
 nu:∀x∈p,tk b x=x
theorem Py.co{b:Int}{p:List Int}(h:Py b p)(k:Nat):tk b (co p k)=co p k:=by
 by_cases hk:k<p.length
 .exact h.nu _ (ED hk)
 .rw[bh ⋯,tk0]
def Py.ext{b:Int}{p q:List Int}(h:Py b p)(h':Py b q)(e:∀k,tk b (Pm.co p k)=tk b (Pm.co q k)):p=q:=by
 rw[<-h.tr,<-h'.tr];exact u5 λk=>by rw[<-h.co k,<-h'.co k];exact e k
def Py.of{b:Int}{p:List Int}(h:∀x∈p,tk b x=x):Py b (trim p):=⟨U5 p,λx hx=>h x (abQ hx)⟩
def Py.nil(b:Int):Py b []:=⟨rfl,λ_ h=>nomatch h⟩
def Az{n:Nat}{f:Nat->Int}{x:Int}(h:x∈aR n f):∃k,k<n/\x=f k:=by
 obtain⟨k,hk,e⟩:=fB.mp h;exact⟨k,jW.mp hk,e.symm⟩
theorem Py.aR(b:Int)(n:Nat)(f:Nat->Int):Py b (trim (Pm.aR n λk=>tk b (f k))):=Py.of λx hx=>by
 obtain⟨k,_,rfl⟩:=Az hx;exact ig ..
def add(b:Int)(p q:List Int):List Int:=trim (aR (max p.length q.length) λk=>tk b (co p k+co q k))
def mul(b:Int)(p q:List Int):List Int:=trim (aR (p.length+q.length) λk=>tk b (cv (co p) (co q) k))
def E1(b:Int)(p q:List Int):Py b (mul b p q):=Py.aR ..
def Dc(b:Int)(p q:List Int)(k:Nat):co (add b p q) k=tk b (co p k+co q k):=by
 rw[add,mq,dj];split
 .rfl
 .rw[bh (p:=p) ⋯,bh (p:=q) ⋯,fL,tk0]
def wB(b:Int)(p q:List Int)(k:Nat):co (mul b p q) k=tk b (cv (co p) (co q) k):=by
 rw[mul,mq,dj];split
 .rfl
 .rw[j9,tk0];intro i hi;by_cases h:i<p.length
  .exact .inr (bh ⋯)
  .exact .inl (bh ⋯)
def W(f g:Nat->Int)(i k c:Nat):Int:=sm i (λj=>if j<=c then f j*g (c-j)else 0)+(if i<=c/\c-i<k then f i*g (c-i)else 0)
def aa3(f g:Nat->Int)(c:Nat):W f g 0 0 c=0:=by simp[W,sm]
def Yg{f g:Nat->Int}{i k c:Nat}:W f g i (k+1) c=W f g i k c+(if c=i+k then f i*g k else 0):=by
 unfold W;by_cases h:c=i+k
 .rw[if_pos h,if_pos ⋯,if_neg ⋯,show c-i=k by omega];omega
 .rw[if_neg h];by_cases h2:i<=c/\c-i<k
  .rw[if_pos h2,if_pos ⋯];omega
  .rw[if_neg h2,if_neg ⋯];omega
def acq{f g:Nat->Int}{i n c:Nat}(hg:∀k,n<=k->g k=0):W f g i n c=W f g (i+1) 0 c:=by
 unfold W;rw[sm,if_neg (show ¬(i+1<=c/\c-(i+1)<0)by omega)];by_cases h:i<=c
 .rw[if_pos h];by_cases h2:c-i<n
  .rw[if_pos ⟨h,h2⟩];omega
  .rw[if_neg ⋯,hg _ ⋯,cO];omega
 .rw[if_neg ⋯,if_neg h];omega
def RW{f g:Nat->Int}{m c:Nat}(hf:∀k,m<=k->f k=0):W f g m 0 c=cv f g c:=by
 unfold W;rw[if_neg ⋯,fL,dz];by_cases h:m<=c+1
 .rw[mH (n:=c+1) h λk h1 _=>by rw[hf k h1,gC]];exact bW λj hj=>if_pos ⋯
 .rw[mH (m:=c+1) (n:=m) ⋯ λk h1 _=>if_neg ⋯];exact bW λj hj=>if_pos ⋯
end Pm
namespace Pm
open Rm
theorem Ez(F:Nat->Nat->Int)(m:Nat):∀n:Nat,sm m (λk=>sm n (λj=>F k j))=sm n (λj=>sm m (λk=>F k j))
 |0=>by simp only[sm];exact uc m
 |n+1=>by
  simp only[sm];rw[rZ,Ez F m n]
theorem nJ(rule:List Int)(f:Nat->Int)(n:Nat):∀m:Nat,S rule f n m=sm m (λk=>co rule k*f (n-1-k))
 |0=>rfl
 |m+1=>by rw[S,sm,nJ rule f n m];rfl
def ks(p:List Int)(a:Nat->Int)(n:Nat):Int:=sm p.length (λk=>co p k*a (n+k))
def adp{b:Int}{rule p:List Int}{a:Nat->Int}(ha:∀n,rule.length<=n->tk b (a n)=tk b (S rule a n rule.length)){n:Nat}(hn:rule.length<=n):
  tk b (ks p a n)=tk b (S rule (ks p a) n rule.length):=by
 have e1:tk b (ks p a n)=tk b (sm p.length (λk=>co p k*sm rule.length (λj=>co rule j*a (n+k-1-j)))):=by
  refine eG λk _=>?_;rw[<-dU,ha (n+k) ⋯,dU,nJ]
 rw[e1,nJ];congr 1;have e2:(λk=>co p k*sm rule.length (λj=>co rule j*a (n+k-1-j)))=λk=>sm rule.length (λj=>co rule j*(co p k*a (n+k-1-j))):=by
  funext k
  rw[<-jT];exact bW λj _=>Al ..
 rw[e2,Ez];refine bW λj hj=>?_;rw[jT];congr 1;refine bW λk _=>?_;rw[show n-1-j+k=n+k-1-j by omega]
def ae7{b:Int}{rule p:List Int}{a:Nat->Int}(ha:∀n,rule.length<=n->tk b (a n)=tk b (S rule a n rule.length))(h0:∀n,n<rule.length->tk b (ks p a n)=0):
  ∀n,tk b (ks p a n)=0:=by
 intro n;induction n using xU with
 |ind n ih=>
  by_cases h:n<rule.length
  .exact h0 n h
  .rw[adp ha ⋯,nJ];have:tk b (sm rule.length λk=>co rule k*ks p a (n-1-k))=tk b (sm rule.length λ_=>0):=eG λk hk=>by
    rw[<-dU,ih (n-1-k) ⋯,cO]
   rw[this,uc,tk0]
def aH(b:Int)(c:List Int):List Int:=aR c.length (λk=>tk b (0-co c (c.length-1-k)))++[1]
def jj(b:Int)(p:List Int):List Int:=aR (p.length-1) (λk=>tk b (0-co p (p.length-1-1-k)))
def iw(b:Int)(c:List Int):(aH b c).length=c.length+1:=by simp[aH,bN]
def V2(b x:Int):tk b (0-tk b (0-x))=tk b x:=by
 have h:tk b (tk b (0-x)+(0-tk b (0-x)))=tk b ((0-x)+(0-tk b (0-x))):=d9 ..;have e1:tk b (0-x)+(0-tk b (0-x))=0:=⋯;rw[e1]at h;have h2:tk b (tk b (0-tk b (0-x))+(0-x))=tk b 0:=by rw[d9,j6];exact h.symm
 have h3:tk b (tk b (0-tk b (0-x)))=tk b x:=by
  have:=fX h2 (rfl:tk b x=tk b x);rw[show tk b (0-tk b (0-x))+(0-x)+x=tk b (0-tk b (0-x))by omega,gk]at this;exact this
 rwa [ig]at h3
def Gk{b:Int}{rule starts:List Int}(hl:rule.length=starts.length):∀n,rule.length<=n->tk b (at_ b rule starts n)=tk b (S rule (at_ b rule starts) n rule.length):=λn hn=>by
 rw[mL hl ⋯,ig]
def acS{p:List Int}{u:Nat}(h:∀x∈p,Bd u x)(k:Nat):Bd u (co p k):=Bd.getD h k
end Pm
namespace Pm
open Rm
theorem mO(x:Int)(j:Nat):∀n:Nat,sm n (λi=>if i=j then x else 0)=if j<n then x else 0
 |0=>by simp[sm]
 |n+1=>by
  rw[sm,mO x j n];by_cases h:n=j
  .rw[if_pos h,if_neg ⋯,if_pos ⋯];omega
  .rw[if_neg h];by_cases h2:j<n
   .rw[if_pos h2,if_pos ⋯];omega
   .rw[if_neg h2,if_neg ⋯];omega
def rK{b x y:Int}:tk b (x-y)=0↔tk b x=tk b y:=by
 constructor
 .intro h;have:=fX (b:=b) (x:=x-y) (x':=0) (y:=y) (y':=y) (by rw[h,tk0]) rfl
  rwa [show x-y+y=x by omega,gk]at this
 .intro h;have:=fX (b:=b) (x:=x) (x':=y) (y:=-y) (y':=-y) h rfl;rw[show x + -y=x-y by omega,show y + -y=0 by omega,tk0]at this;exact this
def wD(f:Int)(s:Nat)(g:Nat->Int)(k:Nat):cv (λi=>if i=s then f else 0) g k=if s<=k then f*g (k-s)else 0:=by
 rw[dz];have e:sm (k+1) (λj=>(if j=s then f else 0)*g (k-j))=sm (k+1) (λj=>if j=s then f*g (k-s)else 0):=bW λj _=>by
  by_cases h:j=s
  .rw[if_pos h,if_pos h,h]
  .rw[if_neg h,if_neg h,gC]
 rw[e,mO];by_cases h:s<=k
 .rw[if_pos h,if_pos ⋯]
 .rw[if_neg h,if_neg ⋯]
structure Mon(m:List Int):Prop where
 pos:0<m.length
 one:co m (m.length-1)=1
structure Div(b:Int)(p m q r:List Int):Prop where
 qy:Py b q
 ry:Py b r
 short:r.length<m.length
 eq:∀k,tk b (cv (co q) (co m) k+co r k)=tk b (co p k)
def Div.uniq{b:Int}{p m q r q' r':List Int}(hm:Mon m)(h:Div b p m q r)(h':Div b p m q' r'):q=q'/\r=r':=by
 have hp:=hm.pos;have e1:∀k,tk b (cv (λi=>co q i-co q' i) (co m) k+(co r k-co r' k))=0:=by
  intro k;have e2:cv (λi=>co q i-co q' i) (co m) k=cv (co q) (co m) k-cv (co q') (co m) k:=by
   have:=iT (co q) (λi=>-1*co q' i) (co m) k;rw[jU]at this;have e3:(λi=>co q i + -1*co q' i)=λi=>co q i-co q' i:=by funext i;omega
   rw[e3]at this;omega
  rw[e2,show cv (co q) (co m) k-cv (co q') (co m) k+(co r k-co r' k)=(cv (co q) (co m) k+co r k)-(cv (co q') (co m) k+co r' k)by omega,rK,h.eq,h'.eq]
 have e4:∀d j,q.length+q'.length<=j+d->tk b (co q j-co q' j)=0:=by
  intro d;induction d with
  |zero=>intro j hj;rw[bh ⋯,bh ⋯];exact tk0 b
  |succ d ih=>
   intro j hj;have e5:=e1 (j+(m.length-1));have hs:=h.short;have hs':=h'.short;rw[bh (p:=r) ⋯,bh (p:=r') ⋯,Ad,fL,dz]at e5;rw[<-e5];have e6:tk b (sm (j+(m.length-1)+1) λi=>(co q i-co q' i)*co m (j+(m.length-1)-i))=tk b (sm (j+(m.length-1)+1) λi=>if i=j then co q j-co q' j else 0):=eG λi hi=>by
    by_cases c:i=j
    .rw[if_pos c,c,show j+(m.length-1)-j=m.length-1 by omega,hm.one,iu]
    .rw[if_neg c];by_cases c2:i<j
     .rw[bh (p:=m) ⋯,cO]
     .rw[<-lu,ih i ⋯,gC]
   rw[e6,mO,if_pos ⋯]
 have eq:q=q':=h.qy.ext h'.qy λk=>rK.mp (e4 (q.length+q'.length) k ⋯);refine⟨eq,h.ry.ext h'.ry λk=>?_⟩;have e7:=e1 k;rw[eq]at e7;have e8:(λi=>co q' i-co q' i)=λ_=>0:=by funext i;omega
 rw[e8,j9 (λ_ _=> .inl rfl),gk]at e7;exact rK.mp e7
structure jz(b:Int)(p m:List Int)(s:Nat)(o l:List Int):Prop where
 eq:∀k,tk b (cv (co o) (co m) k+co l k)=tk b (co p k)
 zero:∀k,s+(m.length-1)<=k->co l k=0
 low:∀k,k<s->co o k=0
 ol:o.length=p.length-(m.length-1)
 ll:l.length=p.length
 on:∀k,tk b (co o k)=co o k
 ln:∀k,tk b (co l k)=co l k
def jz.start{b:Int}{p m:List Int}(hp:∀k,tk b (co p k)=co p k):jz b p m (p.length-(m.length-1)) (aR (p.length-(m.length-1)) λ_=>0) p:=by
 have z:∀k,co (aR (p.length-(m.length-1)) λ_=>0) k=0:=λk=>by rw[dj];split<;>rfl
 exact⟨λk=>by rw[j9 λi _=> .inl (z i),gk],λk hk=>bh ⋯,λk _=>z k,bN _ _,rfl,λk=>by rw[z,tk0],hp⟩
def lf(b f:Int)(s t:Nat)(l m:List Int)(k:Nat):Int:=if s<=k/\k<s+t then tk b (co l k-f*co m (k-s))else co l k
def afW(b f:Int)(s:Nat)(l m:List Int)(k:Nat):lf b f s 0 l m k=co l k:=if_neg ⋯
def adF(b f:Int)(s t:Nat)(l m:List Int)(k:Nat):lf b f s (t+1) l m k=if k=s+t then tk b (lf b f s t l m k-f*co m t)else lf b f s t l m k:=by
 unfold lf;by_cases h:k=s+t
 .rw[if_pos h,if_pos ⋯,if_neg ⋯,show k-s=t by omega]
 .rw[if_neg h];by_cases h2:s<=k/\k<s+t
  .rw[if_pos h2,if_pos ⋯]
  .rw[if_neg h2,if_neg ⋯]
def abn{b f:Int}{s:Nat}{l m:List Int}(hl:∀k,tk b (co l k)=co l k)(k:Nat):lf b f s m.length l m k=tk b (co l k-(if s<=k then f*co m (k-s)else 0)):=by
 unfold lf;by_cases h:s<=k
 .rw[if_pos h];by_cases h2:k<s+m.length
  .rw[if_pos ⟨h,h2⟩]
  .rw[if_neg ⋯,bh (p:=m) ⋯,cO,Ad,hl]
 .rw[if_neg ⋯,if_neg h,Ad,hl]
def jz.step{b:Int}{p m o l l':List Int}{s:Nat}(hm:Mon m)(h:jz b p m (s+1) o l)(hs:s<p.length-(m.length-1))(hl:l'.length=l.length)(e:∀k,co l' k=lf b (co l (s+(m.length-1))) s m.length l m k):
  jz b p m s (o.set s (co l (s+(m.length-1)))) l':=by
 have hp:=hm.pos;have ho:=h.ol;have eo:co (o.set s (co l (s+(m.length-1))))=λk=>co o k+(if k=s then co l (s+(m.length-1))else 0):=by
  funext k
  rw[zJ _ _ _ _ ⋯];by_cases c:k=s
  .rw[if_pos c,if_pos c,c,h.low s ⋯,gk]
  .rw[if_neg c,if_neg c,fL]
 have el:∀k,co l' k=tk b (co l k-(if s<=k then co l (s+(m.length-1))*co m (k-s)else 0)):=λk=>by rw[e,abn h.ln]
 refine⟨λk=>?_,λk hk=>?_,λk hk=>?_,by rw[yI,ho],by rw[hl,h.ll],λk=>?_,λk=>by rw[el,ig]⟩
 .rw[eo,iT (co o),wD,el,jQ,<-h.eq k];congr 1;omega
 .rw[el,if_pos ⋯];by_cases c:k=s+(m.length-1)
  .rw[c,show s+(m.length-1)-s=m.length-1 by omega,hm.one,iu,Int.sub_self,tk0]
  .rw[h.zero k ⋯,bh (p:=m) ⋯,cO,Ad,tk0]
 .rw[eo];simp only;rw[h.low k ⋯,if_neg ⋯,fL]
 .rw[zJ _ _ _ _ ⋯];split
  .exact h.ln _
  .exact h.on _
def jz.stop{b:Int}{p m o l:List Int}(hm:Mon m)(h:jz b p m 0 o l):Div b p m (trim o) (trim l):=by
 have hp:=hm.pos;have y:∀{x:List Int},(∀k,tk b (co x k)=co x k)->Py b (trim x):=λhx=>Py.of λz hz=>by
  obtain⟨k,hk,e⟩:=D9.mp hz;rw[<-e,<-tD hk];exact hx k
 refine⟨y h.on,y h.ln,?_,λk=>?_⟩
 .have:=LN (p:=l) (n:=m.length-1) λk hk=>h.zero k ⋯;omega
 .rw[mq,<-h.eq k];congr 2;exact uR (λi _=>mq _ _) (λ_ _=>rfl)
end Pm
namespace Pm
open Rm
theorem Lh(g:Nat->Int)(j:Nat):∀m:Nat,sm (j+m) (λk=>if j<=k then g (k-j)else 0)=sm m g
 |0=>by
  rw[yF];exact uK λk hk=>if_neg ⋯
 |m+1=>by
  rw[<-yx,sm,sm,Lh g j m,if_pos ⋯,wu]
def oE(p:List Int)(a:Nat->Int)(n:Nat){N:Nat}(h:p.length<=N):sm N (λk=>co p k*a (n+k))=ks p a n:=
 mH h λk h1 _=>by rw[bh h1,gC]
def acP{b:Int}{p q:List Int}{a:Nat->Int}(h:∀k,tk b (co p k)=tk b (co q k))(n:Nat):tk b (ks p a n)=tk b (ks q a n):=by
 rw[<-oE p a n (Ot p.length q.length),<-oE q a n (Iu p.length q.length)];exact eG λk _=>by rw[<-lu,h k,lu]
def Uw{b:Int}(p q:List Int)(a:Nat->Int)(n:Nat):tk b (ks (add b p q) a n)=tk b (ks p a n+ks q a n):=by
 have hl:(add b p q).length<=max p.length q.length:=by
  have:=pL (aR (max p.length q.length) λk=>tk b (co p k+co q k))
  rwa [bN]at this
 rw[<-oE _ a n hl,<-oE p a n (Ot p.length q.length),<-oE q a n (Iu p.length q.length),<-rZ];exact eG λk _=>by rw[Dc,lu,DM]
def O8{b:Int}(p q:List Int)(a:Nat->Int)(n:Nat):tk b (ks (mul b p q) a n)=tk b (ks p (ks q a) n):=by
 have hl:(mul b p q).length<=p.length+q.length:=by
  have:=pL (aR (p.length+q.length) λk=>tk b (cv (co p) (co q) k))
  rwa [bN]at this
 rw[<-oE _ a n hl];have e1:tk b (sm (p.length+q.length) λk=>co (mul b p q) k*a (n+k))=tk b (sm (p.length+q.length) λk=>sm p.length λj=>co p j*(if j<=k then co q (k-j)*a (n+k)else 0)):=eG λk _=>by
  rw[wB,lu,<-RW (m:=p.length) λj hj=>bh hj,W,if_neg ⋯,fL,fj,<-jT];congr 1;refine bW λj _=>?_;by_cases h:j<=k
  .rw[if_pos h,if_pos h,fj,qH]
  .rw[if_neg h,if_neg h,cO,cO]
 rw[e1,Ez];congr 1;refine bW λj hj=>?_;rw[jT];congr 1;have e2:(λk=>if j<=k then co q (k-j)*a (n+k)else 0)=λk=>if j<=k then(λi=>co q i*a (n+j+i)) (k-j)else 0:=by
  funext k
  by_cases h:j<=k
  .rw[if_pos h,if_pos h];show _=co q (k-j)*a (n+j+(k-j));rw[show n+j+(k-j)=n+k by omega]
  .rw[if_neg h,if_neg h]
 rw[e2,show p.length+q.length=j+(p.length-j+q.length)by omega];refine(Lh (λi=>co q i*a (n+j+i)) j _).trans ?_;exact oE q a (n+j) ⋯
def aeE{b:Int}{p:List Int}{a:Nat->Int}(h:∀n,tk b (a n)=0)(n:Nat):tk b (ks p a n)=0:=by
 have:tk b (ks p a n)=tk b (sm p.length λ_=>0):=eG λk _=>by rw[<-dU,h,cO]
 rw[this,uc,tk0]
def Kp(b:Int)(p:List Int)(a:Nat->Int):Prop:=∀n,tk b (ks p a n)=0
def Kp.Vh{b:Int}{q:List Int}{a:Nat->Int}(h:Kp b q a)(p:List Int):Kp b (mul b p q) a:=λn=>by rw[O8];exact aeE h n
theorem Kp.aH{b:Int}{rule:List Int}{a:Nat->Int}(ha:∀n,rule.length<=n->tk b (a n)=tk b (S rule a n rule.length)):Kp b (aH b rule) a:=λn=>by
 unfold ks;rw[iw,sm];have e1:co (Pm.aH b rule) rule.length=1:=by
  rw[Pm.aH,pQ,bN,if_neg ⋯,pK];rfl
 have e2:tk b (sm rule.length λk=>co (Pm.aH b rule) k*a (n+k))=tk b (sm rule.length λk=>-1*(co rule (rule.length-1-k)*a (n+k))):=eG λk hk=>by
  rw[Pm.aH,pQ,bN,if_pos hk,dj,if_pos hk,lu,FY,Int.neg_mul,Bf]
 have e3:S rule a (n+rule.length) rule.length=sm rule.length λk=>co rule (rule.length-1-k)*a (n+k):=by
  rw[nJ];have rev:∀(m:Nat) (f:Nat->Int),sm m f=sm m λk=>f (m-1-k):=by
   intro m;induction m with
   |zero=>intro f;rfl
   |succ m ih=>
    intro f;rw[mW,sm,ih λi=>f (i+1),j6];have:m+1-1-m=0:=⋯;rw[this];congr 1;exact bW λk hk=>by rw[show m-1-k+1=m+1-1-k by omega]
  rw[rev];exact bW λk hk=>by rw[show n+rule.length-1-(rule.length-1-k)=n+k by omega]
 rw[e1,mD,<-d9,e2,d9,jT,<-e3,<-jQ,ha (n+rule.length) ⋯,jQ,Bf,Int.add_left_neg,tk0]
def bJ(b:Int)(p q x:List Int):Prop:=∃u v,∀k,tk b (co x k)=tk b (cv (co u) (co p) k+cv (co v) (co q) k)
def Xz(p q:List Int)(k:Nat):co (add 0 p q) k=co p k+co q k:=by rw[Dc,u0]
def MD(p q:List Int)(k:Nat):co (mul 0 p q) k=cv (co p) (co q) k:=by rw[wB,u0]
def bJ.left(b:Int)(p q:List Int):bJ b p q p:=⟨[1],[],λk=>by
 rw[j9 (f:=co []) λi _=> .inl (fR _),fL,dz,mH (m:=1) ⋯ λj h1 _=>by rw[show co [1] j=0 from bh (by simpa using h1),gC]];simp[sm,fD]⟩
def bJ.swap{b:Int}{p q x:List Int}(h:bJ b p q x):bJ b q p x:=by
 obtain⟨u,v,e⟩:=h;exact⟨v,u,λk=>by rw[e,j6]⟩
def bJ.trans{b:Int}{p q g s x:List Int}(hg:bJ b p q g)(hs:bJ b p q s)(h:bJ b g s x):bJ b p q x:=by
 obtain⟨a,c,eg⟩:=hg;obtain⟨a',c',es⟩:=hs;obtain⟨u,v,e⟩:=h;refine⟨add 0 (mul 0 u a) (mul 0 v a'),add 0 (mul 0 u c) (mul 0 v c'),λk=>?_⟩;have e1:tk b (cv (co u) (co g) k)=tk b (cv (co u) (λi=>cv (co a) (co p) i+cv (co c) (co q) i) k):=gD (λ_ _=>rfl) λi _=>eg i;have e2:tk b (cv (co v) (co s) k)=tk b (cv (co v) (λi=>cv (co a') (co p) i+cv (co c') (co q) i) k):=gD (λ_ _=>rfl) λi _=>es i;rw[e,fX e1 e2];congr 1;have f1:∀y z:List Int,co (add 0 (mul 0 u y) (mul 0 v z))=λi=>cv (co u) (co y) i+cv (co v) (co z) i:=λy z=>by
  funext i;rw[Xz,MD,MD]
 rw[f1,f1,iT (cv (co u) (co a)),iT (cv (co u) (co c)),FW,FW,fM,fM,fM,fM];omega
def Div.in1{b:Int}{p m q r:List Int}(h:Div b p m q r):bJ b m r p:=by
 refine⟨q,[1],λk=>?_⟩;obtain⟨u,v,e⟩:=bJ.left b r [];rw[<-h.eq k];have:cv (co [1]) (co r) k=co r k:=by
  rw[dz,mH (m:=1) ⋯ λj h1 _=>by rw[show co [1] j=0 from bh (by simpa using h1),gC]];simp[sm,fD]
 rw[this]
def Div.in2{b:Int}{p m q r:List Int}(h:Div b p m q r):bJ b p m r:=by
 refine⟨[1],q.map (-1 * ·),λk=>?_⟩;have e1:cv (co [1]) (co p) k=co p k:=by
  rw[dz,mH (m:=1) ⋯ λj h1 _=>by rw[show co [1] j=0 from bh (by simpa using h1),gC]];simp[sm,fD]
 have e2:co (q.map (-1 * ·))=λi=>-1*co q i:=by funext i;rw[Ii (by simp)]
 rw[e1,e2,jU];have:=fX (h.eq k) (rfl:tk b (-1*cv (co q) (co m) k)=tk b (-1*cv (co q) (co m) k));rw[<-this];congr 1;omega
structure Gcd(b:Int)(p q g:List Int):Prop where
 py:Py b g
 mon:Mon g
 sum:bJ b p q g
 one:bJ b g [] p
 two:bJ b g [] q
def bJ.dv{b:Int}{g p:List Int}(h:bJ b g [] p):∃u,∀k,tk b (co p k)=tk b (cv (co u) (co g) k):=by
 obtain⟨u,v,e⟩:=h;exact⟨u,λk=>by rw[e,j9 (g:=co []) λi _=> .inr (fR _),fL]⟩
end Pm
namespace Pm
open Rm
def Mh{p:List Int}(h:p≠[]):p=p.dropLast++[co p (p.length-1)]:=by
 have hp:0<p.length:=Ed.mpr h
 conv=>lhs;rw[<-List.dropLast_concat_getLast h]
 congr 2;rw[tD ⋯,List.getLast_eq_getElem]
def Js{p:List Int}(h:p≠[])(h0:co p (p.length-1)≠0):trim p=p:=by
 have e:=Mh h;rw[e,Ep _ h0]
def La{p:List Int}(h:p≠[])(ht:trim p=p):co p (p.length-1)≠0:=by
 intro z;have e:=Mh h;rw[z]at e;have e2:trim p=trim p.dropLast:=by
  conv=>lhs;rw[e]
  exact Iz _
 have:=pL p.dropLast;rw[<-e2,ht,List.length_dropLast]at this;have hp:0<p.length:=Ed.mpr h;omega
structure oX(b:Int)(p m:List Int):Prop where
 py:Py b m
 len:m.length=p.length
 mon:p≠[]->Mon m
 to:∃c,∀k,tk b (co m k)=tk b (c*co p k)
 of:∃c,∀k,tk b (co p k)=tk b (c*co m k)
def bJ.scale{b:Int}{p m:List Int}(h:∃c,∀k,tk b (co m k)=tk b (c*co p k))(q:List Int):bJ b p q m:=by
 obtain⟨c,e⟩:=h;refine⟨[c],[],λk=>?_⟩;rw[j9 (f:=co []) λi _=> .inl (fR _),fL,e,dz,mH (m:=1) ⋯ λj h1 _=>by rw[show co [c] j=0 from bh (by simpa using h1),gC]];simp[sm,fD]
theorem oX.nil(b:Int):oX b [] []:=⟨Py.nil b,rfl,λh=>absurd rfl h,⟨0,λk=>by rw[fR,gC]⟩,⟨0,λk=>by rw[fR,gC]⟩⟩
def nC(P:Nat)(p:List Int):List Int:=p.map λx=>x*(co p (p.length-1))^(P-2)%(P:Int)
structure lW(b:Int)(p q g s:List Int):Prop where
 gy:Py b g
 sy:Py b s
 gm:g≠[]->Mon g
 OL:s≠[]->Mon s
 some:s=[]->g≠[]
 gi:bJ b p q g
 si:bJ b p q s
 pi:bJ b g s p
 qi:bJ b g s q
def lW.start{b:Int}{p q g s:List Int}(hg:oX b p g)(hs:oX b q s)(h:q=[]->p≠[]):lW b p q g s:=by
 have lg:=hg.len;have ls:=hs.len;have pn:g≠[]->p≠[]:=λz e=>z (oV (by rw[lg,e];rfl));have qn:s≠[]->q≠[]:=λz e=>z (oV (by rw[ls,e];rfl));refine⟨hg.py,hs.py,λz=>hg.mon (pn z),λz=>hs.mon (qn z),λz e=>?_,bJ.scale hg.to q,(bJ.scale hs.to p).swap,bJ.scale hg.of s,(bJ.scale hs.of g).swap⟩;have q0:q=[]:=oV (by rw[<-ls,z];rfl);exact h q0 (oV (by rw[<-lg,e];rfl))
def lW.step{b:Int}{p q g s o l m:List Int}(h:lW b p q g s)(hs:s≠[])(d:Div b g s o l)(hm:oX b l m):lW b p q s m:=by
 have lm:=hm.len;have ln:m≠[]->l≠[]:=λz e=>z (oV (by rw[lm,e];rfl));have li:bJ b p q l:=h.gi.trans h.si d.in2;have gs:bJ b s m g:=(bJ.left b s m).trans (bJ.scale hm.of s).swap d.in1;refine⟨h.sy,hm.py,h.OL,λz=>hm.mon (ln z),λ_=>hs,h.si,li.trans li (bJ.scale hm.to l),?_,?_⟩
 .exact gs.trans (bJ.left b s m) h.pi
 .exact gs.trans (bJ.left b s m) h.qi
def lW.stop{b:Int}{p q g s:List Int}(h:lW b p q g s)(hs:s=[]):Gcd b p q g:=by
 subst hs;exact⟨h.gy,h.gm (h.some rfl),h.gi,h.pi,h.qi⟩
end Pm
namespace Pm
open Rm
def yO(b:Int)(c:List Int):Mon (aH b c):=⟨by rw[iw];omega,by
 rw[iw,aH,pQ,bN,if_neg ⋯,show c.length+1-1-c.length=0 by omega];rfl⟩
def j5(b:Int)(p:List Int):(jj b p).length=p.length-1:=by rw[jj,bN]
def Vq{b:Int}{w:List Int}(hw:∀k,tk b (co w k)=co w k)(hm:Mon w):aH b (jj b w)=w:=by
 have hp:=hm.pos;refine yp (by rw[iw,j5];omega) λk=>?_;rw[aH,pQ,bN,j5];by_cases h:k<w.length-1
 .rw[if_pos h,dj,if_pos h,jj,dj,if_pos ⋯,V2,show w.length-1-1-(w.length-1-1-k)=k by omega,hw]
 .rw[if_neg h];by_cases c:k=w.length-1
  .rw[c,pK,hm.one];rfl
  .rw[bh (p:=w) ⋯,bh];simp;omega
def Tw{b:Int}{rule:List Int}{a:Nat->Int}(n:Nat):tk b (ks (aH b rule) a n)=tk b (a (n+rule.length)-S rule a (n+rule.length) rule.length):=by
 unfold ks;rw[iw,sm];have e1:co (aH b rule) rule.length=1:=by
  rw[aH,pQ,bN,if_neg ⋯,pK];rfl
 have e2:tk b (sm rule.length λk=>co (aH b rule) k*a (n+k))=tk b (sm rule.length λk=>-1*(co rule (rule.length-1-k)*a (n+k))):=eG λk hk=>by
  rw[aH,pQ,bN,if_pos hk,dj,if_pos hk,lu,FY,Int.neg_mul,Bf]
 have e3:S rule a (n+rule.length) rule.length=sm rule.length λk=>co rule (rule.length-1-k)*a (n+k):=by
  rw[nJ];have rev:∀(m:Nat) (f:Nat->Int),sm m f=sm m λk=>f (m-1-k):=by
   intro m;induction m with
   |zero=>intro f;rfl
   |succ m ih=>
    intro f;rw[mW,sm,ih λi=>f (i+1),j6];have:m+1-1-m=0:=⋯;rw[this];congr 1;exact bW λk hk=>by rw[show m-1-k+1=m+1-1-k by omega]
  rw[rev];exact bW λk hk=>by rw[show n+rule.length-1-(rule.length-1-k)=n+k by omega]
 rw[e1,mD,<-d9,e2,d9,jT,<-e3];congr 1;omega
def Kp.rec{b:Int}{rule:List Int}{a:Nat->Int}(h:Kp b (Pm.aH b rule) a):∀n,rule.length<=n->tk b (a n)=tk b (S rule a n rule.length):=λn hn=>by
 have:=h (n-rule.length);rw[Tw,show n-rule.length+rule.length=n by omega]at this;exact rK.mp this
def ago{b:Int}{w:List Int}{a:Nat->Int}(hw:∀k,tk b (co w k)=co w k)(hm:Mon w)(hk:Kp b w a)(ha:∀n,tk b (a n)=a n){starts:List Int}(hl:starts.length=w.length-1)(hs:∀i,i<starts.length->starts.getD i 0=a i)(n:Nat):
  at_ b (jj b w) starts n=a n:=by
 have lr:=j5 b w;rw[<-Vq hw hm]at hk;refine yd ⋯ (g:=a) (λi hi=>(hs i hi).symm) (λi hi=>?_) n;rw[<-ha i];exact hk.rec i ⋯
end Pm
namespace Dm
open Pm
end Dm
namespace Dm
open Pm
end Dm
namespace Dm
open Pm Rm
def Dom(b:Int):Prop:=∀x y,tk b x≠0->tk b (x*y)=0->tk b y=0
def Dw{b x:Int}:tk b x=0↔∃e,x=b*e:=by
 unfold tk;split
 .rename_i h
  constructor
  .intro z;exact⟨0,by rw[z,cO]⟩
  .rintro⟨e,he⟩;rw[he,h,gC]
 .constructor
  .intro z;exact⟨x/b,(Int.mul_ediv_cancel' (Int.dvd_of_emod_eq_zero z)).symm⟩
  .rintro⟨e,he⟩;rw[he];exact Int.mul_emod_right b e
def ln(L:List (List Int))(i:Nat):List Int:=L.getD i []
end Dm
namespace Dm
open Rm Pm
end Dm
namespace Pm
open Rm
def Fs(f:Nat->Int)(n:Nat):Prop:=∀k,n<=k->f k=0
theorem Fs.co(p:List Int):Fs (co p) p.length:=λ_ h=>bh h
def Fs.mono{f:Nat->Int}{m n:Nat}(h:Fs f m)(hmn:m<=n):Fs f n:=λk hk=>h k ⋯
def Fs.add{f g:Nat->Int}{n:Nat}(h:Fs f n)(h':Fs g n):Fs (λk=>f k+g k) n:=λk hk=>by show f k+g k=0;rw[h k hk,h' k hk];rfl
def Fs.mul{f:Nat->Int}{n:Nat}(c:Int)(h:Fs f n):Fs (λk=>c*f k) n:=λk hk=>by show c*f k=0;rw[h k hk,cO]
theorem Fs.cv{f g:Nat->Int}{m n:Nat}(h:Fs f m)(h':Fs g n):Fs (Pm.cv f g) (m+n):=λk hk=>j9 λi _=>by
 by_cases c:m<=i
 .exact .inl (h i c)
 .exact .inr (h' _ ⋯)
def wG{b x:Int}(y:Int)(h:tk b x=0):tk b (y*x)=0:=by rw[<-dU,h,cO,tk0]
def Dz{b:Int}{m:List Int}(hm:Mon m){f:Nat->Int}{n:Nat}(hf:Fs f n)(h:∀k,m.length-1<=k->tk b (cv f (co m) k)=0):∀k,tk b (f k)=0:=by
 have q:∀d j,n<=j+d->tk b (f j)=0:=λd=>by
  induction d with
  |zero=>intro j hj;rw[hf j hj,tk0]
  |succ d ih=>
   intro j hj;have e:=h (j+(m.length-1)) ⋯;rw[dz]at e;have e2:tk b (sm (j+(m.length-1)+1) λi=>f i*co m (j+(m.length-1)-i))=tk b (sm (j+(m.length-1)+1) λi=>if i=j then f j else 0):=eG λi hi=>by
    by_cases c:i=j
    .rw[if_pos c,c,wu,hm.one,iu]
    .rw[if_neg c,tk0];by_cases d2:i<j
     .rw[bh (by have:=hm.pos;omega),cO,tk0]
     .rw[fj];exact wG _ (ih i ⋯)
   rw[e2,mO,if_pos ⋯]at e;exact e
 exactλk=>q n k ⋯
def Dv(b:Int)(m:List Int)(f:Nat->Int):Prop:=∃s n,Fs s n/\∀k,tk b (f k)=tk b (cv s (co m) k)
def Dv.congr{b:Int}{m:List Int}{f g:Nat->Int}(e:∀k,tk b (f k)=tk b (g k))(h:Dv b m f):Dv b m g:=by
 obtain⟨s,n,hs,h⟩:=h;exact⟨s,n,hs,λk=>by rw[<-e,h]⟩
def Dv.zero(b:Int)(m:List Int):Dv b m λ_=>0:=⟨λ_=>0,0,λ_ _=>rfl,λk=>by rw[j9 λi _=> .inl rfl]⟩
theorem Dv.add{b:Int}{m:List Int}{f g:Nat->Int}(h:Dv b m f)(h':Dv b m g):Dv b m λk=>f k+g k:=by
 obtain⟨s,n,hs,h⟩:=h;obtain⟨s',n',hs',h'⟩:=h';exact⟨λk=>s k+s' k,n+n',(hs.mono ⋯).add (hs'.mono ⋯),λk=>by rw[iT];exact fX (h k) (h' k)⟩
def Dv.smul{b:Int}{m:List Int}{f:Nat->Int}(c:Int)(h:Dv b m f):Dv b m λk=>c*f k:=by
 obtain⟨s,n,hs,h⟩:=h;exact⟨λk=>c*s k,n,hs.mul c,λk=>by rw[jU,<-dU,h,dU]⟩
def Dv.sub{b:Int}{m:List Int}{f g:Nat->Int}(h:Dv b m f)(h':Dv b m g):Dv b m λk=>f k-g k:=
 (h.add (h'.smul (-1))).congr λk=>by rw[show f k + -1*g k=f k-g k by omega]
def Dv.self{b:Int}{m:List Int}{g:Nat->Int}{n:Nat}(hg:Fs g n):Dv b m (cv g (co m)):=⟨g,n,hg,λ_=>rfl⟩
def Dv.short{b:Int}{m:List Int}(hm:Mon m){f:Nat->Int}(hf:Fs f (m.length-1))(h:Dv b m f):∀k,tk b (f k)=0:=by
 obtain⟨s,n,hs,h⟩:=h;have z:=Dz (b:=b) hm hs λk hk=>by rw[<-h,hf k hk,tk0]
 intro k;rw[h,<-tk0 b,<-j9 (f:=λ_=>(0:Int)) (g:=co m) (k:=k) λi _=> .inl rfl];exact gD (λi _=>by rw[z,tk0]) λi _=>rfl
def tp(P:List Int)(a:Nat->Int)(k:Nat):Int:=sm (P.length-1-k) λi=>co P (k+1+i)*a i
def yr(P:List Int)(a:Nat->Int):Fs (tp P a) (P.length-1):=λk hk=>by unfold tp;rw[show P.length-1-k=0 by omega];rfl
def W3{b:Int}{P:List Int}{a a':Nat->Int}(h:∀n,tk b (a n)=tk b (a' n))(k:Nat):tk b (tp P a k)=tk b (tp P a' k):=eG λi _=>by rw[<-dU,h,dU]
def ael(P:List Int)(c:Int)(a a':Nat->Int)(k:Nat):tp P (λn=>c*a n+a' n) k=c*tp P a k+tp P a' k:=by
 unfold tp;rw[<-jT,<-rZ];refine bW λi _=>?_;rw[vB,Al]
def afC{b:Int}{P:List Int}(hP:0<P.length){a:Nat->Int}(h0:tk b (ks P a 0)=0)(k:Nat):tk b (if k=0 then 0 else tp P a (k-1))=tk b (tp P (λn=>a (n+1)) k+a 0*co P k):=by
 by_cases c:k=0
 .rw[if_pos c,c,tk0,<-h0];refine congrArg (tk b) ?_;unfold ks tp;obtain⟨N,hN⟩:∃N,P.length=N+1:=⟨P.length-1,⋯⟩;rw[hN,mW,jO,lU,j6,fj (co P 0)];congr 1;exact bW λi _=>by rw[eO,eO,Ah 1 i]
 .rw[if_neg c];by_cases d:k<P.length
  .refine congrArg (tk b) ?_;unfold tp;rw[show P.length-1-(k-1)=(P.length-1-k)+1 by omega,mW,j6];congr 1
   .exact bW λi _=>by rw[show k-1+1+(i+1)=k+1+i by omega]
   .rw[show k-1+1+0=k by omega,fj]
  .rw[yr P a (k-1) ⋯,yr P _ k ⋯,bh ⋯,cO];rfl
def af4(x:Int)(q:List Int)(f:Nat->Int)(k:Nat):cv (co (x::q)) f k=x*f k+(if k=0 then 0 else cv (co q) f (k-1)):=by
 cases k with
 |zero=>rw[cv,fD,if_pos rfl,fL]
 |succ k=>
  rw[cv,fD,if_neg ⋯,jO];congr 1
def aeZ(q f:Nat->Int)(k:Nat):(if k=0 then 0 else cv q f (k-1))=cv q (λi=>if i=0 then 0 else f (i-1)) k:=by
 cases k with
 |zero=>rw[if_pos rfl,cv,if_pos rfl,cO]
 |succ k=>rw[if_neg ⋯,jO,Ec,if_pos rfl,cO,fL];rfl
def aaX(x:Int)(q:List Int)(a:Nat->Int)(n:Nat):ks (x::q) a n=x*a n+ks q (λn=>a (n+1)) n:=by
 unfold ks;rw[tu,mW,fD,yF];congr 1
theorem HN{b:Int}{P:List Int}(hP:0<P.length):∀(q:List Int) {a:Nat->Int},Kp b P a->Dv b P λk=>cv (co q) (tp P a) k-tp P (ks q a) k
 |[],a,_=>(Dv.zero b P).congr λk=>by
  rw[j9 λi _=> .inl (fR i)];have:tp P (ks [] a) k=0:=uK λi _=>by show co P (k+1+i)*0=0;exact cO _
  rw[this];rfl
 |x::q,a,h=>by
  have h1:Kp b P λn=>a (n+1):=λn=>by
   have e:ks P (λn=>a (n+1)) n=ks P a (n+1):=bW λk _=>by show _*a (n+k+1)=_*a (n+1+k);rw[show n+k+1=n+1+k by omega]
   rw[e];exact h (n+1)
  have ih:=HN hP q h1;have d:=Dv.self (b:=b) (m:=P) ((Fs.co q).mul (a 0));refine(ih.add d).congr λk=>?_;have e1:tk b (if k=0 then 0 else cv (co q) (tp P a) (k-1))=tk b (cv (co q) (tp P λn=>a (n+1)) k+a 0*cv (co q) (co P) k):=by
   rw[aeZ,<-jU,gD (λi _=>rfl) λi _=>afC hP (h 0) i,FW];congr 2;rw[m7,jU,jU,m7]
  have e2:tp P (ks (x::q) a) k=x*tp P a k+tp P (ks q λn=>a (n+1)) k:=by
   rw[<-ael];unfold tp;exact bW λi _=>by rw[aaX]
  rw[af4,e2,jU];have e3:=fX e1 (rfl:tk b (-(tp P (ks q λn=>a (n+1)) k))=_);rw[show x*tp P a k+(if k=0 then 0 else cv (co q) (tp P a) (k-1))-(x*tp P a k+tp P (ks q λn=>a (n+1)) k)=(if k=0 then 0 else cv (co q) (tp P a) (k-1)) + -(tp P (ks q λn=>a (n+1)) k)by omega,e3];refine congrArg (tk b) ?_;omega
def aae{b:Int}{P:List Int}(hm:Mon P){e:Nat->Int}(h:∀k,tk b (tp P e k)=0):∀n,n<P.length-1->tk b (e n)=0:=λn=>by
 induction n using xU with
 |ind n ih=>
  intro hn;have q:=h (P.length-1-1-n);unfold tp at q;rw[show P.length-1-(P.length-1-1-n)=n+1 by omega,sm]at q;have z:tk b (sm n λi=>co P (P.length-1-1-n+1+i)*e i)=0:=by
   have:=eG (b:=b) (n:=n) (f:=λi=>co P (P.length-1-1-n+1+i)*e i) (g:=λ_=>0) λi hi=>by rw[tk0];exact wG _ (ih i hi ⋯)
   rw[this,uc,tk0]
  rw[<-d9,z,gk,show P.length-1-1-n+1+n=P.length-1 by omega,hm.one,mD]at q;exact q
def aaO{b:Int}{rule:List Int}{a:Nat->Int}(ha:∀n,rule.length<=n->tk b (a n)=tk b (S rule a n rule.length))(q:List Int):
  Kp b q a↔Dv b (aH b rule) (cv (co q) (tp (aH b rule) a)):=by
 have hm:=yO b rule;have hK:Kp b (aH b rule) a:=Kp.aH ha;have A:=HN hm.pos q hK;constructor
 .intro h;have z:Dv b (aH b rule) (tp (aH b rule) (ks q a)):=(Dv.zero b _).congr λk=>by
   have:=W3 (b:=b) (P:=aH b rule) (a:=ks q a) (a':=λ_=>0) (λn=>by rw[h n,tk0]) k;rw[this];exact(congrArg (tk b) (show tp (aH b rule) (λ_=>0) k=0 from uK λi _=>cO _)).symm
  exact(A.add z).congr λk=>by rw[Int.sub_add_cancel]
 .intro h;have z:Dv b (aH b rule) (tp (aH b rule) (ks q a)):=(h.sub A).congr λk=>by
   rw[show cv (co q) (tp (aH b rule) a) k-(cv (co q) (tp (aH b rule) a) k-tp (aH b rule) (ks q a) k)=tp (aH b rule) (ks q a) k by omega]
  have n0:=aae hm (z.short hm (yr _ _));rw[iw,jO]at n0;exact ae7 ha n0
structure Gj(b:Int)(p:List Int)(t:Nat->Int)(g:List Int):Prop where
 mon:Mon g
 one:Dv b g (co p)
 two:Dv b g t
 sum:∃(N:Int) (u v:Nat->Int) (n:Nat),tk b N≠0/\Fs u n/\Fs v n/\∀k,tk b (N*co g k)=tk b (cv u (co p) k+cv v t k)
def XI{b:Int}{m:List Int}(hm:Mon m){p:List Int}(hp:∀k,tk b (co p k)=co p k):∃q r,Div b p m q r:=by
 have go:∀d,d<=p.length-(m.length-1)->∃o l,jz b p m (p.length-(m.length-1)-d) o l:=λd=>by
  induction d with
  |zero=>intro _;exact⟨_,_,jz.start hp⟩
  |succ d ih=>
   intro hd;obtain⟨o,l,I⟩:=ih ⋯;obtain⟨s,hs⟩:∃s,p.length-(m.length-1)-d=s+1:=⟨p.length-(m.length-1)-d-1,⋯⟩;rw[hs]at I;refine⟨o.set s (co l (s+(m.length-1))),aR l.length λk=>lf b (co l (s+(m.length-1))) s m.length l m k,?_⟩;rw[show p.length-(m.length-1)-(d+1)=s by omega];refine I.step hm ⋯ (bN ..) λk=>?_;rw[dj];by_cases c:k<l.length
   .rw[if_pos c]
   .rw[if_neg c];have hl:=I.ll;have hmp:=hm.pos;unfold lf;rw[if_neg ⋯,bh ⋯]
 obtain⟨o,l,I⟩:=go _ (aO _);rw[pK]at I;exact⟨_,_,I.stop hm⟩
def aeQ{b:Int}(hD:∀x y,tk b x≠0->tk b (x*y)=0->tk b y=0){L:List Int}(hL:Mon L){N:Int}(hN:tk b N≠0){f:Nat->Int}{n:Nat}(hf:Fs f n)(h:Dv b L λk=>N*f k):Dv b L f:=by
 obtain⟨o,r,D⟩:=XI (b:=b) hL (p:=aR n λk=>tk b (f k)) λk=>by
  rw[dj];split
  .exact ig ..
  .exact tk0 b
 have ef:∀k,tk b (co (aR n λk=>tk b (f k)) k)=tk b (f k):=λk=>by
  rw[dj];by_cases c:k<n
  .rw[if_pos c,ig]
  .rw[if_neg c,hf k ⋯]
 have e:∀k,tk b (f k)=tk b (cv (co o) (co L) k+co r k):=λk=>by rw[D.eq,ef]
 have z:Dv b L λk=>N*co r k:=(h.sub ((Dv.self (b:=b) (m:=L) (Fs.co o)).smul N)).congr λk=>by
  rw[show N*f k-N*cv (co o) (co L) k=N*(f k-cv (co o) (co L) k)by rw[Int.mul_sub],<-dU,<-dU b N (co r k)];congr 2;have:=e k;have q:=fX this (rfl:tk b (-cv (co o) (co L) k)=_);rw[show f k-cv (co o) (co L) k=f k + -cv (co o) (co L) k by omega,q];exact congrArg (tk b) ⋯
 have hr:Fs (λk=>N*co r k) (L.length-1):=((Fs.co r).mono (by have:=D.short;omega)).mul N;have z0:=z.short hL hr;refine⟨co o,o.length,Fs.co o,λk=>?_⟩;rw[e,<-jQ,hD N _ hN (z0 k),fL]
def Gj.keeps{b:Int}(hD:∀x y,tk b x≠0->tk b (x*y)=0->tk b y=0){rule:List Int}{a:Nat->Int}(ha:∀n,rule.length<=n->tk b (a n)=tk b (S rule a n rule.length)){g L:List Int}(h:Gj b (aH b rule) (tp (aH b rule) a) g)(hL:Mon L)
  (hP:∀k,tk b (co (aH b rule) k)=tk b (cv (co L) (co g) k)) (q:List Int):Kp b q a↔Dv b L (co q):=by
 rw[aaO ha q];generalize aH b rule=P at h hP;obtain⟨t,nt,ht,hT⟩:=h.two;obtain⟨N,u,v,n,hN,hu,hv,hs⟩:=h.sum;generalize tp P a=T at h hT hs;have Wn:∀k,tk b ((if k=0 then N else 0)-(cv u (co L) k+cv v t k))=0:=by
  refine Dz (b:=b) h.mon (n:=1+(n+L.length)+(n+nt)) (λk hk=>?_) λk _=>?_
  .show(if k=0 then N else 0)-(cv u (co L) k+cv v t k)=0;rw[if_neg ⋯,hu.cv (Fs.co L) k ⋯,hv.cv ht k ⋯];rfl
  .have e:cv (λk=>(if k=0 then N else 0)-(cv u (co L) k+cv v t k)) (co g) k=N*co g k + -1*(cv u (cv (co L) (co g)) k+cv v (cv t (co g)) k):=by
    rw[<-fM,<-fM,<-iT,<-jU];have e2:N*co g k=cv (λk=>if k=0 then N else 0) (co g) k:=by rw[wD,if_pos (cZ _),lU]
    rw[e2,<-iT];refine uR (λi _=>?_) λi _=>rfl;omega
   rw[e,<-d9,hs,d9];have e3:tk b (cv u (co P) k+cv v T k)=tk b (cv u (cv (co L) (co g)) k+cv v (cv t (co g)) k):=fX (gD (λi _=>rfl) λi _=>hP i) (gD (λi _=>rfl) λi _=>hT i);have e4:=fX e3 (rfl:tk b (-1*(cv u (cv (co L) (co g)) k+cv v (cv t (co g)) k))=_);rw[e4,show ∀x:Int,x + -1*x=0 fromλx=>⋯,tk0]
 constructor
 .rintro⟨s,ns,hs',e⟩;have qt:∀k,tk b (cv (co q) t k-cv s (co L) k)=0:=by
   refine Dz (b:=b) h.mon (n:=(q.length+nt)+(ns+L.length)) (λk hk=>?_) λk _=>?_
   .show cv (co q) t k-cv s (co L) k=0;rw[(Fs.co q).cv ht k ⋯,hs'.cv (Fs.co L) k ⋯];rfl
   .have e1:cv (λk=>cv (co q) t k-cv s (co L) k) (co g) k=cv (co q) (cv t (co g)) k + -1*cv s (cv (co L) (co g)) k:=by
     rw[<-fM,<-fM,<-jU,<-iT];exact uR (λi _=>⋯) λi _=>rfl
    have e2:tk b (cv (co q) (cv t (co g)) k)=tk b (cv s (cv (co L) (co g)) k):=by
     rw[<-gD (λi _=>rfl) (λi _=>hT i),e,gD (λi _=>rfl) λi _=>hP i]
    have e3:=fX e2 (rfl:tk b (-1*cv s (cv (co L) (co g)) k)=_);rw[e1,e3,show ∀x:Int,x + -1*x=0 fromλx=>⋯,tk0]
  refine aeQ hD hL hN (Fs.co q) ?_;refine⟨λk=>cv (co q) u k+cv v s k,(q.length+n)+(n+ns),((((Fs.co q).cv hu)).mono ⋯).add ((hv.cv hs').mono ⋯),λk=>?_⟩;have e1:tk b (N*co q k)=tk b (cv (λk=>cv u (co L) k+cv v t k) (co q) k):=by
   have e2:N*co q k=cv (λk=>if k=0 then N else 0) (co q) k:=by rw[wD,if_pos (cZ _),lU]
   rw[e2];exact gD (λi _=>rK.mp (Wn i)) λi _=>rfl
  rw[e1,iT,iT];refine fX ?_ ?_
  .exact congrArg (tk b) ((m7 ..).trans (fM ..).symm)
  .rw[fM,fM];refine gD (λi _=>rfl) λi _=>?_;rw[m7];exact rK.mp (qt i)
 .rintro⟨s,ns,hs',e⟩;refine⟨cv s t,ns+nt,hs'.cv ht,λk=>?_⟩;rw[gD (λi _=>e i) (λi _=>hT i),gD (f:=cv s t) (λi _=>rfl) (λi _=>hP i)];refine congrArg (tk b) ?_;rw[fM,fM];refine uR (λi _=>rfl) λi _=>?_;rw[<-fM,<-fM];exact uR (λj _=>m7 ..) λj _=>rfl
end Pm
namespace Om
def cQ(p:Nat):Prop:=2<=p/\∀d,d∣p->d=1∨d=p
def cQ.cop{p x:Nat}(h:cQ p)(hx:¬p∣x):Nat.Coprime p x:=by
 rcases h.2 _ (Nat.gcd_dvd_left p x)with e|e
 .exact e
 .exact absurd (e▸Nat.gcd_dvd_right p x) hx
def cQ.dvd{p x y:Nat}(h:cQ p)(hd:p∣x*y):p∣x∨p∣y:=by
 by_cases c:p∣x
 .exact .inl c
 .exact .inr ((h.cop c).dvd_of_dvd_mul_left hd)
def ch:Nat->Nat->Nat
 |_,0=>1
 |0,_+1=>0
 |n+1,k+1=>ch n k+ch n (k+1)
def uM(n:Nat):ch n 0=1:=by cases n<;>rfl
theorem tO:∀(n k:Nat),n<k->ch n k=0
 |0,k+1,_=>rfl
 |n+1,k+1,h=>by rw[ch,tO n k ⋯,tO n (k+1) ⋯]
theorem MN:∀n,ch n n=1
 |0=>rfl
 |n+1=>by rw[ch,MN n,tO n (n+1) ⋯]
theorem zU:∀n k:Nat,(k+1)*ch (n+1) (k+1)=(n+1)*ch n k
 |0,0=>rfl
 |0,k+1=>by
  have e:ch (0+1) (k+1+1)=ch 0 (k+1)+ch 0 (k+1+1):=rfl;rw[e,tO 0 (k+1) ⋯,tO 0 (k+1+1) ⋯];simp
 |n+1,0=>by
  have:=zU n 0;have e:ch (n+1+1) (0+1)=ch (n+1) 0+ch (n+1) (0+1):=rfl;simp only[uM]at e⊢;rw[e];rw[uM]at this;omega
 |n+1,k+1=>by
  have h1:=zU n k;have h2:=zU n (k+1);rw[ch,uy];have e1:(k+1+1)*ch (n+1) (k+1)=(n+1)*ch n k+ch (n+1) (k+1):=by rw[wO,h1]
  rw[e1,h2];have e2:ch (n+1) (k+1)=ch n k+ch n (k+1):=rfl;rw[e2,wO (n+1),uy];omega
def cQ.dch{p k:Nat}(h:cQ p)(h0:0<k)(hk:k<p):p∣ch p k:=by
 obtain⟨n,rfl⟩:∃n,p=n+1:=⟨p-1,by have:=h.1;omega⟩;obtain⟨j,rfl⟩:∃j,k=j+1:=⟨k-1,⋯⟩;have e:=zU n j;rcases h.dvd (x:=j+1) (y:=Om.ch (n+1) (j+1)) (by rw[e];exact K2 ..)with d|d
 .exact absurd (MX ⋯ d) ⋯
 .exact d
def sN(f:Nat->Nat):Nat->Nat
 |0=>0
 |n+1=>sN f n+f n
theorem Kh{f g:Nat->Nat}:∀{n:Nat},(∀k,k<n->f k=g k)->sN f n=sN g n
 |0,_=>rfl
 |n+1,h=>by rw[sN,sN,Kh λk hk=>h k ⋯,h n ⋯]
theorem Pu(f g:Nat->Nat):∀n,sN (λk=>f k+g k) n=sN f n+sN g n
 |0=>rfl
 |n+1=>by rw[sN,sN,sN,Pu f g n];omega
theorem Kf(c:Nat)(f:Nat->Nat):∀n,sN (λk=>c*f k) n=c*sN f n
 |0=>rfl
 |n+1=>by rw[sN,sN,Kf c f n,uy]
theorem Am(f:Nat->Nat):∀n,sN f (n+1)=f 0+sN (λk=>f (k+1)) n
 |0=>by rw[sN,sN,sN];omega
 |n+1=>by rw[sN,Am f n,sN];omega
theorem RV{p:Nat}{f:Nat->Nat}:∀{n:Nat},(∀k,k<n->p∣f k)->p∣sN f n
 |0,_=>Nat.dvd_zero _
 |n+1,h=>Nat.dvd_add (RV λk hk=>h k ⋯) (h n ⋯)
theorem Li(a:Nat):∀n,(a+1)^n=sN (λk=>ch n k*a^k) (n+1)
 |0=>by simp[sN,ch]
 |n+1=>by
  rw[qC,Li a n,Am (λk=>ch (n+1) k*a^k) (n+1)];have e1:sN (λk=>ch (n+1) (k+1)*a^(k+1)) (n+1)=sN (λk=>a*(ch n k*a^k)) (n+1)+sN (λk=>ch n (k+1)*a^(k+1)) (n+1):=by
   rw[<-Pu];refine Kh λk _=>?_;rw[ch,Nat.add_mul,qC];congr 1;rw[tZ a,Nat.mul_assoc]
  have e2:sN (λk=>ch n k*a^k) (n+1)=1+sN (λk=>ch n (k+1)*a^(k+1)) (n+1):=by
   have e3:sN (λk=>ch n k*a^k) (n+1+1)=sN (λk=>ch n k*a^k) (n+1):=by rw[sN,tO n (n+1) ⋯,RG,yF]
   rw[<-e3,Am];rw[uM,zB]
  rw[e1,Kf,uM,zB,uy,wF,tZ];omega
theorem cQ.pow{p:Nat}(h:cQ p):∀a:Nat,a^p%p=a%p
 |0=>by rw[Nat.zero_pow (by have:=h.1;omega)]
 |a+1=>by
  obtain⟨n,rfl⟩:∃n,p=n+1:=⟨p-1,by have:=h.1;omega⟩;have e:(a+1)^(n+1)=1+sN (λk=>ch (n+1) (k+1)*a^(k+1)) n+a^(n+1):=by
   rw[Li,sN,Am,uM,zB,MN,Aa,Aa]
  obtain⟨c,hc⟩:(n+1)∣sN (λk=>ch (n+1) (k+1)*a^(k+1)) n:=RV λk hk=>Nat.dvd_trans (h.dch ⋯ ⋯) (K2 ..);rw[e,hc,show 1+(n+1)*c+a^(n+1)=(a^(n+1)+1)+(n+1)*c by omega,E7,Nat.add_mod,cQ.pow h a,<-Nat.add_mod]
def cQ.Xh{p a:Nat}(h:cQ p)(h0:a≠0)(ha:a<p):a^(p-1)%p=1:=by
 have hp:=h.1;have e:=h.pow a;obtain⟨n,rfl⟩:∃n,p=n+1:=⟨p-1,⋯⟩;rw[jO];have one:1<=a^n:=Nat.pow_pos ⋯;have d:(n+1)∣a*(a^n-1):=by
  have e2:a*(a^n-1)=a^(n+1)-a:=by rw[Nat.mul_sub,wF,qC,tZ]
  rw[e2];exact Nat.dvd_of_mod_eq_zero (Nat.sub_mod_eq_zero_of_mod_eq e)
 rcases h.dvd d with d|⟨c,hc⟩
 .exact absurd (MX ⋯ d) ⋯
 .rw[show a^n=1+(n+1)*c by omega,E7];exact AX ⋯
end Om
namespace Pm
open Rm
def Fi{p:Nat}{x:Int}:(p:Int)∣x↔p∣x.natAbs:=Int.ofNat_dvd_left
def abp{p:Nat}(hp:Om.cQ p){x y:Int}(h:(p:Int)∣x*y):(p:Int)∣x∨(p:Int)∣y:=by
 rw[Fi,Int.natAbs_mul]at h;rcases hp.dvd h with h|h
 .exact .inl (Fi.mpr h)
 .exact .inr (Fi.mpr h)
end Pm
namespace Dm
open Pm Rm
end Dm
namespace Dm
open Pm Rm
def Dom.pr{p:Nat}(hp:Om.cQ p):Dom (p:Int):=λx y hx h=>by
 have h2:=hp.1;obtain⟨e,he⟩:=Dw.mp h;rcases abp hp (x:=x) (y:=y) ⟨e,he⟩with⟨z,hz⟩|⟨z,hz⟩
 .exact absurd (Dw.mpr ⟨z,hz⟩) hx
 .exact Dw.mpr ⟨z,hz⟩
end Dm
namespace Pm
open Rm Dm
def Dv.len{b:Int}(h1:tk b 1=1){m p:List Int}(hm:Mon m)(hp:Mon p)(h:Dv b m (co p)):m.length<=p.length:=by
 by_cases c:m.length<=p.length
 .exact c
 .exfalso
  have:=h.short hm ((Fs.co p).mono ⋯) (p.length-1);rw[hp.one,h1]at this;exact absurd this ∅
def JN{b:Int}(h1:tk b 1=1){P g:List Int}(hP:Mon P)(hg:Mon g)(h:Dv b g (co P)):∃L:List Int,Mon L/\(∀k,tk b (co L k)=co L k)/\L.length+g.length=P.length+1/\∀k,tk b (co P k)=tk b (cv (co L) (co g) k):=by
 have hl:=h.len h1 hg hP;have hp:=hP.pos;have hgp:=hg.pos;obtain⟨s,n,hs,h⟩:=h;have key:∀d j,n<=j+d->P.length-g.length<j->tk b (s j)=0:=λd=>by
  induction d with
  |zero=>intro j hj _;rw[hs j hj,tk0]
  |succ d ih=>
   intro j hj hj2;have e:=h (j+(g.length-1));rw[bh ⋯,tk0,dz]at e;have e2:tk b (sm (j+(g.length-1)+1) λi=>s i*co g (j+(g.length-1)-i))=tk b (sm (j+(g.length-1)+1) λi=>if i=j then s j else 0):=eG λi hi=>by
    by_cases c:i=j
    .rw[if_pos c,c,wu,hg.one,iu]
    .rw[if_neg c,tk0];by_cases d2:i<j
     .rw[bh ⋯,cO,tk0]
     .rw[fj];exact wG _ (ih i ⋯ ⋯)
   rw[e2,mO,if_pos ⋯]at e;exact e.symm
 have z:∀k,P.length-g.length<k->tk b (s k)=0:=λk hk=>key n k ⋯ hk;have t1:tk b (s (P.length-g.length))=1:=by
  have e:=h (P.length-1);rw[hP.one,h1,dz]at e;have e2:tk b (sm (P.length-1+1) λi=>s i*co g (P.length-1-i))=tk b (sm (P.length-1+1) λi=>if i=P.length-g.length then s (P.length-g.length)else 0):=eG λi hi=>by
   by_cases c:i=P.length-g.length
   .rw[if_pos c,c,show P.length-1-(P.length-g.length)=g.length-1 by omega,hg.one,iu]
   .rw[if_neg c,tk0];by_cases d2:i<P.length-g.length
    .rw[bh ⋯,cO,tk0]
    .rw[fj];exact wG _ (z i ⋯)
  rw[e2,mO,if_pos ⋯]at e;exact e.symm
 have hc:∀k,co (aR (P.length-g.length+1) λk=>tk b (s k)) k=tk b (s k):=λk=>by
  rw[dj];by_cases c:k<P.length-g.length+1
  .rw[if_pos c]
  .rw[if_neg c,z k ⋯]
 refine⟨aR (P.length-g.length+1) λk=>tk b (s k),⟨by rw[bN];omega,?_⟩,λk=>?_,by rw[bN];omega,λk=>?_⟩
 .rw[bN,jO,hc,t1]
 .rw[hc,ig]
 .rw[h k];exact gD (λi _=>by rw[hc,ig]) λi _=>rfl
end Pm
namespace Pm
open Rm Dm
def wH{p:Nat}(hp:Om.cQ p):tk (p:Int) 1=1:=by
 have:=hp.1;rw[iV ⋯];exact u6 ∅ ⋯
def Dv.same{b:Int}(h1:tk b 1=1){m p:List Int}(hm:Mon m)(hp:Mon p)(h:Dv b m (co p))(hl:m.length=p.length)(k:Nat):tk b (co p k)=tk b (co m k):=by
 obtain⟨L,hL,_,hlen,e⟩:=JN h1 hp hm h;have hm0:=hm.pos;have h2:L.length=1:=⋯;have e0:co L 0=1:=by have:=hL.one;rwa [h2]at this
 rw[e k];refine congrArg (tk b) ?_;rw[dz,mH (m:=1) ⋯ λj h3 _=>by rw[bh (p:=L) ⋯,gC]];simp[sm,e0]
def bJ.to{b:Int}{g p q:List Int}(h:bJ b g [] p)(e:∀k,tk b (co p k)=tk b (co q k)):Dv b g (co q):=by
 obtain⟨u,h⟩:=h.dv;exact⟨co u,u.length,Fs.co u,λk=>by rw[<-e,h]⟩
end Pm
namespace Om
def Zc{n:Nat}(h2:2<=n)(h:∀d,2<=d->d*d<=n->¬d∣n):cQ n:=⟨h2,λd hd=>by
 by_cases c1:d=1
 .exact .inl c1
 by_cases c2:d=n
 .exact .inr c2
 exfalso
 obtain⟨e,he⟩:=hd;have d0:d≠0:=λz=>by rw[z,RG]at he;omega
 have e0:e≠0:=λz=>by rw[z,Nat.mul_zero]at he;omega
 have e1:e≠1:=λz=>by rw[z,wF]at he;omega
 by_cases c:d<=e
 .exact h d ⋯ (by rw[he];exact K5 d c) ⟨e,he⟩
 .exact h e ⋯ (by rw[he];exact Nat.mul_le_mul_right e ⋯) ⟨d,by rw[he,tZ]⟩⟩
def cQ.YH{p:Nat}{a:Int}(h:cQ p)(h0:0<a)(ha:a<(p:Int)):a^(p-1)%(p:Int)=1:=by
 obtain⟨n,rfl⟩:∃n:Nat,a=(n:Int):=⟨a.toNat,⋯⟩;have:=h.Xh (a:=n) ⋯ ⋯;have e:((n^(p-1)%p:Nat):Int)=((1:Nat):Int):=by rw[this]
 rw[B4,Int.natCast_pow]at e;exact e
end Om
namespace Pm
open Rm
def ac0{P:Nat}(hP:Om.cQ P){p:List Int}(hp:Py P p)(hn:p≠[]):oX P p (nC P p):=by
 have h2:=hP.1;have hpos:0<p.length:=Ed.mpr hn;have dO:(P:Int)≠0:=⋯;have iz:∀n,tk (P:Int) n=n%(P:Int):=λn=>iV dO n;have l0:=La hn hp.tr;have l1:=hp.co (p.length-1);rw[iz]at l1;have r0:0<=co p (p.length-1):=by rw[<-l1];exact rN _ dO
 have r1:co p (p.length-1)<(P:Int):=by rw[<-l1];exact tH _ ⋯
 generalize hl:co p (p.length-1)=a at l0 r0 r1;have hinv:(a^(P-2)*a)%(P:Int)=1:=by
  rw[<-qd,show(P-2).succ=P-1 by omega];exact hP.YH ⋯ r1
 have e:∀k,co (nC P p) k=co p k*a^(P-2)%(P:Int):=λk=>by
  rw[nC,Ii (by simp),hl]
 have len:(nC P p).length=p.length:=by rw[nC,aM]
 have top:co (nC P p) ((nC P p).length-1)=1:=by
  rw[len,e,hl,fj];exact hinv
 have hm:nC P p≠[]:=λz=>by rw[z]at len;simp at len;omega
 refine⟨⟨Js hm (by rw[top];decide),λx hx=>?_⟩,len,λ_=>⟨⋯,top⟩,⟨a^(P-2),λk=>?_⟩,⟨a,λk=>?_⟩⟩
 .obtain⟨y,_,rfl⟩:=fB.mp hx;rw[iz];exact mY _ (m6 _)
 .rw[e,iz,iz,mY _ (m6 _),fj]
 .rw[e,iz,iz,pU a,mY _ (m6 _),<-pU,Al a,fj a,pU,hinv];rw[iu,mY _ (m6 _)]
end Pm
namespace Pm
theorem Bq:∀(N n:Nat) (c:Nat->Nat),(∀i,i<n->c i<N)->(∀i j,i<j->j<n->c i≠c j)->n<=N
 |0,n,c,h,_=>by
  rcases Nat.eq_zero_or_pos n with z|z
  .omega
  .have:=h 0 z;omega
 |N+1,n,c,h,d=>by
  by_cases e:∃i,i<n/\c i=N
  .obtain⟨i0,hi0,e0⟩:=e;have:=Bq N (n-1) (λi=>c (if i<i0 then i else i+1)) (λi hi=>by
    have h1:(if i<i0 then i else i+1)<n:=by split<;>omega
    have h2:=h _ h1;have h3:c (if i<i0 then i else i+1)≠N:=λz=>by
     by_cases c1:i<i0
     .rw[if_pos c1]at z;exact d i i0 c1 hi0 (by rw[z,e0])
     .rw[if_neg c1]at z;exact d i0 (i+1) ⋯ ⋯ (by rw[z,e0])
    omega) λi j hij hj=>by
     have h1:(if i<i0 then i else i+1)<(if j<i0 then j else j+1):=by split<;>split<;>omega
     have h2:(if j<i0 then j else j+1)<n:=by split<;>omega
     exact d _ _ h1 h2
   omega
  .have:=Bq N n c (λi hi=>by
    have:=h i hi;have:c i≠N:=λz=>e ⟨i,hi,z⟩;omega) d
   omega
def code(p:Nat):List Int->Nat
 |[]=>0
 |x::r=>x.toNat+p*code p r
theorem Jf{p:Nat}:∀(xs:List Int),(∀x∈xs,0<=x/\x<(p:Int))->code p xs<p^xs.length
 |[],_=>C6
 |x::r,h=>by
  have hx:=h x (mU ..);have ih:=Jf r λy hy=>h y (gO _ hy);rw[tu,qC,code];have:p*(code p r+1)<=p*p^r.length:=K5 p ih;rw[uy,wF]at this;rw[tZ (p^r.length)];omega
theorem code_inj{p:Nat}:∀(xs ys:List Int),xs.length=ys.length->(∀x∈xs,0<=x/\x<(p:Int))->(∀x∈ys,0<=x/\x<(p:Int))->code p xs=code p ys->xs=ys
 |[],[],_,_,_,_=>rfl
 |[],_::_,h,_,_,_=>by cases h
 |_::_,[],h,_,_,_=>by cases h
 |x::r,y::t,hl,hx,hy,e=>by
  have h1:=hx x (mU ..);have h2:=hy y (mU ..);rw[code,code]at e;have m:=congrArg (· % p) e;simp only[E7]at m;rw[AX ⋯,AX ⋯]at m;have e2:code p r=code p t:=by
   rw[m]at e;exact Nat.eq_of_mul_eq_mul_left ⋯ (Nat.add_left_cancel e)
  rw[code_inj r t (by simpa using hl) (λz hz=>hx z (gO _ hz)) (λz hz=>hy z (gO _ hz)) e2];rw[show x=y by omega]
def win(f:Nat->Int)(l i:Nat):List Int:=(bQ l).map λj=>f (i+j)
def jL(f:Nat->Int)(l i:Nat):(win f l i).length=l:=by rw[win,aM,kI]
def kj(f:Nat->Int){l i j:Nat}(h:j<l):(win f l i).getD j 0=f (i+j):=by
 rw[win,List.getD_eq_getElem?_getD,List.getElem?_map,List.getElem?_range h];rfl
def aec(f:Nat->Int)(l i:Nat):(win f l i++[f (i+l)]).drop 1=win f l (i+1):=by
 have e:win f l i++[f (i+l)]=win f (l+1) i:=by
  rw[win,win,zW,iJ];rfl
 rw[e,win,win,JR,iY,List.drop_one,List.tail_cons,gj];exact pN λj _=>by show f (i+(j+1))=f (i+1+j);rw[show i+(j+1)=i+1+j by omega]
def Gd{p l n:Nat}{f:Nat->Int}(hf:∀i,0<=f i/\f i<(p:Int))(d:∀i j,i<j->j<n->win f l i≠win f l j):n<=p^l:=by
 have hw:∀i,∀x∈win f l i,0<=x/\x<(p:Int):=λi x hx=>by
  obtain⟨j,_,rfl⟩:=fB.mp hx;exact hf _
 refine Bq (p^l) n (λi=>code p (win f l i)) (λi _=>?_) λi j hij hj z=>d i j hij hj ?_
 .have:=Jf (win f l i) (hw i)
  rwa [jL]at this
 .exact code_inj _ _ (by rw[jL,jL]) (hw i) (hw j) z
structure oY(f:Nat->Int)(l bg ln:Nat):Prop where
 pos:0<ln
 again:win f l (bg+ln)=win f l bg
 first:∀i j,i<j->j<bg+ln->win f l i≠win f l j
def oY.uniq{f:Nat->Int}{l bg ln jC ln':Nat}(h:oY f l bg ln)(h':oY f l jC ln'):bg=jC/\ln=ln':=by
 have p:=h.pos;have p':=h'.pos;rcases Ig (bg+ln) (jC+ln')with c|c|c
 .exact absurd h.again.symm (h'.first bg (bg+ln) ⋯ c)
 .have:bg=jC:=by
   rcases Ig bg jC with d|d|d
   .have e:win f l bg=win f l jC:=by rw[<-h.again,c,h'.again]
    exact absurd e (h.first bg jC d ⋯)
   .exact d
   .have e:win f l jC=win f l bg:=by rw[<-h'.again,<-c,h.again]
    exact absurd e (h'.first jC bg d ⋯)
  exact⟨this,⋯⟩
 .exact absurd h'.again.symm (h.first jC (jC+ln') ⋯ c)
end Pm
namespace Pm
open Rm
def unit(n j:Nat):List Int:=aR n λi=>if i=j then 1 else 0
def jG(n j:Nat):(unit n j).length=n:=bN ..
def yE(n j i:Nat):(unit n j).getD i 0=if i<n then(if i=j then 1 else 0)else 0:=dj ..
def ej(b:Int)(rule:List Int)(j n:Nat):Int:=at_ b rule (unit rule.length j) n
def rH{b:Int}{rule:List Int}{j n:Nat}(h:n<rule.length):ej b rule j n=if n=j then 1 else 0:=by
 rw[ej,nO (by rw[jG];exact h),yE,if_pos h]
def abE{b:Int}{rule:List Int}(j:Nat):∀n,rule.length<=n->tk b (ej b rule j n)=tk b (S rule (ej b rule j) n rule.length):=Gk (by rw[jG])
def Jj{b:Int}(h1:tk b 1=1){rule:List Int}(j n:Nat):tk b (ej b rule j n)=ej b rule j n:=by
 by_cases h:n<rule.length
 .rw[rH h];split
  .exact h1
  .exact tk0 b
 .have e:ej b rule j n=tk b (S rule (ej b rule j) n rule.length):=mL (by rw[jG]) (by rw[jG];omega);rw[e,ig]
def UY{rule:List Int}{f:Nat->Int}{n j:Nat}(hn:rule.length<=n)(hj:j<rule.length)(h:∀i,i<n->f i=if i=n-rule.length+j then 1 else 0):
  S rule f n rule.length=co rule (rule.length-1-j):=by
 rw[nJ];have e:sm rule.length (λk=>co rule k*f (n-1-k))=sm rule.length (λk=>if k=rule.length-1-j then co rule (rule.length-1-j)else 0):=by
  refine bW λk hk=>?_;rw[h _ ⋯];by_cases e:k=rule.length-1-j
  .rw[if_pos e,if_pos ⋯,iu,e]
  .rw[if_neg e,if_neg ⋯,cO]
 rw[e,mO,if_pos ⋯]
def ace{b:Int}(h1:tk b 1=1){rule:List Int}{j:Nat}(hj:j<rule.length)(n:Nat):
  ej b rule j (n+1)=tk b ((if j=0 then 0 else ej b rule (j-1) n)+ej b rule (rule.length-1) n*co rule (rule.length-1-j)):=by
 have hw:=Vf (b:=b) (rule:=rule) (starts:=unit rule.length j) (w:=aR rule.length λi=>ej b rule j (1+i)) (d:=1) (by rw[jG]) (by rw[bN,jG]) (λi hi=>by
  rw[bN]at hi;have:=dj rule.length (λi=>ej b rule j (1+i)) i;rw[if_pos hi]at this;exact this) n
 have e:ej b rule j (n+1)=at_ b rule (aR rule.length λi=>ej b rule j (1+i)) n:=by rw[hw,Ah];rfl
 have hN:ej b rule j rule.length=tk b (co rule (rule.length-1-j)):=by
  have q:ej b rule j rule.length=tk b (S rule (ej b rule j) rule.length rule.length):=mL (by rw[jG]) (by rw[jG];omega);rw[q,UY (aO _) hj];intro i hi;rw[rH hi,pK,eO]
 by_cases h0:j=0
 .rw[e,if_pos h0];have q:=Rp (b:=b) (c:=co rule (rule.length-1-j)) (rule:=rule) (s1:=aR rule.length λ_=>0) (s2:=unit rule.length (rule.length-1)) (s3:=aR rule.length λi=>ej b rule j (1+i)) (by rw[bN]) (by rw[jG]) (by rw[bN]) (λi hi=>by
   rw[bN]at hi;have e1:=dj rule.length (λi=>ej b rule j (1+i)) i;have e2:=dj rule.length (λ_=>(0:Int)) i;rw[if_pos hi]at e1 e2;show co _ i=tk b (co _ i+_*(unit rule.length (rule.length-1)).getD i 0);rw[e1,e2,yE,if_pos hi];by_cases c:i=rule.length-1
   .rw[if_pos c,iu,gk,show 1+i=rule.length by omega,hN]
   .rw[if_neg c,cO,gk,tk0,rH ⋯,if_neg ⋯]) n
  rw[q];have z:at_ b rule (aR rule.length λ_=>0) n=0:=by
   refine yd (by rw[bN]) (g:=λ_=>0) (λi hi=>?_) (λi _=>?_) n
   .have:=dj rule.length (λ_=>(0:Int)) i;show(0:Int)=co _ i;rw[this];split<;>rfl
   .rw[nJ,uK (λk _=>cO _),tk0]
  rw[z,fj];rfl
 .rw[e,if_neg h0];have q:=Rp (b:=b) (c:=co rule (rule.length-1-j)) (rule:=rule) (s1:=unit rule.length (j-1)) (s2:=unit rule.length (rule.length-1)) (s3:=aR rule.length λi=>ej b rule j (1+i)) (by rw[jG]) (by rw[jG]) (by rw[bN]) (λi hi=>by
   rw[bN]at hi;have e1:=dj rule.length (λi=>ej b rule j (1+i)) i;rw[if_pos hi]at e1;show co _ i=tk b ((unit rule.length (j-1)).getD i 0+_*(unit rule.length (rule.length-1)).getD i 0);rw[e1,yE,yE,if_pos hi,if_pos hi];by_cases c:i=rule.length-1
   .rw[if_pos c,if_neg ⋯,iu,gk,show 1+i=rule.length by omega,hN]
   .rw[if_neg c,cO,fL,rH ⋯];by_cases d:i=j-1
    .rw[if_pos d,if_pos ⋯,h1]
    .rw[if_neg d,if_neg ⋯,tk0]) n
  rw[q,fj];rfl
theorem G8(f:Nat->Int):∀n:Nat,sm n f=sm n (λk=>f (n-1-k))
 |0=>rfl
 |n+1=>by
  rw[mW,G8 (λi=>f (i+1)) n,sm];rw[j6];congr 1
  .exact bW λk hk=>by rw[show n-1-k+1=n+1-1-k by omega]
  .rw[show n+1-1-n=0 by omega]
theorem Lr{b:Int}(h1:tk b 1=1){rule:List Int}{a:Nat->Int}(ha:∀n,rule.length<=n->tk b (a n)=tk b (S rule a n rule.length)):
  ∀n m,tk b (sm rule.length λk=>ej b rule k n*a (m+k))=tk b (a (m+n))
 |0,m=>by
  by_cases h0:rule.length=0
  .rw[h0,ha (m+0) ⋯,h0];rfl
  .have e:sm rule.length (λk=>ej b rule k 0*a (m+k))=sm rule.length (λk=>if k=0 then a m else 0):=by
    refine bW λk _=>?_;rw[rH ⋯];by_cases e:k=0
    .rw[if_pos e,if_pos e.symm,mD,e];rfl
    .rw[if_neg e,if_neg (λz=>e z.symm),gC]
   rw[e,mO,if_pos ⋯];rfl
 |n+1,m=>by
  by_cases h0:rule.length=0
  .rw[h0,ha (m+(n+1)) ⋯,h0];rfl
  obtain⟨N,hN⟩:∃N,rule.length=N+1:=⟨rule.length-1,⋯⟩;have ih:=Lr h1 ha n (m+1);rw[show m+(n+1)=m+1+n by omega,<-ih];have e1:tk b (sm rule.length λk=>ej b rule k (n+1)*a (m+k))=tk b (sm rule.length λk=>(if k=0 then 0 else ej b rule (k-1) n)*a (m+k)+ej b rule N n*(co rule (N-k)*a (m+k))):=by
   refine eG λk hk=>?_;rw[ace h1 hk,lu,DM,qH,hN];rfl
  rw[e1,rZ,jT,hN];have e2:sm (N+1) (λk=>(if k=0 then 0 else ej b rule (k-1) n)*a (m+k))=sm N (λk=>ej b rule k n*a (m+1+k)):=by
   rw[mW,if_pos rfl,gC,gk];refine bW λk _=>?_;rw[if_neg ⋯,jO,show m+(k+1)=m+1+k by omega]
  have e3:tk b (sm (N+1) λk=>co rule (N-k)*a (m+k))=tk b (a (m+1+N)):=by
   rw[show m+1+N=m+(N+1)by omega,ha (m+(N+1)) ⋯,nJ,hN];congr 1;rw[G8];refine bW λk hk=>?_;rw[show N-(N+1-1-k)=k by omega,show m+(N+1-1-k)=m+(N+1)-1-k by omega]
  rw[e2];show _=tk b (sm N _+_);rw[<-jQ,<-dU,e3,dU,jQ]
def Gr(b:Int)(rule:List Int)(a:Nat->Int):Prop:=∀n,rule.length<=n->tk b (a n)=tk b (S rule a n rule.length)
def Gr.shift{b:Int}{rule:List Int}{a:Nat->Int}(h:Gr b rule a)(m:Nat):Gr b rule λn=>a (n+m):=λn hn=>by
 have e:(λn=>a (n+m))=λn=>a (m+n):=funext λn=>by rw[Ah]
 rw[e,xW hn];exact h (m+n) ⋯
def Vy{b:Int}{p:List Int}{a a':Nat->Int}(h:∀n,tk b (a n)=tk b (a' n))(n:Nat):tk b (ks p a n)=tk b (ks p a' n):=
 eG λk _=>by rw[<-dU,h,dU]
def Pw(b:Int)(rule:List Int)(m:Nat)(p:List Int):Prop:=∀a,Gr b rule a->∀n,tk b (ks p a n)=tk b (a (n+m))
def Pw.one(b:Int)(rule:List Int):Pw b rule 0 [1]:=λa _ n=>by simp[ks,sm,fD]
def Pw.x(b:Int)(rule:List Int):Pw b rule 1 [0,1]:=λa _ n=>by simp[ks,sm,fD,jR]
theorem Pw.mul{b:Int}{rule:List Int}{m m':Nat}{p q:List Int}(h:Pw b rule m p)(h':Pw b rule m' q):Pw b rule (m+m') (mul b p q):=λa ha n=>by
 rw[O8,Vy (h' a ha),h _ (ha.shift m'),yx]
def Pw.left{b:Int}{rule:List Int}{m:Nat}{p q r:List Int}(h:Pw b rule m p)(d:Div b p (aH b rule) q r):Pw b rule m r:=λa ha n=>by
 rw[<-h a ha n];have e1:∀k,tk b (co (Pm.add b (Pm.mul b q (aH b rule)) r) k)=tk b (co p k):=λk=>by rw[Dc,wB,ig,d9];exact d.eq k
 rw[<-acP e1,Uw,<-d9,(Kp.aH ha).Vh q n,gk]
def Tf(b:Int)(rule:List Int)(j:Nat):Gr b rule (ej b rule j):=abE j
theorem Pw.co{b:Int}(h1:tk b 1=1){rule:List Int}{m:Nat}{r:List Int}(h:Pw b rule m r)(hy:Py b r)(hs:r.length<=rule.length){j:Nat}(hj:j<rule.length):Pm.co r j=ej b rule j m:=by
 have q:=h _ (Tf b rule j) 0;rw[eO,Jj h1,<-oE r _ 0 hs]at q;have e:sm rule.length (λk=>Pm.co r k*ej b rule j (0+k))=sm rule.length (λk=>if k=j then Pm.co r j else 0):=bW λk hk=>by
  rw[eO,rH hk];by_cases c:k=j
  .rw[if_pos c,if_pos c,iu,c]
  .rw[if_neg c,if_neg c,cO]
 rw[e,mO,if_pos hj,hy.co]at q;exact q
def rest(b:Int)(rule:List Int)(m:Nat):List Int:=aR rule.length λj=>ej b rule j m
def A9(b:Int)(rule:List Int)(m:Nat):(rest b rule m).length=rule.length:=bN ..
def abS{b:Int}{rule:List Int}{m j:Nat}(hj:j<rule.length):Pm.co (rest b rule m) j=ej b rule j m:=by rw[rest,dj,if_pos hj]
def V7{b:Int}(h1:tk b 1=1){rule:List Int}{a:Nat->Int}(ha:Gr b rule a)(n m:Nat):tk b (sm rule.length λk=>Pm.co (rest b rule n) k*a (m+k))=tk b (a (m+n)):=by
 rw[<-Lr h1 ha n m];exact congrArg (tk b) (bW λk hk=>by rw[abS hk])
def abo{b x:Int}(hb:0<b):0<=tk b x/\tk b x<b:=by
 rw[iV ⋯];exact⟨rN _ ⋯,tH _ hb⟩
end Pm
namespace K44
open PySem L2
seal PA PE PS eZ PT PW PI PG tW PO sS
def top(i:Nat):Stmt:=PySem.Challenge.pw_nextbyrule_k44_whole_far_by_rounds.main.body.getD i (.Pass ⟨0,0,0,0⟩)
abbrev B6:Stmt:=top 8
abbrev Di:Stmt:=top 9
abbrev C4:Stmt:=top 10
abbrev AJ:Stmt:=top 12
abbrev Cm:Stmt:=top 13
abbrev FT:Stmt:=top 15
abbrev EY:Stmt:=top 16
abbrev Ef:Stmt:=top 17
abbrev Ci:Stmt:=top 18
abbrev Dg:Stmt:=top 19
abbrev C8:Stmt:=top 20
abbrev Gb:Stmt:=top 21
abbrev Dy:Stmt:=top 22
abbrev DP:Stmt:=top 23
abbrev En:Stmt:=top 31
abbrev E8:Stmt:=top 32
abbrev CZ:Stmt:=top 34
abbrev Es:Stmt:=top 35
abbrev BD:Stmt:=top 36
abbrev FP:Stmt:=top 39
abbrev Fj:Stmt:=top 40
abbrev C9:Stmt:=top 41
abbrev Dd:Stmt:=top 42
abbrev BH:Stmt:=top 43
abbrev BJ:Stmt:=top 46
abbrev Cp:Stmt:=top 47
abbrev CQ:Stmt:=top 48
abbrev Fd:Stmt:=top 49
abbrev Dr:Stmt:=top 51
abbrev DV:Stmt:=top 52
abbrev Fq:Stmt:=top 53
abbrev Dq:Stmt:=top 54
abbrev Cz:Stmt:=top 55
abbrev qF:Stmt:=top 56
def adE:aZ ["by","number"] ["by","number"] (aQ B6):=bL
def pZ:aZ ["prime","number","power","square","left"] ["prime","number"] (aQ Di):=bL
def Vk:aZ ["by","one","other"] ["by","one","other"] (aQ C4):=bL
def xH:aZ ["by","rule","before","total","k"] ["by","rule","before"] (aQ AJ):=bL
def vR:aZ ["row","count","by","rule","starts","found"] ["row","count"] (aQ Cm):=bL
def Dh:aZ ["numbers","end"] ["numbers"] (aQ FT):=bL
def af5:aZ ["poly","k"] ["poly","k"] (aQ EY):=bL
def xV:aZ ["by","one","other","total","i","k"] ["by","one","other"] (aQ Ef):=bL
def qZ:aZ ["by","one","other","top","often","left","shift","factor","k"] ["by","one","other"] (aQ Ci):=bL
def Qp:aZ ["prime","poly","last"] ["prime","poly"] (aQ Dg):=bL
def sW:aZ ["by","one","other","great","small","left"] ["by","one","other"] (aQ C8):=bL
def Br:aZ ["by","rule","length","numbers"] ["by","rule"] (aQ Gb):=bL
def M4:aZ ["by","poly","length"] ["by","poly"] (aQ Dy):=bL
def Zr:aZ ["by","poly","found","n"] ["by","poly","found","n"] (aQ DP):=bL
def WV:aZ ["one","other","told","modulus","prime","ripe","seen","before"] ["one","other"] (aQ En):=bL
def afH:aZ ["by","one","other"] ["by","one","other"] (aQ E8):=bL
def tK:aZ ["row","poly","by","starts","top","k","parts"] ["row","poly"] (aQ CZ):=bL
def Ac:aZ ["row","by","poly","top"] ["row"] (aQ Es):=bL
def D5:aZ ["row","least","rule"] ["row"] (aQ BD):=bL
def zH:aZ ["prime","length","windows","turn"] ["prime","length"] (aQ FP):=bL
def MH:aZ ["row","least"] ["row"] (aQ Fj):=bL
def qW:aZ ["row","by","rule","window","seen","begin"] ["row"] (aQ C9):=bL
def V4:aZ ["row"] ["row"] (aQ Dd):=bL
def nQ:aZ ["row","number","least","found","begin","length","numbers","early","starts"] ["row","number"] (aQ BH):=bL
def ab9:aZ ["by","n"] ["by","n"] (aQ BJ):=bL
def rD:aZ ["by","poly","n","left","figure","doubled"] ["by","poly","n"] (aQ Cp):=bL
def yJ:aZ ["row","n","by","rule","left"] ["row","n"] (aQ CQ):=bL
def Y0:aZ ["row","n"] ["row","n"] (aQ Fd):=bL
def Bk:aZ ["_law_script","_law_k","_law_mixed"] ["_law_script","_law_k"] (aQ Dr):=bL
def qp:aZ ["_law_script","_law_at_here","_law_by","_law_most","_law_size","_law_cells","_law_rule"] ["_law_script","_law_at_here"] (aQ DV):=bL
def lV:aZ ["_law_row_here","_law_count","_law_by","_law_rule","_law_starts","_law_found","_law_total","_law_k"] ["_law_row_here","_law_count"] (aQ Fq):=bL
def zx:aZ ["_law_by","_law_size","_law_many","_law_k"] ["_law_by","_law_size"] (aQ Dq):=bL
def zM:aZ ["_law_row_here","_law_number","_law_n","_law_begin","_law_early","_law_starts","_law_length"] ["_law_row_here","_law_number","_law_n","_law_begin"] (aQ Cz):=bL
def eV:aZ ["_law_script","_law_row_here","_law_begin","_law_length","_law_going_here","_law_k","_law_n","_law_at_here","_law_found","_law_other","_law_places_told","_law_number","_law_early","_law_starts","_law_count"] ["_law_script"] (aQ qF):=bL
abbrev ad7:=jF [(".0",.local),("number",.local),("over",.globalImplicit),("last",.cell),("prime",.cell)]
abbrev afy:=jF [(".0",.local),("k",.local),("taken",.globalImplicit),("by",.cell),("length",.cell),("rule",.cell)]
abbrev acC:=jF [(".0",.local),("k",.local),("taken",.globalImplicit),("by",.cell),("length",.cell),("poly",.cell)]
abbrev Yv:=jF [(".0",.local),("k",.local),("found",.cell),("n",.cell),("poly",.cell)]
abbrev Yr:=jF [(".0",.local),("j",.local),("k",.cell),("poly",.cell),("starts",.cell)]
abbrev Wb:=jF [(".0",.local),("n",.local),("number",.cell),("numbers",.cell)]
abbrev abG:=jF [(".0",.local),("n",.local),("number",.cell),("numbers",.cell)]
abbrev WQ:=jF [(".0",.local),("i",.local),("number_at",.globalImplicit),("left",.cell)]
abbrev XY:=jF [(".0",.local),("_law_k",.local),("_law_at",.globalImplicit),("_law_at_here",.cell),("_law_script",.cell)]
abbrev YV:=jF [(".0",.local),("_law_cell",.local),("int",.globalImplicit),("_law_by",.cell)]
abbrev agf:=jF [(".0",.local),("_law_cell",.local),("_law_by",.cell)]
structure Bt(mg:Str->Option Value):Prop where
 aaL:mg "int" = none
 bK:mg "len" = none
 xr:mg "list" = none
 Yb:mg "max" = none
 dD:mg "range" = none
 acr:mg "sorted" = none
 MS:mg "sum" = none
 pB:mg "tuple" = none
 NZ:∃t,mg "BELOW_THE_PRIMES" = some (.int 1000000 t)
 Dl:∃t,mg "FARTHEST_BY_0" = some (.int 400 t)
 Gm:∃t,mg "MOST_WINDOWS" = some (.int 4096 t)
structure Ms(K:aA)(mg:Str->Option Value)(base:Heap)(bH aY:Addr):Prop where
 agI:mg "NoBy" = some (.ref bH)
 agE:mg "TooLong" = some (.ref aY)
 afD:yq mg base "NoBy" bH
 agJ:Ol K bH
 Mx:iW K (.ref bH) (.ref bH)=some true
 Iw:iW K (.ref bH) (.ref aY)=some false
 Ib:iW K (.ref bH) (.type "ValueError")=some true
 af7:yq mg base "TooLong" aY
 agL:Ol K aY
 Gu:iW K (.ref aY) (.ref bH)=some false
 Jh:iW K (.ref aY) (.ref aY)=some true
 Q0:iW K (.ref aY) (.type "ValueError")=some true
abbrev DW:Nat:=14
def fJ(a:Int){b:Int}(h:0<b):0<=a%b:=rN _ ⋯
def fP(a:Int){b:Int}(h:0<b):a%b<b:=tH _ h
def cM{ns:List Int}{k:Int}(h0:0<=k)(h1:k<(ns.length:Int)):kO (ns.map V.int) k=some (.int (ns.getD k.toNat 0)):=by
 have e:k=((k.toNat:Nat):Int):=⋯;have hk:k.toNat<ns.length:=⋯
 conv=>lhs;rw[e]
 exact abh (by rw[List.getElem?_map,List.getElem?_eq_getElem hk,List.getD_eq_getElem?_getD,List.getElem?_eq_getElem hk]<;>rfl)
def dec_true{p:Prop}[Decidable p](c:decide p=true):p:=of_decide_eq_true c
def dec_false{p:Prop}[Decidable p](c:¬decide p=true):¬p:=of_decide_eq_false (Bool.eq_false_iff.mpr c)
def aJ{X:Cx}(i:Nat){x:Str}{e:Expr}{te:TE}{pos pos':Pos}(hN:X.N.Nodup)(he:PE X e te)(hi:X.N[i]?=some x:=by rfl)(hx:Loc X.env.scope x:=by exact mz rfl)(hs:swapsWith e (some (.Name x pos')) pos.line X.env=pure false:=by rfl)
  (hf:X.fn x=true∨X.env.scope.names.lookup x=some .local:=by first|exact .inl rfl|exact .inr rfl|assumption):PS X (.Assign [.Name x pos'] e pos) (wN te (iU i)):=nZ hN hi hx he hs hf
def bT{X:Cx}(i:Nat){x:Str}{pos:Pos}(hN:X.N.Nodup)(hi:X.N[i]?=some x:=by rfl)(hx:Loc X.env.scope x:=by exact mz rfl)(hf:X.fn x=true∨X.env.scope.names.lookup x=some .local:=by first|exact .inl rfl|exact .inr rfl|assumption):PG X (.Name x pos) (iU i):=Qm hN hi hx hf
def aP{X:Cx}(K:aA){a b:Expr}{ta tb:TE}{pos:Pos}(ha:PE X a ta)(hb:PE X b tb)(hK:X.K=K:=by rfl)(hs:Lp b:=by exactλ_ _=>rfl):PE X (.Subscript a b pos) (qg (xQ K) ta tb):=aey (xix K hK) ha hb hs
def pad{X:Cx}(K:aA){a b:Expr}{ta tb:TE}{pos:Pos}(ha:PE X a ta)(hb:PE X b tb)(hK:X.K=K:=by rfl):PE X (.BinOp a .Add b pos) (qg (yN K) ta tb):=aD (abH K hK) ha hb
def bV{X:Cx}(K:aA)(hm:X.mg "len" = none){e:Expr}{es:List Expr}{t:TA}{p pos:Pos}(ha:PA X (e::es) t)(hg:Gl X "len" := by rfl)(hK:X.K=K:=by rfl)
  (he:starEach (e::es) X.env=(false,eval e X.env)::starEach es X.env:=by rfl) (hpl:(backTo pos (starEach es X.env)).any (·.1)=false:=by rfl):PE X (.Call (.Name "len" p) (e::es) [] pos) (DN (λxs H Q=>∃x n,xs=[x]/\AF K x H n/\Q (.int n) H) t):=
 pO (agc K hK) hg hm boot_len ha ∅ ∅ he hpl
def cC{X:Cx}{op:CmpOp}{r:R2}{a b:Expr}{ta tb:TE}{pos:Pos}(ho:aX X (compareOp op) r)(ha:PE X a ta)(hb:PE X b tb)(hm:behindInMarks op b=false:=by exact yS _):PT X (.Compare a [op] [b] pos) (JM (qg r ta tb)):=abM ho ha hb hm
abbrev cX(x:Str)(k:Nat)(ps:List Str)(sp:Sp)(P w K mg base):=fV P w K mg base x k ps sp
def aN{X:Cx}{x:Str}{k k':Nat}{ps:List Str}{sp:Sp}{p pos:Pos}{e:Expr}{es:List Expr}{t:TA}(C:fV X.prog X.w X.K X.mg X.base x k ps sp)(hr:bI k' X.A)(ha:PA X (e::es) t)(hg:Gl X x:=by rfl)
  (hk:k<=k':=by decide) (hd:(x==("__debug__" : Str))=false:=by decide)
  (he:starEach (e::es) X.env=(false,eval e X.env)::starEach es X.env:=by rfl) (hpl:(backTo pos (starEach es X.env)).any (·.1)=false:=by rfl):PE X (.Call (.Name x p) (e::es) [] pos) (yU sp [] E0 t):=U8 C hr hg ha hk hd he hpl
def wL(b x:Int):Prop:=b=0∨(0<=x/\x<b)
structure Rw where
 b:Int
 rule:List Int
 starts:List Int
structure cG(r:Rw):Prop where
 len:r.rule.length=r.starts.length
 short:r.rule.length<=12
 gM:0<=r.b
 wY:Rm.Bd 2000 r.b
 agH:∀x∈r.rule,wL r.b x
 vY:∀x∈r.starts,wL r.b x
 zF:∀x∈r.rule,Rm.Bd 2000 x
 DF:∀x∈r.starts,Rm.Bd 2000 x
def Rw.row(r:Rw)(n:Nat):List Int:=Rm.row r.b r.rule r.starts n
def Rw.at(r:Rw)(n:Nat):Int:=Rm.at_ r.b r.rule r.starts n
theorem Rw.jD(r:Rw)(n:Nat):(r.row n).length=n:=Rm.jD ..
def uQ{x y:Int}{m n:Nat}(h:Rm.Bd m x)(h':Rm.Bd n y)(hn:m+n<=134217728):IntMulOk x y:=
 IntMulOk.of_le (intBits_le_iff.mpr h) (intBits_le_iff.mpr h') hn
def dW(H:Hp)(v:V)(r:Rw):Prop:=
 ∃a p q,v = .ref a/\H a=some (.tup [.int r.b,.ref p,.ref q])/\H p=some (.tup (r.rule.map V.int))/\H q=some (.tup (r.starts.map V.int))
def dW.same{H H':Hp}{v:V}{r:Rw}(h:dW H v r)(g:Same H H'):dW H' v r:=by
 obtain⟨a,p,q,e,h1,h2,h3⟩:=h;exact⟨a,p,q,e,g _ _ h1,g _ _ h2,g _ _ h3⟩
def Bm(xs:List Int)(x:Int):(xs++[x]).map V.int=xs.map V.int++[.int x]:=by rw[iJ];rfl
def Told(H:Hp)(Q:VK)(xs:List V):Prop:=∀r H',Same H H'->H r=none->H' r=some (.lst xs)->Q (.ref r) H'
inductive acR(K:aA)(vs:List V)(H:Hp)(Q:VK)(E:XK):Prop|mk (a:Addr) (ns:List Int) (cA:vs=[.ref a]) (cF:aC K H a (ns.map V.int)) (cD:ns.length<=63) (cH:(∀x∈ns,pA x<=1048576)) (dh:∀H',Q (.bl true) H')
def CW(K:aA):Sp:=acR K
def xP(xs:List V)(k:Nat):d7 xs none (some (k:Int))=xs.take k:=by
 unfold d7;rw[HT.jZ,HT.nT,DY,lU,List.take_eq_take_iff];omega
def MJ(xs:List V){k:Nat}(h:k<=xs.length):d7 xs (some (k:Int)) none=xs.drop k:=by
 unfold d7;rw[HT.jZ,HT.nT,Hr h,uI (by rw[pD];omega)]
def rQ(H:Hp)(Q:VK)(ns:List Int):Prop:=∀p H',Same H H'->H' p=some (.tup (ns.map V.int))->Q (.ref p) H'
def QJ{xs:List Int}{n:Nat}(h:0<n)(hn:n<=xs.length):xs.take n=xs.take (n-1)++[xs.getD (n-1) 0]:=by
 obtain⟨m,rfl⟩:∃m,n=m+1:=⟨n-1,⋯⟩;rw[jO,Fv,List.getElem?_eq_getElem ⋯,List.getD_eq_getElem?_getD,List.getElem?_eq_getElem ⋯];rfl
def agb{xs:List Int}{n:Nat}(h:0<n)(hn:n<=xs.length)(ht:Pm.trim (xs.take n)=Pm.trim xs)(h0:xs.getD (n-1) 0=0):Pm.trim (xs.take (n-1))=Pm.trim xs:=by
 rw[QJ h hn,h0,Pm.Iz]at ht;exact ht
def RL{xs:List Int}{n:Nat}(hn:n<=xs.length)(ht:Pm.trim (xs.take n)=Pm.trim xs)(h0:n=0∨xs.getD (n-1) 0≠0):xs.take n=Pm.trim xs:=by
 rcases h0 with h0|h0
 .subst h0;rw[<-ht];rfl
 .by_cases hz:n=0
  .subst hz;rw[<-ht];rfl
  .rw[<-ht,QJ ⋯ hn,Pm.Ep _ h0]
def Bl{n j:Nat}{i:Int}(e:i=(j:Int))(h:j<n):nF n i=some j:=by
 subst e;unfold nF;rw[if_pos ⋯,if_pos ⋯,dw]
def EJ(L:List Int)(j:Nat)(x:Int):(L.map V.int).set j (.int x)=(L.set j x).map V.int:=by rw[List.map_set]
def Rt(n:Nat):(fu n [V.int 0]).flatten=(Pm.aR n λ_=>0).map V.int:=by
 induction n with
 |zero=>rfl
 |succ n ih=>
  rw[Pm.IZ,iJ,<-ih,List.replicate_succ',List.flatten_append];rfl
def yQ{n:Nat}{ix:List (Option Nat)}{te:TE}{σ:St}{H1:Hp}{Q:VK}(hz:n<=1000){rest:St}(hst:cst ix σ=none::rest)(f:Nat->Int)
  (he:∀H' k,Same H1 H'->k<n->∀kk:VK,kk (.int (f k)) H'->te (some (.int (0+(k:Int)))::rest) H' kk)
  (hQ:∀D,H1 D=none->Q (.ref D) (upd H1 D (.lst ((Pm.aR n f).map V.int)))):oh ix (iU 0) tQ te σ Q (gQ 0 n) H1:=by
 refine vL zE (by rw[aM,kI];exact jK (kZ hz)) hst (λ_=>true) (λx=>match x with | .int k=> .int (f k.toNat)|_=> .non) ?_ ?_ ?_
 .intro H2 x g2 hx k hk;exact hk
 .intro H2 x g2 hx _ k hk;obtain⟨j,hj,rfl⟩:=fB.mp hx;have e1:(0+(j:Int)).toNat=j:=⋯;refine he H2 j g2 (jW.mp hj) k ?_;have hk':k (V.int (f (0+(j:Int)).toNat)) H2:=hk
  rwa [e1]at hk'
 .intro D hD;have el:((((bQ n).map λi=>V.int (0+(i:Nat))).filter λ_=>true).map λx=>match x with | .int k=>V.int (f k.toNat)|_=>V.non)=(Pm.aR n f).map V.int:=by
   rw[zQ.mpr (by simp),gj,Pm.aR,gj];refine pN λk _=>?_;show V.int (f (0+(k:Int)).toNat)=V.int (f k);rw[show(0+(k:Int)).toNat=k by omega]
  rw[el];exact hQ D hD
def aar{K:aA}{a:Addr}{xs:List Int}{ix:List (Option Nat)}{te:TE}{σ:St}{H1:Hp}{Q:VK}(hA:H1 a=some (.tup (xs.map V.int)))(hz:xs.length<=1000){rest:St}(hst:cst ix σ=none::rest)(f:Int->Int)
  (he:∀H' x,Same H1 H'->x∈xs->∀kk:VK,kk (.int (f x)) H'->te (some (.int x)::rest) H' kk)
  (hQ:∀D,H1 D=none->Q (.ref D) (upd H1 D (.lst ((xs.map f).map V.int)))):oh ix (iU 0) tQ te σ Q (yw K a) H1:=by
 refine vL (XD (aq.of hA)) (by rw[aM];exact jK (kZ hz)) hst (λ_=>true) (λx=>match x with | .int k=> .int (f k)|_=> .non) ?_ ?_ ?_
 .intro H2 x g2 hx k hk;exact hk
 .intro H2 x g2 hx _ k hk;obtain⟨y,hy,rfl⟩:=fB.mp hx;exact he H2 y g2 hy k hk
 .intro D hD;have el:(((xs.map V.int).filter λ_=>true).map λx=>match x with | .int k=>V.int (f k)|_=>V.non)=(xs.map f).map V.int:=by
   rw[zQ.mpr (by simp),gj,gj];rfl
  rw[el];exact hQ D hD
def Lx{K:aA}{a:Addr}{xs:List Int}{ix:List (Option Nat)}{te:TE}{σ:St}{H1:Hp}{Q:VK}(hA:H1 a=some (.lst (xs.map V.int)))(hz:xs.length<=1000){rest:St}(hst:cst ix σ=none::rest)(f:Int->Int)
  (he:∀H' x,Same H1 H'->x∈xs->∀kk:VK,kk (.int (f x)) H'->te (some (.int x)::rest) H' kk)
  (hQ:∀D,H1 D=none->Q (.ref D) (upd H1 D (.lst ((xs.map f).map V.int)))):oh ix (iU 0) tQ te σ Q (uW K a) H1:=by
 refine vL (aeY (aC.of hA)) (by rw[aM];exact jK (kZ hz)) hst (λ_=>true) (λx=>match x with | .int k=> .int (f k)|_=> .non) ?_ ?_ ?_
 .intro H2 x g2 hx k hk;exact hk
 .intro H2 x g2 hx _ k hk;obtain⟨y,hy,rfl⟩:=fB.mp hx;exact he H2 y g2 hy k hk
 .intro D hD;have el:(((xs.map V.int).filter λ_=>true).map λx=>match x with | .int k=>V.int (f k)|_=>V.non)=(xs.map f).map V.int:=by
   rw[zQ.mpr (by simp),gj,gj];rfl
  rw[el];exact hQ D hD
def ZK{n:Nat}{ix:List (Option Nat)}{te:TE}{σ:St}{H1:Hp}{Q:VK}(hz:n<=1000){rest:St}(hst:cst ix σ=none::rest)(P:Int->Prop)
  (he:∀H' k,Same H1 H'->k<n->∀kk:VK,(∀x H2,Same H' H2->P x->kk (.int x) H2)->te (some (.int (0+(k:Int)))::rest) H' kk)
  (hQ:∀D H' xs,H1 D=none->Same H1 H'->H' D=some (.lst (gW V.int xs))->xs.length=n->(∀x∈xs,P x)->Q (.ref D) H'):oh ix (iU 0) tQ te σ Q (gQ 0 n) H1:=by
 have I:uO (gQ 0 n) ((bQ n).map λi=>V.int (0+(i:Nat))) H1:=zE;have lI:((bQ n).map λi=>V.int (0+(i:Nat))).length=n:=by rw[aM,kI]
 constructor;intro D hD;refine⟨λi m σ' H'=>m=n-i/\i<=n/\(∃o,σ'=o::rest)/\Same H1 H'/\∃xs:List Int,H' D=some (.lst (xs.map V.int))/\xs.length=i/\∀x∈xs,P x,⟨n,rfl,cZ _,⟨none,hst⟩,Same.new hD _,[],aG,rfl,λ_ h=>nomatch h⟩,?_⟩;rintro i m σ' H' ⟨rfl,hi,⟨o,rfl⟩,g,xs,hl,lx,hP⟩;by_cases hlt:i<n
 .refine .inr ⟨I.go i _ g (by rw[lI];exact hlt),λx H2 y=>?_⟩;obtain⟨rfl,hx⟩:=I.nD i _ x H2 g y;have hx:=hx (by rw[lI];exact hlt);rw[List.getElem?_map,List.getElem?_range hlt]at hx;cases hx;change te (some (.int (0+(i:Int)))::rest) H2 _;refine he H2 i g hlt _ λx H3 g3 hx=>⟨_,g3 _ _ hl,by rw[aM,lx];exact kZ ⋯,n-(i+1),⋯,rfl,hlt,⟨_,rfl⟩,Same.upd (g.trans g3) hD _,xs++[x],?_,by rw[gK,lx];rfl,λz hz=>?_⟩
  .rw[aG,Bm]
  .rcases fK.mp hz with hz|hz
   .exact hP z hz
   .rw[xK.mp hz];exact hx
 .have e:i=n:=⋯;subst e;exact .inl ⟨I.stop _ _ g (by rw[lI];exact aO _),hQ D H' xs hD g hl lx hP⟩
def je:∀P∈Om.uo,2<=P/\P<1000:=by decide +kernel
inductive Wc(vs:List V)(H:Hp)(Q:VK)(E:XK):Prop|mk (b n:Int) (cA:vs=[.int b,.int n]) (cF:0<=b) (cD:Q (.int (Rm.tk b n)) H)
def Ur:Sp:=Wc
abbrev jV:=cX "taken" 1 ["by","number"] Ur
inductive afk(K:aA)(vs:List V)(H:Hp)(Q:VK)(E:XK):Prop|mk (b:Int) (r s:Addr) (rule before:List Int) (cA:vs=[.int b,.ref r,.ref s]) (cF:0<=b) (cD:aq K H r (rule.map V.int)) (cH:(aC K H s (before.map V.int)∨aq K H s (before.map V.int))) (dh:rule.length<=before.length) (fW:rule.length<=12) (pq:before.length<=5000) (Ai:(∀x∈rule,Rm.Bd 2000 x)) (zq:(∀x∈before,Rm.Bd 2100000 x)) (ML:Q (.int (Rm.tk b (Rm.S rule (λi=>before.getD i 0) before.length rule.length))) H)
def Tq(K:aA):Sp:=afk K
abbrev Bs(P w K mg base):=fV P w K mg base "next_place" 2 ["by","rule","before"] (Tq K)
def cG.LX{r:Rw}(h:cG r)(hb:0<r.b)(n:Nat):∀x∈r.row n,Rm.Bd 2100000 x:=by
 intro x hx;have e:r.row n=(bQ n).map r.at:=Rm.wC ..;rw[e]at hx;obtain⟨i,_,rfl⟩:=fB.mp hx;have:=Rm.zu h.len hb (λy hy=>by
  rcases h.vY y hy with z|z
  .omega
  .exact z) i
 have e2:r.at i=Rm.at_ r.b r.rule r.starts i:=rfl;rw[e2];have b1:=h.wY;have b2:Rm.Bd 2000 (Rm.at_ r.b r.rule r.starts i):=C7 ⋯ b1;exact b2.mono ∅
inductive Vs(K:aA)(vs:List V)(H:Hp)(Q:VK)(E:XK):Prop|mk (v:V) (r:Rw) (c:Int) (cA:vs=[v,.int c]) (cF:dW H v r) (cD:cG r) (cH:0<r.b) (dh:0<=c) (fW:c<=4096) (pq:Told H Q ((r.row c.toNat).map V.int))
def Uq(K:aA):Sp:=Vs K
abbrev Ia(P w K mg base):=fV P w K mg base "first_places" 3 ["row","count"] (Uq K)
inductive WL(vs:List V)(H:Hp)(Q:VK)(E:XK):Prop|mk (P:Nat) (a:Int) (cA:vs=[.int P,.int a]) (cF:Om.cQ P) (cD:P<2097152) (cH:0<a) (dh:a<(P:Int)) (fW:∀x:Int,0<=x->x<2097152->x%(P:Int)=a^(P-2)%(P:Int)->Q (.int x) H)
def R7:Sp:=WL
abbrev Q8:=cX "inverse" 2 ["prime","number"] R7
inductive aaA(vs:List V)(H:Hp)(Q:VK)(E:XK):Prop|mk (P:Nat) (one other:Int) (cA:vs=[.int P,.int one,.int other]) (cF:Om.cQ P) (cD:P<2097152) (cH:0<other) (dh:other<(P:Int)) (fW:Q (.int (one*other^(P-2)%(P:Int))) H)
def Z4:Sp:=aaA
abbrev Nk:=cX "over" 3 ["by","one","other"] Z4
inductive acy(K:aA)(vs:List V)(H:Hp)(Q:VK)(E:XK):Prop|mk (l:Addr) (xs:List Int) (cA:vs=[.ref l]) (cF:aC K H l (xs.map V.int)) (cD:rQ H Q (Pm.trim xs))
def ab4(K:aA):Sp:=acy K
abbrev wz(P w K mg base):=fV P w K mg base "trimmed" 1 ["numbers"] (ab4 K)
inductive ac2(vs:List V)(H:Hp)(Q:VK)(E:XK):Prop|mk (a:Addr) (p:List Int) (k:Int) (cA:vs=[.ref a,.int k]) (cF:H a=some (.tup (p.map V.int))) (cD:0<=k) (cH:Q (.int (Pm.co p k.toNat)) H)
def Vu:Sp:=ac2
abbrev Ru:=cX "number_at" 1 ["poly","k"] Vu
inductive TQ(vs:List V)(H:Hp)(Q:VK)(E:XK):Prop|mk (b:Int) (a c:Addr) (p r:List Int) (cA:vs=[.int b,.ref a,.ref c]) (cF:0<=b) (cD:H a=some (.tup (p.map V.int))) (cH:H c=some (.tup (r.map V.int))) (dh:p.length<=400) (fW:r.length<=400) (pq:(∀x∈p,Rm.Bd 1000000 x)) (Ai:(∀x∈r,Rm.Bd 1000000 x)) (zq:rQ H Q (Pm.mul b p r))
def Wv:Sp:=TQ
abbrev Nu:=cX "times" 2 ["by","one","other"] Wv
def acQ(H:Hp)(Q:VK)(b:Int)(P M:List Int):Prop:=∀t x y q r H',Same H H'->H' t=some (.tup [.ref x,.ref y])->H' x=some (.tup (gW V.int q))->H' y=some (.tup (gW V.int r))->Pm.Div b P M q r->
 (∀z∈q,True)->(∀z∈r,True)->q.length<=P.length->Q (.ref t) H'
inductive Xl(vs:List V)(H:Hp)(Q:VK)(E:XK):Prop|mk (b:Int) (a c:Addr) (P M:List Int) (cA:vs=[.int b,.ref a,.ref c]) (cF:0<b) (cD:b<2097152) (cH:H a=some (.tup (P.map V.int))) (dh:H c=some (.tup (M.map V.int))) (fW:P.length<=40) (pq:M.length<=40) (Ai:Pm.Mon M) (zq:(∀k,Rm.tk b (Pm.co P k)=Pm.co P k)) (ML:acQ H Q b P M)
def Zn:Sp:=Xl
def ae2{b x:Int}(h0:0<b)(h1:b<2097152)(h:Rm.tk b x=x):-(2^64)<x/\x<2^64:=by
 rw[<-h,Rm.iV ⋯];have:=fJ x h0;have:=fP x h0;omega
def sV{n:Nat}(h:n<=1000):-(2^62)<=(n:Int)/\(n:Int)<2^62:=⋯
def ixs{s t n:Nat}(h:s+t<n):0<=(s:Int)+(0+(t:Int))/\(s:Int)+(0+(t:Int))<(n:Int):=⋯
def Jz{s m n:Nat}(hm:0<m)(h:s+m<=n):0<=(s:Int)+((m:Int)-1)/\(s:Int)+((m:Int)-1)<(n:Int):=⋯
def Oe{t n:Nat}(h:t<n):0<=0+(t:Int)/\0+(t:Int)<(n:Int):=⋯
def max_zero(m n:Nat):(if(m:Int)-((n:Int)-1)>0 then(m:Int)-((n:Int)-1)else 0).toNat=m-(n-1)∨n=0:=by
 by_cases h:n=0
 .exact .inr h
 .left;split<;>omega
abbrev wR:=cX "divided" 2 ["by","one","other"] Zn
def Tn(H:Hp)(Q:VK)(b:Int)(p:List Int):Prop:=∀t m H',Same H H'->H' t=some (.tup (gW V.int m))->Pm.oX b p m->Q (.ref t) H'
inductive afG(vs:List V)(H:Hp)(Q:VK)(E:XK):Prop|mk (P:Nat) (a:Addr) (p:List Int) (cA:vs=[.int P,.ref a]) (cF:Om.cQ P) (cD:P<2097152) (cH:H a=some (.tup (p.map V.int))) (dh:p.length<=300) (fW:Pm.Py P p) (pq:Tn H Q P p)
def Zi:Sp:=afG
abbrev K4:=cX "monic" 4 ["prime","poly"] Zi
def Nf(H:Hp)(Q:VK)(b:Int)(p r:List Int):Prop:=∀t g H',Same H H'->H' t=some (.tup (gW V.int g))->Pm.Gcd b p r g->g.length<=max p.length r.length->Q (.ref t) H'
inductive Sx(vs:List V)(H:Hp)(Q:VK)(E:XK):Prop|mk (P:Nat) (a c:Addr) (p r:List Int) (cA:vs=[.int P,.ref a,.ref c]) (cF:Om.cQ P) (cD:P<2097152) (cH:H a=some (.tup (p.map V.int))) (dh:H c=some (.tup (r.map V.int))) (fW:p.length<=40) (pq:r.length<=40) (Ai:Pm.Py P p) (zq:Pm.Py P r) (ML:(r=[]->p≠[])) (agD:Nf H Q P p r)
def adq:Sp:=Sx
abbrev QK:=cX "greatest" 5 ["by","one","other"] adq
def afs:Sp:=λ_ _ _ _=>False
abbrev MK:=cX "whole_greatest" 6 ["one","other"] afs
inductive aam(vs:List V)(H:Hp)(Q:VK)(E:XK):Prop|mk (b:Int) (a:Addr) (c:List Int) (cA:vs=[.int b,.ref a]) (cF:0<=b) (cD:H a=some (.tup (c.map V.int))) (cH:c.length<=100) (dh:rQ H Q (Pm.aH b c))
def aaT:Sp:=aam
abbrev BR:=cX "of_rule" 2 ["by","rule"] aaT
inductive acg(vs:List V)(H:Hp)(Q:VK)(E:XK):Prop|mk (b:Int) (a:Addr) (p:List Int) (cA:vs=[.int b,.ref a]) (cF:0<=b) (cD:H a=some (.tup (p.map V.int))) (cH:0<p.length) (dh:p.length<=100) (fW:rQ H Q (Pm.jj b p))
def Zk:Sp:=acg
abbrev MZ:=cX "rule_of" 2 ["by","poly"] Zk
def Sq{lo:Int}{n:Nat}{ix:List (Option Nat)}{te:TE}{σ:St}{H1:Hp}{Q:VK}(hz:n<=1000){rest:St}(hst:cst ix σ=none::rest)(f:Nat->Int)
  (he:∀H' k,Same H1 H'->k<n->∀kk:VK,kk (.int (f k)) H'->te (some (.int (lo+(k:Int)))::rest) H' kk)
  (hQ:∀D,H1 D=none->Q (.ref D) (upd H1 D (.lst ((Pm.aR n f).map V.int)))):oh ix (iU 0) tQ te σ Q (gQ lo n) H1:=by
 refine vL zE (by rw[aM,kI];exact jK (kZ hz)) hst (λ_=>true) (λx=>match x with | .int k=> .int (f (k-lo).toNat)|_=> .non) ?_ ?_ ?_
 .intro H2 x g2 hx k hk;exact hk
 .intro H2 x g2 hx _ k hk;obtain⟨j,hj,rfl⟩:=fB.mp hx;have e1:(lo+(j:Int)-lo).toNat=j:=⋯;refine he H2 j g2 (jW.mp hj) k ?_;have hk':k (V.int (f (lo+(j:Int)-lo).toNat)) H2:=hk
  rwa [e1]at hk'
 .intro D hD;have el:((((bQ n).map λi=>V.int (lo+(i:Nat))).filter λ_=>true).map λx=>match x with | .int k=>V.int (f (k-lo).toNat)|_=>V.non)=(Pm.aR n f).map V.int:=by
   rw[zQ.mpr (by simp),gj,Pm.aR,gj];refine pN λk _=>?_;show V.int (f (lo+(k:Int)-lo).toNat)=V.int (f k);rw[show(lo+(k:Int)-lo).toNat=k by omega]
  rw[el];exact hQ D hD
def adQ:(Om.uo.all λp=>(bQ 32).all λd=>decide (d<2)||decide (p<d*d)||decide (p%d≠0))=true:=by decide +kernel
def Il{P:Nat}(h:P∈Om.uo):Om.cQ P:=by
 have hr:=je P h;refine Om.Zc hr.1 λd hd hdd hdv=>?_;have h32:d<32:=by
  by_cases c:d<32
  .exact c
  .have:32*32<=d*d:=GF ⋯ ⋯;omega
 have:=oZ.mp (oZ.mp adQ P h) d (jW.mpr h32);simp only[yW,decide_eq_true_eq]at this;have:=Nat.mod_eq_zero_of_dvd hdv;omega
def m8(r:Rw):List Int:=Pm.trim (Pm.aR r.rule.length λk=>Rm.tk r.b (Pm.tp (Pm.aH r.b r.rule) r.at k))
def J4(r:Rw)(k:Nat):Pm.co (m8 r) k=Rm.tk r.b (Pm.tp (Pm.aH r.b r.rule) r.at k):=by
 rw[m8,Pm.mq,Pm.dj];by_cases c:k<r.rule.length
 .rw[if_pos c]
 .rw[if_neg c,Pm.yr _ _ k (by rw[Pm.iw];omega),Pm.tk0]
def aen(r:Rw):(m8 r).length<=r.rule.length:=by
 have:=Pm.pL (Pm.aR r.rule.length λk=>Rm.tk r.b (Pm.tp (Pm.aH r.b r.rule) r.at k))
 rwa [Pm.bN]at this
def cG.VG{r:Rw}(ok:cG r):∀x∈Pm.aH r.b r.rule,Rm.Bd 2000 x:=by
 intro x hx;rcases fK.mp hx with hx|hx
 .obtain⟨k,_,rfl⟩:=Pm.Az hx;refine Rm.ZY ok.gM ok.wY ?_;have:=Pm.acS ok.zF (r.rule.length-1-k);unfold Rm.Bd at this⊢;rw[FY,Int.natAbs_neg];exact this
 .rw[xK.mp hx];exact(Rm.Bd.of (n:=10) ∅ ∅).mono ∅
def W4(i k:Nat):(0+(i:Int)+1+(k:Int)).toNat=i+1+k:=⋯
def ixv(i k:Nat):(0+(i:Int)+1+(k:Int)-1-(0+(i:Int))).toNat=k:=⋯
def Hy{i k m n:Nat}(h:k<m-i)(hn:n=m+1):0<=0+(i:Int)+1+(k:Int)/\0+(i:Int)+1+(k:Int)<(n:Int):=⋯
def J9{i k m n:Nat}(h:k<m-i)(hn:m=n):0<=0+(i:Int)+1+(k:Int)-1-(0+(i:Int))/\0+(i:Int)+1+(k:Int)-1-(0+(i:Int))<(n:Int):=⋯
inductive aci(vs:List V)(H:Hp)(Q:VK)(E:XK):Prop|mk (v:V) (r:Rw) (a:Addr) (cA:vs=[v,.ref a]) (cF:dW H v r) (cD:cG r) (cH:H a=some (.tup ((Pm.aH r.b r.rule).map V.int))) (dh:rQ H Q (m8 r))
def Sw:Sp:=aci
abbrev Mt:=cX "top_of" 2 ["row","poly"] Sw
inductive aeO(vs:List V)(H:Hp)(Q:VK)(E:XK):Prop|mk (b:Int) (a c:Addr) (P t:List Int) (cA:vs=[.int b,.ref a,.ref c]) (cF:H a=some (.tup (P.map V.int))) (cD:H c=some (.tup (t.map V.int))) (cH:P.length<=40) (dh:t.length<=40) (fW:Pm.Mon P) (pq:(∃p:Nat,b=(p:Int)/\Om.cQ p/\p<2097152/\Pm.Py p P/\Pm.Py p t/\Nf H Q p P t))
def Ud:Sp:=aeO
abbrev RM:=cX "shared_divisor" 7 ["by","one","other"] Ud
structure fQ(b:Int)(f:Nat->Int)(L:List Int):Prop where
 mon:Pm.Mon L
 nu:∀k,Rm.tk b (Pm.co L k)=Pm.co L k
 kp:Pm.Kp b L f
 all:∀q,Pm.Kp b q f->Pm.Dv b L (Pm.co q)
def fU(b:Int):Prop:=∃P:Nat,P∈Om.uo/\b=(P:Int)
def fU.one{b:Int}(h:fU b):Rm.tk b 1=1:=by
 obtain⟨P,hP,rfl⟩:=h;exact Pm.wH (Il hP)
def Nh{b:Int}{L:List Int}(h:Pm.Mon L)(hn:∀k,Rm.tk b (Pm.co L k)=Pm.co L k):Pm.Py b L:=⟨Pm.Js (λz=>by have:=h.pos;rw[z]at this;exact absurd this ∅) (by rw[h.one];decide),λx hx=>by
 obtain⟨k,hk,e⟩:=D9.mp hx;have:=hn k
 rwa [Pm.tD hk,e]at this⟩
def UG(b:Int)(c:List Int)(h1:Rm.tk b 1=1)(k:Nat):Rm.tk b (Pm.co (Pm.aH b c) k)=Pm.co (Pm.aH b c) k:=by
 have h:∀x∈Pm.aH b c,Rm.tk b x=x:=λx hx=>by
  rcases fK.mp hx with hx|hx
  .obtain⟨j,_,e⟩:=Pm.Az hx;rw[e,Rm.ig]
  .rw[xK.mp hx,h1]
 by_cases hk:k<(Pm.aH b c).length
 .exact h _ (Pm.ED hk)
 .rw[Pm.bh ⋯,Pm.tk0]
def YQ{p:Nat}(hp:Om.cQ p){r:Rw}(ok:cG r)(hb:r.b=(p:Int)){g L o:List Int}(hG:Pm.Gcd p (Pm.aH r.b r.rule) (m8 r) g)(D:Pm.Div p (Pm.aH r.b r.rule) g o L):fQ r.b r.at o/\o.length<=r.rule.length+1:=by
 have h1:=Pm.wH hp;have hm:=Pm.yO r.b r.rule;have hd:Pm.Dv p g (Pm.co (Pm.aH r.b r.rule)):=hG.one.to λ_=>rfl;obtain⟨L',hL',hn',hl',e'⟩:=Pm.JN h1 hm hG.mon hd;have D':Pm.Div p (Pm.aH r.b r.rule) g L' []:=⟨Nh hL' hn',Pm.Py.nil _,hG.mon.pos,λk=>by rw[Pm.fR,fL];exact(e' k).symm⟩;obtain⟨eo,_⟩:=D.uniq hG.mon D';subst eo;have W:Pm.Gj p (Pm.aH p r.rule) (Pm.tp (Pm.aH p r.rule) r.at) g:=by
  rw[<-hb];refine⟨hG.mon,by rw[hb];rw[hb]at hd;exact hd,?_,?_⟩
  .rw[hb];refine(hG.two.to (q:=m8 r) λ_=>rfl).congr λk=>?_;rw[J4,hb,Rm.ig]
  .obtain⟨u,v,e⟩:=hG.sum;refine⟨1,Pm.co u,Pm.co v,u.length+v.length,by rw[hb,h1];decide,(Pm.Fs.co u).mono ⋯,(Pm.Fs.co v).mono ⋯,λk=>?_⟩;rw[mD,hb];rw[hb]at e;rw[e k];refine Rm.fX rfl (Pm.gD (λ_ _=>rfl) λi _=>?_);rw[J4,hb,Rm.ig]
 have ha:∀n,r.rule.length<=n->Rm.tk (p:Int) (r.at n)=Rm.tk p (Rm.S r.rule r.at n r.rule.length):=by
  rw[<-hb];exact Pm.Gk ok.len
 have K:=W.keeps (Dm.Dom.pr hp) ha hL' (by rw[<-hb];rw[<-hb]at e';exact e');refine⟨⟨hL',by rw[hb];exact hn',?_,λq hq=>?_⟩,?_⟩
 .rw[hb];refine(K o).mpr ⟨λk=>if k=0 then 1 else 0,1,λk hk=>if_neg ⋯,λk=>?_⟩;rw[Pm.wD,if_pos (cZ _),mD,lU]
 .rw[hb]at hq ⊢;exact(K q).mp hq
 .have:=hG.mon.pos;rw[Pm.iw]at hl';omega
inductive ac7(vs:List V)(H:Hp)(Q:VK)(E:XK):Prop|mk (v:V) (r:Rw) (cA:vs=[v]) (cF:dW H v r) (cD:cG r) (cH:fU r.b) (dh:∀t L H',Same H H'->H' t=some (.tup (gW V.int L))->fQ r.b r.at L->L.length<=r.rule.length+1->Q (.ref t) H')
def Yk:Sp:=ac7
abbrev Io:=cX "least_of" 8 ["row"] Yk
def eX(r:Rw)(L:List Int):Rw:=⟨r.b,Pm.jj r.b L,r.starts.take (L.length-1)⟩
inductive adb(vs:List V)(H:Hp)(Q:VK)(E:XK):Prop|mk (v:V) (r:Rw) (cA:vs=[v]) (cF:dW H v r) (cD:cG r) (cH:fU r.b) (dh:∀v' L H',Same H H'->dW H' v' (eX r L)->fQ r.b r.at L->L.length<=r.rule.length+1->Q v' H')
def aaK:Sp:=adb
abbrev D4:=cX "shortest" 9 ["row"] aaK
def SN{b x:Int}(h:wL b x):Rm.tk b x=x:=by
 rcases h with rfl|⟨h1,h2⟩
 .exact Rm.u0 x
 .rw[Rm.iV ⋯];exact u6 h1 h2
def cG.QZ{r:Rw}(ok:cG r)(n:Nat):wL r.b (r.at n):=by
 by_cases h:r.b=0
 .exact .inl h
 .have h0:=ok.gM;refine .inr (Rm.zu ok.len ⋯ (λx hx=>?_) n);rcases ok.vY x hx with z|z
  .exact absurd z h
  .exact z
def cG.wJ{r:Rw}(ok:cG r)(n:Nat):Rm.tk r.b (r.at n)=r.at n:=SN (ok.QZ n)
def JX{r:Rw}(hn:∀n,Rm.tk r.b (r.at n)=r.at n){L:List Int}(h:fQ r.b r.at L)(hl:L.length<=r.starts.length+1)(n:Nat):(eX r L).at n=r.at n:=by
 have hp:=h.mon.pos;refine Pm.ago h.nu h.mon h.kp hn (starts:=r.starts.take (L.length-1)) ?_ ?_ n
 .rw[iB];omega
 .intro i hi;rw[iB]at hi;have e:r.at i=r.starts.getD i 0:=Rm.nO ⋯;rw[e,List.getD_eq_getElem?_getD,List.getElem?_take,if_pos ⋯,<-List.getD_eq_getElem?_getD]
def Je{r:Rw}(ok:cG r)(hB:fU r.b){L:List Int}(h:fQ r.b r.at L)(hl:L.length<=r.rule.length+1):cG (eX r L):=by
 obtain⟨P,hP,e⟩:=hB;have hr:=je P hP;have hs:=ok.short;have hle:=ok.len;have hp:=h.mon.pos;have qO:∀x∈Pm.jj r.b L,0<=x/\x<r.b:=λx hx=>by
  obtain⟨k,_,rfl⟩:=Pm.Az hx;rw[Rm.iV ⋯];exact⟨fJ _ ⋯,fP _ ⋯⟩
 refine⟨?_,?_,ok.gM,ok.wY,λx hx=> .inr (qO x hx),λx hx=>ok.vY x (N8 hx),λx hx=>?_,λx hx=>ok.DF x (N8 hx)⟩
 .show(Pm.jj r.b L).length=(r.starts.take (L.length-1)).length;rw[Pm.j5,iB];omega
 .show(Pm.jj r.b L).length<=12;rw[Pm.j5];omega
 .have:=qO x hx;exact(Rm.Bd.of (n:=10) ⋯ ⋯).mono ∅
def fQ.uniq{b:Int}(h1:Rm.tk b 1=1){f:Nat->Int}{L L':List Int}(h:fQ b f L)(h':fQ b f L'):L=L':=by
 have d:=h.all L' h'.kp;have d':=h'.all L h.kp;have l1:=d.len h1 h.mon h'.mon;have l2:=d'.len h1 h'.mon h.mon;refine Pm.yp ⋯ λk=>?_;rw[<-h.nu k,<-h'.nu k];exact(d.same h1 h.mon h'.mon ⋯ k).symm
def aeV{b:Int}{f:Nat->Int}{L:List Int}(h:fQ b f L)(hf:∀i,Rm.tk b (f i)=f i){n:Nat}(hn:L.length-1<=n)(i j:Nat):Pm.win f n i=Pm.win f n j↔Pm.win f (L.length-1) i=Pm.win f (L.length-1) j:=by
 have hp:=h.mon.pos;obtain⟨d,hd⟩:∃d,L.length=d+1:=⟨L.length-1,⋯⟩;have hone:=h.mon.one;rw[hd,jO]at hone;have e1:L.length-1=d:=⋯;rw[e1]at hn⊢;constructor
 .intro z;refine Pm.yp (by rw[Pm.jL,Pm.jL]) λk=>?_;by_cases c:k<d
  .have:=congrArg (λl:List Int=>l.getD k 0) z;rw[Pm.kj _ ⋯,Pm.kj _ ⋯]at this;exact(Pm.kj f c).trans (this.trans (Pm.kj f c).symm)
  .rw[Pm.bh (by rw[Pm.jL];omega),Pm.bh (by rw[Pm.jL];omega)]
 .intro z;have al:∀k,f (i+k)=f (j+k):=λk=>by
   induction k using xU with
   |ind k ih=>
    by_cases c:k<d
    .have:=congrArg (λl=>l.getD k 0) z
     rwa [Pm.kj _ c,Pm.kj _ c]at this
    .have k1:=h.kp (i+(k-d));have k2:=h.kp (j+(k-d));unfold Pm.ks at k1 k2;rw[hd,Pm.sm,hone,mD,show i+(k-d)+d=i+k by omega]at k1;rw[hd,Pm.sm,hone,mD,show j+(k-d)+d=j+k by omega]at k2;have eA:Pm.sm d (λt=>Pm.co L t*f (i+(k-d)+t))=Pm.sm d (λt=>Pm.co L t*f (j+(k-d)+t)):=Pm.bW λt ht=>by
      rw[show i+(k-d)+t=i+(k-d+t)by omega,show j+(k-d)+t=j+(k-d+t)by omega,ih (k-d+t) ⋯]
     rw[eA]at k1;generalize Pm.sm d (λt=>Pm.co L t*f (j+(k-d)+t))=A at k1 k2;have t1:Rm.tk b (f (i+k))=Rm.tk b (-A):=by
      have:=Rm.d9 b (A+f (i+k)) (-A);rw[k1,gk,show A+f (i+k) + -A=f (i+k)by omega]at this;exact this.symm
     have t2:Rm.tk b (f (j+k))=Rm.tk b (-A):=by
      have:=Rm.d9 b (A+f (j+k)) (-A);rw[k2,gk,show A+f (j+k) + -A=f (j+k)by omega]at this;exact this.symm
     rw[<-hf (i+k),<-hf (j+k),t1,t2]
  exact pN λk _=>al k
inductive aaq(C:Addr)(vs:List V)(H:Hp)(Q:VK)(E:XK):Prop|mk (P l:Nat) (cA:vs=[.int P,.int l]) (cF:P<1000) (cD:l<=12) (cH:(P^l<=4096->Q .non H)) (dh:(4096<P^l->E (.ref C) none H))
def aao(C:Addr):Sp:=aaq C
abbrev Oz(P w K mg base aY):=fV P w K mg base "refuse_wide" 1 ["prime","length"] (aao aY)
def C5(C1 C2:Addr)(H:Hp)(E:XK)(r:Rw)(G:List Int->Prop):Prop:=
 (r.b=0->E (.ref C1) none H)/\(r.b≠0->fU r.b/\∀L,fQ r.b r.at L->L.length<=r.rule.length+1->(4096<r.b.toNat^(L.length-1)->∀H',Same H H'->E (.ref C2) none H')/\(r.b.toNat^(L.length-1)<=4096->G L))
def ae1(C1 C2:Addr):Sp:=λvs H Q E=>∃(v:V) (r:Rw),vs=[v]/\dW H v r/\cG r/\C5 C1 C2 H E r λL=>∀v' H',Same H H'->dW H' v' (eX r L)->Q v' H'
abbrev Fg(P w K mg base bH aY):=fV P w K mg base "round_row" 10 ["row"] (ae1 bH aY)
def KK(xs:List Int):List Key:=xs.map .inl
def CY(xs:List Int):(KK xs).map kV=xs.map V.int:=by rw[KK,gj];rfl
def QC{xs ys:List Int}(h:KK xs=KK ys):xs=ys:=by
 have:=congrArg (gW kV) h;rw[CY,CY]at this;exact(List.map_inj_right (λa b e=>by cases e;rfl)).mp this
structure Seen(f:Nat->Int)(l n:Nat)(kvs:List (List Key×V)):Prop where
 len:kvs.length=n
 at_:∀i,i<n->bU kvs (KK (Pm.win f l i))=some (.int (i:Int))
 out:∀k,(∀i,i<n->k≠KK (Pm.win f l i))->bU kvs k=none
 diff:∀i j,i<j->j<n->Pm.win f l i≠Pm.win f l j
def Seen.more{f:Nat->Int}{l n:Nat}{kvs:List (List Key×V)}(h:Seen f l n kvs)(hn:bU kvs (KK (Pm.win f l n))=none):Seen f l (n+1) (putK kvs (KK (Pm.win f l n)) (.int (n:Int))):=by
 have d:∀i,i<n->Pm.win f l i≠Pm.win f l n:=λi hi z=>by
  have:=h.at_ i hi;rw[z,hn]at this;cases this
 refine⟨?_,λi hi=>?_,λk hk=>?_,λi j hij hj=>?_⟩
 .rw[aew _ hn,gK,h.len];rfl
 .rw[Jx];by_cases c:i=n
  .rw[c,if_pos rfl]
  .rw[if_neg λz=>d i ⋯ (QC z)];exact h.at_ i ⋯
 .rw[Jx,if_neg (hk n ⋯)];exact h.out k λi hi=>hk i ⋯
 .by_cases c:j=n
  .rw[c];exact d i ⋯
  .exact h.diff i j hij ⋯
def Vr{b x:Int}(hb:Rm.Bd 2000 b)(h0:0<=x)(h1:x<b):Rm.Bd 2000 x:=by
 unfold Rm.Bd at hb⊢;omega
inductive aeL(vs:List V)(H:Hp)(Q:VK)(E:XK):Prop|mk (v:V) (r:Rw) (cA:vs=[v]) (cF:dW H v r) (cD:cG r) (cH:0<r.b) (dh:r.b.toNat^r.rule.length<=4096) (fW:∀(bg ln:Nat) p H',Same H H'->H' p=some (.tup [.int (bg:Int),.int (ln:Int)])->Pm.oY r.at r.rule.length bg ln->Q (.ref p) H')
def YJ:Sp:=aeL
abbrev E5:=cX "came_round" 3 ["row"] YJ
def afT(C1 C2:Addr):Sp:=λvs H Q E=>∃(v:V) (r:Rw),vs=[v]/\dW H v r/\cG r/\C5 C1 C2 H E r λL=>∀(bg ln:Nat) p H',Same H H'->H' p=some (.tup [.int (bg:Int),.int (ln:Int)])->Pm.oY r.at (L.length-1) bg ln->Q (.ref p) H'
abbrev HS(P w K mg base bH aY):=fV P w K mg base "round_of" 11 ["row"] (afT bH aY)
def bM(p:Nat->Bool)(lo n:Nat):List Int:=(((bQ n).map (lo + ·)).filter p).map λ(i:Nat)=>(i:Int)
def xO(p:Nat->Bool)(lo n:Nat):(bM p lo n).length<=n:=by
 rw[bM,aM];refine cJ (Jt ..) ?_;rw[aM,kI];exact aO _
def Kq{lo n:Nat}{ix:List (Option Nat)}{tc:TT}{te:TE}{σ:St}{H1:Hp}{Q:VK}(hz:n<=sizeLine){rest:St}(hst:cst ix σ=none::rest)(p:Nat->Bool)
  (ht:∀H' k,Same H1 H'->k<n->∀kk:Bool->Hp->Prop,kk (p (lo+k)) H'->tc (some (.int ((lo:Int)+(k:Int)))::rest) H' kk)
  (he:∀H' k,Same H1 H'->k<n->∀kk:VK,kk (.int ((lo:Int)+(k:Int))) H'->te (some (.int ((lo:Int)+(k:Int)))::rest) H' kk)
  (hQ:∀D,H1 D=none->Q (.ref D) (upd H1 D (.lst ((bM p lo n).map V.int)))):oh ix (iU 0) tc te σ Q (gQ (lo:Int) n) H1:=by
 refine vL zE (by rw[aM,kI];exact hz) hst (λx=>match x with | .int k=>p k.toNat|_=>false) (λx=>x) ?_ ?_ ?_
 .intro H2 x g2 hx k hk;obtain⟨j,hj,rfl⟩:=fB.mp hx;have e1:((lo:Int)+(j:Int)).toNat=lo+j:=⋯;refine ht H2 j g2 (jW.mp hj) k ?_;have hk':k (p ((lo:Int)+(j:Int)).toNat) H2:=hk
  rwa [e1]at hk'
 .intro H2 x g2 hx hp k hk;obtain⟨j,hj,rfl⟩:=fB.mp hx;exact he H2 j g2 (jW.mp hj) k hk
 .intro D hD;have el:((((bQ n).map λi=>V.int ((lo:Int)+(i:Nat))).filter λx=>match x with | .int k=>p k.toNat|_=>false).map λx=>x)=(bM p lo n).map V.int:=by
   rw[List.map_id',bM,Nb,Nb,gj,gj];have e2:((λx=>match x with|V.int k=>p k.toNat|_=>false)∘λ(i:Nat)=>V.int ((lo:Int)+(i:Nat)))=p∘(lo + ·):=by
    funext i
    show p ((lo:Int)+(i:Int)).toNat=p (lo+i);rw[show((lo:Int)+(i:Int)).toNat=lo+i by omega]
   rw[e2];refine pN λi _=>?_;show V.int ((lo:Int)+(i:Int))=V.int (((lo+i:Nat)):Int);rw[yG]
  have:=hQ D hD;rw[<-el]at this;exact this
def bZ(f:Nat->Int)(x:Int):Nat->Bool:=λi=>decide (f i=x)
def Ou(C1 C2:Addr):Sp:=λvs H Q E=>∃(v:V) (r:Rw) (x:Int),vs=[v,.int x]/\dW H v r/\cG r/\C5 C1 C2 H E r λL=>
 ∀(bg ln:Nat) p le ls H',Same H H'->Pm.oY r.at (L.length-1) bg ln->bg+ln<=4096->H' p=some (.tup [.ref le,.ref ls,.int (ln:Int)])->H' le=some (.lst ((bM (bZ r.at x) 0 bg).map V.int))->H' ls=some (.lst ((bM (bZ r.at x) bg ln).map V.int))->H le=none->H ls=none->le≠ls->Q (.ref p) H'
abbrev DB(P w K mg base bH aY):=fV P w K mg base "where" 12 ["row","number"] (Ou bH aY)
def fQ.Us{b:Int}{f:Nat->Int}{L:List Int}(h:fQ b f L)(hf:∀i,Rm.tk b (f i)=f i){i j:Nat}(z:Pm.win f (L.length-1) i=Pm.win f (L.length-1) j)(k:Nat):f (i+k)=f (j+k):=by
 have:=congrArg (λl:List Int=>l.getD k 0) ((aeV h hf (n:=L.length-1+(k+1)) ⋯ i j).mpr z)
 rwa [Pm.kj _ ⋯,Pm.kj _ ⋯]at this
def fQ.per{b:Int}{f:Nat->Int}{L:List Int}(h:fQ b f L)(hf:∀i,Rm.tk b (f i)=f i){bg ln:Nat}(hr:Pm.oY f (L.length-1) bg ln)(n:Nat)(hn:bg<=n):f (n+ln)=f n:=by
 have:=h.Us hf hr.again (n-bg)
 rwa [show bg+ln+(n-bg)=n+ln by omega,show bg+(n-bg)=n by omega]at this
def jd(n bg ln:Nat):Nat:=if n<bg then n else bg+(n-bg)%ln
theorem NW{f:Nat->Int}{bg ln:Nat}(hp:∀n,bg<=n->f (n+ln)=f n)(n:Nat)(hn:bg<=n):∀q,f (n+ln*q)=f n
 |0=>rfl
 |q+1=>by rw[Nat.mul_succ,<-yx,hp _ ⋯,NW hp n hn q]
def Vz{f:Nat->Int}{bg ln:Nat}(hp:∀n,bg<=n->f (n+ln)=f n)(n t:Nat):f (jd n bg ln+t)=f (n+t):=by
 unfold jd;split
 .rfl
 .have e:=Nat.mod_add_div (n-bg) ln;have:=NW hp (bg+(n-bg)%ln+t) ⋯ ((n-bg)/ln);rw[<-this];congr 1;omega
def Tj{f:Nat->Int}{bg ln:Nat}(hp:∀n,bg<=n->f (n+ln)=f n)(n:Nat):f (jd n bg ln)=f n:=Vz hp n 0
def aeI{n bg ln:Nat}(h:0<ln):jd n bg ln<bg+ln:=by
 unfold jd;have:=Nat.mod_lt (n-bg) h;split<;>omega
inductive R0(vs:List V)(H:Hp)(Q:VK)(E:XK):Prop|mk (b n:Int) (cA:vs=[.int b,.int n]) (cF:0<=n) (cD:(b=0->n<=400)) (cH:Q .non H)
def aaz:Sp:=R0
abbrev LZ:=cX "refuse_far_jump" 1 ["by","n"] aaz
def Cg{b:Int}(hB:fU b){l:List Int}(h:∀k,Rm.tk b (Pm.co l k)=Pm.co l k):∀x∈l,Rm.Bd 2000 x:=λx hx=>by
 obtain⟨k,hk,e⟩:=D9.mp hx;obtain⟨P0,dO,eb⟩:=hB;have hr:=je P0 dO;have:=Pm.abo (b:=b) (x:=Pm.co l k) ⋯;rw[h,Pm.tD hk,e]at this;exact(Rm.Bd.of (n:=10) ⋯ ⋯).mono ∅
def afu{n:Nat}{k:Nat}(h:pA (n:Int)<=k):n/2^k=0:=by
 have:(n:Int).natAbs<2^k:=intBits_le_iff.mp h;exact Nat.div_eq_of_lt ⋯
def aek(n k:Nat):n/2^k=2*(n/2^(k+1))+n/2^k%2:=by
 rw[qC,<-Nat.div_div_eq_div_mul];omega
inductive Ub(vs:List V)(H:Hp)(Q:VK)(E:XK):Prop|mk (b:Int) (a:Addr) (rule:List Int) (n:Nat) (cA:vs=[.int b,.ref a,.int n]) (cF:fU b) (cD:H a=some (.tup ((Pm.aH b rule).map V.int))) (cH:rule.length<=12) (dh:Rm.Bd 400 (n:Int)) (fW:∀p H' l,Same H H'->H' p=some (.tup (gW V.int l))->Pm.Pw b rule n l->Pm.Py b l->l.length<=rule.length->Q (.ref p) H')
def VW:Sp:=Ub
def Ke(b:Int)(p q:List Int):(Pm.mul b p q).length<=p.length+q.length:=by
 refine cJ (Pm.pL _) ?_;rw[Pm.bN];exact aO _
def wH{b:Int}(hb:Rm.tk b 1=1)(k:Nat):Rm.tk b (Pm.co [1] k)=Pm.co [1] k:=by
 cases k with
 |zero=>rw[Pm.fD];exact hb
 |succ k=>rw[Pm.jR,Pm.fR];exact Pm.tk0 b
abbrev OD:=cX "power_left" 3 ["by","poly","n"] VW
inductive abm(vs:List V)(H:Hp)(Q:VK)(E:XK):Prop|mk (v:V) (r:Rw) (n:Nat) (cA:vs=[v,.int n]) (cF:dW H v r) (cD:cG r) (cH:fU r.b) (dh:Rm.Bd 400 (n:Int)) (fW:rQ H Q (Pm.rest r.b r.rule n))
def ab6:Sp:=abm
abbrev Qk:=cX "jump" 4 ["row","n"] ab6
inductive ad1(vs:List V)(H:Hp)(Q:VK)(E:XK):Prop|mk (b:Int) (a l:Addr) (p f:List Int) (n:Nat) (cA:vs=[.int b,.ref a,.ref l,.int (0+(n:Int))]) (cF:0<=b) (cD:H a=some (.tup (p.map V.int))) (cH:(H l=some (.lst (f.map V.int))∨H l=some (.tup (f.map V.int)))) (dh:n+p.length<=f.length) (fW:p.length<=1000) (pq:(∀x∈p,Rm.Bd 1000000 x)) (Ai:(∀x∈f,Rm.Bd 300000 x)) (zq:∀H',Same H H'->Q (.int (Rm.tk b (Pm.ks p (Pm.co f) n))) H')
def Zh:Sp:=ad1
abbrev Kv:=cX "sum_at" 2 ["by","poly","found","n"] Zh
def cG.afe{r:Rw}(ok:cG r)(hB:fU r.b)(n m N:Nat)(hN:m+r.rule.length<=N):Rm.tk r.b (Pm.ks (Pm.rest r.b r.rule n) (Pm.co (r.row N)) m)=r.at (m+n):=by
 have hG:Pm.Gr r.b r.rule r.at:=Pm.Gk ok.len;rw[<-ok.wJ,<-Pm.V7 hB.one hG n m];unfold Pm.ks;rw[Pm.A9];refine congrArg (Rm.tk r.b) (Pm.bW λk hk=>?_);have e2:Pm.co (r.row N) (m+k)=r.at (m+k):=Rm.El _ _ _ ⋯;rw[e2]
def cG.afr{r:Rw}(ok:cG r):r.row r.rule.length=r.starts:=by
 have q:r.row r.rule.length=r.starts.take r.rule.length:=Rm.uX (by have:=ok.len;omega);rw[q,ok.len,sG]
def aaW{b:Int}(hB:fU b)(rule:List Int)(n:Nat):∀x∈Pm.rest b rule n,Rm.Bd 2000 x:=Cg hB λk=>by
 rw[Pm.rest,Pm.dj];split
 .exact Pm.Jj hB.one _ _
 .exact Pm.tk0 b
inductive aan(vs:List V)(H:Hp)(Q:VK)(E:XK):Prop|mk (v:V) (r:Rw) (n:Nat) (cA:vs=[v,.int n]) (cF:dW H v r) (cD:cG r) (cH:fU r.b) (dh:Rm.Bd 400 (n:Int)) (fW:∀H',Same H H'->Q (.int (r.at n)) H')
def ae9:Sp:=aan
abbrev O7:=cX "place_at" 5 ["row","n"] ae9
inductive afZ(K:aA)(vs:List V)(H:Hp)(Q:VK)(E:XK):Prop|mk (a:Addr) (ns:List Int) (k:Int) (cA:vs=[.ref a,.int k]) (cF:aC K H a (ns.map V.int)) (cD:0<=k) (cH:k<=1000) (dh:∀c,((∀x∈ns,pA x<=1048576)->Rm.Bd 1048576 c)->Q (.int c) H)
def adM(K:aA):Sp:=afZ K
abbrev FN(P w K mg base):=fV P w K mg base "_law_at" 1 ["_law_script","_law_k"] (adM K)
def rB:List Int:=[2,3,5,7,13,61,2,3,997,11,17,67]
def sU:List (Key×V):=[(.inl 2,.int 12),(.inl 3,.int 7),(.inl 5,.int 5),(.inl 7,.int 4),(.inl 11,.int 3),(.inl 13,.int 3),(.inl 17,.int 3),(.inl 61,.int 2),(.inl 67,.int 2),(.inl 997,.int 1)]
def YW:∀k<12,∃(P m:Nat),P∈Om.uo/\m<=12/\rB.getD k 0=(P:Int)/\bU (j7 [] sU) (.inl (rB.getD k 0))=some (.int (m:Int)):=λk hk=>by
 match k,hk with
 |0,_=>exact⟨2,12,by decide +kernel,∅,rfl,rfl⟩
 |1,_=>exact⟨3,7,by decide +kernel,∅,rfl,rfl⟩
 |2,_=>exact⟨5,5,by decide +kernel,∅,rfl,rfl⟩
 |3,_=>exact⟨7,4,by decide +kernel,∅,rfl,rfl⟩
 |4,_=>exact⟨13,3,by decide +kernel,∅,rfl,rfl⟩
 |5,_=>exact⟨61,2,by decide +kernel,∅,rfl,rfl⟩
 |6,_=>exact⟨2,12,by decide +kernel,∅,rfl,rfl⟩
 |7,_=>exact⟨3,7,by decide +kernel,∅,rfl,rfl⟩
 |8,_=>exact⟨997,1,by decide +kernel,∅,rfl,rfl⟩
 |9,_=>exact⟨11,3,by decide +kernel,∅,rfl,rfl⟩
 |10,_=>exact⟨17,3,by decide +kernel,∅,rfl,rfl⟩
 |11,_=>exact⟨67,2,by decide +kernel,∅,rfl,rfl⟩
inductive acM(K:aA)(vs:List V)(H:Hp)(Q:VK)(E:XK):Prop|mk (a:Addr) (ns:List Int) (st:Int) (cA:vs=[.ref a,.int st]) (cF:aC K H a (ns.map V.int)) (cD:0<=st) (cH:st<=100) (dh:∀v r H',Same H H'->dW H' v r->cG r->fU r.b->Q v H')
def Xw(K:aA):Sp:=acM K
abbrev JV(P w K mg base):=fV P w K mg base "_law_row" 2 ["_law_script","_law_at_here"] (Xw K)
inductive Wz(vs:List V)(H:Hp)(Q:VK)(E:XK):Prop|mk (v:V) (r:Rw) (c:Int) (cA:vs=[v,.int c]) (cF:dW H v r) (cD:cG r) (cH:0<r.b) (dh:0<=c) (fW:c<=4096) (pq:Told H Q ((r.row c.toNat).map V.int))
def Wr:Sp:=Wz
abbrev OJ:=cX "_law_going" 1 ["_law_row_here","_law_count"] Wr
inductive WR(vs:List V)(H:Hp)(Q:VK)(E:XK):Prop|mk (P l:Nat) (cA:vs=[.int P,.int l]) (cF:P<1000) (cD:l<=12) (cH:Q (.bl (decide ((4096:Int)<((P^l:Nat):Int)))) H)
def X3:Sp:=WR
abbrev Jy:=cX "_law_too_long" 1 ["_law_by","_law_size"] X3
structure Kn(r:Rw)(L:List Int)(bg ln:Nat):Prop where
 ok:cG r
 by_:fU r.b
 least:fQ r.b r.at L
 len:L.length<=r.rule.length+1
 pow:r.b.toNat^(L.length-1)<=4096
 ux:Pm.oY r.at (L.length-1) bg ln
def Kn.pos{r:Rw}{L:List Int}{bg ln:Nat}(h:Kn r L bg ln):1<r.b/\r.b<1000:=by
 obtain⟨P0,dO,e⟩:=h.by_;have:=je P0 dO;omega
def Kn.rng{r:Rw}{L:List Int}{bg ln:Nat}(h:Kn r L bg ln)(i:Nat):0<=r.at i/\r.at i<((r.b.toNat:Nat):Int):=by
 have:=h.pos;rw[kW ⋯];rcases h.ok.QZ i with z|z
 .omega
 .exact z
def Kn.most{r:Rw}{L:List Int}{bg ln:Nat}(h:Kn r L bg ln):bg+ln<=4096:=cJ (Pm.Gd h.rng h.ux.first) h.pow
def Kn.back{r:Rw}{L:List Int}{bg ln:Nat}(h:Kn r L bg ln)(n:Nat):r.at (jd n bg ln)=r.at n:=Tj (h.least.per h.ok.wJ h.ux) n
def Kn.asks{r:Rw}{L:List Int}{bg ln:Nat}(h:Kn r L bg ln){C1 C2:Addr}{H:Hp}{Q:VK}{E:XK}{v:V}{x:Int}(hR:dW H v r)
  (hq:∀p le ls H',Same H H'->H' p=some (.tup [.ref le,.ref ls,.int (ln:Int)])->H' le=some (.lst ((bM (bZ r.at x) 0 bg).map V.int))->H' ls=some (.lst ((bM (bZ r.at x) bg ln).map V.int))->Q (.ref p) H'):Ou C1 C2 [v,.int x] H Q E:=by
 have hp:=h.pos;refine⟨v,r,x,rfl,hR,h.ok,λz=>⋯,λ_=>⟨h.by_,λL' hL' hl'=>?_⟩⟩;have eL:=hL'.uniq h.by_.one h.least;subst eL;refine⟨λhw2=>absurd h.pow (K9 hw2),λ_ bg2 ln2 p le ls H' g' aa8 _ hp hle hls _ _ _=>?_⟩;obtain⟨rfl,rfl⟩:=aa8.uniq h.ux;exact hq p le ls H' g' hp hle hls
def nU{p:Nat->Bool}{lo n:Nat}{x:Int}:x∈bM p lo n↔∃i,i<n/\p (lo+i)=true/\x=((lo+i:Nat):Int):=by
 unfold bM;simp only[fB,CG,jW];constructor
 .rintro⟨m,⟨⟨i,hi,rfl⟩,hp⟩,rfl⟩;exact⟨i,hi,hp,rfl⟩
 .rintro⟨i,hi,hp,rfl⟩;exact⟨_,⟨⟨i,hi,rfl⟩,hp⟩,rfl⟩
def Mf(xs:List Int)(x:Int):xs.any (lH (.int x))=decide (x∈xs):=by
 rw[uz,Mq,decide_eq_true_eq];constructor
 .rintro⟨y,hy,e⟩;have:y=x:=by simpa[lH]using e
  rw[<-this];exact hy
 .exactλh=>⟨x,h,by simp[lH]⟩
def told(f:Nat->Int)(bg ln:Nat):Nat->List Int
 |0=>[]
 |i+1=>told f bg ln i++bM (bZ f (i:Int)) 0 bg++bM (bZ f (i:Int)) bg ln
theorem LQ(f:Nat->Int)(bg ln:Nat):∀i,(told f bg ln i).length<=i*(bg+ln)
 |0=>cZ _
 |i+1=>by
  have h:=LQ f bg ln i;have h1:=xO (bZ f (i:Int)) 0 bg;have h2:=xO (bZ f (i:Int)) bg ln;rw[told,gK,gK,wO];omega
def JD{f:Nat->Int}{bg ln:Nat}{c x:Int}:(x∈bM (bZ f c) 0 bg∨x∈bM (bZ f c) bg ln)↔∃m,m<bg+ln/\f m=c/\x=(m:Int):=by
 rw[nU,nU];constructor
 .rintro(⟨i,hi,hp,rfl⟩|⟨i,hi,hp,rfl⟩)
  .exact⟨0+i,⋯,of_decide_eq_true hp,rfl⟩
  .exact⟨bg+i,⋯,of_decide_eq_true hp,rfl⟩
 .rintro⟨m,hm,hf,rfl⟩;by_cases c1:m<bg
  .exact .inl ⟨m,c1,decide_eq_true (by rw[eO];exact hf),by rw[eO]⟩
  .exact .inr ⟨m-bg,⋯,decide_eq_true (by rw[show bg+(m-bg)=m by omega];exact hf),by rw[show bg+(m-bg)=m by omega]⟩
theorem DG{f:Nat->Int}{bg ln:Nat}{x:Int}:∀i,x∈told f bg ln i↔∃m,m<bg+ln/\x=(m:Int)/\∃c:Nat,c<i/\f m=(c:Int)
 |0=>by
  constructor
  .intro h;cases h
  .rintro⟨m,_,_,c,hc,_⟩;omega
 |i+1=>by
  rw[told,fG,fK,fK,JD,DG i];constructor
  .rintro(⟨m,hm,e,c,hc,hf⟩|⟨m,hm,hf,e⟩)
   .exact⟨m,hm,e,c,⋯,hf⟩
   .exact⟨m,hm,e,i,⋯,hf⟩
  .rintro⟨m,hm,e,c,hc,hf⟩;by_cases d:c=i
   .subst d;exact .inr ⟨m,hm,hf,e⟩
   .exact .inl ⟨m,hm,e,c,⋯,hf⟩
def Px(p:Nat->Bool)(lo n:Nat):(bM p lo n).Nodup:=by
 unfold bM;have h:((bQ n).map (lo + ·)).Nodup:=zy.mpr (Rn.imp λh=>⋯);exact zy.mpr ((h.sublist List.filter_sublist).imp λh=>⋯)
def afa(f:Nat->Int)(c:Int)(bg ln:Nat):(bM (bZ f c) 0 bg++bM (bZ f c) bg ln).Nodup:=by
 refine GR.mpr ⟨Px ..,Px ..,λx hx y hy=>?_⟩;obtain⟨i,hi,_,rfl⟩:=nU.mp hx;obtain⟨j,hj,_,rfl⟩:=nU.mp hy;omega
theorem E6(f:Nat->Int)(bg ln:Nat):∀i,(told f bg ln i).Nodup
 |0=> .nil
 |i+1=>by
  rw[told,fG];refine GR.mpr ⟨E6 f bg ln i,afa ..,λx hx y hy=>?_⟩;obtain⟨m,_,rfl,c,hc,hf⟩:=(DG i).mp hx;obtain⟨m',_,hf',rfl⟩:=JD.mp (fK.mp hy);intro z;have z':m=m':=⋯;subst z';rw[hf]at hf';omega
def Nr{f:Nat->Int}{bg ln P:Nat}(h:∀i,0<=f i/\f i<(P:Int)):(told f bg ln P).Perm ((bQ (bg+ln)).map λ(i:Nat)=>(i:Int)):=by
 refine(List.perm_ext_iff_of_nodup (E6 ..) (zy.mpr (Rn.imp λh=>⋯))).mpr λx=>?_;rw[DG,fB];constructor
 .rintro⟨m,hm,e,_⟩;exact⟨m,jW.mpr hm,e.symm⟩
 .rintro⟨m,hm,e⟩;have:=h m;exact⟨m,jW.mp hm,e.symm,(f m).toNat,⋯,⋯⟩
def ab7{f:Nat->Int}{bg ln P:Nat}(h:∀i,0<=f i/\f i<(P:Int)){ms:List Int}(hp:ms.Perm (told f bg ln P))(hs:ms.Pairwise (·<=·)):ms=(bQ (bg+ln)).map λ(i:Nat)=>(i:Int):=
 (hp.trans (Nr h)).eq_of_pairwise (λa b _ _ h1 h2=>⋯) hs (zy.mpr (List.pairwise_lt_range.imp λh=>⋯))
inductive XR(vs:List V)(H:Hp)(Q:VK)(E:XK):Prop|mk (v:V) (r:Rw) (L:List Int) (bg ln n:Nat) (x:Int) (cA:vs=[v,.int x,.int n,.int bg]) (cF:dW H v r) (cD:Kn r L bg ln) (cH:∀H',Same H H'->Q (.bl (decide (r.at n=x))) H')
def Vl:Sp:=XR
abbrev Hl:=cX "_law_holds" 13 ["_law_row_here","_law_number","_law_n","_law_begin"] Vl
def VJ{x c b:Int}(h0:0<=x)(h1:x<b)(hb:1<b):x≠(x+1+c%(b-1))%b:=λz=>by
 have e0:=fJ c (show(0:Int)<b-1 by omega);have e1:=fP c (show(0:Int)<b-1 by omega);by_cases d:x+1+c%(b-1)<b
 .rw[u6 ⋯ d]at z;omega
 .rw[show x+1+c%(b-1)=x+1+c%(b-1)-b+b by omega,Int.add_emod_right,u6 ⋯ ⋯]at z;omega
section
variable {P:Program} {w:World} {K:aA} {mg:Str->Option Value} {base:Heap}
variable {bH aY:Addr} (B:Bt mg) (M:Ms K mg base bH aY)
include B M
theorem Zm(F:Fn K mg "taken" B6 ["by","number"]):jV P w K mg base:=by
 refine F.cal adE (λvs H Q E h=>?_) (λ_ _ _ _ _ H _ Q E hr h=>?_)
 .obtain⟨b,n,rfl,_⟩:=h;rfl
 .obtain⟨b,n,rfl,h0,q⟩:=h;refine⟨_,(au (dX (cC (gq K hr) (pv 0) ao) (aK (bB (pv 1))) dY) (aK (bB (aD dB (pv 1) (pv 0))))),?_⟩;refine⟨_,rfl,_,rfl,?_⟩;refine cP (λc=>?_) (λc=>?_)
  .refine⟨_,rfl,?_⟩;have c':b=0:=dec_true c;have e:Rm.tk b n=n:=by rw[c',Rm.u0]
   rw[e]at q;exact q
  .have c':¬b=0:=dec_false c;refine⟨_,rfl,_,rfl,_,_,rfl,rfl,(⋯:(0:Int)<b),?_⟩;rw[Rm.iV c']at q;exact q
theorem aaH(F:Fn K mg "next_place" AJ ["by","rule","before"])(cB:jV P w K mg base):Bs P w K mg base:=by
 refine F.cal xH (λvs H Q E h=>?_) (λ_ _ _ _ _ H _ Q E hr h=>?_)
 .obtain⟨b,r,s,rule,before,rfl,_⟩:=h;rfl
 .obtain⟨b,r,s',rule,before,rfl,hb,hR,hS,hl,hl2,hl3,bR,bS,q⟩:=h;refine⟨_,(au (aJ 3 xH.nd ao) (au (iD PassesOwn.never rfl (fO rfl B.dD (aV (bV K B.bK (ak (pv 1) aj)) aj)) (bT 4 xH.nd) (aK (aJ 3 xH.nd (pad K (pv 3) (aD v_mul (aP K (pv 1) (pv 4)) (aP K (pv 2) (aD cL (aD cL (bV K B.bK (ak (pv 2) aj)) ao) (pv 4)))))))) (aK (bB (aN cB hr (ak (pv 0) (ak (pv 3) aj))))))),?_⟩;have lR:(rule.map V.int).length=rule.length:=aM _;have lS:(before.map V.int).length=before.length:=aM _;have hLen:AF K (.ref s') H before.length:=hS.elim (λh=> .inl ⟨_,h,lS.symm⟩) (λh=> .inr ⟨_,h,lS.symm⟩);refine⟨_,rfl,.ref r,rule.length,rfl,.inr ⟨_,hR,lR.symm⟩,?_⟩;refine⟨(rule.length:Int),rfl,(⋯:-(2^62)<=(rule.length:Int)),(⋯:(rule.length:Int)<2^62),?_⟩;refine jY (lo:=0) (n:=(rule.length:Int).toNat) (λi σ' H'=>∃o,σ'=[some (.int b),some (.ref r),some (.ref s'),some (.int (Rm.S rule (λi=>before.getD i 0) before.length i)),o]/\H'=H) ⟨none,rfl,rfl⟩ ?_ ?_
  .rintro i σ' H' hi ⟨o,rfl,rfl⟩;have hi':i<rule.length:=⋯;have e0:(0:Int)+(i:Int)=(i:Int):=⋯;have e1:(before.length:Int)-1-(0+(i:Int))=((before.length-1-i:Nat):Int):=⋯;refine⟨_,rfl,?_⟩;refine⟨_,rfl,_,rfl,_,_,.inr hR,cM (ns:=rule) (⋯:(0:Int)<=0+(i:Int)) ⋯,?_⟩;refine⟨_,rfl,_,rfl,.ref s',before.length,rfl,hLen,_,_,rfl,rfl,_,rfl,_,_,rfl,rfl,?_⟩;refine⟨_,_,hS,cM (ns:=before) (⋯:(0:Int)<=(before.length:Int)-1-(0+(i:Int))) ⋯,?_⟩;refine⟨uQ (Rm.Bd.getD bR _) (Rm.Bd.getD bS _) ∅,?_⟩;refine⟨some (.int (0+(i:Int))),?_,rfl⟩;rw[e1,e0,dw,dw];rfl
  .rintro σ' H' ⟨o,rfl,rfl⟩;refine⟨_,rfl,_,rfl,b,_,rfl,hb,?_⟩;rw[show(rule.length:Int).toNat=rule.length from dw _];exact q
theorem afl(F:Fn K mg "first_places" Cm ["row","count"])(sE:Bs P w K mg base):Ia P w K mg base:=by
 refine F.cal vR (λvs H Q E h=>?_) (λ_ _ _ _ _ H _ Q E hr h=>?_)
 .obtain⟨v,r,c,rfl,_⟩:=h;rfl
 .obtain⟨v,r,c,rfl,⟨a,p,p2,rfl,hA,hR,hS⟩,ok,hbp,hc0,hc1,q⟩:=h;refine⟨_,(au (aJ 2 vR.nd (aP K (pv 0) ao)) (au (aJ 3 vR.nd (aP K (pv 0) ao)) (au (aJ 4 vR.nd (aP K (pv 0) ao)) (au (aJ 5 vR.nd (Fo (iG (xlist K) rfl B.xr boot_list (aV (pY (qm K) (pv 4) rz (qR (pv 1))) aj)))) (au (su PassesOwn.never (cC oR (bV K B.bK (ak (pv 5) aj)) (pv 1)) (aK (uF (CV K (pv 5) (aN sE hr (ak (pv 2) (ak (pv 3) (ak (pv 5) aj)))))))) (aK (bB (pv 5)))))))),?_⟩;have hl:=ok.len;have hl2:=ok.short;have lS:(r.starts.map V.int).length=r.starts.length:=aM _;refine⟨_,rfl,_,_,.inr (aq.of hA),rfl,?_⟩;refine⟨_,rfl,_,_,.inr (aq.of hA),rfl,?_⟩;refine⟨_,rfl,_,_,.inr (aq.of hA),rfl,?_⟩;have Ei:d7 (r.starts.map V.int) none (some c)=(r.row (min c.toNat r.starts.length)).map V.int:=by
   have e:r.row (min c.toNat r.starts.length)=r.starts.take (min c.toNat r.starts.length):=Rm.uX (Bu _ _);rw[e];have e2:c=((c.toNat:Nat):Int):=⋯;unfold d7;rw[e2,HT.jZ,HT.nT,DY,lU,lS,sY,dw]
  refine Bar.by (λv H1=>∃l,v = .ref l/\Same H H1/\H l=none/\H1 l=some (.lst ((r.row (min c.toNat r.starts.length)).map V.int))) (λkk hkk=>?_) ?_
  .refine⟨_,rfl,_,rfl,_,rfl,?_⟩;by_cases hw:r.starts.length<=c.toNat
   ·-- the whole of it
    refine .inr (.inr ⟨_,aq.of hS,?_,?_⟩)
    .have e2:c=((c.toNat:Nat):Int):=⋯;rw[e2,HT.jZ,HT.nT,lS];omega
    .refine⟨p2,_,rfl,.inr (aq.of hS),λl hl1=>hkk _ _ ⟨l,rfl,Same.new hl1 _,hl1,?_⟩⟩;rw[aG,Nat.min_eq_right hw];have e:r.row r.starts.length=r.starts:=(Rm.uX (aO _)).trans (sG ..);rw[e]
   .refine .inr (.inl ⟨_,aq.of hS,?_,λp3 hp3=>?_⟩)
    .have e2:c=((c.toNat:Nat):Int):=⋯;rw[e2,HT.jZ,HT.nT,lS];omega
    .refine⟨p3,_,rfl,.inr (aq.of aG),λl hl1=>?_⟩;have g3:=Same.new hp3 (.tup (d7 (r.starts.map V.int) none (some c)));refine hkk _ _ ⟨l,rfl,g3.trans (Same.new hl1 _),g3.free hl1,?_⟩;rw[aG,Ei]
  rintro v H1 ⟨l,rfl,g1,hl1,hr1⟩;refine⟨λm σ' H'=>∃n:Nat,m=c.toNat-n/\min c.toNat r.starts.length<=n/\n<=c.toNat/\σ'=[some (.ref a),some (.int c),some (.int r.b),some (.ref p),some (.ref p2),some (.ref l)]/\Same H H'/\H' l=some (.lst ((r.row n).map V.int)),
   ⟨_,min c.toNat r.starts.length,rfl,aO _,Hg _ _,rfl,g1,hr1⟩,?_⟩
  rintro m σ' H' ⟨n,rfl,h1,h2,rfl,g,hL⟩;have lL:((r.row n).map V.int).length=n:=by rw[aM,Rw.jD]
  refine⟨_,rfl,.ref l,n,rfl,.inl ⟨_,aC.of hL,lL.symm⟩,_,rfl,_,_,rfl,rfl,_,rfl,?_⟩;refine cP (λcc=>?_) (λcc=>?_)
  .have hn:n<c.toNat:=by have:=dec_true cc;omega
   refine⟨_,λ_ _ z=>z,?_⟩;refine⟨_,rfl,.inl ⟨rfl,_,aC.of hL⟩,_,rfl,_,rfl,_,rfl,r.b,p,l,r.rule,r.row n,rfl,ok.gM,aq.of (g _ _ hR),(.inl (aC.of hL)),?_,hl2,?_,ok.zF,ok.LX hbp n,?_⟩
   .rw[Rw.jD];omega
   .rw[Rw.jD];omega
   .refine⟨l,_,_,rfl,rfl,hL,?_,?_⟩
    .rw[lL];exact dI (show n<4097 by omega) ∅
    .refine⟨c.toNat-(n+1),⋯,n+1,rfl,⋯,⋯,rfl,g.upd hl1 _,?_⟩;rw[aG,Rw.jD];have e:r.row (n+1)=r.row n++[Rm.tk r.b (Rm.S r.rule (λi=>(r.row n).getD i 0) n r.rule.length)]:=by
      show _++[if n<r.starts.length then r.starts.getD n 0 else _]=_;rw[if_neg ⋯];rfl
     rw[e,iJ];rfl
  .have hn:n=c.toNat:=by have:=dec_false cc;omega
   subst hn;refine⟨_,rfl,?_⟩;exact q l H' g hl1 hL
theorem Vw(F:Fn K mg "inverse" Di ["prime","number"])(cB:jV P w K mg base):Q8 P w K mg base:=by
 refine F.cal pZ (λvs H Q E h=>?_) (λ_ _ _ _ _ H _ Q E hr h=>?_)
 .obtain⟨P,a,rfl,_⟩:=h;rfl
 .obtain⟨P',a,rfl,hP,hPb,h0,h1,q⟩:=h;have hr2:2<=P'/\P'<2097152:=⟨hP.1,hPb⟩;refine⟨_,(au (aJ 2 pZ.nd ao) (au (aJ 3 pZ.nd (pv 1)) (au (aJ 4 pZ.nd (aD cL (pv 0) ao)) (au (su PassesOwn.never (cC oM (pv 4) ao) (au (rC (dX (cC (gq K hr) (aD dB (pv 4) ao) ao) (aK (aJ 2 pZ.nd (aN cB hr (ak (pv 0) (cT (aD v_mul (pv 2) (pv 3)) aj))))) dY)) (au (aJ 3 pZ.nd (aN cB hr (ak (pv 0) (cT (aD v_mul (pv 3) (pv 3)) aj)))) (aK (aJ 4 pZ.nd (aD qQ (pv 4) ao)))))) (aK (bB (pv 2))))))),?_⟩;refine⟨_,rfl,?_⟩;refine⟨_,rfl,_,_,rfl,rfl,?_⟩;have e0:((P':Int)-2).toNat=P'-2:=⋯;refine⟨λm σ' H'=>∃power square left:Int,σ'=[some (.int P'),some (.int a),some (.int power),some (.int square),some (.int left)]/\H'=H/\m=left.toNat/\0<=power/\power<2097152/\0<=square/\square<2097152/\0<=left/\Om.Keeps P' a (P'-2) power square left.toNat,
   ⟨_,1,a,(P':Int)-2,rfl,rfl,rfl,∅,∅,⋯,⋯,⋯,by rw[e0];exact Om.afL _ _ _⟩,?_⟩
  rintro m σ' H' ⟨power,square,left,rfl,rfl,rfl,p0,p1,s0,s1,l0,hk⟩;refine⟨_,rfl,_,_,rfl,rfl,_,rfl,?_⟩;refine cP (λc=>?_) (λc=>?_)
  .have c':0<left:=dec_true c;refine⟨_,λ_ _ z=>z,?_⟩;have hpos:(0:Int)<(P':Int):=⋯;have iz:∀n,Rm.tk (P':Int) n=n%(P':Int):=λn=>Rm.iV ⋯ n;refine m5.by (λσ' H2=>∃power':Int,σ'=[some (.int P'),some (.int a),some (.int power'),some (.int square),some (.int left)]/\H2=H'/\((left%2=1/\power'=power*square%(P':Int))∨(¬left%2=1/\power'=power))) (λN hN=>?_) ?_
   .refine⟨_,rfl,_,_,rfl,rfl,(∅:(0:Int)<2),_,rfl,?_⟩;refine cP (λc2=>?_) (λc2=>?_)
    .refine⟨_,rfl,_,rfl,_,rfl,mulL ⋯ ⋯,P',_,rfl,⋯,?_⟩;exact hN _ _ ⟨_,rfl,rfl,.inl ⟨dec_true c2,iz _⟩⟩
    .exact hN _ _ ⟨_,rfl,rfl,.inr ⟨dec_false c2,rfl⟩⟩
   rintro σ' H2 ⟨power',rfl,rfl,hp⟩;refine⟨_,rfl,_,rfl,_,rfl,mulL ⋯ ⋯,P',_,rfl,⋯,?_⟩;refine⟨_,rfl,_,_,rfl,rfl,⟨∅,∅⟩,?_⟩;have b1:=fJ (square*square) hpos;have b2:=fP (square*square) hpos;have b3:=fJ (power*square) hpos;have b4:=fP (power*square) hpos;have el:(left/2).toNat=left.toNat/2:=⋯;refine⟨_,?_,power',square*square%(P':Int),left/2,by rw[iz];rfl,rfl,rfl,?_,?_,b1,⋯,⋯,?_⟩
   .omega
   .rcases hp with⟨_,rfl⟩|⟨_,rfl⟩
    .exact b3
    .exact p0
   .rcases hp with⟨_,rfl⟩|⟨_,rfl⟩
    .omega
    .exact p1
   .rw[el];rcases hp with⟨hodd,rfl⟩|⟨hodd,rfl⟩
    .exact Om.acY hk ⋯
    .exact Om.Wu hk ⋯
  .have c':left=0:=by have:=dec_false c;omega
   subst c';refine⟨_,rfl,?_⟩;exact q power p0 p1 (Om.XM hk)
theorem Wa(F:Fn K mg "over" C4 ["by","one","other"])(cB:jV P w K mg base)(Bw:Q8 P w K mg base):Nk P w K mg base:=by
 refine F.cal Vk (λvs H Q E h=>?_) (λ_ _ _ _ _ H _ Q E hr h=>?_)
 .obtain⟨P,one,other,rfl,_⟩:=h;rfl
 .obtain⟨P',one,other,rfl,hP,hPb,o0,o1,q⟩:=h;refine⟨_,(au (dX (cC (gq K hr) (pv 0) ao) (aK C0) dY) (au (dX (cC (gq K hr) (aN cB hr (ak (pv 0) (ak (pv 2) aj))) ao) (aK C0) dY) (aK (bB (aN cB hr (ak (pv 0) (cT (aD v_mul (pv 1) (aN Bw hr (ak (pv 0) (ak (pv 2) aj)))) aj))))))),?_⟩;have hr2:2<=P'/\P'<2097152:=⟨hP.1,hPb⟩;refine⟨_,rfl,_,rfl,?_⟩;refine cP (λc=>absurd (dec_true c) ⋯) (λ_=>?_);have iz:∀n,Rm.tk (P':Int) n=n%(P':Int):=λn=>Rm.iV ⋯ n;refine⟨_,rfl,_,rfl,P',other,rfl,⋯,_,rfl,?_⟩;have et:Rm.tk (P':Int) other=other:=by rw[iz];exact u6 ⋯ o1
  rw[et];refine cP (λc2=>absurd (dec_true c2) ⋯) (λ_=>?_);refine⟨_,rfl,_,rfl,_,rfl,_,rfl,P',other,rfl,hP,hPb,o0,o1,λx x0 x1 hx=>?_⟩;refine⟨mulR ⋯ ⋯,P',_,rfl,⋯,?_⟩;rw[iz,Om.mod_mul (rfl:one%(P':Int)=one%(P':Int)) hx];exact q
theorem af2(F:Fn K mg "trimmed" FT ["numbers"]):wz P w K mg base:=by
 refine F.cal Dh (λvs H Q E h=>?_) (λ_ _ _ _ _ H _ Q E hr h=>?_)
 .obtain⟨l,xs,rfl,_⟩:=h;rfl
 .obtain⟨l,xs,rfl,hL,q⟩:=h;refine⟨_,(au (aJ 1 Dh.nd (bV K B.bK (ak (pv 0) aj))) (au (su PassesOwn.never (PW.pt (LK (cC oM (pv 1) ao) (O1 (cC (gq K hr) (aP K (pv 0) (aD cL (pv 1) ao)) ao)))) (aK (aJ 1 Dh.nd (aD cL (pv 1) ao)))) (aK (bB (iG (n6 K) rfl B.pB boot_tuple (aV (pY (qm K) (pv 0) rz (qR (pv 1))) aj)))))),?_⟩;have lL:(xs.map V.int).length=xs.length:=aM _;refine⟨_,rfl,.ref l,xs.length,rfl,.inl ⟨_,hL,lL.symm⟩,?_⟩;refine⟨λm σ' H'=>∃n:Nat,m=n/\n<=xs.length/\σ'=[some (.ref l),some (.int (n:Int))]/\H'=H/\Pm.trim (xs.take n)=Pm.trim xs,⟨_,xs.length,rfl,aO _,rfl,rfl,by rw[sG]⟩,?_⟩;rintro m σ' H' ⟨n,e0,hn,rfl,rfl,ht⟩;refine⟨_,rfl,_,_,rfl,rfl,_,rfl,?_⟩;refine cP (λc=>?_) (λc=>oJ ?_)
  .have h0:0<n:=by have:=dec_true c;omega
   have e1:((n:Int)-1).toNat=n-1:=⋯;refine⟨_,rfl,_,rfl,_,_,rfl,rfl,_,_,.inl hL,cM (ns:=xs) (⋯:(0:Int)<=(n:Int)-1) ⋯,_,rfl,?_⟩;refine cP (λc2=>?_) (λc2=>?_)
   .have hz:=dec_true c2;rw[e1]at hz;refine⟨_,λ_ _ z=>z,?_⟩;refine⟨_,rfl,_,_,rfl,rfl,?_⟩;refine⟨n-1,⋯,n-1,rfl,⋯,?_,rfl,agb h0 hn ht hz⟩;rw[show((n-1:Nat):Int)=(n:Int)-1 by omega];rfl
   .have hz:=dec_false c2;rw[e1]at hz;refine⟨_,rfl,_,rfl,_,rfl,.inl ⟨_,hL,λp hp=>?_⟩⟩;refine⟨p,_,rfl,.inl ⟨aC.of aG,λp2 hp2=>?_⟩⟩;refine q p2 _ ((Same.new hp _).trans (Same.new hp2 _)) ?_;rw[aG,xP,<-sY,RL hn ht (.inr hz)]
  .have h0:n=0:=by have:=dec_false c;omega
   refine⟨_,rfl,_,rfl,_,rfl,.inl ⟨_,hL,λp hp=>?_⟩⟩;refine⟨p,_,rfl,.inl ⟨aC.of aG,λp2 hp2=>?_⟩⟩;refine q p2 _ ((Same.new hp _).trans (Same.new hp2 _)) ?_;rw[aG,xP,<-sY,RL hn ht (.inl h0)]
theorem Z9(F:Fn K mg "number_at" EY ["poly","k"]):Ru P w K mg base:=by
 refine F.cal af5 (λvs H Q E h=>?_) (λ_ _ _ _ _ H _ Q E hr h=>?_)
 .obtain⟨a,p,k,rfl,_⟩:=h;rfl
 .obtain⟨a,p,k,rfl,hA,h0,q⟩:=h;refine⟨_,(aK (bB (Ks (cC oR (pv 1) (bV K B.bK (ak (pv 0) aj))) (aP K (pv 0) (pv 1)) ao))),?_⟩;have lP:(p.map V.int).length=p.length:=aM _;refine⟨_,rfl,_,rfl,.ref a,p.length,rfl,.inr ⟨_,aq.of hA,lP.symm⟩,_,_,rfl,rfl,_,rfl,?_⟩;refine cP (λc=>?_) (λc=>?_)
  .exact⟨_,rfl,_,rfl,_,_,.inr (aq.of hA),cM (ns:=p) h0 (dec_true c),q⟩
  .have c':=dec_false c;have e:Pm.co p k.toNat=0:=Pm.bh ⋯;rw[e]at q;exact q
theorem afK(F:Fn K mg "times" Ef ["by","one","other"])(cB:jV P w K mg base)(kJ:wz P w K mg base):Nu P w K mg base:=by
 refine F.cal xV (λvs H Q E h=>?_) (λ_ _ _ _ _ H _ Q E hr h=>?_)
 .obtain⟨b,a,c,p,r,rfl,_⟩:=h;rfl
 .obtain⟨b,a,c,p,r,rfl,hb,hA,hC,zA,zC,bA,bC,q⟩:=h;refine⟨_,(au (aJ 3 xV.nd (aD v_mul (pI (cW ao aj)) (pad K (bV K B.bK (ak (pv 1) aj)) (bV K B.bK (ak (pv 2) aj))))) (au (iD PassesOwn.never rfl (fO rfl B.dD (aV (bV K B.bK (ak (pv 1) aj)) aj)) (bT 4 xV.nd) (aK (iD PassesOwn.never rfl (fO rfl B.dD (aV (bV K B.bK (ak (pv 2) aj)) aj)) (bT 5 xV.nd) (aK (qG (aN cB hr (ak (pv 0) (cT (pad K (aP K (pv 3) (pad K (pv 4) (pv 5))) (aD v_mul (aP K (pv 1) (pv 4)) (aP K (pv 2) (pv 5)))) aj))) (DX (pv 3) (pad K (pv 4) (pv 5)) set_list)))))) (aK (bB (aN kJ hr (ak (pv 3) aj)))))),?_⟩;have lP:(p.map V.int).length=p.length:=aM _;have lR:(r.map V.int).length=r.length:=aM _;refine⟨(by show 1<=sizeLine;decide),λl0 h0=>?_⟩;have g0:=Same.new h0 (.lst [.int 0]);refine⟨_,rfl,.ref a,p.length,rfl,.inr ⟨_,aq.of (g0 _ _ hA),lP.symm⟩,_,rfl,.ref c,r.length,rfl,.inr ⟨_,aq.of (g0 _ _ hC),lR.symm⟩,?_⟩;have en:((p.length:Int)+(r.length:Int)).toNat=p.length+r.length:=⋯;refine⟨_,aG,(⋯:-(2^63)<=(p.length:Int)+(r.length:Int)),(⋯:(p.length:Int)+(r.length:Int)<2^63),?_,λl hl=>?_⟩
  .rw[en];show 1*(p.length+r.length)<=sizeLine;rw[Aa];exact jK (kZ ⋯)
  have g1:=g0.trans (Same.new hl (.lst (fu ((p.length:Int)+(r.length:Int)).toNat [V.int 0]).flatten));have hl0:H l=none:=g0.free hl;refine⟨_,rfl,.ref a,p.length,rfl,.inr ⟨_,aq.of (g1 _ _ hA),lP.symm⟩,?_⟩;refine⟨(p.length:Int),rfl,(⋯:-(2^62)<=(p.length:Int)),(⋯:(p.length:Int)<2^62),?_⟩;refine jY (lo:=0) (n:=(p.length:Int).toNat) (λi σ' H'=>∃o4 o5 L,σ'=[some (.int b),some (.ref a),some (.ref c),some (.ref l),o4,o5]/\Same H H'/\H' l=some (.lst (L.map V.int))/\L.length=p.length+r.length/\∀k,Pm.co L k=Rm.tk b (Pm.W (Pm.co p) (Pm.co r) i 0 k))
   ⟨_,_,Pm.aR (p.length+r.length) (λ_=>0),rfl,g1,(by rw[aG,en,Rt]),Pm.bN _ _,λk=>by rw[Pm.dj,Pm.aa3,Pm.tk0];split<;>rfl⟩ ?_ ?_
  .rintro i σ' H' hi ⟨o4,o5,L,rfl,g,hL,zL,hW⟩;have hi':i<p.length:=⋯;refine⟨_,rfl,.ref c,r.length,rfl,.inr ⟨_,aq.of (g _ _ hC),lR.symm⟩,?_⟩;refine⟨(r.length:Int),rfl,(⋯:-(2^62)<=(r.length:Int)),(⋯:(r.length:Int)<2^62),?_⟩;refine jY (lo:=0) (n:=(r.length:Int).toNat) (λk σ' H'=>∃o5 L,σ'=[some (.int b),some (.ref a),some (.ref c),some (.ref l),some (.int (0+(i:Int))),o5]/\Same H H'/\H' l=some (.lst (L.map V.int))/\L.length=p.length+r.length/\∀j,Pm.co L j=Rm.tk b (Pm.W (Pm.co p) (Pm.co r) i k j))
    ⟨_,L,rfl,g,hL,zL,hW⟩ ?_ ?_
   .rintro k σ' H2 hk ⟨o5,L,rfl,g,hL,zL,hW⟩;have hk':k<r.length:=⋯;have lL:(L.map V.int).length=L.length:=aM _;have e1:(0+(i:Int)+(0+(k:Int))).toNat=i+k:=⋯;have e2:(0+(i:Int)).toNat=i:=⋯;have e3:(0+(k:Int)).toNat=k:=⋯;refine⟨_,rfl,_,rfl,_,rfl,_,rfl,_,_,.inl (aC.of hL),cM (ns:=L) (⋯:(0:Int)<=0+(i:Int)+(0+(k:Int))) ⋯,?_⟩;refine⟨_,rfl,_,rfl,_,_,.inr (aq.of (g _ _ hA)),cM (ns:=p) (⋯:(0:Int)<=0+(i:Int)) ⋯,?_⟩;refine⟨_,rfl,_,rfl,_,_,.inr (aq.of (g _ _ hC)),cM (ns:=r) (⋯:(0:Int)<=0+(k:Int)) ⋯,?_⟩;refine⟨uQ (Rm.Bd.getD bA _) (Rm.Bd.getD bC _) ∅,?_⟩;refine⟨b,_,rfl,hb,?_⟩;refine⟨_,rfl,_,rfl,_,rfl,l,_,_,i+k,rfl,rfl,hL,Bl ⋯ (by rw[lL];omega),?_⟩;refine⟨_,L.set (i+k) _,rfl,g.upd hl0 _,(by rw[aG,EJ]),(by rw[yI];exact zL),λj=>?_⟩;rw[Pm.zJ _ _ _ _ ⋯,Pm.Yg,e1,e2,e3];by_cases ej:j=i+k
    .have hw:=hW j;rw[if_pos ej,if_pos ej];rw[ej]at hw⊢;rw[<-Rm.d9 b (Pm.W (Pm.co p) (Pm.co r) i k (i+k)),<-hw];rfl
    .rw[if_neg ej,if_neg ej,fL];exact hW j
   .rintro σ' H2 ⟨o5,L,rfl,g,hL,zL,hW⟩;refine⟨_,_,L,rfl,g,hL,zL,λk=>?_⟩;rw[hW k,dw,Pm.acq λk hk=>Pm.bh hk]
  .rintro σ' H' ⟨o4,o5,L,rfl,g,hL,zL,hW⟩;refine⟨_,rfl,l,L,rfl,aC.of hL,λt H2 g2 ht=>q t H2 (g.trans g2) ?_⟩;have e:Pm.trim L=Pm.mul b p r:=by
    refine Pm.u5 λk=>?_;rw[hW k,dw,Pm.RW λk hk=>Pm.bh hk,Pm.dj];split
    .rfl
    .rw[<-Pm.wB,Pm.mul,Pm.mq,Pm.dj,if_neg (by assumption)]
   rw[<-e];exact ht
theorem ZR(F:Fn K mg "divided" Ci ["by","one","other"])(cB:jV P w K mg base)(kJ:wz P w K mg base):wR P w K mg base:=by
 refine F.cal qZ (λvs H Q E h=>?_) (λ_ _ _ _ _ H _ Q E hr h=>?_)
 .obtain⟨b,a,c,P,M,rfl,_⟩:=h;rfl
 .obtain⟨b,a,c,P,M,rfl,hb,hb1,hA,hC,zA,zC,hM,nP,q⟩:=h;refine⟨_,(au (aJ 3 qZ.nd (aD cL (bV K B.bK (ak (pv 2) aj)) ao)) (au (aJ 4 qZ.nd (aD v_mul (pI (cW ao aj)) (pO (Vc rfl) rfl B.Yb boot_max (cW ao (cT (aD cL (bV K B.bK (ak (pv 1) aj)) (pv 3)) aj))))) (au (aJ 5 qZ.nd (iG (xlist K) rfl B.xr boot_list (ak (pv 1) aj))) (au (iD PassesOwn.never rfl (Ov rfl B.dD (cT (aD cL (bV K B.bK (ak (pv 4) aj)) ao) (zY (zR wA ao) (zY (zR wA ao) aj)))) (bT 6 qZ.nd) (au (aJ 7 qZ.nd (aP K (pv 5) (pad K (pv 6) (pv 3)))) (au (qG (pv 7) (DX (pv 4) (pv 6) set_list)) (aK (iD PassesOwn.never rfl (fO rfl B.dD (aV (bV K B.bK (ak (pv 2) aj)) aj)) (bT 8 qZ.nd) (aK (qG (aN cB hr (ak (pv 0) (cT (aD cL (aP K (pv 5) (pad K (pv 6) (pv 8))) (aD v_mul (pv 7) (aP K (pv 2) (pv 8)))) aj))) (DX (pv 5) (pad K (pv 6) (pv 8)) set_list)))))))) (aK (bB (mX (aV (aN kJ hr (ak (pv 4) aj)) (aV (aN kJ hr (ak (pv 5) aj)) aj))))))))),?_⟩;have lP:(P.map V.int).length=P.length:=aM _;have lM:(M.map V.int).length=M.length:=aM _;have Ho:=hM.pos;refine⟨_,rfl,.ref c,M.length,rfl,.inr ⟨_,aq.of hC,lM.symm⟩,_,_,rfl,rfl,?_⟩;refine⟨(by show 1<=sizeLine;decide),λl0 h0=>?_⟩;have g0:=Same.new h0 (.lst [.int 0]);refine⟨_,rfl,.ref a,P.length,rfl,.inr ⟨_,aq.of (g0 _ _ hA),lP.symm⟩,_,rfl,_,_,rfl,rfl,_,_,rfl,?_⟩;have en:(if(P.length:Int)-((M.length:Int)-1)>0 then(P.length:Int)-((M.length:Int)-1)else 0).toNat=P.length-(M.length-1):=(max_zero P.length M.length).resolve_right ⋯;refine⟨_,aG,?_,?_,?_,λlo hlo=>?_⟩
  .split<;>omega
  .split<;>omega
  .rw[en];show 1*(P.length-(M.length-1))<=sizeLine;rw[Aa];exact jK (kZ ⋯)
  rw[en,Rt];have ad8:H lo=none:=g0.free hlo;have g1:=g0.trans (Same.new hlo (.lst ((Pm.aR (P.length-(M.length-1)) λ_=>0).map V.int)));have Ck:(upd (upd H l0 (.lst [.int 0])) lo (.lst ((Pm.aR (P.length-(M.length-1)) λ_=>0).map V.int))) lo=some (.lst ((Pm.aR (P.length-(M.length-1)) λ_=>0).map V.int)):=aG;generalize upd (upd H l0 (.lst [.int 0])) lo (.lst ((Pm.aR (P.length-(M.length-1)) λ_=>0).map V.int))=H1 at g1 Ck;refine⟨_,rfl,a,_,rfl,.inr (aq.of (g1 _ _ hA)),λll hll=>?_⟩;have U3:H ll=none:=g1.free hll;have hne:lo≠ll:=oA Ck hll;have D8:=Same.new hll (.lst (P.map V.int));have g2:=g1.trans D8;have yg:=D8 _ _ Ck;have hL2:(upd H1 ll (.lst (P.map V.int))) ll=some (.lst (P.map V.int)):=aG;generalize upd H1 ll (.lst (P.map V.int))=H2 at D8 g2 yg hL2;generalize hn:P.length-(M.length-1)=n at yg;refine⟨_,rfl,.ref lo,n,rfl,.inl ⟨_,aC.of yg,by rw[aM,Pm.bN]⟩,_,_,rfl,rfl,_,rfl,_,rfl,(n:Int)-1,-1,rfl,⟨⋯,⋯,⋯,⋯⟩,?_⟩;refine GC (lo:=(n:Int)-1) (n:=((n:Int)-1-(-1)).toNat) (λi σ' H'=>∃o6 o7 o8 O L,σ'=[some (.int b),some (.ref a),some (.ref c),some (.int ((M.length:Int)-1)),some (.ref lo),some (.ref ll),o6,o7,o8]/\Same H H'/\H' lo=some (.lst (gW V.int O))/\H' ll=some (.lst (gW V.int L))/\Pm.jz b P M (n-i) O L)
   ⟨_,_,_,_,P,rfl,g2,yg,hL2,(by rw[lU,<-hn];exact Pm.jz.start nP)⟩ ?_ ?_
  .rintro i σ' H' hi ⟨o6,o7,o8,O,L,rfl,g,hO,hL,I⟩;have hi':i<n:=⋯;have hs:n-i=n-(i+1)+1:=⋯;rw[hs]at I;generalize es:n-(i+1)=s at I;have Tg:(n:Int)-1-(i:Int)=(s:Int):=⋯;rw[Tg];have hlL:=I.ll;have hlO:=I.ol;have BF:s+M.length<=L.length:=⋯;have SD:s<O.length:=⋯;have lO:(O.map V.int).length=O.length:=aM _;have e1:((s:Int)+((M.length:Int)-1)).toNat=s+(M.length-1):=⋯;refine⟨_,rfl,_,rfl,_,rfl,_,_,.inl (aC.of hL),cM (ns:=L) (Jz Ho BF).1 (Jz Ho BF).2,?_⟩;rw[e1];have eF:L.getD (s+(M.length-1)) 0=Pm.co L (s+(M.length-1)):=rfl;rw[eF];have hF:=ae2 hb hb1 (I.ln (s+(M.length-1)));generalize hf:Pm.co L (s+(M.length-1))=f at hF;refine⟨_,rfl,_,rfl,_,rfl,lo,_,_,s,rfl,rfl,hO,Bl rfl (by rw[lO];exact SD),?_⟩;have Ln:(upd H' lo (.lst ((O.map V.int).set s (.int f)))) lo=some (.lst ((O.set s f).map V.int)):=by rw[aG,EJ]
   have vV:(upd H' lo (.lst ((O.map V.int).set s (.int f)))) ll=some (.lst (L.map V.int)):=by rw[dF hne.symm];exact hL
   have g3:=g.upd ad8 (.lst ((O.map V.int).set s (.int f)));generalize upd H' lo (.lst ((O.map V.int).set s (.int f)))=H3 at Ln vV g3;refine⟨_,rfl,.ref c,M.length,rfl,.inr ⟨_,aq.of (g3 _ _ hC),lM.symm⟩,?_⟩;refine⟨(M.length:Int),rfl,(sV (cJ zC ∅)).1,(sV (cJ zC ∅)).2,?_⟩;refine jY (lo:=0) (n:=(M.length:Int).toNat) (λt σ' H'=>∃o8 L',σ'=[some (.int b),some (.ref a),some (.ref c),some (.int ((M.length:Int)-1)),some (.ref lo),some (.ref ll),some (.int (s:Int)),some (.int f),o8]/\Same H H'/\H' lo=some (.lst ((O.set s f).map V.int))/\H' ll=some (.lst (gW V.int L'))/\L'.length=L.length/\∀k,Pm.co L' k=Pm.lf b f s t L M k)
    ⟨_,L,rfl,g3,Ln,vV,rfl,λk=>(Pm.afW ..).symm⟩ ?_ ?_
   .rintro t σ' H4 ht ⟨o8,L',rfl,g4,BQ,xR,yC,uL⟩;have ht':t<M.length:=by rw[dw]at ht;exact ht
    have hst:s+t<L'.length:=by rw[yC];exact dI (Nat.add_lt_add_left ht' s) BF
    have lL':(L'.map V.int).length=L'.length:=aM _;have e2:((s:Int)+(0+(t:Int))).toNat=s+t:=⋯;have e3:(0+(t:Int)).toNat=t:=⋯;refine⟨_,rfl,_,rfl,_,rfl,_,rfl,_,_,.inl (aC.of xR),cM (ns:=L') (ixs hst).1 (ixs hst).2,?_⟩;refine⟨_,rfl,_,rfl,_,rfl,_,_,.inr (aq.of (g4 _ _ hC)),cM (ns:=M) (Oe ht').1 (Oe ht').2,?_⟩;refine⟨mulL hF.1 hF.2,_,_,rfl,rfl,?_⟩;refine⟨b,_,rfl,gJ hb,?_⟩;refine⟨_,rfl,_,rfl,_,rfl,ll,_,_,s+t,rfl,rfl,xR,Bl (by rw[gk];exact(yG s t).symm) (by rw[lL'];exact hst),?_⟩;refine⟨_,L'.set (s+t) _,rfl,g4.upd U3 _,(by rw[dF hne];exact BQ),(by rw[aG,EJ]),(by rw[yI];exact yC),λk=>?_⟩;rw[Pm.zJ _ _ _ _ hst,Pm.adF,e2,e3,<-uL k];by_cases ek:k=s+t
    .rw[if_pos ek,if_pos ek,ek];rfl
    .rw[if_neg ek,if_neg ek]
   .rintro σ' H4 ⟨o8,L',rfl,g4,BQ,xR,yC,uL⟩;rw[dw]at uL;refine⟨_,_,_,O.set s f,L',rfl,g4,BQ,xR,?_⟩;rw[<-hf];rw[<-hf]at uL;exact I.step hM ⋯ yC uL
  .rintro σ' H' ⟨o6,o7,o8,O,L,rfl,g,hO,hL,I⟩;have e9:((n:Int)-1-(-1)).toNat=n:=⋯;rw[e9]at I;rw[pK]at I;refine⟨_,rfl,lo,O,rfl,aC.of hO,λt1 H3 g3 h3=>?_⟩;refine⟨_,rfl,ll,L,rfl,aC.of (g3 _ _ hL),λt2 H4 g4 h4=>?_⟩;refine⟨(by show 2<=sizeLine;decide),λt ht=>?_⟩;have gt:=Same.new ht (.tup [.ref t1,.ref t2]);refine q t t1 t2 (Pm.trim O) (Pm.trim L) _ (g.trans (g3.trans (g4.trans gt))) aG (gt _ _ (g4 _ _ h3)) (gt _ _ h4) (I.stop hM) (λ_ _=>trivial) (λ_ _=>trivial) ?_;have:=Pm.pL O;have:=I.ol;omega
theorem Ww(F:Fn K mg "monic" Dg ["prime","poly"])(Et:Nk P w K mg base):K4 P w K mg base:=by
 refine F.cal Qp (λvs H Q E h=>?_) (λ_ _ _ _ _ H _ Q E hr h=>?_)
 .obtain⟨P,a,p,rfl,_⟩:=h;rfl
 .obtain⟨P',a,p,rfl,hP,hPb,hA,zA,pP,q⟩:=h;refine⟨_,(au (dX (cC (gq K hr) (bV K B.bK (ak (pv 1) aj)) ao) (aK (bB (mX aj))) dY) (au (nZ (i:=2) Qp.nd rfl (jq rfl) (aP K (pv 1) (aD cL (bV K B.bK (ak (pv 1) aj)) ao))) (aK (bB (iG (n6 K) rfl B.pB boot_tuple (aV (ud (sc:=ad7) (N:=["number","last","prime"]) (ix:=[none,some 2,some 0]) jt rfl (Cj K (pv 1)) (λcl C s₀ H₀ ex=>⟨(bT 0 jm),lY,(aN Et hr (ak (pv 2) (ak (pv 0) (ak (pv 1) aj))))⟩)) aj)))))),?_⟩;have hr2:2<=P'/\P'<2097152:=⟨hP.1,hPb⟩;have lP:(p.map V.int).length=p.length:=aM _;refine⟨_,rfl,.ref a,p.length,rfl,.inr ⟨_,aq.of hA,lP.symm⟩,_,rfl,?_⟩;refine cP (λc=>?_) (λc=>?_)
  .have c':(p.length:Int)=0:=dec_true c;have e:p=[]:=oV ⋯;subst e;exact⟨cZ _,λt ht=>q t [] _ (Same.new ht _) aG (Pm.oX.nil _)⟩
  .have c':¬(p.length:Int)=0:=dec_false c;have hn:p≠[]:=λe=>c' (by rw[e];rfl);have hpos:0<p.length:=⋯;have e1:((p.length:Int)-1).toNat=p.length-1:=⋯;refine⟨_,rfl,_,rfl,.ref a,p.length,rfl,.inr ⟨_,aq.of hA,lP.symm⟩,_,_,rfl,rfl,_,_,.inr (aq.of hA),cM (ns:=p) (⋯:(0:Int)<=(p.length:Int)-1) ⋯,?_⟩;rw[e1];have l0:=Pm.La hn pP.tr;have l1:=pP.co (p.length-1);rw[Rm.iV ⋯]at l1;have r0:0<=Pm.co p (p.length-1):=by rw[<-l1];exact rN _ ⋯
   have r1:Pm.co p (p.length-1)<(P':Int):=by rw[<-l1];exact tH _ ⋯
   refine⟨_,rfl,a,rfl,.inr ⟨⟨_,aq.of hA⟩,aar hA ⋯ rfl (λx=>x*(Pm.co p (p.length-1))^(P'-2)%(P':Int)) ?_ ?_⟩⟩
   .intro H2 x g2 hx k hk;exact⟨_,rfl,_,rfl,_,rfl,P',x,_,rfl,hP,hPb,by show 0<Pm.co p (p.length-1);omega,r1,hk⟩
   .intro D hD;refine⟨D,_,rfl,.inl ⟨aC.of aG,λt ht=>?_⟩⟩;exact q t (Pm.nC P' p) _ ((Same.new hD _).trans (Same.new ht _)) aG (Pm.ac0 hP pP hn)
theorem aco(F:Fn K mg "greatest" C8 ["by","one","other"])(uZ:K4 P w K mg base)(lE:wR P w K mg base):QK P w K mg base:=by
 refine F.cal sW (λvs H Q E h=>?_) (λ_ _ _ _ _ H _ Q E hr h=>?_)
 .obtain⟨P,a,c,p,r,rfl,_⟩:=h;rfl
 .obtain⟨P',a,c,p,r,rfl,hP,hPb,hA,hC,zA,zC,pP,pR,hne,q⟩:=h;refine⟨_,(au (aJ 3 sW.nd (aN uZ hr (ak (pv 0) (ak (pv 1) aj)))) (au (aJ 4 sW.nd (aN uZ hr (ak (pv 0) (ak (pv 2) aj)))) (au (su PassesOwn.never (cC oM (bV K B.bK (ak (pv 4) aj)) ao) (au (aJ 5 sW.nd (aP K (aN lE hr (ak (pv 0) (ak (pv 3) (ak (pv 4) aj)))) ao)) (au (aJ 3 sW.nd (pv 4)) (aK (aJ 4 sW.nd (aN uZ hr (ak (pv 0) (ak (pv 5) aj)))))))) (aK (bB (pv 3)))))),?_⟩;have hr2:2<=P'/\P'<2097152:=⟨hP.1,hPb⟩;refine⟨_,rfl,_,rfl,P',a,p,rfl,hP,hPb,hA,⋯,pP,λtg g0 H1 g1 hG mG=>?_⟩;refine⟨_,rfl,_,rfl,P',c,r,rfl,hP,hPb,g1 _ _ hC,⋯,pR,λts s0 H2 g2 hS' mS=>?_⟩;have lg0:=mG.len;have ls0:=mS.len;refine⟨λm σ' H'=>∃(o5:Option V) (tg ts:Addr) (g s:List Int),m=s.length/\σ'=[some (.int P'),some (.ref a),some (.ref c),some (.ref tg),some (.ref ts),o5]/\Same H H'/\H' tg=some (.tup (g.map V.int))/\H' ts=some (.tup (s.map V.int))/\Pm.lW P' p r g s/\g.length<=max p.length r.length/\s.length<=max p.length r.length,
   ⟨_,_,tg,ts,g0,s0,rfl,rfl,g1.trans g2,g2 _ _ hG,hS',Pm.lW.start mG mS hne,⋯,⋯⟩,?_⟩
  rintro m σ' H' ⟨o5,tg,ts,gg,ss,rfl,rfl,g,hG,hS',I,zg,zs⟩;have lS:(ss.map V.int).length=ss.length:=aM _;refine⟨_,rfl,.ref ts,ss.length,rfl,.inr ⟨_,aq.of hS',lS.symm⟩,_,_,rfl,rfl,_,rfl,?_⟩;refine cP (λcc=>?_) (λcc=>?_)
  .have hs:ss≠[]:=λe=>by have:=dec_true cc;rw[e]at this;simp at this
   have hMs:=I.OL hs;refine⟨_,λ_ _ z=>z,?_⟩;refine⟨_,rfl,_,rfl,_,rfl,P',tg,ts,gg,ss,rfl,⋯,⋯,hG,hS',⋯,⋯,hMs,I.gy.co,λt x y o l H3 g3 hT hX hY D _ _ _=>?_⟩;refine⟨_,_,.inr (aq.of hT),rfl,?_⟩;refine⟨_,rfl,?_⟩;have hsh:=D.short;refine⟨_,rfl,_,rfl,P',y,l,rfl,hP,hPb,hY,⋯,D.ry,λtm m H4 g4 hM mM=>?_⟩;have lm:=mM.len;exact⟨m.length,⋯,_,ts,tm,ss,m,rfl,rfl,g.trans (g3.trans g4),(g3.trans g4) _ _ hS',hM,I.step hs D mM,zs,⋯⟩
  .have hs:ss=[]:=oV (by have:=dec_false cc;omega);refine⟨_,rfl,?_⟩;exact q tg gg H' g hG (I.stop hs) zg
theorem W2(F:Fn K mg "whole_greatest" En ["one","other"]):MK P w K mg base:=by
 refine F.cal WV (λvs H Q E h=>?_) (λ_ _ _ _ _ H _ Q E hr h=>?_)
 .exact h.elim
 .exact h.elim
theorem WB(F:Fn K mg "of_rule" Gb ["by","rule"])(cB:jV P w K mg base):BR P w K mg base:=by
 refine F.cal Br (λvs H Q E h=>?_) (λ_ _ _ _ _ H _ Q E hr h=>?_)
 .obtain⟨b,a,c,rfl,_⟩:=h;rfl
 .obtain⟨b,a,c,rfl,hb,hA,zA,q⟩:=h;refine⟨_,(au (nZ (i:=2) Br.nd rfl (jq rfl) (bV K B.bK (ak (pv 1) aj))) (au (uE (i:=3) (hN:=Br.nd) (hi':=rfl) (hx:=(mz rfl)) (sc:=afy) (N:=["k","by","length","rule"]) (ix:=[none,some 0,some 2,some 1]) jt rfl (fO rfl B.dD (ak (pv 2) aj)) (λcl C s₀ H₀ ex=>⟨(bT 0 jm),lY,(aN cB hr (ak (pv 1) (cT (aD cL ao (aP K (pv 3) (aD cL (aD cL (pv 2) ao) (pv 0)))) aj)))⟩)) (aK (bB (iG (n6 K) rfl B.pB boot_tuple (cT (pad K (pv 3) (pI (cW ao aj))) aj)))))),?_⟩;have lC:(c.map V.int).length=c.length:=aM _;refine⟨_,rfl,.ref a,c.length,rfl,.inr ⟨_,aq.of hA,lC.symm⟩,?_⟩;refine⟨_,rfl,(c.length:Int),rfl,(⋯:-(2^62)<=(c.length:Int)),(⋯:(c.length:Int)<2^62),?_⟩;rw[dw];refine yQ (n:=c.length) ⋯ rfl (λk=>Rm.tk b (0-Pm.co c (c.length-1-k))) ?_ ?_
  .intro H2 k g2 hk kk hkk;have e1:((c.length:Int)-1-(0+(k:Int))).toNat=c.length-1-k:=⋯;refine⟨_,rfl,_,rfl,_,rfl,_,_,rfl,rfl,_,rfl,_,_,rfl,rfl,_,_,.inr (aq.of (g2 _ _ hA)),cM (ns:=c) (⋯:(0:Int)<=(c.length:Int)-1-(0+(k:Int))) ⋯,_,_,rfl,rfl,?_⟩;refine⟨b,_,rfl,hb,?_⟩;rw[e1];exact hkk
  .intro D hD;have g1:=Same.new hD (.lst ((Pm.aR c.length λk=>Rm.tk b (0-Pm.co c (c.length-1-k))).map V.int));refine⟨_,rfl,(by show 1<=sizeLine;decide),λl2 hl2=>?_⟩;have g2:=Same.new hl2 (.lst [.int 1]);refine .inl ⟨_,_,g2 _ _ aG,aG,?_,λl3 hl3=>?_⟩
   .rw[aM,Pm.bN];exact jK (kZ (by show _+1<=1000;omega))
   refine⟨l3,_,rfl,.inl ⟨aC.of aG,λt ht=>?_⟩⟩;refine q t _ (g1.trans (g2.trans ((Same.new hl3 _).trans (Same.new ht _)))) ?_;rw[aG,Pm.aH,Bm]
theorem R9(F:Fn K mg "rule_of" Dy ["by","poly"])(cB:jV P w K mg base):MZ P w K mg base:=by
 refine F.cal M4 (λvs H Q E h=>?_) (λ_ _ _ _ _ H _ Q E hr h=>?_)
 .obtain⟨b,a,p,rfl,_⟩:=h;rfl
 .obtain⟨b,a,p,rfl,hb,hA,z0,zA,q⟩:=h;refine⟨_,(au (nZ (i:=2) M4.nd rfl (jq rfl) (aD cL (bV K B.bK (ak (pv 1) aj)) ao)) (aK (bB (iG (n6 K) rfl B.pB boot_tuple (aV (ud (sc:=acC) (N:=["k","by","length","poly"]) (ix:=[none,some 0,some 2,some 1]) jt rfl (fO rfl B.dD (ak (pv 2) aj)) (λcl C s₀ H₀ ex=>⟨(bT 0 jm),lY,(aN cB hr (ak (pv 1) (cT (aD cL ao (aP K (pv 3) (aD cL (aD cL (pv 2) ao) (pv 0)))) aj)))⟩)) aj))))),?_⟩;have lC:(p.map V.int).length=p.length:=aM _;refine⟨_,rfl,.ref a,p.length,rfl,.inr ⟨_,aq.of hA,lC.symm⟩,_,_,rfl,rfl,?_⟩;refine⟨_,rfl,(p.length:Int)-1,rfl,(⋯:-(2^62)<=(p.length:Int)-1),(⋯:(p.length:Int)-1<2^62),?_⟩;rw[show((p.length:Int)-1).toNat=p.length-1 by omega];refine yQ (n:=p.length-1) ⋯ rfl (λk=>Rm.tk b (0-Pm.co p (p.length-1-1-k))) ?_ ?_
  .intro H2 k g2 hk kk hkk;have e1:((p.length:Int)-1-1-(0+(k:Int))).toNat=p.length-1-1-k:=⋯;refine⟨_,rfl,_,rfl,_,rfl,_,_,rfl,rfl,_,rfl,_,_,rfl,rfl,_,_,.inr (aq.of (g2 _ _ hA)),cM (ns:=p) (⋯:(0:Int)<=(p.length:Int)-1-1-(0+(k:Int))) ⋯,_,_,rfl,rfl,?_⟩;refine⟨b,_,rfl,hb,?_⟩;rw[e1];exact hkk
  .intro D hD;refine⟨D,_,rfl,.inl ⟨aC.of aG,λt ht=>?_⟩⟩;exact q t _ ((Same.new hD _).trans (Same.new ht _)) aG
theorem aer(F:Fn K mg "top_of" CZ ["row","poly"])(cB:jV P w K mg base)(kJ:wz P w K mg base):Mt P w K mg base:=by
 refine F.cal tK (λvs H Q E h=>?_) (λ_ _ _ _ _ H _ Q E hr h=>?_)
 .obtain⟨v,r,a,rfl,_⟩:=h;rfl
 .obtain⟨v,r,a,rfl,⟨a0,p,p2,rfl,hA,hR,hS⟩,ok,hP,q⟩:=h;refine⟨_,(au (aJ 2 tK.nd (aP K (pv 0) ao)) (au (nZ (i:=3) tK.nd rfl (jq rfl) (aP K (pv 0) ao)) (au (aJ 4 tK.nd (pI aj)) (au (iD PassesOwn.never rfl (fO rfl B.dD (aV (bV K B.bK (ak (pv 3) aj)) aj)) (Qm (i:=5) tK.nd rfl (jq rfl)) (au (uE (i:=6) (hN:=tK.nd) (hi':=rfl) (hx:=(mz rfl)) (sc:=Yr) (N:=["j","k","poly","starts"]) (ix:=[none,some 5,some 1,some 3]) jt rfl (QL rfl B.dD (cT (pad K (pv 5) ao) (aV (bV K B.bK (ak (pv 1) aj)) aj))) (λcl C s₀ H₀ ex=>⟨(bT 0 jm),lY,(aD v_mul (aP K (pv 2) (pv 0)) (aP K (pv 3) (aD cL (aD cL (pv 0) ao) (pv 1))))⟩)) (aK (uF (CV K (pv 4) (aN cB hr (ak (pv 2) (aV (pO (Ji K rfl) rfl B.MS boot_sum (ak (pv 6) aj)) aj)))))))) (aK (bB (aN kJ hr (ak (pv 4) aj)))))))),?_⟩;have hl:=ok.len;have hs:=ok.short;have lS:(r.starts.map V.int).length=r.starts.length:=aM _;have lP:((Pm.aH r.b r.rule).map V.int).length=r.rule.length+1:=by rw[aM,Pm.iw]
  refine⟨_,rfl,_,_,.inr (aq.of hA),rfl,?_⟩;refine⟨_,rfl,_,_,.inr (aq.of hA),rfl,?_⟩;refine⟨cZ _,λl0 h0=>?_⟩;have g0:=Same.new h0 (.lst []);refine⟨_,rfl,.ref p2,r.starts.length,rfl,.inr ⟨_,aq.of (g0 _ _ hS),lS.symm⟩,?_⟩;refine⟨(r.starts.length:Int),rfl,(sV ⋯).1,(sV ⋯).2,?_⟩;refine jY (lo:=0) (n:=(r.starts.length:Int).toNat) (λi σ' H'=>∃o5 o6,σ'=[some (.ref a0),some (.ref a),some (.int r.b),some (.ref p2),some (.ref l0),o5,o6]/\Same H H'/\H' l0=some (.lst ((Pm.aR i λk=>Rm.tk r.b (Pm.tp (Pm.aH r.b r.rule) r.at k)).map V.int)))
   ⟨_,_,rfl,g0,aG⟩ ?_ ?_
  .rintro i σ' H' hi ⟨o5,o6,rfl,g,hL⟩;have hi':i<r.starts.length:=⋯;refine⟨_,rfl,_,rfl,.ref a,r.rule.length+1,rfl,.inr ⟨_,aq.of (g _ _ hP),lP.symm⟩,?_⟩;refine⟨_,_,rfl,⟨⋯,⋯,⋯,⋯⟩,?_⟩;rw[show(((r.rule.length+1:Nat):Int)-(0+(i:Int)+1)).toNat=r.rule.length-i by omega];refine Sq (lo:=0+(i:Int)+1) (n:=r.rule.length-i) ⋯ rfl (λk=>Pm.co (Pm.aH r.b r.rule) (i+1+k)*r.at k) ?_ ?_
   .intro H2 k g2 hk kk hkk;have e1:=W4 i k;have e2:=ixv i k;have lq:(Pm.aH r.b r.rule).length=r.rule.length+1:=Pm.iw ..;refine⟨_,rfl,_,rfl,_,_,.inr (aq.of (g2 _ _ (g _ _ hP))),cM (ns:=Pm.aH r.b r.rule) (Hy hk lq).1 (Hy hk lq).2,?_⟩;refine⟨_,rfl,_,rfl,_,_,rfl,rfl,_,rfl,_,_,rfl,rfl,_,_,.inr (aq.of (g2 _ _ (g _ _ hS))),cM (ns:=r.starts) (J9 hk hl).1 (J9 hk hl).2,?_⟩;refine⟨uQ (Rm.Bd.getD ok.VG _) (Rm.Bd.getD ok.DF _) ∅,?_⟩;rw[e1,e2];have e3:r.at k=r.starts.getD k 0:=Rm.nO ⋯;rw[e3]at hkk;exact hkk
   .intro D hD;have g3:=Same.new hD (.lst ((Pm.aR (r.rule.length-i) λk=>Pm.co (Pm.aH r.b r.rule) (i+1+k)*r.at k).map V.int));have vV:=g3 _ _ hL;have lL:((Pm.aR i λk=>Rm.tk r.b (Pm.tp (Pm.aH r.b r.rule) r.at k)).map V.int).length=i:=by rw[aM,Pm.bN]
    refine⟨_,rfl,.inl ⟨rfl,_,aC.of vV⟩,_,rfl,_,rfl,D,_,rfl,aC.of aG,r.b,_,rfl,ok.gM,?_⟩;refine⟨l0,_,_,rfl,rfl,vV,?_,?_⟩
    .rw[lL];exact kZ ⋯
    .refine⟨_,_,rfl,(g.trans g3).upd h0 _,?_⟩;rw[aG,Pm.IZ,Bm];have e4:Pm.tp (Pm.aH r.b r.rule) r.at i=(Pm.aR (r.rule.length-i) λk=>Pm.co (Pm.aH r.b r.rule) (i+1+k)*r.at k).sum:=by
      unfold Pm.tp;rw[Pm.aR,Pm.Cv,Pm.iw,jO]
     rw[e4]
  .rintro σ' H' ⟨o5,o6,rfl,g,hL⟩;refine⟨_,rfl,l0,_,rfl,aC.of hL,λt1 H3 g3 h3=>?_⟩;refine q t1 H3 (g.trans g3) ?_;rw[h3,m8,hl,dw]
theorem aaj(F:Fn K mg "shared_divisor" E8 ["by","one","other"])(Gf:MK P w K mg base)(D7:QK P w K mg base):RM P w K mg base:=by
 refine F.cal afH (λvs H Q E h=>?_) (λ_ _ _ _ _ H _ Q E hr h=>?_)
 .obtain⟨b,a,c,P,t,rfl,_⟩:=h;rfl
 .obtain⟨b,a,c,P',t,rfl,hA,hC,zP,zt,hP,h⟩:=h;refine⟨_,(aK (bB (Ks (cC (gq K hr) (pv 0) ao) (aN Gf hr (ak (pv 1) (ak (pv 2) aj))) (aN D7 hr (ak (pv 0) (ak (pv 1) (ak (pv 2) aj))))))),?_⟩;refine⟨_,rfl,_,rfl,?_⟩;refine cP (λc0=>?_) (λc0=>?_)
  .have c0':b=0:=dec_true c0;obtain⟨p,rfl,hp,_⟩:=h;have:=hp.1;omega
  .obtain⟨p,rfl,hp,hpb,yP,yt,q⟩:=h;exact⟨_,rfl,_,rfl,_,rfl,p,a,c,P',t,rfl,hp,hpb,hA,hC,zP,zt,yP,yt,λ_ z=>by have:=hP.pos;rw[z]at this;exact absurd this ∅,q⟩
theorem ZS(F:Fn K mg "least_of" Es ["row"])(tG:BR P w K mg base)(DL:Mt P w K mg base)(lE:wR P w K mg base)(Bv:RM P w K mg base):Io P w K mg base:=by
 refine F.cal Ac (λvs H Q E h=>?_) (λ_ _ _ _ _ H _ Q E hr h=>?_)
 .obtain⟨v,r,rfl,_⟩:=h;rfl
 .obtain⟨v,r,rfl,⟨a0,p,p2,rfl,hA,hR,hS⟩,ok,hB,q⟩:=h;refine⟨_,(au (aJ 1 Ac.nd (aP K (pv 0) ao)) (au (aJ 2 Ac.nd (aN tG hr (ak (pv 1) (aV (aP K (pv 0) ao) aj)))) (au (aJ 3 Ac.nd (aN DL hr (ak (pv 0) (ak (pv 2) aj)))) (aK (bB (aP K (aN lE hr (ak (pv 1) (ak (pv 2) (aV (aN Bv hr (ak (pv 1) (ak (pv 2) (ak (pv 3) aj)))) aj)))) ao)))))),?_⟩;have hs:=ok.short;have hb1:=(λ(h:fU r.b)=>(by obtain⟨P,hP,e⟩:=h;have:=je P hP;omega:r.b<1000)) hB;have hm:=Pm.yO r.b r.rule;have lq:(Pm.aH r.b r.rule).length=r.rule.length+1:=Pm.iw ..;refine⟨_,rfl,_,_,.inr (aq.of hA),rfl,?_⟩;refine⟨_,rfl,_,rfl,_,_,.inr (aq.of hA),rfl,r.b,p,r.rule,rfl,ok.gM,hR,⋯,λtP H1 g1 hP=>?_⟩;refine⟨_,rfl,_,rfl,.ref a0,r,tP,rfl,⟨a0,p,p2,rfl,g1 _ _ hA,g1 _ _ hR,g1 _ _ hS⟩,ok,hP,λtT H2 g2 Vx=>?_⟩;have hP2:=g2 _ _ hP;have lt:=aen r;refine⟨_,rfl,_,rfl,_,rfl,_,rfl,_,rfl,r.b,tP,tT,Pm.aH r.b r.rule,m8 r,rfl,hP2,Vx,⋯,⋯,hm,?_⟩;have nP:=UG r.b r.rule hB.one;obtain⟨P0,dO,hb⟩:=hB;have hp:=Il dO;have hr:=je P0 dO;have yP:Pm.Py (P0:Int) (Pm.aH r.b r.rule):=by rw[<-hb];exact Nh hm nP
  have yt:Pm.Py (P0:Int) (m8 r):=by rw[<-hb];exact Pm.Py.aR ..
  refine⟨P0,hb,hp,⋯,yP,yt,λtg g H3 g3 hg hG wX=>?_⟩;refine⟨r.b,tP,tg,Pm.aH r.b r.rule,g,rfl,⋯,⋯,g3 _ _ hP2,hg,⋯,⋯,hG.mon,nP,λt x y o l H4 g4 ht hx hy D _ _ _=>?_⟩;refine⟨_,_,.inr (aq.of ht),rfl,?_⟩;rw[hb]at D;rw[<-hb]at D;obtain⟨hl1,hl2⟩:=YQ hp ok hb hG (by rw[hb]at D ⊢;exact D);exact q x o H4 (g1.trans (g2.trans (g3.trans g4))) hx hl1 hl2
theorem VN(F:Fn K mg "shortest" BD ["row"])(Ek:Io P w K mg base)(Eu:MZ P w K mg base):D4 P w K mg base:=by
 refine F.cal D5 (λvs H Q E h=>?_) (λ_ _ _ _ _ H _ Q E hr h=>?_)
 .obtain⟨v,r,rfl,_⟩:=h;rfl
 .obtain⟨v,r,rfl,⟨a0,p,p2,rfl,hA,hR,hS⟩,ok,hB,q⟩:=h;refine⟨_,(au (aJ 1 D5.nd (aN Ek hr (ak (pv 0) aj))) (au (aJ 2 D5.nd (aN Eu hr (aV (aP K (pv 0) ao) (ak (pv 1) aj)))) (aK (bB (mX (aV (aP K (pv 0) ao) (ak (pv 2) (aV (iG (n6 K) rfl B.pB boot_tuple (aV (pY (qm K) (aP K (pv 0) ao) rz (qR (bV K B.bK (ak (pv 2) aj)))) aj)) aj)))))))),?_⟩;have hs:=ok.short;have hl:=ok.len;have lS:(r.starts.map V.int).length=r.starts.length:=aM _;refine⟨_,rfl,.ref a0,r,rfl,⟨a0,p,p2,rfl,hA,hR,hS⟩,ok,hB,λtL L H1 g1 hL lst ll=>?_⟩;have YF:=lst.mon.pos;refine⟨_,rfl,_,_,.inr (aq.of (g1 _ _ hA)),rfl,_,rfl,r.b,tL,L,rfl,ok.gM,hL,YF,⋯,λtR H2 g2 Dk=>?_⟩;have lR:((Pm.jj r.b L).map V.int).length=L.length-1:=by rw[aM,Pm.j5]
  have KJ:=(g1.trans g2) _ _ hA;have hS2:=(g1.trans g2) _ _ hS;refine⟨_,rfl,_,_,.inr (aq.of KJ),rfl,_,rfl,_,rfl,_,_,.inr (aq.of KJ),rfl,?_⟩;refine⟨_,rfl,.ref tR,L.length-1,rfl,.inr ⟨_,aq.of Dk,lR.symm⟩,?_⟩;refine⟨_,rfl,?_⟩;by_cases hw:r.starts.length<=L.length-1
  .refine .inr (.inr ⟨_,aq.of hS2,?_,?_⟩)
   .rw[HT.jZ,HT.nT,lS];omega
   .refine⟨p2,_,rfl,.inr ⟨aq.of hS2,?_⟩⟩;refine⟨(by show 3<=sizeLine;decide),λt ht=>?_⟩;have g3:=Same.new ht (.tup [.int r.b,.ref tR,.ref p2]);refine q (.ref t) L _ (g1.trans (g2.trans g3)) ⟨t,tR,p2,rfl,aG,g3 _ _ Dk,?_⟩ lst ll;show _=some (HO.tup ((r.starts.take (L.length-1)).map V.int));rw[uI hw];exact g3 _ _ hS2
  .refine .inr (.inl ⟨_,aq.of hS2,?_,λp3 hp3=>?_⟩)
   .rw[HT.jZ,HT.nT,lS];omega
   .refine⟨p3,_,rfl,.inr ⟨aq.of aG,?_⟩⟩;have g3:=Same.new hp3 (.tup (d7 (r.starts.map V.int) none (some ((L.length-1:Nat):Int))));refine⟨(by show 3<=sizeLine;decide),λt ht=>?_⟩;have g4:=Same.new ht (.tup [.int r.b,.ref tR,.ref p3]);refine q (.ref t) L _ (g1.trans (g2.trans (g3.trans g4))) ⟨t,tR,p3,rfl,aG,(g3.trans g4) _ _ Dk,?_⟩ lst ll;show _=some (HO.tup ((r.starts.take (L.length-1)).map V.int));rw[sY,<-xP];exact g4 _ _ aG
theorem Yd(F:Fn K mg "refuse_wide" FP ["prime","length"]):Oz P w K mg base aY:=by
 refine F.wZ zH (λvs H Q E h=>?_) (λ_ _ _ _ _ H _ Q E hr h=>?_)
 .obtain⟨P',l,rfl,_⟩:=h;rfl
 .obtain⟨P',l,rfl,hP,hl,q1,q2⟩:=h;refine⟨_,(au (aJ 2 zH.nd ao) (au (iD PassesOwn.leaving rfl (fO rfl B.dD (ak (pv 1) aj)) (bT 3 zH.nd) (aK (aJ 2 zH.nd (aD v_mul (pv 2) (pv 0))))) (aK (dX (cC oM (pv 2) (RD rfl B.Gm)) (aK (Nx M.af7 rfl (cW K6 aj))) dY)))),?_⟩;refine⟨_,rfl,(l:Int),rfl,(⋯:-(2^62)<=(l:Int)),(⋯:(l:Int)<2^62),?_⟩;rw[dw];refine jY (lo:=0) (n:=l) (λi σ' H'=>∃o3:Option V,σ'=[some (.int P'),some (.int l),some (.int ((P'^i:Nat):Int)),o3]/\H=H') ⟨_,rfl,rfl⟩ ?_ ?_
  .rintro i σ' H' hi ⟨o3,rfl,rfl⟩;refine⟨_,rfl,_,rfl,mulR ⋯ ⋯,some (.int (0+(i:Int))),?_,rfl⟩;rw[qC,PJ];rfl
  .rintro σ' H' ⟨o3,rfl,rfl⟩;refine⟨_,rfl,_,_,rfl,rfl,_,rfl,?_⟩;refine cP (λc=>⟨(by show 1<=sizeLine;decide),q2 ?_⟩) (λc=>q1 ?_)
   .have c':(4096:Int)<((P'^l:Nat):Int):=dec_true c;omega
   .have c':¬(4096:Int)<((P'^l:Nat):Int):=dec_false c;omega
theorem X6(F:Fn K mg "round_row" Fj ["row"])(rW:D4 P w K mg base)(Ce:Oz P w K mg base aY):Fg P w K mg base bH aY:=by
 refine F.wZ MH (λvs H Q E h=>?_) (λ_ _ _ _ _ H _ Q E hr h=>?_)
 .obtain⟨v,r,rfl,_⟩:=h;rfl
 .obtain⟨v,r,rfl,hR,ok,q1,q2⟩:=h;refine⟨_,(au (dX (cC (gq K hr) (aP K (pv 0) ao) ao) (aK (Nx M.afD rfl (cW K6 aj))) dY) (au (aJ 1 MH.nd (aN rW hr (ak (pv 0) aj))) (au (uF (E3 Ce hr rfl (aV (aP K (pv 0) ao) (aV (bV K B.bK (aV (aP K (pv 1) ao) aj)) aj)))) (aK (bB (pv 1)))))),?_⟩;have hR':=hR;obtain⟨a,p,p2,rfl,hA,hRu,hS⟩:=hR;refine⟨_,rfl,_,_,.inr (aq.of hA),rfl,_,rfl,?_⟩;refine cP (λc=>⟨(by show 1<=sizeLine;decide),q1 (dec_true c)⟩) (λc=>?_);have c':r.b≠0:=dec_false c;obtain⟨hB,q3⟩:=q2 c';refine⟨_,rfl,.ref a,r,rfl,hR',ok,hB,λv' L H1 g1 qN hL hl=>?_⟩;obtain⟨q4,q5⟩:=q3 L hL hl;obtain⟨P0,dO,eb⟩:=hB;have hr:=je P0 dO;have hs:=ok.short;rw[eb,dw]at q4 q5;obtain⟨a1,r1,s1,rfl,WC,afN,hS1⟩:=id qN;have lR:((eX r L).rule.map V.int).length=L.length-1:=by
   rw[aM];exact Pm.j5 ..
  refine⟨_,rfl,_,_,.inr (aq.of (g1 _ _ hA)),rfl,_,rfl,_,_,.inr (aq.of WC),rfl,.ref r1,L.length-1,rfl,.inr ⟨_,aq.of afN,lR.symm⟩,?_⟩;refine⟨P0,L.length-1,by rw[eb];rfl,⋯,⋯,λhw=>?_,λhw=>q4 hw _ g1⟩;exact⟨_,rfl,q5 hw _ _ g1 qN⟩
theorem ad6(F:Fn K mg "came_round" C9 ["row"])(sE:Bs P w K mg base):E5 P w K mg base:=by
 refine F.cal qW (λvs H Q E h=>?_) (λ_ _ _ _ _ H _ Q E hr h=>?_)
 .obtain⟨v,r,rfl,_⟩:=h;rfl
 .obtain⟨v,r,rfl,⟨a,p,p2,rfl,hA,hR,hS⟩,ok,hb,hw,q⟩:=h;refine⟨_,(au (aJ 1 qW.nd (aP K (pv 0) ao)) (au (aJ 2 qW.nd (aP K (pv 0) ao)) (au (aJ 3 qW.nd (Fo (aP K (pv 0) ao))) (au (aJ 4 qW.nd abr) (au (su PassesOwn.never (adX (acF hr.hu (pv 3) (pv 4))) (au (Wd hr.hu (pv 4) (pv 3) (pO Kd rfl B.bK boot_len (ak (pv 4) aj)) rfl) (aK (aJ 3 qW.nd (Fo (pY (qm K) (pad K (pv 3) (mX (aV (aN sE hr (ak (pv 1) (ak (pv 2) (ak (pv 3) aj)))) aj))) (qR ao) rz)))))) (au (aJ 5 qW.nd (Gz hr.hu (pv 4) (pv 3) (λ_ _=>rfl))) (aK (bB (mX (ak (pv 5) (cT (aD cL (pO Kd rfl B.bK boot_len (ak (pv 4) aj)) (pv 5)) aj))))))))))),?_⟩;have hl:=ok.len;have hs:=ok.short;refine⟨_,rfl,_,_,.inr (aq.of hA),rfl,?_⟩;refine⟨_,rfl,_,_,.inr (aq.of hA),rfl,?_⟩;refine Bar.by (λv H1=>v = .ref p2/\H=H1) (λkk hkk=>⟨_,rfl,_,_,.inr (aq.of hA),rfl,hkk _ _ ⟨rfl,rfl⟩⟩) ?_;rintro _ _ ⟨rfl,rfl⟩;refineλsd hsd=>?_;have g0:=Same.new hsd (.dT []);have w0:Pm.win r.at r.rule.length 0=r.starts:=by
   refine Pm.yp (by rw[Pm.jL];exact hl) λk=>?_;by_cases c:k<r.rule.length
   .exact(Pm.kj _ c).trans (by rw[eO];exact Rm.nO ⋯)
   .rw[Pm.bh (by rw[Pm.jL];omega),Pm.bh ⋯]
  have lX:∀i,0<=r.at i/\r.at i<((r.b.toNat:Nat):Int):=λi=>by
   rw[kW ⋯];refine Rm.zu hl hb (λx hx=>?_) i;rcases ok.vY x hx with z|z
   .omega
   .exact z
  refine⟨λm σ' H'=>∃(n:Nat) (wa:Addr) (kvs:List (List Key×V)),m=4096-n/\n<=4096/\σ'=[some (.ref a),some (.int r.b),some (.ref p),some (.ref wa),some (.ref sd),none]/\Same H H'/\H' wa=some (.tup ((Pm.win r.at r.rule.length n).map V.int))/\H' sd=some (.dT kvs)/\Seen r.at r.rule.length n kvs,
   ⟨_,0,p2,[],rfl,∅,rfl,g0,by rw[w0];exact g0 _ _ hS,aG,⟨rfl,λi hi=>absurd hi (Bb _),λ_ _=>rfl,λi j _ hj=>absurd hj (Bb _)⟩⟩,?_⟩
  rintro m σ' H' ⟨n,wa,kvs,rfl,hn,rfl,g,xg,hkv,sn⟩;have hwk:H' wa=some (.tup ((KK (Pm.win r.at r.rule.length n)).map kV)):=by rw[CY];exact xg
  refine⟨_,rfl,_,rfl,sd,_,rfl,gZ.t hkv hwk,_,rfl,?_⟩;refine cP (λc=>?_) (λc=>?_)
  .have hnone:bU kvs (KK (Pm.win r.at r.rule.length n))=none:=by
    cases e:bU kvs (KK (Pm.win r.at r.rule.length n))with
    |none=>rfl
    |some u=>rw[e]at c;exact absurd c (by simp)
   have Qq:=sn.more hnone;have hn1:n+1<=4096:=cJ (Pm.Gd lX Qq.diff) hw;refine⟨_,λ_ _ z=>z,?_⟩;refine⟨_,rfl,sd,kvs,rfl,hkv,_,rfl,_,rfl,sd,_,rfl,vd.t hkv hwk (by rw[sn.len];exact C7 hn ∅),?_⟩;rw[sn.len];have hne:wa≠sd:=λz=>by rw[z,hkv]at xg;cases xg
   have fsd:H sd=none:=hsd;have g2:Same H (upd H' sd (.dT (putK kvs (KK (Pm.win r.at r.rule.length n)) (.int (n:Int))))):=g.upd fsd _;have EA:(upd H' sd (.dT (putK kvs (KK (Pm.win r.at r.rule.length n)) (.int (n:Int))))) wa=some (.tup ((Pm.win r.at r.rule.length n).map V.int)):=by rw[dF hne];exact xg
   have QB:(upd H' sd (.dT (putK kvs (KK (Pm.win r.at r.rule.length n)) (.int (n:Int))))) sd=some (.dT (putK kvs (KK (Pm.win r.at r.rule.length n)) (.int (n:Int)))):=aG;generalize upd H' sd (.dT (putK kvs (KK (Pm.win r.at r.rule.length n)) (.int (n:Int))))=H2 at g2 EA QB;have wl:=Pm.jL r.at r.rule.length n;have bw:∀x∈Pm.win r.at r.rule.length n,Rm.Bd 2100000 x:=λx hx=>by
    obtain⟨j,_,rfl⟩:=fB.mp hx;have:=lX (n+j);exact(Vr ok.wY this.1 (by have:=this.2;rw[kW ⋯]at this;exact this)).mono ∅
   have ev:Rm.tk r.b (Rm.S r.rule (λi=>(Pm.win r.at r.rule.length n).getD i 0) (Pm.win r.at r.rule.length n).length r.rule.length)=r.at (n+r.rule.length):=by
    rw[wl];have e1:r.at (n+r.rule.length)=Rm.tk r.b (Rm.S r.rule r.at (n+r.rule.length) r.rule.length):=Rm.mL hl ⋯;rw[e1,<-Rm.xW (f:=r.at) (d:=n) (aO _)];refine congrArg _ (Rm.yZ λk hk=>?_);exact Pm.kj _ ⋯
   refine Bar.by (λv H1=>∃w1,v = .ref w1/\Same H2 H1/\H1 w1=some (.tup ((Pm.win r.at r.rule.length (n+1)).map V.int))) (λkk hkk=>?_) ?_
   .refine⟨_,rfl,_,rfl,_,rfl,_,rfl,r.b,p,wa,r.rule,Pm.win r.at r.rule.length n,rfl,ok.gM,aq.of (g2 _ _ hR),.inr (aq.of EA),by rw[wl];exact aO _,hs,by rw[wl];omega,ok.zF,bw,?_⟩;rw[ev];refine⟨(by show 1<=sizeLine;decide),λt1 ht1=>?_⟩;have g3:=Same.new ht1 (.tup [.int (r.at (n+r.rule.length))]);have h3:(upd H2 t1 (.tup [.int (r.at (n+r.rule.length))])) t1=some (.tup [.int (r.at (n+r.rule.length))]):=aG;have Pq:=g3 _ _ EA;generalize upd H2 t1 (.tup [.int (r.at (n+r.rule.length))])=H3 at g3 h3 Pq;have AH:d7 ((Pm.win r.at r.rule.length n).map V.int++[.int (r.at (n+r.rule.length))]) (some 1) none=(Pm.win r.at r.rule.length (n+1)).map V.int:=by
     have:=MJ ((Pm.win r.at r.rule.length n).map V.int++[.int (r.at (n+r.rule.length))]) (k:=1) (by rw[gK];simp);rw[<-Pm.aec,Ml,iJ];exact this
    have lc:((Pm.win r.at r.rule.length n).map V.int++[V.int (r.at (n+r.rule.length))]).length=r.rule.length+1:=by rw[gK,aM,wl];rfl
    refine .inr ⟨_,_,aq.of Pq,aq.of h3,?_,λe=>?_,λ_ z=>(by cases z),λe _ p4 Fe=>?_⟩
    .rw[aM,wl];exact jK (kZ (by show r.rule.length+1<=1000;omega))
    .rw[e,Hw]at AH lc;refine⟨_,rfl,.inr (.inl ⟨_,aq.of h3,?_,λp5 Ey=>?_⟩)⟩
     .rw[lc];show ¬(HT.aL (r.rule.length+1) 0 (some ((1:Nat):Int))=0/\_);rw[HT.jZ];omega
     .exact hkk _ _ ⟨p5,rfl,g3.trans (Same.new Ey _),by rw[aG,AH]⟩
    .have g4:=Same.new Fe (.tup ((Pm.win r.at r.rule.length n).map V.int++[.int (r.at (n+r.rule.length))]));refine⟨_,rfl,.inr (.inl ⟨_,aq.of aG,?_,λp5 Ey=>?_⟩)⟩
     .rw[lc];show ¬(HT.aL (r.rule.length+1) 0 (some ((1:Nat):Int))=0/\_);rw[HT.jZ];omega
     .exact hkk _ _ ⟨p5,rfl,g3.trans (g4.trans (Same.new Ey _)),by rw[aG,AH]⟩
   .rintro _ H4 ⟨w1,rfl,g4,hw1⟩;exact⟨4096-(n+1),⋯,n+1,w1,_,rfl,hn1,rfl,g2.trans g4,hw1,g4 _ _ QB,Qq⟩
  .obtain⟨i,hi,ei⟩:∃i,i<n/\Pm.win r.at r.rule.length n=Pm.win r.at r.rule.length i:=by
    refine Classical.byContradiction λhno=>c ?_;rw[sn.out _ λi hi z=>hno ⟨i,hi,QC z⟩];rfl
   have hv:bU kvs (KK (Pm.win r.at r.rule.length n))=some (.int (i:Int)):=by rw[ei];exact sn.at_ i hi
   have hg:=gZ.t hkv hwk;rw[hv]at hg;refine⟨_,rfl,_,rfl,sd,_,rfl,hg,?_⟩;refine⟨_,rfl,_,rfl,sd,kvs,rfl,hkv,_,rfl,_,_,rfl,rfl,?_⟩;rw[sn.len];refine⟨(by show 2<=sizeLine;decide),λp6 hp6=>?_⟩;refine q i (n-i) p6 _ (g.trans (Same.new hp6 _)) ?_ ⟨⋯,?_,λx y hxy hy=>sn.diff x y hxy ⋯⟩
   .rw[aG];show some (HO.tup [.int (i:Int),.int ((n:Int)-(i:Int))])=_;rw[show(n:Int)-(i:Int)=((n-i:Nat):Int)by omega]
   .rw[show i+(n-i)=n by omega];exact ei
theorem aa7(F:Fn K mg "round_of" Dd ["row"])(rT:E5 P w K mg base)(rO:Fg P w K mg base bH aY):HS P w K mg base bH aY:=by
 refine F.wZ V4 (λvs H Q E h=>?_) (λ_ _ _ _ _ H _ Q E hr h=>?_)
 .obtain⟨v,r,rfl,_⟩:=h;rfl
 .obtain⟨v,r,rfl,hR,ok,q1,q2⟩:=h;refine⟨_,(aK (bB (aN rT hr (aV (E3 rO hr rfl (ak (pv 0) aj)) aj)))),?_⟩;refine⟨_,rfl,v,r,rfl,hR,ok,q1,λhb=>⟨(q2 hb).1,λL hL hl=>⟨((q2 hb).2 L hL hl).1,λhw v' H1 g1 qN=>?_⟩⟩⟩;have q3:=((q2 hb).2 L hL hl).2 hw;have hB:=(q2 hb).1;have h0:=ok.gM;have le:(eX r L).rule.length=L.length-1:=Pm.j5 ..;refine⟨v',eX r L,rfl,qN,Je ok hB hL hl,(by show 0<r.b;omega),by rw[le];exact hw,λbg ln p H2 g2 hp ou=>?_⟩;refine q3 bg ln p H2 (g1.trans g2) hp ?_;have e:(eX r L).at=r.at:=funext λn=>JX ok.wJ hL (by have:=ok.len;omega) n;rw[e,le]at ou;exact ou
theorem abK(F:Fn K mg "where" BH ["row","number"])(rO:Fg P w K mg base bH aY)(rT:E5 P w K mg base)(EW:Ia P w K mg base):DB P w K mg base bH aY:=by
 refine F.wZ nQ (λvs H Q E h=>?_) (λ_ _ _ _ _ H _ Q E hr h=>?_)
 .obtain⟨v,r,x,rfl,_⟩:=h;rfl
 .obtain⟨v,r,x,rfl,hR,ok,q1,q2⟩:=h;refine⟨_,(au (aJ 2 nQ.nd (E3 rO hr rfl (ak (pv 0) aj))) (au (aJ 3 nQ.nd (aN rT hr (ak (pv 2) aj))) (au (aJ 4 nQ.nd (aP K (pv 3) ao)) (au (aJ 5 nQ.nd (aP K (pv 3) ao)) (au (nZ (i:=6) nQ.nd rfl (jq rfl) (aN EW hr (ak (pv 2) (cT (pad K (pv 4) (pv 5)) aj)))) (au (uE (i:=7) (hN:=nQ.nd) (hi':=rfl) (hx:=(mz rfl)) (sc:=Wb) (N:=["n","number","numbers"]) (ix:=[none,some 1,some 6]) jt rfl (fO rfl B.dD (ak (pv 4) aj)) (λcl C s₀ H₀ ex=>⟨(bT 0 jm),(Hf (cC (gq K hr) (aP K (pv 2) (pv 0)) (pv 1))),(pv 0)⟩)) (au (uE (i:=8) (hN:=nQ.nd) (hi':=rfl) (hx:=(mz rfl)) (sc:=abG) (N:=["n","number","numbers"]) (ix:=[none,some 1,some 6]) jt rfl (QL rfl B.dD (ak (pv 4) (cT (pad K (pv 4) (pv 5)) aj))) (λcl C s₀ H₀ ex=>⟨(bT 0 jm),(Hf (cC (gq K hr) (aP K (pv 2) (pv 0)) (pv 1))),(pv 0)⟩)) (aK (bB (mX (ak (pv 7) (ak (pv 8) (ak (pv 5) aj))))))))))))),?_⟩;refine⟨_,rfl,v,r,rfl,hR,ok,q1,λhb=>⟨(q2 hb).1,λL hL hl=>⟨((q2 hb).2 L hL hl).1,λhw v' H1 g1 qN=>?_⟩⟩⟩;have q3:=((q2 hb).2 L hL hl).2 hw;have hB:=(q2 hb).1;have h0:=ok.gM;have le:(eX r L).rule.length=L.length-1:=Pm.j5 ..;have e:(eX r L).at=r.at:=funext λn=>JX ok.wJ hL (by have:=ok.len;omega) n;have Kl:=Je ok hB hL hl;refine⟨_,rfl,v',eX r L,rfl,qN,Kl,(by show 0<r.b;omega),by rw[le];exact hw,λbg ln p H2 g2 hp ou=>?_⟩;rw[e,le]at ou;have lX:∀i,0<=r.at i/\r.at i<((r.b.toNat:Nat):Int):=λi=>by
   rw[kW ⋯];refine Rm.zu ok.len ⋯ (λx hx=>?_) i;rcases ok.vY x hx with z|z
   .omega
   .exact z
  have hbl:bg+ln<=4096:=cJ (Pm.Gd (l:=L.length-1) lX ou.first) hw;refine⟨_,rfl,_,_,.inr (aq.of hp),rfl,?_⟩;refine⟨_,rfl,_,_,.inr (aq.of hp),rfl,?_⟩;refine⟨_,rfl,_,rfl,_,rfl,v',eX r L,_,rfl,qN.same g2,Kl,(by show 0<r.b;omega),(⋯:(0:Int)<=(bg:Int)+(ln:Int)),(⋯:(bg:Int)+(ln:Int)<=4096),λl H3 g3 hl3 yL=>?_⟩;have er:(eX r L).row (((bg:Int)+(ln:Int)).toNat)=(bQ (bg+ln)).map r.at:=by
   have e1:(eX r L).row (((bg:Int)+(ln:Int)).toNat)=(bQ (((bg:Int)+(ln:Int)).toNat)).map (eX r L).at:=Rm.wC ..;rw[e1,e,show((bg:Int)+(ln:Int)).toNat=bg+ln by omega]
  rw[er]at yL;obtain⟨nu,hnu⟩:∃nu:List Int,nu=(bQ (bg+ln)).map r.at:=⟨_,rfl⟩;rw[<-hnu]at yL;have V6:nu.length=bg+ln:=by rw[hnu,aM,kI]
  have gnu:∀i,i<bg+ln->nu.getD i 0=r.at i:=λi hi=>by
   rw[hnu,List.getD_eq_getElem?_getD,List.getElem?_map,List.getElem?_range hi];rfl
  have gA:=g1.trans (g2.trans g3);refine⟨_,rfl,(bg:Int),rfl,(⋯:-(2^62)<=(bg:Int)),(⋯:(bg:Int)<2^62),?_⟩;rw[dw];refine Kq (lo:=0) (cJ (show bg<=4096 by omega) ∅) rfl (bZ r.at x) ?_ ?_ ?_
  .intro H5 k g5 hk kk hkk;refine⟨_,rfl,_,rfl,_,_,.inl (aC.of (g5 _ _ yL)),cM (ns:=nu) (⋯:(0:Int)<=((0:Nat):Int)+(k:Int)) ⋯,_,rfl,_,rfl,?_⟩;rw[show(((0:Nat):Int)+(k:Int)).toNat=0+k by omega,gnu _ ⋯];exact hkk
  .intro H5 k g5 hk kk hkk;exact⟨_,rfl,hkk⟩
  intro D1 hD1;have g4:=Same.new hD1 (.lst ((bM (bZ r.at x) 0 bg).map V.int));have h4:(upd H3 D1 (.lst ((bM (bZ r.at x) 0 bg).map V.int))) D1=some (.lst ((bM (bZ r.at x) 0 bg).map V.int)):=aG;have Jp:=g4 _ _ yL;have Xe:=gA.free hD1;generalize upd H3 D1 (.lst ((bM (bZ r.at x) 0 bg).map V.int))=H4 at g4 h4 Jp;refine⟨_,rfl,_,rfl,_,rfl,_,_,rfl,⟨(⋯:-(2^62)<=(bg:Int)),(⋯:(bg:Int)<2^62),(⋯:-(2^62)<=(bg:Int)+(ln:Int)),(⋯:(bg:Int)+(ln:Int)<2^62)⟩,?_⟩;rw[show((bg:Int)+(ln:Int)-(bg:Int)).toNat=ln by omega];refine Kq (cJ (show ln<=4096 by omega) ∅) rfl (bZ r.at x) ?_ ?_ ?_
  .intro H5 k g5 hk kk hkk;refine⟨_,rfl,_,rfl,_,_,.inl (aC.of (g5 _ _ Jp)),cM (ns:=nu) (⋯:(0:Int)<=(bg:Int)+(k:Int)) ⋯,_,rfl,_,rfl,?_⟩;rw[show((bg:Int)+(k:Int)).toNat=bg+k by omega,gnu _ ⋯];exact hkk
  .intro H5 k g5 hk kk hkk;exact⟨_,rfl,hkk⟩
  intro D2 hD2;have g5:=Same.new hD2 (.lst ((bM (bZ r.at x) bg ln).map V.int));have h5:(upd H4 D2 (.lst ((bM (bZ r.at x) bg ln).map V.int))) D2=some (.lst ((bM (bZ r.at x) bg ln).map V.int)):=aG;have Wo:=(gA.trans g4).free hD2;have ne:D1≠D2:=λz=>by rw[<-z,h4]at hD2;cases hD2
  have h4':=g5 _ _ h4;generalize upd H4 D2 (.lst ((bM (bZ r.at x) bg ln).map V.int))=H5 at g5 h5 h4';refine⟨_,rfl,_,rfl,_,rfl,(by show 3<=sizeLine;decide),λp9 hp9=>?_⟩;have g6:=Same.new hp9 (.tup [.ref D1,.ref D2,.int (ln:Int)]);exact q3 bg ln p9 D1 D2 _ (gA.trans (g4.trans (g5.trans g6))) ou hbl aG (g6 _ _ h4') (g6 _ _ h5) Xe Wo ne
theorem R5(F:Fn K mg "refuse_far_jump" BJ ["by","n"]):LZ P w K mg base:=by
 refine F.cal ab9 (λvs H Q E h=>?_) (λ_ _ _ _ _ H _ Q E hr h=>?_)
 .obtain⟨b,n,rfl,_⟩:=h;rfl
 .obtain⟨b,n,rfl,h0,h1,q⟩:=h;refine⟨_,(aK (dX (PW.pt (JL (cC oR (pv 1) ao) (Rj (PW.pt (LK (cC (gq K hr) (pv 0) ao) (O1 (cC oM (pv 1) (RD rfl B.Dl)))))))) (aK C0) dY)),?_⟩;refine⟨_,rfl,_,_,rfl,rfl,_,rfl,?_⟩;rw[decide_eq_false (⋯:¬n<0)];refine oJ ?_;refine⟨_,rfl,_,rfl,?_⟩;refine cP (λc=>?_) (λc=>?_)
  .have:=h1 (dec_true c);refine⟨_,rfl,_,_,rfl,rfl,_,rfl,?_⟩;rw[decide_eq_false (⋯:¬n>400)];exact oJ q
  .exact oJ q
theorem VB(F:Fn K mg "power_left" Cp ["by","poly","n"])(lE:wR P w K mg base)(za:Nu P w K mg base):OD P w K mg base:=by
 refine F.cal rD (λvs H Q E h=>?_) (λ_ _ _ _ _ H _ Q E hr h=>?_)
 .obtain⟨b,a,rule,n,rfl,_⟩:=h;rfl
 .obtain⟨b,a,rule,n,rfl,Ab,hA,hrl,hN,q⟩:=h;refine⟨_,(au (aJ 3 rD.nd (aP K (aN lE hr (ak (pv 0) (Lb (mX (cW ao aj)) (ak (pv 1) aj)))) ao)) (au (iD PassesOwn.never rfl (Ov rfl B.dD (cT (aD cL (acU K (pv 2)) ao) (zY (zR wA ao) (zY (zR wA ao) aj)))) (bT 4 rD.nd) (au (aJ 5 rD.nd (aN za hr (ak (pv 0) (ak (pv 3) (ak (pv 3) aj))))) (au (rC (dX (cC (gq K hr) (aD dB (aD Ze (pv 2) (pv 4)) ao) ao) (aK (aJ 5 rD.nd (aN za hr (ak (pv 0) (ak (pv 5) (Lb (mX (cW ao (cW ao aj))) aj)))))) dY)) (aK (aJ 3 rD.nd (aP K (aN lE hr (ak (pv 0) (ak (pv 5) (ak (pv 1) aj)))) ao)))))) (aK (bB (pv 3))))),?_⟩;have hM:=Pm.yO b rule;have lM:=Pm.iw b rule;have GX:0<b/\b<1000:=by obtain⟨P0,dO,eb⟩:=Ab;have:=je P0 dO;omega
  have hlo:0<=b:=⋯;have h1:=Ab.one;refine⟨_,rfl,(by show 1<=sizeLine;decide),λt0 ht0=>?_⟩;have g0:=Same.new ht0 (.tup [.int 1]);refine⟨_,rfl,b,t0,a,[1],Pm.aH b rule,rfl,GX.1,⋯,aG,g0 _ _ hA,∅,⋯,hM,wH h1,λt x y q1 r1 H1 g1 ht hx hy d1 bq1 br1 lq1=>?_⟩;refine⟨_,_,.inr (aq.of ht),rfl,?_⟩;refine⟨_,rfl,rfl,_,rfl,rfl,?_⟩;have hB4:pA (n:Int)<=400:=intBits_le_iff.mpr hN;generalize hB:pA (n:Int)=B at hB4;have Uu:n/2^B=0:=afu (yu hB);refine⟨_,_,rfl,rfl,_,rfl,_,rfl,(B:Int)-1,-1,rfl,⟨⋯,⋯,⋯,⋯⟩,?_⟩;refine GC (lo:=(B:Int)-1) (n:=((B:Int)-1-(-1)).toNat) (λi σ' H'=>∃(p:Addr) (l:List Int) (o4 o5:Option V),σ'=[some (.int b),some (.ref a),some (.int n),some (.ref p),o4,o5]/\Same H H'/\H' p=some (.tup (gW V.int l))/\Pm.Pw b rule (n/2^(B-i)) l/\Pm.Py b l/\l.length<=rule.length)
   ⟨y,r1,_,_,rfl,g0.trans g1,hy,?_,d1.ry,?_⟩ ?_ ?_
  .rw[lU,Uu];exact(Pm.Pw.one b rule).left d1
  .have:=d1.short;omega
  .rintro i σ' H' hi ⟨p,l,o4,o5,rfl,g,hp,hw,hy2,hl⟩;have hi':i<B:=⋯;obtain⟨k,hk⟩:∃k,B-i=k+1:=⟨B-i-1,⋯⟩;rw[hk]at hw;have ek:B-(i+1)=k:=⋯;have ekI:(B:Int)-1-(i:Int)=(k:Int):=⋯;rw[ekI];have bl2:∀x∈l,Rm.Bd 1000000 x:=λx hx=>(Cg Ab hy2.co x hx).mono ∅;refine⟨_,rfl,_,rfl,_,rfl,b,p,p,l,l,rfl,hlo,hp,hp,⋯,⋯,bl2,bl2,λp2 H2 g2 hp2=>?_⟩;have hw2:Pm.Pw b rule (n/2^(k+1)+n/2^(k+1)) (Pm.mul b l l):=hw.mul hw;have bD:∀x∈Pm.mul b l l,Rm.Bd 2000 x:=Cg Ab (Pm.E1 b _ _).co;have lD:=Ke b l l;refine m5.by (λσ' H'=>∃(p3:Addr) (l3:List Int),σ'=[some (.int b),some (.ref a),some (.int n),some (.ref p),some (.int (k:Int)),some (.ref p3)]/\Same H H'/\H' p3=some (.tup (gW V.int l3))/\Pm.Pw b rule (n/2^k) l3/\(∀j,Rm.tk b (Pm.co l3 j)=Pm.co l3 j)/\l3.length<=40) (λNN RQ=>?_) ?_
   .refine⟨_,rfl,_,rfl,_,_,rfl,rfl,(⋯:(0:Int)<=(k:Int)),_,_,rfl,rfl,(∅:(0:Int)<2),_,rfl,?_⟩;have aa6:((n:Int)/2^(k:Int).toNat)%2=((n/2^k%2:Nat):Int):=by
     rw[dw]
     norm_cast
    rw[aa6];have fs:=aek n k;refine cP (λc=>?_) (λc=>?_)
    .have c':n/2^k%2=1:=by have:=dec_true c;omega
     refine⟨_,rfl,_,rfl,(by show 2<=sizeLine;decide),λt2 Bp=>?_⟩;have g3:=Same.new Bp (.tup [.int 0,.int 1]);refine⟨b,p2,t2,Pm.mul b l l,[0,1],rfl,hlo,g3 _ _ hp2,aG,⋯,∅,λx hx=>(bD x hx).mono ∅,λx hx=>?_,λp4 H4 g4 Fe=>?_⟩
     .rcases jg.mp hx with rfl|hx
      .exact Rm.Bd.zero _
      .rw[xK.mp hx];exact(Rm.Bd.of (n:=1) ∅ ∅).mono ∅
     .refine RQ _ _ ⟨p4,_,rfl,g.trans (g2.trans (g3.trans g4)),Fe,?_,λj=>(Pm.E1 b _ _).co j,?_⟩
      .have:=hw2.mul (Pm.Pw.x b rule);rw[fs,c',show 2*(n/2^(k+1))+1=n/2^(k+1)+n/2^(k+1)+1 by omega];exact this
      .have:=Ke b (Pm.mul b l l) [0,1];have e2:([0,1]:List Int).length=2:=rfl;omega
    .have c':n/2^k%2=0:=by have:=dec_false c;omega
     refine RQ _ _ ⟨p2,_,rfl,g.trans g2,hp2,?_,λj=>(Pm.E1 b _ _).co j,⋯⟩;rw[fs,c',show 2*(n/2^(k+1))+0=n/2^(k+1)+n/2^(k+1)by omega];exact hw2
   .rintro σ' H3 ⟨p3,l3,rfl,g3,hp3,XC,ht3,z3⟩;refine⟨_,rfl,_,rfl,_,rfl,b,p3,a,l3,Pm.aH b rule,rfl,GX.1,⋯,hp3,g3 _ _ hA,⋯,⋯,hM,ht3,λt x y q4 r4 H4 g4 ht hx hy d4 _ _ _=>?_⟩;refine⟨_,_,.inr (aq.of ht),rfl,?_⟩;refine⟨y,r4,_,_,rfl,g3.trans g4,hy,?_,d4.ry,?_⟩
    .rw[ek];exact XC.left d4
    .have:=d4.short;omega
  .rintro σ' H' ⟨p,l,o4,o5,rfl,g,hp,hw,hy2,hl⟩;have e9:B-((B:Int)-1-(-1)).toNat=0:=⋯;rw[e9,zB,Nat.div_one]at hw;exact⟨_,rfl,q p H' l g hp hw hy2 hl⟩
theorem R3(F:Fn K mg "jump" CQ ["row","n"])(Ca:LZ P w K mg base)(EV:OD P w K mg base)(tG:BR P w K mg base)(Bj:Ru P w K mg base):Qk P w K mg base:=by
 refine F.cal yJ (λvs H Q E h=>?_) (λ_ _ _ _ _ H _ Q E hr h=>?_)
 .obtain⟨v,r,n,rfl,_⟩:=h;rfl
 .obtain⟨v,r,n,rfl,⟨a,p,p2,rfl,hA,hR,hS⟩,ok,hB,hN,q⟩:=h;refine⟨_,(au (aJ 2 yJ.nd (aP K (pv 0) ao)) (au (aJ 3 yJ.nd (aP K (pv 0) ao)) (au (uF (aN Ca hr (ak (pv 2) (ak (pv 1) aj)))) (au (nZ (i:=4) yJ.nd rfl (jq rfl) (aN EV hr (ak (pv 2) (aV (aN tG hr (ak (pv 2) (ak (pv 3) aj))) (ak (pv 1) aj))))) (aK (bB (iG (n6 K) rfl B.pB boot_tuple (aV (ud (sc:=WQ) (N:=["i","left"]) (ix:=[none,some 4]) jt rfl (fO rfl B.dD (aV (bV K B.bK (ak (pv 3) aj)) aj)) (λcl C s₀ H₀ ex=>⟨(bT 0 jm),lY,(aN Bj hr (ak (pv 1) (ak (pv 0) aj)))⟩)) aj)))))))),?_⟩;have hb0:r.b≠0:=by obtain⟨P0,dO,eb⟩:=hB;have:=je P0 dO;omega
  have hl:=ok.short;refine⟨_,rfl,_,_,.inr (aq.of hA),rfl,?_⟩;refine⟨_,rfl,_,_,.inr (aq.of hA),rfl,?_⟩;refine⟨_,rfl,_,rfl,r.b,n,rfl,⋯,λz=>absurd z hb0,?_⟩;refine⟨_,rfl,_,rfl,_,rfl,r.b,p,r.rule,rfl,ok.gM,hR,⋯,λt1 H1 g1 h1=>?_⟩;refine⟨_,rfl,r.b,t1,r.rule,n,rfl,hB,h1,hl,hN,λt2 H2 l g2 h2 hw hy hz=>?_⟩;have xX:=g1.trans g2;refine⟨_,rfl,.ref p,r.rule.length,rfl,.inr ⟨_,aq.of (xX _ _ hR),(aM _).symm⟩,?_⟩;refine⟨(r.rule.length:Int),rfl,(⋯:-(2^62)<=(r.rule.length:Int)),(⋯:(r.rule.length:Int)<2^62),?_⟩;rw[dw];refine yQ (n:=r.rule.length) ⋯ rfl (λj=>Pm.ej r.b r.rule j n) ?_ ?_
  .intro H3 k g3 hk kk hkk;refine⟨_,rfl,_,rfl,t2,l,0+(k:Int),rfl,g3 _ _ h2,⋯,?_⟩;rw[show(0+(k:Int)).toNat=k by omega,hw.co hB.one hy hz hk];exact hkk
  .intro D hD;refine⟨D,_,rfl,.inl ⟨aC.of aG,λt ht=>?_⟩⟩;exact q t _ (xX.trans ((Same.new hD _).trans (Same.new ht _))) aG
theorem UW(F:Fn K mg "sum_at" DP ["by","poly","found","n"])(cB:jV P w K mg base):Kv P w K mg base:=by
 refine F.cal Zr (λvs H Q E h=>?_) (λ_ _ _ _ _ H _ Q E hr h=>?_)
 .obtain⟨b,a,l,p,f,n,rfl,_⟩:=h;rfl
 .obtain⟨b,a,l,p,fo,n,rfl,hb,hA,hL,hn,zA,bA,bF,q⟩:=h;refine⟨_,(aK (bB (aN cB hr (ak (pv 0) (aV (pO (Ji K rfl) rfl B.MS boot_sum (aV (ud (sc:=Yv) (N:=["k","found","n","poly"]) (ix:=[none,some 2,some 3,some 1]) jt rfl (fO rfl B.dD (aV (bV K B.bK (ak (pv 1) aj)) aj)) (λcl C s₀ H₀ ex=>⟨(bT 0 jm),lY,(aD v_mul (aP K (pv 3) (pv 0)) (aP K (pv 1) (pad K (pv 2) (pv 0))))⟩)) aj)) aj))))),?_⟩;have lC:(p.map V.int).length=p.length:=aM _;refine⟨_,rfl,_,rfl,.ref a,p.length,rfl,.inr ⟨_,aq.of hA,lC.symm⟩,?_⟩;refine⟨(p.length:Int),rfl,(⋯:-(2^62)<=(p.length:Int)),(⋯:(p.length:Int)<2^62),?_⟩;rw[dw];refine yQ (n:=p.length) zA rfl (λk=>Pm.co p k*Pm.co fo (n+k)) ?_ ?_
  .intro H2 k g2 hk kk hkk;have e1:(0+(k:Int)).toNat=k:=⋯;have e2:(0+(n:Int)+(0+(k:Int))).toNat=n+k:=⋯;refine⟨_,rfl,_,rfl,_,_,.inr (aq.of (g2 _ _ hA)),cM (ns:=p) (⋯:(0:Int)<=0+(k:Int)) ⋯,?_⟩;refine⟨_,rfl,_,rfl,_,rfl,_,_,hL.imp (λz=>aC.of (g2 _ _ z)) (λz=>aq.of (g2 _ _ z)),cM (ns:=fo) (⋯:(0:Int)<=0+(n:Int)+(0+(k:Int))) ⋯,?_⟩;refine⟨uQ (Rm.Bd.getD bA _) (Rm.Bd.getD bF _) ∅,?_⟩;rw[e1,e2];exact hkk
  .intro D hD;refine⟨D,_,rfl,aC.of aG,b,_,rfl,hb,?_⟩;have:=q _ (Same.new hD (.lst ((Pm.aR p.length λk=>Pm.co p k*Pm.co fo (n+k)).map V.int)));unfold Pm.ks at this;rw[Pm.aR,Pm.Cv];exact this
theorem WG(F:Fn K mg "place_at" Fd ["row","n"])(DR:Kv P w K mg base)(Fb:Qk P w K mg base):O7 P w K mg base:=by
 refine F.cal Y0 (λvs H Q E h=>?_) (λ_ _ _ _ _ H _ Q E hr h=>?_)
 .obtain⟨v,r,n,rfl,_⟩:=h;rfl
 .obtain⟨v,r,n,rfl,hR,ok,hB,hN,q⟩:=h;refine⟨_,(aK (bB (aN DR hr (aV (aP K (pv 0) ao) (aV (aN Fb hr (ak (pv 0) (ak (pv 1) aj))) (aV (aP K (pv 0) ao) (cW ao aj))))))),?_⟩;obtain⟨a,p,p2,rfl,hA,hP,hS⟩:=id hR;have hsh:=ok.short;have hl:=ok.len;refine⟨_,rfl,_,_,.inr (aq.of hA),rfl,?_⟩;refine⟨_,rfl,_,rfl,.ref a,r,n,rfl,hR,ok,hB,hN,λtj H1 g1 hj=>?_⟩;refine⟨_,rfl,_,_,.inr (aq.of (g1 _ _ hA)),rfl,?_⟩;refine⟨r.b,tj,p2,Pm.rest r.b r.rule n,r.starts,0,rfl,ok.gM,hj,.inr (g1 _ _ hS),by rw[Pm.A9];omega,by rw[Pm.A9];omega,λx hx=>(aaW hB _ _ x hx).mono ∅,λx hx=>(ok.DF x hx).mono ∅,λH2 g2=>?_⟩;rw[<-ok.afr,ok.afe hB n 0 r.rule.length ⋯,eO];exact q _ (g1.trans g2)
theorem agn(F:Fn K mg "_law_at" Dr ["_law_script","_law_k"]):FN P w K mg base:=by
 refine F.cal Bk (λvs H Q E h=>?_) (λ_ _ _ _ _ H _ Q E hr h=>?_)
 .obtain⟨a,ns,k,rfl,_⟩:=h;rfl
 .obtain⟨a,ns,k,rfl,hS,h0,h1,q⟩:=h;refine⟨_,(au (dX (cC oR (pv 1) (bV K B.bK (ak (pv 0) aj))) (aK (bB (aP K (pv 0) (pv 1)))) dY) (au (aJ 2 Bk.nd (pad K ao (aD v_mul (aD v_mul ao (pv 1)) (pv 1)))) (au (rC (dX (cC oM (bV K B.bK (ak (pv 0) aj)) ao) (aK (aJ 2 Bk.nd (pad K (pv 2) (aD v_mul (aD dB (aP K (pv 0) (aD dB (pv 1) (bV K B.bK (ak (pv 0) aj)))) ao) (pad K (aD qQ (pv 1) (bV K B.bK (ak (pv 0) aj))) ao))))) dY)) (aK (bB (aD dB (aD v_mul (pv 2) ao) ao)))))),?_⟩;have hl:(ns.map V.int).length=ns.length:=aM _;refine⟨_,rfl,_,rfl,.ref a,ns.length,rfl,.inl ⟨_,hS,hl.symm⟩,_,_,rfl,rfl,_,rfl,?_⟩;refine cP (λc=>?_) (λc=>?_)
  .have c':k<(ns.length:Int):=dec_true c;exact⟨_,rfl,_,rfl,ns.map V.int,.int (ns.getD k.toNat 0),.inl hS,cM h0 c',q _ λhB=>intBits_le_iff.mp (hB _ (Pm.ED ⋯))⟩
  .have c':¬k<(ns.length:Int):=dec_false c;have k2:k*k<=1000*1000:=Int.mul_le_mul h1 h1 h0 ∅;have k0:0<=k*k:=Int.mul_nonneg h0 h0;refine⟨_,rfl,mulL ∅ ∅,_,rfl,mulR ⋯ ⋯,?_⟩;refine m5.by (λσ' H'=>∃m:Int,σ'=[some (.ref a),some (.int k),some (.int m)]/\H=H') (λN hN=>?_) ?_
   .refine⟨_,rfl,.ref a,ns.length,rfl,.inl ⟨_,hS,hl.symm⟩,_,_,rfl,rfl,_,rfl,?_⟩;refine cP (λd=>?_) (λd=>hN _ _ ⟨_,rfl,rfl⟩);have d':(0:Int)<(ns.length:Int):=dec_true d;have m0:=fJ k d';have m1:=fP k d';refine⟨_,rfl,_,rfl,_,rfl,_,rfl,.ref a,ns.length,rfl,.inl ⟨_,hS,hl.symm⟩,_,_,rfl,rfl,d',_,_,.inl hS,cM m0 m1,?_⟩;refine⟨_,_,rfl,rfl,(∅:(0:Int)<1000133),?_⟩;refine⟨_,rfl,_,rfl,.ref a,ns.length,rfl,.inl ⟨_,hS,hl.symm⟩,_,_,rfl,rfl,⟨d',by show(ns.length:Int)<1073741824;omega⟩,?_⟩;have n0:=fJ (ns.getD (k%(ns.length:Int)).toNat 0) (show(0:Int)<1000133 by decide);have n1:=fP (ns.getD (k%(ns.length:Int)).toNat 0) (show(0:Int)<1000133 by decide);exact⟨mulL ⋯ ⋯,hN _ _ ⟨_,rfl,rfl⟩⟩
   .rintro _ _ ⟨m,rfl,rfl⟩;refine⟨_,rfl,mulR ∅ ∅,_,_,rfl,rfl,(∅:(0:Int)<2147483647),q _ λ_=>?_⟩;have z0:=fJ (m*48271) (show(0:Int)<2147483647 by decide);have z1:=fP (m*48271) (show(0:Int)<2147483647 by decide);exact(Rm.Bd.of (n:=40) ⋯ ⋯).mono ∅
theorem ad4(F:Fn K mg "_law_row" DV ["_law_script","_law_at_here"])(iR:FN P w K mg base):JV P w K mg base:=by
 refine F.cal qp (λvs H Q E h=>?_) (λ_ _ _ _ _ H _ Q E hr h=>?_)
 .obtain⟨a,ns,st,rfl,_⟩:=h;rfl
 .obtain⟨a,ns,st,rfl,hS,s0,s1,q⟩:=h;refine⟨_,(au (nZ (i:=2) qp.nd rfl (jq rfl) (aP K (pI (cW ao (cW ao (cW ao (cW ao (cW ao (cW ao (cW ao (cW ao (cW ao (cW ao (cW ao (cW ao aj))))))))))))) (aD dB (aN iR hr (ak (pv 0) (ak (pv 1) aj))) ao))) (au (aJ 3 qp.nd (Gz hr.hu (adT (jP ao ao (jP ao ao (jP ao ao (jP ao ao (jP ao ao (jP ao ao (jP ao ao (jP ao ao (jP ao ao (jP ao ao WY)))))))))) rfl rfl (List.cons_ne_nil _ _) ∅) (pv 2) (λ_ _=>rfl))) (au (aJ 4 qp.nd (aD dB (aD qQ (aN iR hr (ak (pv 0) (ak (pv 1) aj))) ao) (pad K (pv 3) ao))) (au (rC (dX (cC (gq K hr) (aD dB (aD qQ (aN iR hr (ak (pv 0) (ak (pv 1) aj))) ao) ao) ao) (aK (aJ 4 qp.nd (pad K ao (aD dB (aD qQ (aN iR hr (ak (pv 0) (ak (pv 1) aj))) ao) ao)))) dY)) (au (uE (i:=5) (hN:=qp.nd) (hi':=rfl) (hx:=(mz rfl)) (sc:=XY) (N:=["_law_k","_law_at_here","_law_script"]) (ix:=[none,some 1,some 0]) jt rfl (fO rfl B.dD (cT (aD v_mul ao (pv 4)) aj)) (λcl C s₀ H₀ ex=>⟨(bT 0 jm),lY,(aN iR hr (ak (pv 2) (cT (pad K (pad K (pv 1) ao) (pv 0)) aj)))⟩)) (au (aJ 6 qp.nd (iG (n6 K) rfl B.pB boot_tuple (aV (ud (sc:=YV) (N:=["_law_cell","_law_by"]) (ix:=[none,some 2]) jt rfl (Cj K (pY (qm K) (pv 5) rz (qR (pv 4)))) (λcl C s₀ H₀ ex=>⟨(bT 0 jm),lY,(aD v_mul (aD dB (aD qQ (pv 0) ao) (pv 1)) (iG abA rfl B.aaL boot_int (aV (v9 oR (aD dB (pv 0) ao) ao (yS _)) aj)))⟩)) aj))) (aK (bB (mX (ak (pv 2) (ak (pv 6) (aV (iG (n6 K) rfl B.pB boot_tuple (aV (ud (sc:=agf) (N:=["_law_cell","_law_by"]) (ix:=[none,some 2]) jt rfl (Cj K (pY (qm K) (pv 5) (qR (pv 4)) rz)) (λcl C s₀ H₀ ex=>⟨(bT 0 jm),lY,(aD dB (aD qQ (pv 0) ao) (pv 1))⟩)) aj)) aj)))))))))))),?_⟩;refine⟨(by show 12<=sizeLine;decide),λCr WX=>?_⟩;have g1:=Same.new WX (.lst (rB.map V.int));refine⟨_,rfl,_,rfl,a,ns,st,rfl,g1.seq hS,s0,⋯,λc _=>?_⟩;have e0:=fJ c (show(0:Int)<12 by decide);have e1:=fP c (show(0:Int)<12 by decide);refine⟨_,_,rfl,rfl,(∅:(0:Int)<12),_,_,.inl (aC.of aG),cM (ns:=rB) e0 e1,?_⟩;obtain⟨P0,m,dO,hm,eb,ev⟩:=YW (c%12).toNat ⋯;rw[eb]at ev⊢;have eH:(upd H Cr (.lst [.int 2,.int 3,.int 5,.int 7,.int 13,.int 61,.int 2,.int 3,.int 997,.int 11,.int 17,.int 67]))=upd H Cr (.lst (rB.map V.int)):=rfl;rw[eH];have hS1:=g1.seq hS;generalize upd H Cr (.lst (rB.map V.int))=H1 at g1 hS1;have SM:=je P0 dO;refineλpd hpd=>?_;have hg:gZ (upd (upd H1 pd (.dK [])) pd (.dK (j7 [] sU))) pd (.int (P0:Int)) (some (.int (m:Int))):=by
   have:=gZ.k (H:=upd (upd H1 pd (.dK [])) pd (.dK (j7 [] sU))) (k:= .inl (P0:Int)) aG;rw[ev]at this;exact this
  refine⟨aG,sU,rfl,∅,_,rfl,pd,.int (m:Int),rfl,hg,?_⟩;have gd:Same H1 (upd (upd H1 pd (.dK [])) pd (.dK (j7 [] sU))):=(Same.new hpd (.dK [])).upd hpd _;have hS2:=gd.seq hS1;generalize upd (upd H1 pd (.dK [])) pd (.dK (j7 [] sU))=H2 at gd hS2;refine⟨_,rfl,_,rfl,a,ns,st,rfl,hS2,s0,⋯,λc2 _=>?_⟩;refine⟨_,_,rfl,rfl,⟨∅,∅⟩,_,rfl,_,_,rfl,rfl,(by show(0:Int)<(m:Int)+1;omega),?_⟩;have f0:=fJ (c2/12) (show(0:Int)<(m:Int)+1 by omega);have f1:=fP (c2/12) (show(0:Int)<(m:Int)+1 by omega);refine m5.by (λσ' H'=>∃n:Nat,n<=12/\σ'=[some (.ref a),some (.int st),some (.int (P0:Int)),some (.int (m:Int)),some (.int (n:Int)),none,none]/\H2=H') (λN hN=>?_) ?_
  .refine⟨_,rfl,_,rfl,a,ns,st,rfl,hS2,s0,⋯,λc3 _=>?_⟩;refine⟨_,_,rfl,rfl,⟨∅,∅⟩,_,_,rfl,rfl,(∅:(0:Int)<7),_,rfl,?_⟩;refine cP (λ_=>?_) (λ_=>?_)
   .refine⟨_,rfl,_,rfl,a,ns,st,rfl,hS2,s0,⋯,λc4 _=>?_⟩;refine⟨_,_,rfl,rfl,⟨∅,∅⟩,_,_,rfl,rfl,(∅:(0:Int)<11),?_⟩;have e0:=fJ (c4/1400) (show(0:Int)<11 by decide);have e1:=fP (c4/1400) (show(0:Int)<11 by decide);exact hN _ _ ⟨(2+c4/1400%11).toNat,⋯,by rw[kW ⋯];rfl,rfl⟩
   .exact hN _ _ ⟨(c2/12%((m:Int)+1)).toNat,⋯,by rw[kW ⋯];rfl,rfl⟩
  rintro _ _ ⟨n,hn,rfl,rfl⟩;refine⟨_,rfl,mulL ∅ ∅,2*(n:Int),rfl,(⋯:-(2^62)<=2*(n:Int)),(⋯:2*(n:Int)<2^62),?_⟩;rw[show(2*(n:Int)).toNat=2*n by omega];refine ZK (n:=2*n) ⋯ rfl (λ_=>True) ?_ ?_
  .intro H3 k g3 hk kk hkk;exact⟨_,rfl,_,rfl,_,rfl,a,ns,_,rfl,g3.seq hS2,(⋯:(0:Int)<=st+1+(0+(k:Int))),⋯,λc _=>hkk c _ (Same.refl _) trivial⟩
  intro D1 H3 cells hD1 g3 hc3 lc _;refine⟨_,rfl,_,rfl,(n:Int),rfl,.inl ⟨_,aC.of hc3,λl1 hl1=>?_⟩⟩;rw[xP,<-sY];have g4:=Same.new hl1 (.lst ((cells.take n).map V.int));have h4:(upd H3 l1 (.lst ((cells.take n).map V.int))) l1=some (.lst ((cells.take n).map V.int)):=aG;have hc4:=g4 _ _ hc3;generalize upd H3 l1 (.lst ((cells.take n).map V.int))=H4 at g4 h4 hc4;have hp0:(0:Int)<(P0:Int):=⋯;refine⟨l1,rfl,.inl ⟨⟨_,aC.of h4⟩,Lx h4 (by rw[iB];omega) rfl (λc=>c/3%(P0:Int)*(if decide (c%3<2)=true then 1 else 0)) ?_ ?_⟩⟩
  .intro H5 x g5 hx kk hk;refine⟨_,rfl,_,_,rfl,rfl,⟨∅,∅⟩,_,rfl,_,_,rfl,rfl,hp0,?_⟩;refine⟨_,rfl,_,_,rfl,rfl,(∅:(0:Int)<3),_,_,rfl,rfl,.inr ⟨_,rfl,mulR ?_ ?_,hk⟩⟩
   .split<;>decide
   .split<;>decide
  intro D2 hD2;refine⟨D2,_,rfl,.inl ⟨aC.of aG,λt1 ht1=>?_⟩⟩;obtain⟨ru,qO⟩:∃ru:List Int,ru=(cells.take n).map λc=>c/3%(P0:Int)*(if decide (c%3<2)=true then 1 else 0):=⟨_,rfl⟩;rw[<-qO];have g5:=(Same.new hD2 (.lst (ru.map V.int))).trans (Same.new (qO▸ht1) (.tup (ru.map V.int)));have h5:(upd (upd H4 D2 (.lst (ru.map V.int))) t1 (.tup (ru.map V.int))) t1=some (.tup (ru.map V.int)):=aG;have hc5:=g5 _ _ hc4;generalize upd (upd H4 D2 (.lst (ru.map V.int))) t1 (.tup (ru.map V.int))=H5 at g5 h5 hc5;refine⟨_,rfl,_,rfl,_,rfl,_,rfl,(n:Int),rfl,.inl ⟨_,aC.of hc5,λl2 hl2=>?_⟩⟩;rw[MJ _ (by rw[aM];omega),<-Ml];have g6:=Same.new hl2 (.lst ((cells.drop n).map V.int));have h6:(upd H5 l2 (.lst ((cells.drop n).map V.int))) l2=some (.lst ((cells.drop n).map V.int)):=aG;have PB:=g6 _ _ h5;generalize upd H5 l2 (.lst ((cells.drop n).map V.int))=H6 at g6 h6 PB;refine⟨l2,rfl,.inl ⟨⟨_,aC.of h6⟩,Lx h6 (by rw[pD];omega) rfl (λc=>c/5%(P0:Int)) ?_ ?_⟩⟩
  .intro H7 x g7 hx kk hk;exact⟨_,rfl,_,_,rfl,rfl,⟨∅,∅⟩,_,rfl,_,_,rfl,rfl,hp0,hk⟩
  intro D3 hD3;refine⟨D3,_,rfl,.inl ⟨aC.of aG,λt2 Bp=>?_⟩⟩;obtain⟨gU,yc⟩:∃gU:List Int,gU=(cells.drop n).map λc=>c/5%(P0:Int):=⟨_,rfl⟩;rw[<-yc];have g7:=(Same.new hD3 (.lst (gU.map V.int))).trans (Same.new (yc▸Bp) (.tup (gU.map V.int)));have h7:(upd (upd H6 D3 (.lst (gU.map V.int))) t2 (.tup (gU.map V.int))) t2=some (.tup (gU.map V.int)):=aG;have Rk:=g7 _ _ PB;generalize upd (upd H6 D3 (.lst (gU.map V.int))) t2 (.tup (gU.map V.int))=H7 at g7 h7 Rk;refine⟨(by show 3<=sizeLine;decide),λpz hpz=>?_⟩;have gz:=Same.new hpz (.tup [.int (P0:Int),.ref t1,.ref t2]);have GJ:∀x∈ru,0<=x/\x<(P0:Int):=λx hx=>by
   rw[qO]at hx;obtain⟨c,_,rfl⟩:=fB.mp hx;have a0:=fJ (c/3) hp0;have a1:=fP (c/3) hp0;split
   .rw[iu];exact⟨a0,a1⟩
   .rw[cO];omega
  have Qs:∀x∈gU,0<=x/\x<(P0:Int):=λx hx=>by
   rw[yc]at hx;obtain⟨c,_,rfl⟩:=fB.mp hx;exact⟨fJ _ hp0,fP _ hp0⟩
  have bv:∀v:Int,0<=v/\v<(P0:Int)->Rm.Bd 2000 v:=λv hv=>(Rm.Bd.of (n:=10) ⋯ ⋯).mono ∅;have lru:ru.length=n:=by rw[qO,aM,iB];omega
  have lst:gU.length=n:=by rw[yc,aM,pD];omega
  exact q _ ⟨(P0:Int),ru,gU⟩ _ (g1.trans (gd.trans (g3.trans (g4.trans (g5.trans (g6.trans (g7.trans gz))))))) ⟨pz,t1,t2,rfl,aG,gz _ _ Rk,gz _ _ h7⟩ ⟨(by show ru.length=gU.length;omega),(by show ru.length<=12;omega),(by show(0:Int)<=(P0:Int);omega),(Rm.Bd.of (n:=10) (by show -(2^10)<(P0:Int);omega) (by show(P0:Int)<2^10;omega)).mono ∅,λx hx=> .inr (GJ x hx),λx hx=> .inr (Qs x hx),λx hx=>bv x (GJ x hx),λx hx=>bv x (Qs x hx)⟩ ⟨P0,dO,rfl⟩
theorem Xo(F:Fn K mg "_law_going" Fq ["_law_row_here","_law_count"]):OJ P w K mg base:=by
 refine F.cal lV (λvs H Q E h=>?_) (λ_ _ _ _ _ H _ Q E hr h=>?_)
 .obtain⟨v,r,c,rfl,_⟩:=h;rfl
 .obtain⟨v,r,c,rfl,⟨a,p,p2,rfl,hA,hR,hS⟩,ok,hb0,hc0,hc1,q⟩:=h;refine⟨_,(au (qG (pv 0) (wW K (n:=3) rfl (jo (bT 2 lV.nd) (jo (bT 3 lV.nd) (jo (bT 4 lV.nd) wV))))) (au (aJ 5 lV.nd (pY (qm K) (iG (xlist K) rfl B.xr boot_list (ak (pv 4) aj)) rz (qR (pv 1)))) (au (su PassesOwn.never (cC oR (bV K B.bK (ak (pv 5) aj)) (pv 1)) (au (aJ 6 lV.nd ao) (au (iD PassesOwn.never rfl (fO rfl B.dD (aV (bV K B.bK (ak (pv 3) aj)) aj)) (bT 7 lV.nd) (aK (aJ 6 lV.nd (pad K (pv 6) (aD v_mul (aP K (pv 3) (pv 7)) (aP K (pv 5) (aD cL (aD cL (bV K B.bK (ak (pv 5) aj)) ao) (pv 7)))))))) (au (rC (dX (cC oM (pv 2) ao) (aK (aJ 6 lV.nd (aD dB (pv 6) (pv 2)))) dY)) (aK (uF (CV K (pv 5) (pv 6)))))))) (aK (bB (pv 5)))))),?_⟩;have hl:=ok.len;have hl2:=ok.short;have lS:(r.starts.map V.int).length=r.starts.length:=aM _;have lR:(r.rule.map V.int).length=r.rule.length:=aM _;refine⟨_,rfl,a,_,rfl,aq.of hA,rfl,_,_,rfl,_,_,rfl,_,_,rfl,rfl,?_⟩;have Ei:d7 (r.starts.map V.int) none (some c)=(r.row (min c.toNat r.starts.length)).map V.int:=by
   have e:r.row (min c.toNat r.starts.length)=r.starts.take (min c.toNat r.starts.length):=Rm.uX (Bu _ _);rw[e];have e2:c=((c.toNat:Nat):Int):=⋯;unfold d7;rw[e2,HT.jZ,HT.nT,DY,lU,lS,sY,dw]
  refine⟨_,rfl,p2,_,rfl,.inr (aq.of hS),λl0 hl0=>?_⟩;have g0:=Same.new hl0 (.lst (r.starts.map V.int));refine⟨_,rfl,_,rfl,.inl ⟨_,aC.of aG,λl hl1=>?_⟩⟩;rw[Ei];have g1:=g0.trans (Same.new hl1 (.lst ((r.row (min c.toNat r.starts.length)).map V.int)));have hr1:(upd (upd H l0 (.lst (r.starts.map V.int))) l (.lst ((r.row (min c.toNat r.starts.length)).map V.int))) l=some (.lst ((r.row (min c.toNat r.starts.length)).map V.int)):=aG;have hl1':=g0.free hl1;generalize upd (upd H l0 (.lst (r.starts.map V.int))) l (.lst ((r.row (min c.toNat r.starts.length)).map V.int))=H1 at g1 hr1;refine⟨λm σ' H'=>∃(n:Nat) (o6 o7:Option V),m=c.toNat-n/\min c.toNat r.starts.length<=n/\n<=c.toNat/\σ'=[some (.ref a),some (.int c),some (.int r.b),some (.ref p),some (.ref p2),some (.ref l),o6,o7]/\Same H H'/\H' l=some (.lst ((r.row n).map V.int)),
   ⟨_,min c.toNat r.starts.length,_,_,rfl,aO _,Hg _ _,rfl,g1,hr1⟩,?_⟩
  rintro m σ' H' ⟨n,o6,o7,rfl,h1,h2,rfl,g,hL⟩;have lL:((r.row n).map V.int).length=n:=by rw[aM,Rw.jD]
  have lN:(r.row n).length=n:=Rw.jD ..;refine⟨_,rfl,.ref l,n,rfl,.inl ⟨_,aC.of hL,lL.symm⟩,_,rfl,_,_,rfl,rfl,_,rfl,?_⟩;refine cP (λcc=>?_) (λcc=>?_)
  .have hn:n<c.toNat:=by have:=dec_true cc;omega
   refine⟨_,λ_ _ z=>z,?_⟩;refine⟨_,rfl,.ref p,r.rule.length,rfl,.inr ⟨_,aq.of (g _ _ hR),lR.symm⟩,?_⟩;refine⟨(r.rule.length:Int),rfl,(⋯:-(2^62)<=(r.rule.length:Int)),(⋯:(r.rule.length:Int)<2^62),?_⟩;rw[dw];refine jY (lo:=0) (n:=r.rule.length) (λi σ' H2=>∃(o7:Option V),σ'=[some (.ref a),some (.int c),some (.int r.b),some (.ref p),some (.ref p2),some (.ref l),some (.int (Rm.S r.rule (λi=>(r.row n).getD i 0) n i)),o7]/\H'=H2) ⟨_,rfl,rfl⟩ ?_ ?_
   .rintro i σ' H2 hi ⟨o7,rfl,rfl⟩;have e1:(0+(i:Int)).toNat=i:=⋯;refine⟨_,rfl,_,rfl,_,rfl,_,_,.inr (aq.of (g _ _ hR)),cM (ns:=r.rule) (⋯:(0:Int)<=0+(i:Int)) ⋯,?_⟩;refine⟨_,rfl,_,rfl,.ref l,n,rfl,.inl ⟨_,aC.of hL,lL.symm⟩,_,_,rfl,rfl,_,rfl,_,_,rfl,rfl,_,_,.inl (aC.of hL),cM (ns:=r.row n) (⋯:(0:Int)<=(n:Int)-1-(0+(i:Int))) ⋯,?_⟩;refine⟨uQ (Rm.Bd.getD ok.zF _) (Rm.Bd.getD (ok.LX hb0 n) _) ∅,?_⟩;refine⟨some (.int (0+(i:Int))),?_,rfl⟩;rw[e1,show((n:Int)-1-(0+(i:Int))).toNat=n-1-i by omega];rfl
   rintro σ' H2 ⟨o7,rfl,rfl⟩;refine m5.by (λσ' H2=>σ'=[some (.ref a),some (.int c),some (.int r.b),some (.ref p),some (.ref p2),some (.ref l),some (.int (Rm.tk r.b (Rm.S r.rule (λi=>(r.row n).getD i 0) n r.rule.length))),o7]/\H'=H2) (λN hN=>?_) ?_
   .refine⟨_,rfl,_,_,rfl,rfl,_,rfl,?_⟩;refine cP (λd=>?_) (λd=>hN _ _ ⟨?_,rfl⟩)
    .have d':0<r.b:=dec_true d;refine⟨_,rfl,_,rfl,_,_,rfl,rfl,d',hN _ _ ⟨?_,rfl⟩⟩;rw[Rm.iV ⋯];rfl
    .have d':¬0<r.b:=dec_false d;have b0:=ok.gM;rw[show r.b=0 by omega,Rm.u0]
   rintro _ _ ⟨rfl,rfl⟩;refine⟨_,rfl,.inl ⟨rfl,_,aC.of hL⟩,_,rfl,?_⟩;refine⟨l,_,_,rfl,rfl,hL,?_,?_⟩
   .rw[lL];exact dI (show n<5000 by omega) ∅
   .refine⟨c.toNat-(n+1),⋯,n+1,_,_,rfl,⋯,⋯,rfl,g.upd hl1' _,?_⟩;rw[aG];have e:r.row (n+1)=r.row n++[Rm.tk r.b (Rm.S r.rule (λi=>(r.row n).getD i 0) n r.rule.length)]:=by
     show _++[if n<r.starts.length then r.starts.getD n 0 else _]=_;rw[if_neg ⋯];rfl
    rw[e,iJ];rfl
  .have hn:n=c.toNat:=by have:=dec_false cc;omega
   subst hn;exact⟨_,rfl,q l H' g hl1' hL⟩
theorem aeD(F:Fn K mg "_law_too_long" Dq ["_law_by","_law_size"]):Jy P w K mg base:=by
 refine F.cal zx (λvs H Q E h=>?_) (λ_ _ _ _ _ H _ Q E hr h=>?_)
 .obtain⟨P',l,rfl,_⟩:=h;rfl
 .obtain⟨P',l,rfl,hP,hl,q⟩:=h;refine⟨_,(au (aJ 2 zx.nd ao) (au (iD PassesOwn.never rfl (fO rfl B.dD (ak (pv 1) aj)) (bT 3 zx.nd) (aK (aJ 2 zx.nd (aD v_mul (pv 2) (pv 0))))) (aK (bB (v9 oM (pv 2) ao (yS _)))))),?_⟩;refine⟨_,rfl,(l:Int),rfl,(sV (cJ hl ∅)).1,(sV (cJ hl ∅)).2,?_⟩;rw[dw];refine jY (lo:=0) (n:=l) (λi σ' H'=>∃o3:Option V,σ'=[some (.int P'),some (.int l),some (.int ((P'^i:Nat):Int)),o3]/\H=H') ⟨_,rfl,rfl⟩ ?_ ?_
  .rintro i σ' H' hi ⟨o3,rfl,rfl⟩;refine⟨_,rfl,_,rfl,mulR ⋯ ⋯,some (.int (0+(i:Int))),?_,rfl⟩;rw[qC,PJ];rfl
  .rintro σ' H' ⟨o3,rfl,rfl⟩;exact⟨_,rfl,_,_,rfl,rfl,q⟩
theorem agk(F:Fn K mg "_law_holds" Cz ["_law_row_here","_law_number","_law_n","_law_begin"])(uf:DB P w K mg base bH aY):Hl P w K mg base:=by
 refine F.cal zM (λvs H Q E h=>?_) (λ_ _ _ _ _ H _ Q E hr h=>?_)
 .obtain⟨v,r,L,bg,ln,n,x,rfl,_⟩:=h;rfl
 .obtain⟨v,r,L,bg,ln,n,x,rfl,hR,k,q⟩:=h;refine⟨_,(au (qG (aN uf hr (ak (pv 0) (ak (pv 1) aj))) (wW K (n:=3) rfl (jo (bT 4 zM.nd) (jo (bT 5 zM.nd) (jo (bT 6 zM.nd) wV))))) (au (dX (cC oR (pv 2) (pv 3)) (aK (bB (v9 (LV K hr) (pv 2) (pv 4) (by with_unfolding_all rfl)))) dY) (aK (bB (v9 (LV K hr) (pad K (pv 3) (aD dB (aD cL (pv 2) (pv 3)) (pv 6))) (pv 5) (by with_unfolding_all rfl)))))),?_⟩;have lp:=k.ux.pos;refine⟨_,rfl,_,rfl,?_⟩;dsimp only[xZ];refine k.asks hR λp le ls H1 g1 hp hle hls=>?_;refine⟨p,_,rfl,aq.of hp,rfl,_,_,rfl,_,_,rfl,_,_,rfl,rfl,?_⟩;refine⟨_,rfl,_,rfl,_,_,rfl,rfl,_,rfl,?_⟩;refine cP (λc=>?_) (λc=>?_)
  .have c':=dec_true c;refine⟨_,rfl,_,rfl,le,_,"int",rfl,aC.of hle,rfl,?_⟩;have e:decide (r.at n=x)=(bM (bZ r.at x) 0 bg).any (lH (.int (n:Int))):=by
    rw[Mf];refine decide_eq_decide.mpr ⟨λz=>nU.mpr ⟨n,⋯,decide_eq_true (by rw[eO];exact z),by rw[eO]⟩,λz=>?_⟩;obtain⟨i,hi,hp,e⟩:=nU.mp z;have:=of_decide_eq_true hp
    rwa [show n=0+i by omega]
   have:=q _ g1;rw[e]at this;exact this
  .have c':=dec_false c;refine⟨_,rfl,_,rfl,_,rfl,_,_,rfl,rfl,_,rfl,_,_,rfl,rfl,(⋯:(0:Int)<(ln:Int)),_,rfl,ls,_,"int",rfl,aC.of hls,rfl,?_⟩;have e2:(bg:Int)+((n:Int)-(bg:Int))%(ln:Int)=((bg+(n-bg)%ln:Nat):Int):=by
    rw[yG,B4,Pz ⋯]
   have eb:jd n bg ln=bg+(n-bg)%ln:=if_neg ⋯;have ea:=k.back n;rw[eb]at ea;have hm:=Nat.mod_lt (n-bg) lp;have e:decide (r.at n=x)=(bM (bZ r.at x) bg ln).any (lH (.int ((bg:Int)+((n:Int)-(bg:Int))%(ln:Int)))):=by
    rw[Mf,e2,<-ea];refine decide_eq_decide.mpr ⟨λz=>nU.mpr ⟨_,hm,decide_eq_true z,rfl⟩,λz=>?_⟩;obtain⟨i,hi,hp,e⟩:=nU.mp z;have:=of_decide_eq_true hp
    rwa [show bg+(n-bg)%ln=bg+i by omega]
   have:=q _ g1;rw[e]at this;exact this
theorem Xm{f:Addr}{fd:FuncData}(F:m9 K "law" "law" qF f fd)(DC:JV P w K mg base)(Fl:Jy P w K mg base)(rW:D4 P w K mg base)(CT:HS P w K mg base bH aY)(CB:OJ P w K mg base)(iR:FN P w K mg base)(CJ:O7 P w K mg base)(zj:Hl P w K mg base)(uf:DB P w K mg base bH aY):j8 P w K mg base (jX P w) DW f fd ["_law_script"] (CW K):=by
 refine F.okN (k:=13) eV (λvs H Q E h=>?_) (λcdv A outer s H vs Q E hr h=>?_)
 .obtain⟨a,ns,rfl,_⟩:=h;rfl
 .obtain⟨a,ns,rfl,hS,hlen,hB,q⟩:=h;refine⟨_,(au (aJ 1 eV.nd (aN DC hr (ak (pv 0) (cW ao aj)))) (au (dX (BP (aN Fl hr (aV (aP K (pv 1) ao) (aV (bV K B.bK (aV (aP K (aN rW hr (ak (pv 1) aj)) ao) aj)) aj)))) (aK (bB xJ)) dY) (au (qG (aN CT hr (ak (pv 1) aj)) (wW K (n:=2) rfl (jo (bT 2 eV.nd) (jo (bT 3 eV.nd) wV)))) (au (aJ 4 eV.nd (aN CB hr (ak (pv 1) (cT (pad K (pv 2) (pv 3)) aj)))) (au (iD PassesOwn.never rfl (fO rfl B.dD (cW ao aj)) (bT 5 eV.nd) (au (aJ 6 eV.nd (aP K (pI (cT (aD dB (aN iR hr (ak (pv 0) (cT (pad K ao (pv 5)) aj))) (pad K (pad K (pv 2) (pv 3)) ao)) (cT (aD dB (aD Ie (aN iR hr (ak (pv 0) (cT (pad K ao (pv 5)) aj))) ao) (aD Ie ao ao)) aj))) (aD dB (pv 5) ao))) (au (aJ 7 eV.nd (pv 6)) (au (rC (dX (cC XH (pv 6) (pv 2)) (aK (aJ 7 eV.nd (pad K (pv 2) (aD dB (aD cL (pv 6) (pv 2)) (pv 3))))) dY)) (au (aJ 8 eV.nd (aN CJ hr (ak (pv 1) (ak (pv 6) aj)))) (au (dX (PW.pt (JL (cC (R4 K hr) (pv 8) (aP K (pv 4) (pv 7))) (Rj (Tc (BP (aN zj hr (ak (pv 1) (ak (pv 8) (ak (pv 6) (ak (pv 2) aj)))))))))) (aK (bB xJ)) dY) (au (aJ 9 eV.nd (aD dB (pad K (pad K (pv 8) ao) (aD dB (aN iR hr (ak (pv 0) (cT (pad K ao (pv 5)) aj))) (aD cL (aP K (pv 1) ao) ao))) (aP K (pv 1) ao))) (aK (dX (BP (aN zj hr (ak (pv 1) (ak (pv 9) (ak (pv 6) (ak (pv 2) aj)))))) (aK (bB xJ)) dY))))))))) (au (dX (cC oR (aP K (pv 1) ao) ao) (au (aJ 10 eV.nd (pI aj)) (au (iD PassesOwn.never rfl (fO rfl B.dD (aV (aP K (pv 1) ao) aj)) (bT 11 eV.nd) (au (qG (aN uf hr (ak (pv 1) (ak (pv 11) aj))) (wW K (n:=3) rfl (jo (bT 12 eV.nd) (jo (bT 13 eV.nd) (jo (bT 14 eV.nd) wV))))) (aK (aJ 10 eV.nd (pad K (pad K (pv 10) (pv 12)) (pv 13)))))) (aK (bB (v9 (gq K hr) (pO aga rfl B.acr aes (ak (pv 10) aj)) (aap rfl rfl B.xr rfl B.dD (cT (pad K (pv 2) (pv 3)) aj)) (yS _)))))) dY) (aK (bB xJ)))))))),?_⟩;refine⟨_,rfl,a,ns,0,rfl,hS,∅,∅,λv r H1 g1 hR ok hY=>?_⟩;have hS1:=g1.seq hS;obtain⟨P0,dO,eb⟩:=id hY;have SM:=je P0 dO;have hs:=ok.short;obtain⟨xa,xp,xq,rfl,HZ,hxR,hxS⟩:=id hR;refine⟨_,rfl,_,_,.inr (aq.of HZ),rfl,_,rfl,.ref xa,r,rfl,hR,ok,hY,λsv L H5 g5 Ua hL hl=>?_⟩;have lL:(eX r L).rule.length=L.length-1:=Pm.j5 ..;obtain⟨sa,sr,sq,rfl,hsA,hsR,hsS⟩:=Ua;have lS:((eX r L).rule.map V.int).length=L.length-1:=by rw[aM,lL]
  have tn:r.b.toNat=P0:=by rw[eb,dw]
  refine⟨_,_,.inr (aq.of hsA),rfl,.ref sr,L.length-1,rfl,.inr ⟨_,aq.of hsR,lS.symm⟩,?_⟩;refine⟨P0,L.length-1,by rw[eb];rfl,⋯,⋯,?_⟩;by_cases hw:r.b.toNat^(L.length-1)<=4096;case neg=>
   have hw2:4096<r.b.toNat^(L.length-1):=Qt hw;rw[tn]at hw2;rw[decide_eq_true (show(4096:Int)<((P0^(L.length-1):Nat):Int)by omega)];exact⟨_,rfl,UO (q _)⟩
  have hw':=hw;rw[tn]at hw';rw[decide_eq_false (show ¬(4096:Int)<((P0^(L.length-1):Nat):Int)by omega)];refine⟨_,rfl,oJ ?_⟩;refine⟨_,rfl,.ref xa,r,rfl,hR.same g5,ok,λz=>⋯,λ_=>⟨hY,λL' hL' hl'=>?_⟩⟩;have eL:=hL'.uniq hY.one hL;subst eL;refine⟨λz=>absurd hw (K9 z),λ_ bg ln pr H6 g6 hpr ou=>?_⟩;have k:Kn r L' bg ln:=⟨ok,hY,hL,hl,hw,ou⟩;refine⟨pr,_,rfl,aq.of hpr,rfl,_,_,rfl,_,_,rfl,rfl,?_⟩;have hmo:=k.most;have lp:=k.ux.pos;have kp:=k.pos;have Iv:=g5.trans g6;refine⟨_,rfl,_,rfl,_,rfl,.ref xa,r,_,rfl,hR.same Iv,ok,⋯,(⋯:(0:Int)<=(bg:Int)+(ln:Int)),(⋯:(bg:Int)+(ln:Int)<=4096),λgl H7 g7 fgl wX=>?_⟩;have er:r.row (((bg:Int)+(ln:Int)).toNat)=(bQ (bg+ln)).map r.at:=by
   have e1:r.row (((bg:Int)+(ln:Int)).toNat)=(bQ (((bg:Int)+(ln:Int)).toNat)).map r.at:=Rm.wC ..;rw[e1,show((bg:Int)+(ln:Int)).toNat=bg+ln by omega]
  rw[er]at wX;obtain⟨nu,hnu⟩:∃nu:List Int,nu=(bQ (bg+ln)).map r.at:=⟨_,rfl⟩;rw[<-hnu]at wX;have V6:nu.length=bg+ln:=by rw[hnu,aM,kI]
  have gnu:∀i,i<bg+ln->nu.getD i 0=r.at i:=λi hi=>by
   rw[hnu,List.getD_eq_getElem?_getD,List.getElem?_map,List.getElem?_range hi];rfl
  have Gg:=Iv.trans g7;have zf:=hR.same Gg;have D6:=Gg _ _ HZ;have Ga:=Gg.seq hS1;have lX:∀i,0<=r.at i/\r.at i<((P0:Nat):Int):=λi=>by have:=k.rng i;rwa [tn]at this
  refine⟨6,rfl,∅,∅,?_⟩;refine jY (lo:=0) (n:=(6:Int).toNat) (λi σ' H'=>∃o5 o6 o7 o8 o9:Option V,σ'=[some (.ref a),some (.ref xa),some (.int (bg:Int)),some (.int (ln:Int)),some (.ref gl),o5,o6,o7,o8,o9,none,none,none,none,none]/\Same H7 H') ⟨_,_,_,_,_,rfl,Same.refl _⟩ ?_ ?_
  .rintro i σ' H8 hi ⟨o5,o6,o7,o8,o9,rfl,g8⟩;have hi':i<6:=hi;refine⟨_,rfl,_,rfl,a,ns,_,rfl,g8.seq Ga,(⋯:(0:Int)<=42+(0+(i:Int))),⋯,λc1 hc1=>?_⟩;refine⟨_,rfl,_,rfl,_,_,rfl,rfl,(⋯:(0:Int)<(bg:Int)+(ln:Int)+3),?_⟩;refine⟨_,rfl,_,rfl,a,ns,_,rfl,g8.seq Ga,(⋯:(0:Int)<=42+(0+(i:Int))),⋯,λc2 hc2=>?_⟩;refine⟨_,_,rfl,rfl,⟨∅,?_⟩,_,_,rfl,rfl,⟨∅,∅⟩,_,_,rfl,rfl,(∅:(0:Int)<10^(60:Int).toNat),?_⟩
   .have:pA c2<=1048576:=intBits_le_iff.mpr (hc2 hB);show(pA c2:Int)*7<=2^27;omega
   have m0:=fJ c1 (show(0:Int)<(bg:Int)+(ln:Int)+3 by omega);have m1:=fP c1 (show(0:Int)<(bg:Int)+(ln:Int)+3 by omega);have w0:=fJ (c2^(7:Int).toNat) (show(0:Int)<10^(60:Int).toNat by decide);have w1:=fP (c2^(7:Int).toNat) (show(0:Int)<10^(60:Int).toNat by decide);generalize c1%((bg:Int)+(ln:Int)+3)=x1 at m0 m1;generalize c2^(7:Int).toNat%10^(60:Int).toNat=x2 at w0 w1;refine⟨(by show 2<=sizeLine;decide),λpl hpl=>?_⟩;have ga:=Same.new hpl (.lst [.int x1,.int x2]);have e0:=fJ (0+(i:Int)) (show(0:Int)<2 by decide);have e1:=fP (0+(i:Int)) (show(0:Int)<2 by decide);refine⟨_,rfl,_,_,rfl,rfl,(∅:(0:Int)<2),_,_,.inl (aC.of aG),cM (ns:=[x1,x2]) e0 e1,?_⟩;obtain⟨n,en,hn⟩:∃n:Nat,[x1,x2].getD ((0+(i:Int))%2).toNat 0=(n:Int)/\Rm.Bd 400 (n:Int):=by
    have h60:(10:Int)^(60:Int).toNat<2^200:=∅;rcases(show(0+(i:Int))%2=0∨(0+(i:Int))%2=1 by omega)with z|z
    .rw[z];refine⟨x1.toNat,(kW m0).symm,?_⟩;rw[kW m0];exact(Rm.Bd.of (n:=20) ⋯ ⋯).mono ∅
    .rw[z];refine⟨x2.toNat,(kW w0).symm,?_⟩;rw[kW w0];exact(Rm.Bd.of (n:=200) ⋯ ⋯).mono ∅
   rw[en];generalize upd H8 pl (.lst [.int x1,.int x2])=H9 at ga;have g9:=g8.trans ga;refine⟨_,rfl,?_⟩;refine m5.by (λσ' H'=>σ'=[some (.ref a),some (.ref xa),some (.int (bg:Int)),some (.int (ln:Int)),some (.ref gl),some (.int (0+(i:Int))),some (.int (n:Int)),some (.int (jd n bg ln:Nat)),o8,o9,none,none,none,none,none]/\H9=H') (λN hN=>?_) ?_
   .refine⟨_,rfl,_,rfl,_,_,rfl,rfl,_,rfl,?_⟩;refine cP (λc=>?_) (λc=>?_)
    .have c':=dec_true c;have eb:jd n bg ln=bg+(n-bg)%ln:=if_neg ⋯;refine⟨_,rfl,_,rfl,_,rfl,_,_,rfl,rfl,_,rfl,_,_,rfl,rfl,(⋯:(0:Int)<(ln:Int)),hN _ _ ⟨?_,rfl⟩⟩;have e2:(bg:Int)+((n:Int)-(bg:Int))%(ln:Int)=((bg+(n-bg)%ln:Nat):Int):=by
      rw[yG,B4,Pz ⋯]
     rw[e2,eb];rfl
    .have c':=dec_false c;have eb:jd n bg ln=n:=if_pos ⋯;exact hN _ _ ⟨by rw[eb];rfl,rfl⟩
   rintro _ _ ⟨rfl,rfl⟩;refine⟨_,rfl,_,rfl,.ref xa,r,n,rfl,zf.same g9,ok,hY,hn,λrE wj=>?_⟩;have gA:=g9.trans wj;have hb:=aeI (n:=n) (bg:=bg) lp;refine⟨_,rfl,_,rfl,_,rfl,_,_,.inl (aC.of (gA _ _ wX)),cM (ns:=nu) (⋯:(0:Int)<=((jd n bg ln:Nat):Int)) ⋯,?_⟩;rw[dw,gnu _ hb,k.back n];dsimp only[oH];rw[decide_eq_true rfl];refine⟨_,rfl,oJ ?_⟩;refine⟨_,rfl,_,rfl,_,rfl,_,rfl,.ref xa,r,L',bg,ln,n,_,rfl,zf.same gA,k,λuV Ax=>?_⟩;rw[decide_eq_true rfl];refine⟨_,rfl,oJ ?_⟩;have gB:=gA.trans Ax;refine⟨_,rfl,_,rfl,_,rfl,a,ns,_,rfl,gB.seq Ga,(⋯:(0:Int)<=50+(0+(i:Int))),⋯,λc3 _=>?_⟩;refine⟨_,rfl,_,_,.inr (aq.of (gB _ _ D6)),rfl,_,_,rfl,rfl,_,_,rfl,rfl,(⋯:(0:Int)<r.b-1),?_⟩;refine⟨_,rfl,_,_,.inr (aq.of (gB _ _ D6)),rfl,_,_,rfl,rfl,(⋯:(0:Int)<r.b),?_⟩;refine⟨_,rfl,_,rfl,_,rfl,_,rfl,.ref xa,r,L',bg,ln,n,_,rfl,zf.same gB,k,λH12 xX=>?_⟩;have hne:=VJ (x:=r.at n) (c:=c3) (b:=r.b) (lX n).1 (by have:=(lX n).2;omega) kp.1;rw[decide_eq_false hne];exact⟨_,rfl,oJ ⟨_,_,_,_,_,rfl,gB.trans xX⟩⟩
  rintro σ' H8 ⟨o5,o6,o7,o8,o9,rfl,g8⟩;have Rq:=g8 _ _ D6;refine⟨_,rfl,_,_,.inr (aq.of Rq),rfl,_,_,rfl,rfl,_,rfl,?_⟩;refine cP (λc=>?_) (λc=>q _);have c':=dec_true c;refine⟨cZ _,λp0 hp0=>?_⟩;have g9:=Same.new hp0 (.lst []);have h9:(upd H8 p0 (.lst [])) p0=some (.lst []):=aG;generalize upd H8 p0 (.lst [])=H9 at g9 h9;have Uk:=g9 _ _ Rq;have hR9:=zf.same (g8.trans g9);refine⟨_,rfl,_,_,.inr (aq.of Uk),rfl,r.b,rfl,(⋯:-(2^62)<=r.b),(⋯:r.b<2^62),?_⟩;refine jY (lo:=0) (n:=r.b.toNat) (λi σ' H'=>∃(pl:Addr) (aB sX qM qJ:Option V),σ'=[some (.ref a),some (.ref xa),some (.int (bg:Int)),some (.int (ln:Int)),some (.ref gl),o5,o6,o7,o8,o9,some (.ref pl),aB,sX,qM,qJ]/\Same H9 H'/\H' pl=some (.lst ((told r.at bg ln i).map V.int))) ⟨_,_,_,_,_,rfl,Same.refl _,h9⟩ ?_ ?_
  .rintro i σ' rE hi ⟨pl,aB,sX,qM,qJ,rfl,wj,hpl⟩;have hi':i<14:=⋯;refine⟨_,rfl,_,rfl,?_⟩;dsimp only[xZ];refine k.asks (hR9.same wj) λp le ls uV Ax hp hle hls=>?_;rw[show 0+(i:Int)=(i:Int)by omega]at hle hls;refine⟨p,_,rfl,aq.of hp,rfl,_,_,rfl,_,_,rfl,_,_,rfl,rfl,?_⟩;have z0:=LQ r.at bg ln i;have z1:=xO (bZ r.at (i:Int)) 0 bg;have z2:=xO (bZ r.at (i:Int)) bg ln;have z3:i*(bg+ln)<=14*4096:=GF ⋯ hmo;have s16:sizeLine=16777216:=∅;refine⟨_,rfl,_,rfl,.inl ⟨_,_,Ax _ _ hpl,hle,(by rw[aM,aM];omega),λq1 hq1=>?_⟩⟩;have ga:=Same.new hq1 (.lst ((told r.at bg ln i).map V.int++(bM (bZ r.at (i:Int)) 0 bg).map V.int));have ha:(upd uV q1 (.lst ((told r.at bg ln i).map V.int++(bM (bZ r.at (i:Int)) 0 bg).map V.int))) q1=some (.lst ((told r.at bg ln i).map V.int++(bM (bZ r.at (i:Int)) 0 bg).map V.int)):=aG;generalize upd uV q1 (.lst ((told r.at bg ln i).map V.int++(bM (bZ r.at (i:Int)) 0 bg).map V.int))=H12 at ga ha;refine⟨_,rfl,.inl ⟨_,_,ha,ga _ _ hls,(by rw[gK,aM,aM,aM];omega),λq2 hq2=>?_⟩⟩;refine⟨q2,_,_,_,_,rfl,wj.trans (Ax.trans (ga.trans (Same.new hq2 _))),?_⟩;rw[aG,told,iJ,iJ]
  rintro σ' rE ⟨pl,aB,sX,qM,qJ,rfl,wj,hpl⟩;rw[tn]at hpl;have hpm:=Nr (bg:=bg) (ln:=ln) lX;have hlen2:(told r.at bg ln P0).length=bg+ln:=by rw[hpm.length_eq,aM,kI]
  refine⟨_,rfl,pl,told r.at bg ln P0,rfl,hpl,E6 ..,⋯,λl' ns' hp' hs' fr=>?_⟩;have ga:=Same.new fr (.lst (ns'.map V.int));have ha:(upd rE l' (.lst (ns'.map V.int))) l'=some (.lst (ns'.map V.int)):=aG;generalize upd rE l' (.lst (ns'.map V.int))=uV at ga ha;refine⟨_,rfl,_,rfl,bg+ln,?_,⋯,λnl hnl=>?_⟩
  .rfl
  have e1:((bQ (bg+ln)).map λ(i:Nat)=>V.int (i:Nat))=((bQ (bg+ln)).map λ(i:Nat)=>(i:Int)).map V.int:=by rw[gj];rfl
  have Ye:=Same.new hnl (.lst ((bQ (bg+ln)).map λ(i:Nat)=>V.int (i:Nat)));refine aem (ms:=(bQ (bg+ln)).map λ(i:Nat)=>(i:Int)) (aC.of (Ye _ _ ha)) (aC.of (by rw[aG,e1])) ?_;rw[decide_eq_true (ab7 lX hp' hs')];exact q _
end
def all_mk{P:Program}{w:World}{K:aA}{h:Heap}{mg:Str->Option Value}{fa:Addr}(X:K.In h)(G:h.Ns mainGlobals mg)(hfa:mg "law" = some (.ref fa))
  (F0:bG K "taken" B6) (F1:bG K "inverse" Di) (F2:bG K "over" C4) (F3:bG K "next_place" AJ) (F4:bG K "first_places" Cm) (F5:bG K "trimmed" FT) (F6:bG K "number_at" EY) (F7:bG K "times" Ef) (F8:bG K "divided" Ci) (F9:bG K "monic" Dg) (YK:bG K "greatest" C8) (F11:bG K "of_rule" Gb) (Y4:bG K "rule_of" Dy) (F13:bG K "sum_at" DP) (F14:bG K "whole_greatest" En) (VH:bG K "shared_divisor" E8) (U0:bG K "top_of" CZ) (F17:bG K "least_of" Es) (F18:bG K "shortest" BD) (F19:bG K "refuse_wide" FP) (YL:bG K "round_row" Fj) (XU:bG K "came_round" C9) (F22:bG K "round_of" Dd) (F23:bG K "where" BH) (W7:bG K "refuse_far_jump" BJ) (ZL:bG K "power_left" Cp) (F26:bG K "jump" CQ) (Vp:bG K "place_at" Fd) (SV:bG K "_law_at" Dr) (Wi:bG K "_law_row" DV) (Vv:bG K "_law_going" Fq) (Wl:bG K "_law_too_long" Dq) (X4:bG K "_law_holds" Cz) (FL:bG K "law" qF) (Ss:fH K mainGlobals "int" = some none) (abv:fH K mainGlobals "len" = some none) (ady:fH K mainGlobals "list" = some none) (Yw:fH K mainGlobals "max" = some none) (agp:fH K mainGlobals "range" = some none) (YM:fH K mainGlobals "sorted" = some none) (aeh:fH K mainGlobals "sum" = some none) (Zx:fH K mainGlobals "tuple" = some none) (NZ:∃t,fH K mainGlobals "BELOW_THE_PRIMES" = some (some (.int 1000000 t))) (Dl:∃t,fH K mainGlobals "FARTHEST_BY_0" = some (some (.int 400 t))) (Gm:∃t,fH K mainGlobals "MOST_WINDOWS" = some (some (.int 4096 t))) {bH:Addr} (Ry:fH K mainGlobals "NoBy" = some (some (.ref bH))) {aY:Addr} (Qn:fH K mainGlobals "TooLong" = some (some (.ref aY))) (ac5:wI K bH [.type "ValueError",.type "Exception",.type "BaseException",.type "object"] "ValueError.__new__" = true) (Tt:mR K (.ref bH) "__getattribute__" = some (some (.builtin "BaseException.__getattribute__"))) (abg:mR K (.ref bH) "__getattr__" = some none) (YZ:mR K (.ref bH) "__class__" = some (some (.builtin "object.__class__"))) (ZG:rF K bH (.type "BaseException")=some true) (aaU:rF K bH (.type "object")=some true) (TV:(W.clsIn K bH).isSome=true) (Mx:iW K (.ref bH) (.ref bH)=some true) (Iw:iW K (.ref bH) (.ref aY)=some false) (Ib:iW K (.ref bH) (.type "ValueError")=some true) (aak:wI K aY [.type "ValueError",.type "Exception",.type "BaseException",.type "object"] "ValueError.__new__" = true) (adR:mR K (.ref aY) "__getattribute__" = some (some (.builtin "BaseException.__getattribute__"))) (Wg:mR K (.ref aY) "__getattr__" = some none) (YG:mR K (.ref aY) "__class__" = some (some (.builtin "object.__class__"))) (ZD:rF K aY (.type "BaseException")=some true) (aep:rF K aY (.type "object")=some true) (Ui:(W.clsIn K aY).isSome=true) (Gu:iW K (.ref aY) (.ref bH)=some false) (Jh:iW K (.ref aY) (.ref aY)=some true) (Q0:iW K (.ref aY) (.type "ValueError")=some true):
  ∃fd:FuncData,(∀(s:Shared) (v:Value),BindsTo s fd ⟨[v],[]⟩ [("_law_script",v)])/\∀base:Heap,K.In base->base.Ns mainGlobals mg->j8 P w K mg base (jX P w) DW fa fd ["_law_script"] (CW K):=by
 obtain⟨f,oc,od,kV,doc,pm,an,cdv,ct,sl,e1,e2,e3,e4⟩:=FL.ex;have e:=hfa.symm.trans (oO X G e1);cases e;have FF:=J1 (st:=qF) e2 e3 e4;have B:Bt mg:=⟨n8 X G Ss,n8 X G abv,n8 X G ady,n8 X G Yw,n8 X G agp,n8 X G YM,n8 X G aeh,n8 X G Zx,(let⟨t,q⟩:=NZ;⟨t,oO X G q⟩),(let⟨t,q⟩:=Dl;⟨t,oO X G q⟩),(let⟨t,q⟩:=Gm;⟨t,oO X G q⟩)⟩;refine⟨jr "law" "law" (jH qF) (f9 qF) (aQ qF) .none kV doc pm an cdv ct,λs v=> .of_eq rfl,λbase kB gB=>?_⟩;have M:Ms K mg base bH aY:=⟨oO X G Ry,oO X G Qn,PF kB gB Ry ac5 Ds ∅,⟨Tt,abg,YZ,ZG,aaU,TV⟩,Mx,Iw,Ib,PF kB gB Qn aak Ds ∅,⟨adR,Wg,YG,ZD,aep,Ui⟩,Gu,Jh,Q0⟩;have cB:=Zm (P:=P) (w:=w) B M (F0.bO X G);have Bw:=Vw (P:=P) (w:=w) B M (F1.bO X G) cB;have Et:=Wa (P:=P) (w:=w) B M (F2.bO X G) cB Bw;have sE:=aaH (P:=P) (w:=w) B M (F3.bO X G) cB;have EW:=afl (P:=P) (w:=w) B M (F4.bO X G) sE;have kJ:=af2 (P:=P) (w:=w) B M (F5.bO X G);have Bj:=Z9 (P:=P) (w:=w) B M (F6.bO X G);have za:=afK (P:=P) (w:=w) B M (F7.bO X G) cB kJ;have lE:=ZR (P:=P) (w:=w) B M (F8.bO X G) cB kJ;have uZ:=Ww (P:=P) (w:=w) B M (F9.bO X G) Et;have D7:=aco (P:=P) (w:=w) B M (YK.bO X G) uZ lE;have tG:=WB (P:=P) (w:=w) B M (F11.bO X G) cB;have Eu:=R9 (P:=P) (w:=w) B M (Y4.bO X G) cB;have DR:=UW (P:=P) (w:=w) B M (F13.bO X G) cB;have Gf:=W2 (P:=P) (w:=w) B M (F14.bO X G);have Bv:=aaj (P:=P) (w:=w) B M (VH.bO X G) Gf D7;have DL:=aer (P:=P) (w:=w) B M (U0.bO X G) cB kJ;have Ek:=ZS (P:=P) (w:=w) B M (F17.bO X G) tG DL lE Bv;have rW:=VN (P:=P) (w:=w) B M (F18.bO X G) Ek Eu;have Ce:=Yd (P:=P) (w:=w) B M (F19.bO X G);have rO:=X6 (P:=P) (w:=w) B M (YL.bO X G) rW Ce;have rT:=ad6 (P:=P) (w:=w) B M (XU.bO X G) sE;have CT:=aa7 (P:=P) (w:=w) B M (F22.bO X G) rT rO;have uf:=abK (P:=P) (w:=w) B M (F23.bO X G) rO rT EW;have Ca:=R5 (P:=P) (w:=w) B M (W7.bO X G);have EV:=VB (P:=P) (w:=w) B M (ZL.bO X G) lE za;have Fb:=R3 (P:=P) (w:=w) B M (F26.bO X G) Ca EV tG Bj;have CJ:=WG (P:=P) (w:=w) B M (Vp.bO X G) DR Fb;have iR:=agn (P:=P) (w:=w) B M (SV.bO X G);have DC:=ad4 (P:=P) (w:=w) B M (Wi.bO X G) iR;have CB:=Xo (P:=P) (w:=w) B M (Vv.bO X G);have Fl:=aeD (P:=P) (w:=w) B M (Wl.bO X G);have zj:=agk (P:=P) (w:=w) B M (X4.bO X G) uf;exact Xm B M FF DC Fl rW CT CB iR CJ zj uf
end K44
namespace L2
open PySem PySem.W W.X
def acj{q:Program}{loose:List Str}{XP:(Str->Option Value)->Heap->Prop}{K:Params->Frag}{as:List Addr}{n t:Nat}{r:RowW}{d:DefRec}{kwd:List (Str×PySem.Expr)}{run:Value->List Value->Sem Value}(keys:∀P,as=(K P).map (·.1))
  (W:WalkO q loose XP (λw h=>(K w.params).In h) r d kwd run):WalkX q loose XP (obsZ as) (valZ K n t) r d kwd run:=
 λw s0 s1 mg mb G y a o pm cd doc dV kV h1 h2 h3 h4 h5 h6 args vals as' L p1 p2 p3 p4 p5=>W w s0 s1 mg mb G (InK.keeps w _ _ (z_facts keys y).2.1 L.keeps) a o pm cd doc dV kV h1 h2 h3 h4 h5 h6 args vals as' p1 p2 p3 p4 p5
end L2
namespace K44
def topF(i:Nat):PySem.Stmt:=PySem.Challenge.pw_nextbyrule_k44_whole_far_by_rounds.main.body.getD i (.Pass ⟨0,0,0,0⟩)
def pwL:PySem.Program:={ PySem.Challenge.pw_nextbyrule_k44_whole_far_by_rounds with main:={ PySem.Challenge.pw_nextbyrule_k44_whole_far_by_rounds.main with body:=[topF 0,topF 1,topF 2,topF 3,topF 4,topF 5,topF 6,topF 7,topF 8,topF 9,topF 10,topF 11,topF 12,topF 13,topF 14,topF 15,topF 16,topF 17,topF 18,topF 19,topF 20,topF 21,topF 22,topF 23,topF 24,topF 25,topF 26,topF 27,topF 28,topF 29,topF 30,topF 31,topF 32,topF 33,topF 34,topF 35,topF 36,topF 37,topF 38,topF 39,topF 40,topF 41,topF 42,topF 43,topF 44,topF 45,topF 46,topF 47,topF 48,topF 49,topF 50,topF 51,topF 52,topF 53,topF 54,topF 55,topF 56] } }
def rwL:PySem.W.OpenLaw:={ PySem.Challenge.rw_nextbyrule_k44_whole_far_by_rounds with prog:=pwL }
end K44
namespace K44
namespace H
noncomputable section
open PySem PySem.W PySem.Calls PyProof.Rows
theorem warm:(K44.pwL.main.body.isEmpty||true)=true:=by k_qdec
abbrev kh:=PyData.keyHash
abbrev tt(i:Nat):Stmt:=PySem.W.Fast.tw10508195491247701041 i
def zs(n:Nat):Str:=⟨⟨Nat.rec (motive:=λ_=>Nat->List Nat) (λ_=>[]) (λ_ f n=>cond (Nat.beq n 0) [] (Nat.mod n 128::f (Nat.div n 128))) 64 n⟩⟩
def z0:=zs 53901559791857631
def z1:=zs 107258694024149356569534992819082594551132769835314015395200872414874793945198828
def z2:=zs 421105403244511
def z3:=zs 113039760542812094607327
def z4:=zs 883130438894441148383
def z5:=zs 53901488956436447
def z6:=zs 30344151541145318921183520387039
def z7:=zs 14469218985635115783729119
def z8:=zs 53901559540068319
def z9:=zs 2357460733860917196365705647
def eE:=zs 883122557733039566815
def bf:=zs 8277558478201633490
def dH:=zs 64623894148134862
def dZ:=zs 254851022
def eU:=zs 3943197046740
def gb:=zs 456808319416276
def jJ:=zs 57340970975885801
def jh:=zs 29741478132
def jx:=zs 448184882935657
def jE:=zs 240745327
def ju:=zs 938749362540629603054
def nG:=zs 17498468575365494965318886
def mZ:=zs 443304474474868
def lF:=zs 8413708812629539566
def jl:=zs 31083689204
def lJ:=zs 443302050378980
def nH:=zs 26797127661
def mK:=zs 65811471622830439
def lZ:=zs 447945196958575
def lQ:=zs 452440390056690
def nK:=zs 4011968920307
def tU:=zs 3388939034338339719930224380682946
def mV:=zs 120336165584743079508336
def nM:=zs 509272748045540
def ql:=zs 1123873219935479722228
def pG:=zs 514152117859054
def pH:=zs 3463318239210
def qL:=zs 289441913161409316528838145143
def pF:=zs 284414884579460083709784913011
def qI:=zs 3534690727924
def qx:=zs 57912373968138988
def qU:=zs 65811471658644595
def zp:=zs 12646050440045667315673037
def qX:=zs 120169724355878328054514
def qP:=zs 8637845803896764402
def qz:=zs 930329896300087832803
def qj:=zs 57912369663014898
def vJ:=zs 27352724599
def MV:=zs 942916711861883867522965702
def uh:=zs 35766366975570780430675629159154
def wg:=zs 1077318367096331958256
def vH:=zs 236681962
def vW:=zs 65732096604796528
def uU:=zs 513532042442335
def vM:=zs 67483170382575199
def uq:=zs 957993256633291535967
def ug:=zs 2009064529447140717116290655
def vC:=zs 1067954834019389568607
def vU:=zs 1962220
def Oq:=zs 35350842279982780
def XJ:=zs 53901867955744735
def dM:=zs 883123151916293124063
def d8:=zs 601773989896021678643699154943881966
def kE:=zs 14469089781839015725264863
def dR:=zs 30344074158132277796980072755167
def dJ:=zs 133454983862861831018029446609853876543483871
def E4:=zs 113039831549272488013791
def tM:=zs 3944329476846
def V8:=zs 505222325449956
def Ar:=zs 77026659975835991945842263041131819758
def iH:=zs 15586
def Dp:=zs 27342305648
def z72:=zs 30815418352
def Uz:=zs 3501140572403
def xY:=zs 244953836
def uH:=zs 1668975
def ur:=zs 30815173231
def zO:=zs 213596914
def z78:=zs 3501169685218
def QM:=zs 29196367860
def Ao:=zs 107
def E9:=zs 36741748820606704607921507807982
def rA:=zs 1964018
def z83:=zs 31371130851
def ZV:=zs 3982749104755
def Ko:=zs 27076163558
def ZM:=zs 509719678253806
def z87:=zs 1652581
def mj:=zs 4703570198577737512948329283990254
def Ak:=zs 255539184
def z90:=zs 105
def PL:=zs 1849332
def z92:=zs 29741626223
def z93:=zs 31354156147
def z94:=zs 3947051413734
def Z0:=zs 31343606119
def XG:=zs 29219124979
def nW:=zs 601245688890028280284136002178396910
def X8:=zs 7340232966842071021
def Ir:=zs 509824676214765
def QS:=zs 245166834
def Wt:=zs 213694445
def BW:=zs 9945148414371482049252864243888973296366
def JF:=zs 31381287660
def adY:=zs 3604769125100
def YS:=zs 509894165509367
def Wk:=zs 232569588
def rP:=zs 601205772886045675642131479149818606
def ad2:=zs 4118816732407
def Xf:=zs 232354547
def Um:=zs 29749801698
def Bx:=zs 110
def yD:=zs 284142050879932413263403168494
def SY:=zs 3501182285030
def Ys:=zs 443304183166948
def Hh:=zs 137989276334399845594719
def zZ:=zs 3702244537951
def VQ:=zs 929683040243566540383
def CF:=zs 1970971523324088107488802399
def Jr:=zs 1077903848374405723743
def IL:=zs 535556634736223
def Ym:=zs 7339134107004728927
def CM:=zs 136846217224793777272415
def Ny:=zs 930329895887808525919
def VL:=zs 1003179560991236585055
def SQ:=zs 7346962664154232415
def Z2:=zs 8781323754941216351
def IY:=zs 135526128861644626359903
def Ro:=zs 3805323753055
def JH:=zs 1022195402868914681439
def Oc:=zs 1123874843016811804255
def LR:=zs 123858924015506014369375
def abB:=zs 32292397437994208546181717980767
def aeA:=zs 15398215025955758113584735
def Ug:=zs 1058801290007509759583
def Uc:=zs 4090985567884239731471401489036895
noncomputable abbrev t0:String:=PySem.W.SL.s14018661285674007319x4
noncomputable abbrev t1:String:=PySem.W.SL.s7097527257260152453x26
noncomputable abbrev t2:String:=PySem.W.SL.s2766695959194262286x5
noncomputable abbrev t3:String:=PySem.W.SL.s5856160107412720595x4
noncomputable abbrev t4:String:=PySem.W.SL.s658472552662922059x5
noncomputable abbrev t5:String:=PySem.W.SL.s6070975301684473832x10
noncomputable abbrev t6:String:=PySem.W.SL.s11030030927630378310x26
noncomputable abbrev t7:String:=PySem.W.SL.s10062305145149207511x16
noncomputable abbrev t8:String:=PySem.W.SL.s17162191345867700912x4
noncomputable abbrev t9:String:=PySem.W.SL.s4209523147560561109x18
noncomputable abbrev t10:String:=PySem.W.SL.s5946037652744460706x9
noncomputable abbrev t11:String:=PySem.W.SL.s4278001404047624695x13
noncomputable abbrev ni:String:=PySem.W.SL.s2742458400755230247x6
noncomputable abbrev W5:String:=PySem.W.SL.s14755015743595814543x17
noncomputable abbrev Wf:String:=PySem.W.SL.s10220274742760427390x26
noncomputable abbrev vK:String:=PySem.W.SL.s4290257624100764138x5
noncomputable abbrev wk:String:=PySem.W.SL.s4860613602091757760x24
noncomputable abbrev Z5:String:=PySem.W.SL.s7174869446012820540x8
def cd(z:Str)(i:Nat):Obj:=⟨.none,.none,.func ⟨z,z,L2.jH (tt i),.stmts (L2.f9 (tt i)),L2.aQ (tt i),0,[],.none,.none,.none,.none,.none,.none,.none,0⟩,⟨[]⟩⟩
def fo(z:Str)(i:Nat)(y:Str)(t c:Nat):Obj:=⟨.type Z5,.none,.func ⟨z,z,L2.jH (tt i),.stmts (L2.f9 (tt i)),L2.aQ (tt i),3,[],.none,.none,.none,.str y t,.none,.ref c,.none,0⟩,⟨[]⟩⟩
def cf(z:Str)(a:Nat)(l n:Int)(r:Nat)(x y:Value)(c e:Nat):Obj:=⟨.type t3,.none,.fields ⟨[.str z a,.str z (a+1),.str z9 (a+2),.int l 0,.int n 0,.int 0 0,.int 0 0,.int 3 0,.ref r,.bool true,.int 181 0,.ref (r+1),.none,x,y,.ref c,.int e 0,.int l 0,.str z9 (e+1)]⟩,⟨[]⟩⟩
def cg(z:Str)(a:Nat)(l n:Int)(r c e:Nat):Obj:=cf z a l n r (.ref (r+2)) (.ref (r+3)) c e
def ts(l:List Str)(a:Nat):Obj:=⟨.type t2,.none,.seq ⟨List.rec (motive:=λ_=>Nat->List Value) (λ_=>[]) (λz _ f a=> .str z a::f (a+1)) l a⟩ 0,⟨[]⟩⟩
def o3(P:Params):Obj:=⟨.type t0,.none,.dict ⟨[⟨kh P z0,.str z0 165,.str z1 588⟩,⟨kh P z2,.str z2 166,.none⟩,⟨kh P z3,.str z3 167,.none⟩,⟨kh P z4,.str z4 168,.builtin t1⟩,⟨kh P z5,.str z5 169,.none⟩,⟨kh P z6,.str z6 170,.ref 6⟩,⟨kh P z7,.str z7 171,.ref 4⟩,⟨kh P z8,.str z8 173,.str z9 172⟩,⟨kh P eE,.str eE 174,.none⟩,⟨kh P bf,.str bf 206,.ref 24⟩,⟨kh P dH,.str dH 222,.ref 37⟩,⟨kh P dZ,.str dZ 238,.ref 49⟩,⟨kh P eU,.str eU 254,.ref 61⟩,⟨kh P gb,.str gb 270,.ref 73⟩,⟨kh P jJ,.str jJ 280,.ref 82⟩,⟨kh P jh,.str jh 288,.ref 89⟩,⟨kh P jx,.str jx 299,.ref 96⟩,⟨kh P jE,.str jE 308,.ref 103⟩,⟨kh P ju,.str ju 321,.ref 110⟩,⟨kh P nG,.str nG 333,.ref 117⟩,⟨kh P mZ,.str mZ 343,.ref 124⟩,⟨kh P lF,.str lF 351,.ref 131⟩,⟨kh P jl,.str jl 363,.ref 138⟩,⟨kh P lJ,.str lJ 378,.ref 145⟩,⟨kh P nH,.str nH 384,.ref 150⟩,⟨kh P mK,.str mK 396,.ref 157⟩,⟨kh P lZ,.str lZ 402,.ref 162⟩,⟨kh P lQ,.str lQ 408,.ref 167⟩,⟨kh P nK,.str nK 414,.ref 172⟩,⟨kh P tU,.str tU 418,.int 1000000 417⟩,⟨kh P mV,.str mV 426,.ref 179⟩,⟨kh P nM,.str nM 434,.ref 186⟩,⟨kh P ql,.str ql 440,.ref 191⟩,⟨kh P pG,.str pG 449,.ref 198⟩,⟨kh P pH,.str pH 460,.ref 205⟩,⟨kh P qL,.str qL 466,.ref 210⟩,⟨kh P pF,.str pF 475,.ref 217⟩,⟨kh P qI,.str qI 483,.ref 222⟩,⟨kh P qx,.str qx 493,.ref 229⟩,⟨kh P qU,.str qU 502,.ref 236⟩,⟨kh P zp,.str zp 506,.int 4096 505⟩,⟨kh P qX,.str qX 516,.ref 243⟩,⟨kh P qP,.str qP 524,.ref 250⟩,⟨kh P qz,.str qz 536,.ref 257⟩,⟨kh P qj,.str qj 543,.ref 264⟩,⟨kh P vJ,.str vJ 549,.ref 269⟩,⟨kh P MV,.str MV 553,.int 400 552⟩,⟨kh P uh,.str uh 561,.ref 276⟩,⟨kh P wg,.str wg 573,.ref 283⟩,⟨kh P vH,.str vH 579,.ref 288⟩,⟨kh P vW,.str vW 587,.ref 295⟩,⟨kh P uU,.str uU 598,.ref 302⟩,⟨kh P vM,.str vM 604,.ref 307⟩,⟨kh P uq,.str uq 618,.ref 314⟩,⟨kh P ug,.str ug 628,.ref 321⟩,⟨kh P vC,.str vC 641,.ref 328⟩,⟨kh P vU,.str vU 662,.ref 335⟩]⟩ 57,⟨[]⟩⟩
def UU(P:Params):Obj:=⟨.type t0,.none,.dict ⟨[⟨kh P z0,.str z0 165,.str d8 187⟩,⟨kh P z2,.str z2 166,.none⟩,⟨kh P z3,.str z3 167,.none⟩,⟨kh P z4,.str z4 168,.builtin t1⟩,⟨kh P z5,.str z5 169,.none⟩,⟨kh P z6,.str z6 170,.ref 6⟩,⟨kh P z7,.str z7 171,.ref 4⟩,⟨kh P z8,.str z8 173,.str z9 172⟩,⟨kh P eE,.str eE 174,.none⟩,⟨kh P bf,.str bf 206,.ref 24⟩]⟩ 10,⟨[]⟩⟩
def VZ(P:Params):Obj:=⟨.type t0,.none,.dict ⟨[⟨kh P z0,.str z0 165,.str d8 187⟩,⟨kh P z2,.str z2 166,.none⟩,⟨kh P z3,.str z3 167,.none⟩,⟨kh P z4,.str z4 168,.builtin t1⟩,⟨kh P z5,.str z5 169,.none⟩,⟨kh P z6,.str z6 170,.ref 6⟩,⟨kh P z7,.str z7 171,.ref 4⟩,⟨kh P z8,.str z8 173,.str z9 172⟩,⟨kh P eE,.str eE 174,.none⟩,⟨kh P bf,.str bf 206,.ref 24⟩,⟨kh P dH,.str dH 222,.ref 37⟩]⟩ 11,⟨[]⟩⟩
def ab2(P:Params):Obj:=⟨.type t0,.none,.dict ⟨[⟨kh P z0,.str z0 165,.str d8 187⟩,⟨kh P z2,.str z2 166,.none⟩,⟨kh P z3,.str z3 167,.none⟩,⟨kh P z4,.str z4 168,.builtin t1⟩,⟨kh P z5,.str z5 169,.none⟩,⟨kh P z6,.str z6 170,.ref 6⟩,⟨kh P z7,.str z7 171,.ref 4⟩,⟨kh P z8,.str z8 173,.str z9 172⟩,⟨kh P eE,.str eE 174,.none⟩,⟨kh P bf,.str bf 206,.ref 24⟩,⟨kh P dH,.str dH 222,.ref 37⟩,⟨kh P dZ,.str dZ 238,.ref 49⟩]⟩ 12,⟨[]⟩⟩
def aeG(P:Params):Obj:=⟨.type t0,.none,.dict ⟨[⟨kh P z0,.str z0 165,.str d8 187⟩,⟨kh P z2,.str z2 166,.none⟩,⟨kh P z3,.str z3 167,.none⟩,⟨kh P z4,.str z4 168,.builtin t1⟩,⟨kh P z5,.str z5 169,.none⟩,⟨kh P z6,.str z6 170,.ref 6⟩,⟨kh P z7,.str z7 171,.ref 4⟩,⟨kh P z8,.str z8 173,.str z9 172⟩,⟨kh P eE,.str eE 174,.none⟩,⟨kh P bf,.str bf 206,.ref 24⟩,⟨kh P dH,.str dH 222,.ref 37⟩,⟨kh P dZ,.str dZ 238,.ref 49⟩,⟨kh P eU,.str eU 254,.ref 61⟩]⟩ 13,⟨[]⟩⟩
def Wj(P:Params):Obj:=⟨.type t0,.none,.dict ⟨[⟨kh P z0,.str z0 165,.str E9 309⟩,⟨kh P z2,.str z2 166,.none⟩,⟨kh P z3,.str z3 167,.none⟩,⟨kh P z4,.str z4 168,.builtin t1⟩,⟨kh P z5,.str z5 169,.none⟩,⟨kh P z6,.str z6 170,.ref 6⟩,⟨kh P z7,.str z7 171,.ref 4⟩,⟨kh P z8,.str z8 173,.str z9 172⟩,⟨kh P eE,.str eE 174,.none⟩,⟨kh P bf,.str bf 206,.ref 24⟩,⟨kh P dH,.str dH 222,.ref 37⟩,⟨kh P dZ,.str dZ 238,.ref 49⟩,⟨kh P eU,.str eU 254,.ref 61⟩,⟨kh P gb,.str gb 270,.ref 73⟩,⟨kh P jJ,.str jJ 280,.ref 82⟩,⟨kh P jh,.str jh 288,.ref 89⟩,⟨kh P jx,.str jx 299,.ref 96⟩,⟨kh P jE,.str jE 308,.ref 103⟩,⟨kh P ju,.str ju 321,.ref 110⟩]⟩ 19,⟨[]⟩⟩
def agg(P:Params):Obj:=⟨.type t0,.none,.dict ⟨[⟨kh P z0,.str z0 165,.str nW 415⟩,⟨kh P z2,.str z2 166,.none⟩,⟨kh P z3,.str z3 167,.none⟩,⟨kh P z4,.str z4 168,.builtin t1⟩,⟨kh P z5,.str z5 169,.none⟩,⟨kh P z6,.str z6 170,.ref 6⟩,⟨kh P z7,.str z7 171,.ref 4⟩,⟨kh P z8,.str z8 173,.str z9 172⟩,⟨kh P eE,.str eE 174,.none⟩,⟨kh P bf,.str bf 206,.ref 24⟩,⟨kh P dH,.str dH 222,.ref 37⟩,⟨kh P dZ,.str dZ 238,.ref 49⟩,⟨kh P eU,.str eU 254,.ref 61⟩,⟨kh P gb,.str gb 270,.ref 73⟩,⟨kh P jJ,.str jJ 280,.ref 82⟩,⟨kh P jh,.str jh 288,.ref 89⟩,⟨kh P jx,.str jx 299,.ref 96⟩,⟨kh P jE,.str jE 308,.ref 103⟩,⟨kh P ju,.str ju 321,.ref 110⟩,⟨kh P nG,.str nG 333,.ref 117⟩,⟨kh P mZ,.str mZ 343,.ref 124⟩,⟨kh P lF,.str lF 351,.ref 131⟩,⟨kh P jl,.str jl 363,.ref 138⟩,⟨kh P lJ,.str lJ 378,.ref 145⟩,⟨kh P nH,.str nH 384,.ref 150⟩,⟨kh P mK,.str mK 396,.ref 157⟩,⟨kh P lZ,.str lZ 402,.ref 162⟩,⟨kh P lQ,.str lQ 408,.ref 167⟩,⟨kh P nK,.str nK 414,.ref 172⟩,⟨kh P tU,.str tU 418,.int 1000000 417⟩,⟨kh P mV,.str mV 426,.ref 179⟩,⟨kh P nM,.str nM 434,.ref 186⟩]⟩ 32,⟨[]⟩⟩
def Xd(P:Params):Obj:=⟨.type t0,.none,.dict ⟨[⟨kh P z0,.str z0 165,.str rP 503⟩,⟨kh P z2,.str z2 166,.none⟩,⟨kh P z3,.str z3 167,.none⟩,⟨kh P z4,.str z4 168,.builtin t1⟩,⟨kh P z5,.str z5 169,.none⟩,⟨kh P z6,.str z6 170,.ref 6⟩,⟨kh P z7,.str z7 171,.ref 4⟩,⟨kh P z8,.str z8 173,.str z9 172⟩,⟨kh P eE,.str eE 174,.none⟩,⟨kh P bf,.str bf 206,.ref 24⟩,⟨kh P dH,.str dH 222,.ref 37⟩,⟨kh P dZ,.str dZ 238,.ref 49⟩,⟨kh P eU,.str eU 254,.ref 61⟩,⟨kh P gb,.str gb 270,.ref 73⟩,⟨kh P jJ,.str jJ 280,.ref 82⟩,⟨kh P jh,.str jh 288,.ref 89⟩,⟨kh P jx,.str jx 299,.ref 96⟩,⟨kh P jE,.str jE 308,.ref 103⟩,⟨kh P ju,.str ju 321,.ref 110⟩,⟨kh P nG,.str nG 333,.ref 117⟩,⟨kh P mZ,.str mZ 343,.ref 124⟩,⟨kh P lF,.str lF 351,.ref 131⟩,⟨kh P jl,.str jl 363,.ref 138⟩,⟨kh P lJ,.str lJ 378,.ref 145⟩,⟨kh P nH,.str nH 384,.ref 150⟩,⟨kh P mK,.str mK 396,.ref 157⟩,⟨kh P lZ,.str lZ 402,.ref 162⟩,⟨kh P lQ,.str lQ 408,.ref 167⟩,⟨kh P nK,.str nK 414,.ref 172⟩,⟨kh P tU,.str tU 418,.int 1000000 417⟩,⟨kh P mV,.str mV 426,.ref 179⟩,⟨kh P nM,.str nM 434,.ref 186⟩,⟨kh P ql,.str ql 440,.ref 191⟩,⟨kh P pG,.str pG 449,.ref 198⟩,⟨kh P pH,.str pH 460,.ref 205⟩,⟨kh P qL,.str qL 466,.ref 210⟩,⟨kh P pF,.str pF 475,.ref 217⟩,⟨kh P qI,.str qI 483,.ref 222⟩,⟨kh P qx,.str qx 493,.ref 229⟩,⟨kh P qU,.str qU 502,.ref 236⟩,⟨kh P zp,.str zp 506,.int 4096 505⟩,⟨kh P qX,.str qX 516,.ref 243⟩,⟨kh P qP,.str qP 524,.ref 250⟩,⟨kh P qz,.str qz 536,.ref 257⟩,⟨kh P qj,.str qj 543,.ref 264⟩]⟩ 45,⟨[]⟩⟩
def aB:Obj:=⟨.type t2,.none,.seq ⟨[]⟩ 0,⟨[]⟩⟩
def fl(l:List (Int×Nat)):List Value:=l.flatMap λx=>[.int x.1 0,.int 0 0,.ref x.2]
def mF:=fl [(2,20),(4,33),(6,45),(8,57),(10,69),(13,81),(22,88),(26,95),(36,102),(43,109),(48,116),(57,123),(62,130),(64,137),(70,144),(80,149),(85,156),(93,161),(97,166),(100,171),(104,178),(109,185),(111,190),(113,197),(116,204),(119,209),(137,216),(140,221),(148,228),(153,235),(159,242),(165,249),(171,256),(181,263),(183,268),(194,275),(197,282),(205,287),(211,294),(214,301),(221,306),(230,313),(241,320),(246,327),(251,334)]
def sX:Obj:=⟨.none,.none,.fields ⟨mF⟩,⟨[]⟩⟩
def Pk:Obj:=⟨.none,.none,.fields ⟨mF.take 0⟩,⟨[]⟩⟩
def aac:Obj:=⟨.none,.none,.fields ⟨mF.take 3⟩,⟨[]⟩⟩
def Y8:Obj:=⟨.none,.none,.fields ⟨mF.take 6⟩,⟨[]⟩⟩
def SR:Obj:=⟨.none,.none,.fields ⟨mF.take 9⟩,⟨[]⟩⟩
def WW:Obj:=⟨.none,.none,.fields ⟨mF.take 12⟩,⟨[]⟩⟩
def Xx:Obj:=⟨.none,.none,.fields ⟨mF.take 30⟩,⟨[]⟩⟩
def W0:Obj:=⟨.none,.none,.fields ⟨mF.take 66⟩,⟨[]⟩⟩
def ab3:Obj:=⟨.none,.none,.fields ⟨mF.take 102⟩,⟨[]⟩⟩
def qM:Obj:=⟨.type t3,.none,.fields ⟨[.str Oq 182,.str Oq 183,.str z9 184,.int 1 0,.int 0 0,.int 0 0,.int 0 0,.int 0 0,.ref 11,.bool false,.int 181 0,.ref 12,.none,.none,.none,.none,.int 185 0,.int 1 0,.str z9 186]⟩,⟨[]⟩⟩
def qJ:Obj:=⟨.type t4,.none,.plain,⟨[.some (.ref 13),.some (.ref 3),.some (.ref 3),.none,.some (.str XJ 164),.none,.some (.ref 0)]⟩⟩
def Lf:Obj:=⟨.type t2,.none,.seq ⟨[.type t5]⟩ 0,⟨[]⟩⟩
def uD:Obj:=⟨.type t6,.none,.fields ⟨[.builtin t7,.type t8]⟩,⟨[]⟩⟩
def o17(P:Params):Obj:=⟨.type t0,.none,.dict ⟨[⟨kh P dM,.str dM 196,.str d8 187⟩,⟨kh P kE,.str kE 198,.str bf 197⟩,⟨kh P dR,.str dR 200,.int 2 199⟩,⟨kh P dJ,.str dJ 201,.ref 22⟩]⟩ 4,⟨[]⟩⟩
def aW:Obj:=⟨.none,.none,.fields ⟨[]⟩,⟨[]⟩⟩
def o20:Obj:=⟨.type t3,.none,.fields ⟨[.str bf 191,.str bf 192,.str z9 193,.int 2 0,.int 0 0,.int 0 0,.int 0 0,.int 0 0,.ref 18,.bool false,.int 181 0,.ref 19,.none,.none,.none,.none,.int 194 0,.int 2 0,.str z9 195]⟩,⟨[]⟩⟩
def Yl:Obj:=⟨.type t4,.none,.plain,⟨[.some (.ref 20),.some (.ref 3),.some (.ref 17),.none,.some (.str d8 187),.none,.some (.ref 0)]⟩⟩
def Rf(P:Params):Obj:=⟨.type t0,.none,.dict ⟨[⟨kh P dM,.str dM 196,.str d8 187⟩,⟨kh P dR,.str dR 200,.int 2 199⟩,⟨kh P dJ,.str dJ 201,.ref 22⟩,⟨kh P E4,.str E4 203,.ref 25⟩,⟨kh P z2,.str z2 204,.none⟩]⟩ 3,⟨[]⟩⟩
def Gq:Obj:=⟨.type t8,.none,.cls ⟨bf,[.type t5],[.ref 24,.type t5,.type t10,.type t11,.type ni],23,bf,true,[],[.ref 37,.ref 49,.ref 61,.ref 73],false,.none,false⟩,⟨[.some (.ref 15),.none,.some (.str bf 189),.some (.str bf 197),.some (.builtin t9),.some (.bool true)]⟩⟩
def ZX:Obj:=⟨.type t8,.none,.cls ⟨bf,[.type t5],[.ref 24,.type t5,.type t10,.type t11,.type ni],23,bf,true,[],[],false,.none,false⟩,⟨[.some (.ref 15),.none,.some (.str bf 189),.some (.str bf 197),.some (.builtin t9),.some (.bool true)]⟩⟩
def abL:Obj:=⟨.type t8,.none,.cls ⟨bf,[.type t5],[.ref 24,.type t5,.type t10,.type t11,.type ni],23,bf,true,[],[.ref 37],false,.none,false⟩,⟨[.some (.ref 15),.none,.some (.str bf 189),.some (.str bf 197),.some (.builtin t9),.some (.bool true)]⟩⟩
def abP:Obj:=⟨.type t8,.none,.cls ⟨bf,[.type t5],[.ref 24,.type t5,.type t10,.type t11,.type ni],23,bf,true,[],[.ref 37,.ref 49],false,.none,false⟩,⟨[.some (.ref 15),.none,.some (.str bf 189),.some (.str bf 197),.some (.builtin t9),.some (.bool true)]⟩⟩
def af9:Obj:=⟨.type t8,.none,.cls ⟨bf,[.type t5],[.ref 24,.type t5,.type t10,.type t11,.type ni],23,bf,true,[],[.ref 37,.ref 49,.ref 61],false,.none,false⟩,⟨[.some (.ref 15),.none,.some (.str bf 189),.some (.str bf 197),.some (.builtin t9),.some (.bool true)]⟩⟩
def NK:Obj:=⟨.type W5,.none,.fields ⟨[.str E4 202,.ref 24,.builtin Wf,.none]⟩,⟨[]⟩⟩
def Wh:Obj:=⟨.type vK,.none,.fields ⟨[.ref 24,.ref 24,.ref 24]⟩,⟨[]⟩⟩
def Xr:Obj:=⟨.type t6,.none,.fields ⟨[.builtin wk,.ref 24]⟩,⟨[]⟩⟩
def oN:Obj:=⟨.type t2,.none,.seq ⟨[.ref 24]⟩ 0,⟨[]⟩⟩
def o30(P:Params):Obj:=⟨.type t0,.none,.dict ⟨[⟨kh P dM,.str dM 214,.str d8 187⟩,⟨kh P kE,.str kE 216,.str dH 215⟩,⟨kh P dR,.str dR 218,.int 4 217⟩,⟨kh P dJ,.str dJ 219,.ref 35⟩]⟩ 4,⟨[]⟩⟩
def Tv:Obj:=⟨.type t3,.none,.fields ⟨[.str dH 209,.str dH 210,.str z9 211,.int 4 0,.int 0 0,.int 0 0,.int 0 0,.int 0 0,.ref 31,.bool false,.int 181 0,.ref 32,.none,.none,.none,.none,.int 212 0,.int 4 0,.str z9 213]⟩,⟨[]⟩⟩
def o34:Obj:=⟨.type t4,.none,.plain,⟨[.some (.ref 33),.some (.ref 3),.some (.ref 30),.none,.some (.str d8 187),.none,.some (.ref 0)]⟩⟩
def Qy(P:Params):Obj:=⟨.type t0,.none,.dict ⟨[⟨kh P dM,.str dM 214,.str d8 187⟩,⟨kh P dR,.str dR 218,.int 4 217⟩,⟨kh P dJ,.str dJ 219,.ref 35⟩,⟨kh P z2,.str z2 220,.none⟩]⟩ 2,⟨[]⟩⟩
def RB:Obj:=⟨.type t8,.none,.cls ⟨dH,[.ref 24],[.ref 37,.ref 24,.type t5,.type t10,.type t11,.type ni],36,dH,true,[],[],false,.none,false⟩,⟨[.some (.ref 28),.none,.some (.str dH 207),.some (.str dH 215),.some (.builtin t9),.some (.bool true)]⟩⟩
def o38:Obj:=⟨.type vK,.none,.fields ⟨[.ref 37,.ref 37,.ref 37]⟩,⟨[]⟩⟩
def U4:Obj:=⟨.type t6,.none,.fields ⟨[.builtin wk,.ref 37]⟩,⟨[]⟩⟩
def Ti(P:Params):Obj:=⟨.type t0,.none,.dict ⟨[⟨kh P dM,.str dM 230,.str d8 187⟩,⟨kh P kE,.str kE 232,.str dZ 231⟩,⟨kh P dR,.str dR 234,.int 6 233⟩,⟨kh P dJ,.str dJ 235,.ref 47⟩]⟩ 4,⟨[]⟩⟩
def Xq:Obj:=⟨.type t3,.none,.fields ⟨[.str dZ 225,.str dZ 226,.str z9 227,.int 6 0,.int 0 0,.int 0 0,.int 0 0,.int 0 0,.ref 43,.bool false,.int 181 0,.ref 44,.none,.none,.none,.none,.int 228 0,.int 6 0,.str z9 229]⟩,⟨[]⟩⟩
def o46:Obj:=⟨.type t4,.none,.plain,⟨[.some (.ref 45),.some (.ref 3),.some (.ref 42),.none,.some (.str d8 187),.none,.some (.ref 0)]⟩⟩
def Og(P:Params):Obj:=⟨.type t0,.none,.dict ⟨[⟨kh P dM,.str dM 230,.str d8 187⟩,⟨kh P dR,.str dR 234,.int 6 233⟩,⟨kh P dJ,.str dJ 235,.ref 47⟩,⟨kh P z2,.str z2 236,.none⟩]⟩ 2,⟨[]⟩⟩
def Qg:Obj:=⟨.type t8,.none,.cls ⟨dZ,[.ref 24],[.ref 49,.ref 24,.type t5,.type t10,.type t11,.type ni],48,dZ,true,[],[],false,.none,false⟩,⟨[.some (.ref 40),.none,.some (.str dZ 223),.some (.str dZ 231),.some (.builtin t9),.some (.bool true)]⟩⟩
def Yx:Obj:=⟨.type vK,.none,.fields ⟨[.ref 49,.ref 49,.ref 49]⟩,⟨[]⟩⟩
def YB:Obj:=⟨.type t6,.none,.fields ⟨[.builtin wk,.ref 49]⟩,⟨[]⟩⟩
def o54(P:Params):Obj:=⟨.type t0,.none,.dict ⟨[⟨kh P dM,.str dM 246,.str d8 187⟩,⟨kh P kE,.str kE 248,.str eU 247⟩,⟨kh P dR,.str dR 250,.int 8 249⟩,⟨kh P dJ,.str dJ 251,.ref 59⟩]⟩ 4,⟨[]⟩⟩
def o57:Obj:=⟨.type t3,.none,.fields ⟨[.str eU 241,.str eU 242,.str z9 243,.int 8 0,.int 0 0,.int 0 0,.int 0 0,.int 0 0,.ref 55,.bool false,.int 181 0,.ref 56,.none,.none,.none,.none,.int 244 0,.int 8 0,.str z9 245]⟩,⟨[]⟩⟩
def o58:Obj:=⟨.type t4,.none,.plain,⟨[.some (.ref 57),.some (.ref 3),.some (.ref 54),.none,.some (.str d8 187),.none,.some (.ref 0)]⟩⟩
def Ht(P:Params):Obj:=⟨.type t0,.none,.dict ⟨[⟨kh P dM,.str dM 246,.str d8 187⟩,⟨kh P dR,.str dR 250,.int 8 249⟩,⟨kh P dJ,.str dJ 251,.ref 59⟩,⟨kh P z2,.str z2 252,.none⟩]⟩ 2,⟨[]⟩⟩
def J5:Obj:=⟨.type t8,.none,.cls ⟨eU,[.ref 24],[.ref 61,.ref 24,.type t5,.type t10,.type t11,.type ni],60,eU,true,[],[],false,.none,false⟩,⟨[.some (.ref 52),.none,.some (.str eU 239),.some (.str eU 247),.some (.builtin t9),.some (.bool true)]⟩⟩
def o62:Obj:=⟨.type vK,.none,.fields ⟨[.ref 61,.ref 61,.ref 61]⟩,⟨[]⟩⟩
def o63:Obj:=⟨.type t6,.none,.fields ⟨[.builtin wk,.ref 61]⟩,⟨[]⟩⟩
def o66(P:Params):Obj:=⟨.type t0,.none,.dict ⟨[⟨kh P dM,.str dM 262,.str d8 187⟩,⟨kh P kE,.str kE 264,.str gb 263⟩,⟨kh P dR,.str dR 266,.int 10 265⟩,⟨kh P dJ,.str dJ 267,.ref 71⟩]⟩ 4,⟨[]⟩⟩
def o69:Obj:=⟨.type t3,.none,.fields ⟨[.str gb 257,.str gb 258,.str z9 259,.int 10 0,.int 0 0,.int 0 0,.int 0 0,.int 0 0,.ref 67,.bool false,.int 181 0,.ref 68,.none,.none,.none,.none,.int 260 0,.int 10 0,.str z9 261]⟩,⟨[]⟩⟩
def o70:Obj:=⟨.type t4,.none,.plain,⟨[.some (.ref 69),.some (.ref 3),.some (.ref 66),.none,.some (.str d8 187),.none,.some (.ref 0)]⟩⟩
def PN(P:Params):Obj:=⟨.type t0,.none,.dict ⟨[⟨kh P dM,.str dM 262,.str d8 187⟩,⟨kh P dR,.str dR 266,.int 10 265⟩,⟨kh P dJ,.str dJ 267,.ref 71⟩,⟨kh P z2,.str z2 268,.none⟩]⟩ 2,⟨[]⟩⟩
def Lk:Obj:=⟨.type t8,.none,.cls ⟨gb,[.ref 24],[.ref 73,.ref 24,.type t5,.type t10,.type t11,.type ni],72,gb,true,[],[],false,.none,false⟩,⟨[.some (.ref 64),.none,.some (.str gb 255),.some (.str gb 263),.some (.builtin t9),.some (.bool true)]⟩⟩
def o74:Obj:=⟨.type vK,.none,.fields ⟨[.ref 73,.ref 73,.ref 73]⟩,⟨[]⟩⟩
def Xg:Obj:=⟨.type t6,.none,.fields ⟨[.builtin wk,.ref 73]⟩,⟨[]⟩⟩
def o78:=ts [tM,V8] 276
def o80:=cd jJ 7
def J7:=cg jJ 273 13 1 76 80 278
def J3:=fo jJ 7 Ar 271 81
def XQ:=ts [iH,tM] 284
def W8:=cd jh 8
def Oa:=cg jh 281 22 2 83 87 286
def OB:=fo jh 8 Ar 271 88
def Zz:=ts [Dp,tM,z72,Uz,xY] 292
def Ws:=cd jx 9
def Pj:=cg jx 289 26 2 90 94 297
def NP:=fo jx 9 Ar 271 95
def o99:=ts [iH,uH,ur] 303
def Y5:=cd jE 10
def G5:=cg jE 300 36 3 97 101 306
def Gp:=fo jE 10 Ar 271 102
def adh:=ts [iH,zO,z78,QM,Ao] 314
def U6:=cd ju 12
def Qd:=cg ju 311 43 3 104 108 319
def Mr:=fo ju 12 E9 309 109
def aav:=ts [rA,z83,iH,zO,ZV,Ko] 325
def ZP:=cd nG 13
def MB:=cg nG 322 48 2 111 115 331
def NQ:=fo nG 13 E9 309 116
def afO:=ts [ZM,z87] 339
def Vn:=cd mZ 15
def HW:=cg mZ 336 57 1 118 122 341
def PD:=fo mZ 15 mj 334 123
def YT:=ts [Ak,Ao] 347
def acn:=cd lF 16
def M7:=cg lF 344 62 2 125 129 349
def Qc:=fo lF 16 mj 334 130
def adx:=ts [iH,uH,ur,QM,z90,Ao] 355
def aeJ:=cd jl 17
def JK:=cg jl 352 64 3 132 136 361
def Lg:=fo jl 17 mj 334 137
def ach:=ts [iH,uH,ur,PL,z92,xY,z93,z94,Ao] 367
def adl:=cd lJ 18
def Km:=cg lJ 364 70 3 139 143 376
def Pg:=fo lJ 18 mj 334 144
def aaZ:=cd nH 19
def PK:=cf nH 379 80 2 146 .none .none 148 382
def PV:=fo nH 19 mj 334 149
def Tr:=ts [iH,uH,ur,Z0,XG,xY] 388
def aeb:=cd mK 20
def KD:=cg mK 385 85 3 151 155 394
def M5:=fo mK 20 mj 334 156
def Zo:=cd lZ 21
def IG:=cf lZ 397 93 2 158 .none .none 160 400
def Mj:=fo lZ 21 mj 334 161
def aaG:=cd lQ 22
def Jl:=cf lQ 403 97 2 163 .none .none 165 406
def QH:=fo lQ 22 mj 334 166
def SJ:=cd nK 23
def MF:=cf nK 409 100 4 168 .none .none 170 412
def Ma:=fo nK 23 mj 334 171
def adG:=ts [tM,Ko] 422
def Yt:=cd mV 26
def Pn:=cg mV 419 104 1 173 177 424
def LY:=fo mV 26 nW 415 178
def XF:=ts [X8,Ak] 430
def adW:=cd nM 27
def JB:=cg nM 427 109 2 180 184 432
def IX:=fo nM 27 nW 415 185
def afS:=cd ql 28
def Pb:=cf ql 435 111 2 187 .none .none 189 438
def Ld:=fo ql 28 nW 415 190
def ae5:=ts [Ir,tM,QS] 444
def abY:=cd pG 29
def Qv:=cg pG 441 113 2 192 196 447
def Jb:=fo pG 29 nW 415 197
def V0:=ts [Ir,tM,Dp,QS,Wt] 453
def UH:=cd pH 30
def GN:=cg pH 450 116 4 199 203 458
def Ri:=fo pH 30 nW 415 204
def Yh:=cd qL 31
def RP:=cf qL 461 119 2 206 .none .none 208 464
def QT:=fo qL 31 nW 415 209
def aft:=ts [iH,uH,ur] 470
def acD:=cd pF 32
def Ih:=cg pF 467 137 3 211 215 473
def O9:=fo pF 32 nW 415 216
def Xa:=cd qI 34
def KQ:=cf qI 478 140 2 218 .none .none 220 481
def Nv:=fo qI 34 BW 476 221
def Ul:=ts [rA,iH,Ak,PL] 487
def aeP:=cd qx 35
def OX:=cg qx 484 148 1 223 227 491
def Jc:=fo qx 35 BW 476 228
def afY:=ts [rA,JF,zO] 497
def aeF:=cd qU 36
def Q5:=cg qU 494 153 1 230 234 500
def NV:=fo qU 36 BW 476 235
def agl:=ts [Dp,adY,YS,Wk] 510
def aev:=cd qX 39
def N6:=cg qX 507 159 2 237 241 514
def KN:=fo qX 39 rP 503 242
def Yz:=ts [rA,JF] 520
def aa9:=cd qP 40
def MP:=cg qP 517 165 1 244 248 522
def KY:=fo qP 40 rP 503 249
def adN:=ts [rA,iH,zO,ad2,Xf,Um] 528
def UQ:=cd qz 41
def Kr:=cg qz 525 171 1 251 255 534
def QX:=fo qz 41 rP 503 256
def Uy:=ts [rA] 540
def SW:=cd qj 42
def Mw:=cg qj 537 181 1 258 262 541
def Pa:=fo qj 42 rP 503 263
def afV:=cd vJ 43
def Rh:=cf vJ 544 183 2 265 .none .none 267 547
def Rb:=fo vJ 43 rP 503 268
def Ux:=ts [iH,Bx] 557
def RZ:=cd uh 46
def Nq:=cg uh 554 194 2 270 274 559
def Jg:=fo uh 46 yD 550 275
def abw:=ts [iH,Ak,Bx,xY,SY,Ys] 565
def ac8:=cd wg 47
def Jm:=cg wg 562 197 3 277 281 571
def JZ:=fo wg 47 yD 550 282
def Sy:=cd vH 48
def GY:=cf vH 574 205 2 284 .none .none 286 577
def Qe:=fo vH 48 yD 550 287
def YD:=ts [rA,Bx] 583
def TN:=cd vW 49
def Qo:=cg vW 580 211 2 289 293 585
def QD:=fo vW 49 yD 550 294
def UC:=ts [Hh,zZ,VQ] 593
def o300:=cd uU 51
def HJ:=cg uU 590 214 2 296 300 596
def Q9:=fo uU 51 z1 588 301
def Uo:=cd vM 52
def JY:=cf vM 599 221 2 303 .none .none 305 602
def Jq:=fo vM 52 z1 588 306
def Tp:=ts [CF,Jr,IL,Ym,CM,Ny,VL,zZ] 608
def Ue:=cd uq 53
def Jw:=cg uq 605 230 2 308 312 616
def M8:=fo uq 53 z1 588 313
def abz:=ts [IL,SQ,Z2,zZ] 622
def Zb:=cd ug 54
def PY:=cg ug 619 241 2 315 319 626
def PZ:=fo ug 54 z1 588 320
def abq:=ts [CF,IY,Ro,JH,Oc,CM,LR] 632
def acw:=cd vC 55
def RT:=cg vC 629 246 4 322 326 639
def Rz:=fo vC 55 z1 588 327
def V3:=ts [Hh,CF,JH,LR,abB,zZ,Ro,aeA,Ny,Ug,Uc,IY,Oc,CM,Jr] 645
def abZ:=cd vU 56
def Qa:=cg vU 642 251 1 329 333 660
def Gx:=fo vU 56 z1 588 334
def HL(P:Params):List Obj:=[PySem.W.boot_o_0 P,PySem.W.boot_o_1 P,PySem.W.boot_o_2 P,o3 P,PySem.W.boot_o_4 P,PySem.W.boot_o_5 P,PySem.W.boot_o_6 P,PySem.W.boot_o_7 P,PySem.W.boot_o_8 P,PySem.W.boot_o_9 P,PySem.W.boot_o_10 P,aB,sX,qM,qJ,Lf,uD,o17 P,aB,aW,o20,Yl,aB,Rf P,Gq,NK,Wh,Xr,oN,uD,o30 P,aB,aW,Tv,o34,aB,Qy P,RB,o38,U4,oN,uD,Ti P,aB,aW,Xq,o46,aB,Og P,Qg,Yx,YB,oN,uD,o54 P,aB,aW,o57,o58,aB,Ht P,J5,o62,o63,oN,uD,o66 P,aB,aW,o69,o70,aB,PN P,Lk,o74,Xg,aB,aW,o78,aB,o80,J7,J3,aB,aW,XQ,aB,W8,Oa,OB,aB,aW,Zz,aB,Ws,Pj,NP,aB,aW,o99,aB,Y5,G5,Gp,aB,aW,adh,aB,U6,Qd,Mr,aB,aW,aav,aB,ZP,MB,NQ,aB,aW,afO,aB,Vn,HW,PD,aB,aW,YT,aB,acn,M7,Qc,aB,aW,adx,aB,aeJ,JK,Lg,aB,aW,ach,aB,adl,Km,Pg,aB,aW,aaZ,PK,PV,aB,aW,Tr,aB,aeb,KD,M5,aB,aW,Zo,IG,Mj,aB,aW,aaG,Jl,QH,aB,aW,SJ,MF,Ma,aB,aW,adG,aB,Yt,Pn,LY,aB,aW,XF,aB,adW,JB,IX,aB,aW,afS,Pb,Ld,aB,aW,ae5,aB,abY,Qv,Jb,aB,aW,V0,aB,UH,GN,Ri,aB,aW,Yh,RP,QT,aB,aW,aft,aB,acD,Ih,O9,aB,aW,Xa,KQ,Nv,aB,aW,Ul,aB,aeP,OX,Jc,aB,aW,afY,aB,aeF,Q5,NV,aB,aW,agl,aB,aev,N6,KN,aB,aW,Yz,aB,aa9,MP,KY,aB,aW,adN,aB,UQ,Kr,QX,aB,aW,Uy,aB,SW,Mw,Pa,aB,aW,afV,Rh,Rb,aB,aW,Ux,aB,RZ,Nq,Jg,aB,aW,abw,aB,ac8,Jm,JZ,aB,aW,Sy,GY,Qe,aB,aW,YD,aB,TN,Qo,QD,aB,aW,UC,aB,o300,HJ,Q9,aB,aW,Uo,JY,Jq,aB,aW,Tp,aB,Ue,Jw,M8,aB,aW,abz,aB,Zb,PY,PZ,aB,aW,abq,aB,acw,RT,Rz,aB,aW,V3,aB,abZ,Qa,Gx]
def ev(l:List Obj):Bool->List Obj:=List.rec (motive:=λ_=>Bool->List Obj) (λ_=>[]) (λo _ f b=>cond b (o::f false) (f true)) l
def bt(n:Nat):List Obj->BT:=Nat.rec (motive:=λ_=>List Obj->BT) (λ_=> .nil) (λ_ f l=>List.casesOn l .nil λo l=> .node o (f (ev l true)) (f (ev l false))) n
def TF(P:Params):BT:=bt 16 (HL P)
def HF(P:Params):Heap:=⟨⟨HL P⟩,{}⟩
def K(P:Params):Frag:=(nat_lit 0,PySem.W.boot_o_0 P)::(nat_lit 1,PySem.W.boot_o_1 P)::(nat_lit 2,PySem.W.boot_o_2 P)::(nat_lit 3,o3 P)::(nat_lit 4,PySem.W.boot_o_4 P)::(nat_lit 5,PySem.W.boot_o_5 P)::(nat_lit 6,PySem.W.boot_o_6 P)::(nat_lit 7,PySem.W.boot_o_7 P)::(nat_lit 8,PySem.W.boot_o_8 P)::(nat_lit 9,PySem.W.boot_o_9 P)::(nat_lit 10,PySem.W.boot_o_10 P)::(nat_lit 11,aB)::(nat_lit 12,sX)::(nat_lit 13,qM)::(nat_lit 14,qJ)::(nat_lit 15,Lf)::(nat_lit 22,aB)::(nat_lit 23,Rf P)::(nat_lit 24,Gq)::(nat_lit 25,NK)::(nat_lit 28,oN)::(nat_lit 35,aB)::(nat_lit 36,Qy P)::(nat_lit 37,RB)::(nat_lit 40,oN)::(nat_lit 47,aB)::(nat_lit 48,Og P)::(nat_lit 49,Qg)::(nat_lit 52,oN)::(nat_lit 59,aB)::(nat_lit 60,Ht P)::(nat_lit 61,J5)::(nat_lit 64,oN)::(nat_lit 71,aB)::(nat_lit 72,PN P)::(nat_lit 73,Lk)::(nat_lit 81,J7)::(nat_lit 82,J3)::(nat_lit 88,Oa)::(nat_lit 89,OB)::(nat_lit 95,Pj)::(nat_lit 96,NP)::(nat_lit 102,G5)::(nat_lit 103,Gp)::(nat_lit 109,Qd)::(nat_lit 110,Mr)::(nat_lit 116,MB)::(nat_lit 117,NQ)::(nat_lit 123,HW)::(nat_lit 124,PD)::(nat_lit 130,M7)::(nat_lit 131,Qc)::(nat_lit 137,JK)::(nat_lit 138,Lg)::(nat_lit 144,Km)::(nat_lit 145,Pg)::(nat_lit 149,PK)::(nat_lit 150,PV)::(nat_lit 156,KD)::(nat_lit 157,M5)::(nat_lit 161,IG)::(nat_lit 162,Mj)::(nat_lit 166,Jl)::(nat_lit 167,QH)::(nat_lit 171,MF)::(nat_lit 172,Ma)::(nat_lit 178,Pn)::(nat_lit 179,LY)::(nat_lit 185,JB)::(nat_lit 186,IX)::(nat_lit 190,Pb)::(nat_lit 191,Ld)::(nat_lit 197,Qv)::(nat_lit 198,Jb)::(nat_lit 204,GN)::(nat_lit 205,Ri)::(nat_lit 209,RP)::(nat_lit 210,QT)::(nat_lit 216,Ih)::(nat_lit 217,O9)::(nat_lit 221,KQ)::(nat_lit 222,Nv)::(nat_lit 228,OX)::(nat_lit 229,Jc)::(nat_lit 235,Q5)::(nat_lit 236,NV)::(nat_lit 242,N6)::(nat_lit 243,KN)::(nat_lit 249,MP)::(nat_lit 250,KY)::(nat_lit 256,Kr)::(nat_lit 257,QX)::(nat_lit 263,Mw)::(nat_lit 264,Pa)::(nat_lit 268,Rh)::(nat_lit 269,Rb)::(nat_lit 275,Nq)::(nat_lit 276,Jg)::(nat_lit 282,Jm)::(nat_lit 283,JZ)::(nat_lit 287,GY)::(nat_lit 288,Qe)::(nat_lit 294,Qo)::(nat_lit 295,QD)::(nat_lit 301,HJ)::(nat_lit 302,Q9)::(nat_lit 306,JY)::(nat_lit 307,Jq)::(nat_lit 313,Jw)::(nat_lit 314,M8)::(nat_lit 320,PY)::(nat_lit 321,PZ)::(nat_lit 327,RT)::(nat_lit 328,Rz)::(nat_lit 334,Qa)::(nat_lit 335,Gx)::[]
def as:List Nat:=[0,1,2,3,4,5,6,7,8,9,10,11,12,13,14,15,22,23,24,25,28,35,36,37,40,47,48,49,52,59,60,61,64,71,72,73,81,82,88,89,95,96,102,103,109,110,116,117,123,124,130,131,137,138,144,145,149,150,156,157,161,162,166,167,171,172,178,179,185,186,190,191,197,198,204,205,209,210,216,217,221,222,228,229,235,236,242,243,249,250,256,257,263,264,268,269,275,276,282,283,287,288,294,295,301,302,306,307,313,314,320,321,327,328,334,335]
def cut(n:Nat)(t:BT):Nat->Nat->BT:=BT.rec (motive:=λ_=>Nat->Nat->BT) (λ_ _=> .nil) (λv _ _ l r a b=>cond (Nat.blt b n) (.node v (l (Nat.mul 2 a) (Nat.add a b)) (r (Nat.mul 2 a) (Nat.add (Nat.mul 2 a) b))) .nil) t
def HA(P:Params):Heap:=⟨⟨[PySem.W.boot_o_0 P,PySem.W.boot_o_1 P,PySem.W.boot_o_2 P,PySem.W.boot_o_3 P,PySem.W.boot_o_4 P,PySem.W.boot_o_5 P,PySem.W.boot_o_6 P,PySem.W.boot_o_7 P,PySem.W.boot_o_8 P,PySem.W.boot_o_9 P,PySem.W.boot_o_10 P,aB,Pk,qM,qJ]⟩,{}⟩
def SA(w:World)(os:OsState):Shared:=⟨HA w.params,⟨[]⟩,{},187,os⟩
def T1(P:Params):BT:=((cut 15 (TF P) 1 0).set 3 λ_=>PySem.W.boot_o_3 P).set 12 λ_=>Pk
def S1(w:World)(os:OsState):SharedT:=⟨T1 w.params,15,{},⟨[]⟩,{},187,os⟩
def T2(P:Params):BT:=(((cut 28 (TF P) 1 0).set 3 λ_=>UU P).set 12 λ_=>aac).set 24 λ_=>ZX
def S2(w:World)(os:OsState):SharedT:=⟨T2 w.params,28,{},⟨[]⟩,{},207,os⟩
def T3(P:Params):BT:=(((cut 40 (TF P) 1 0).set 3 λ_=>VZ P).set 12 λ_=>Y8).set 24 λ_=>abL
def S3(w:World)(os:OsState):SharedT:=⟨T3 w.params,40,{},⟨[]⟩,{},223,os⟩
def T4(P:Params):BT:=(((cut 52 (TF P) 1 0).set 3 λ_=>ab2 P).set 12 λ_=>SR).set 24 λ_=>abP
def S4(w:World)(os:OsState):SharedT:=⟨T4 w.params,52,{},⟨[]⟩,{},239,os⟩
def T5(P:Params):BT:=(((cut 64 (TF P) 1 0).set 3 λ_=>aeG P).set 12 λ_=>WW).set 24 λ_=>af9
def S5(w:World)(os:OsState):SharedT:=⟨T5 w.params,64,{},⟨[]⟩,{},255,os⟩
def T6(P:Params):BT:=((cut 111 (TF P) 1 0).set 3 λ_=>Wj P).set 12 λ_=>Xx
def S6(w:World)(os:OsState):SharedT:=⟨T6 w.params,111,{},⟨[]⟩,{},322,os⟩
def T7(P:Params):BT:=((cut 187 (TF P) 1 0).set 3 λ_=>agg P).set 12 λ_=>W0
def S7(w:World)(os:OsState):SharedT:=⟨T7 w.params,187,{},⟨[]⟩,{},435,os⟩
def T8(P:Params):BT:=((cut 265 (TF P) 1 0).set 3 λ_=>Xd P).set 12 λ_=>ab3
def S8(w:World)(os:OsState):SharedT:=⟨T8 w.params,265,{},⟨[]⟩,{},544,os⟩
def T9(P:Params):BT:=cut 336 (TF P) 1 0
def S9(w:World)(os:OsState):SharedT:=⟨T9 w.params,336,{},⟨[]⟩,{},663,os⟩
def SF(w:World)(os:OsState):Shared:=⟨HF w.params,⟨[]⟩,{},663,os⟩
def ann:Option Value:=some (.ref 6)
def env:Env:={ scope:=pwL.main.scope,locals:=mainNs,globals:=mainNs,cells:=[],code:= .ref 13,frame:=some 14 }
def cE:Code:= .body (behindTheImports pwL) env
abbrev BB:List Frame:=[topFrame ⟨0,0,0,0⟩]
def q:Program:={ pwL with main:={ pwL.main with body:=[topF 1,topF 2,topF 3,topF 4,topF 5,topF 7,topF 8,topF 9,topF 10,topF 12,topF 13,topF 15,topF 16,topF 17,topF 18,topF 19,topF 20,topF 21,topF 22,topF 23,topF 25,topF 26,topF 27,topF 28,topF 29,topF 30,topF 31,topF 32,topF 34,topF 35,topF 36,topF 38,topF 39,topF 40,topF 41,topF 42,topF 43,topF 45,topF 46,topF 47,topF 48,topF 49,topF 51,topF 52,topF 53,topF 54,topF 55,topF 56] } }
theorem warm2:((λ(_:Env) (_:Code) (_:Program)=>true) env cE q)=true:=by k_qdec
theorem a0:@segRunT=PySem.W.Fast.tw10110043849684766642:=PySem.W.Fast.te10110043849684766642
theorem a1:@treeTable=PySem.W.Fast.tw14364793385576792824:=PySem.W.Fast.te14364793385576792824
theorem a2:@topGo=PySem.W.Fast.tw15667345088766844465:=PySem.W.Fast.te15667345088766844465
theorem a3:@topRun=PySem.W.Fast.tw14082659384304107361:=PySem.W.Fast.te14082659384304107361
theorem a4:@segRun=PySem.W.Fast.tw14374325043358763698:=PySem.W.Fast.te14374325043358763698
theorem a5:@denote=PySem.W.Fast.tw11892475500146522536:=PySem.W.Fast.te11892475500146522536
theorem a6:@cE=PySem.W.Fast.tw1794231401045169876:=PySem.W.Fast.te1794231401045169876
theorem a7:@env=PySem.W.Fast.tw5252000310805370471:=PySem.W.Fast.te5252000310805370471
theorem a8:@q=PySem.W.Fast.tw12867846687966326103:=PySem.W.Fast.te12867846687966326103
theorem a9:@pwL=PySem.W.Fast.tw16039678299464220299:=PySem.W.Fast.te16039678299464220299
theorem a10:@topF=PySem.W.Fast.tw10508195491247701041:=PySem.W.Fast.te10508195491247701041
theorem a11:@importedModules=PySem.W.Fast.tw5923862056798008813:=PySem.W.Fast.te5923862056798008813
theorem a12:@openSeen=PySem.W.Fast.tw4187177175401517315:=PySem.W.Fast.te4187177175401517315
theorem a13:@Heap.nsMap=PySem.W.Fast.tw8920871248978507458:=PySem.W.Fast.te8920871248978507458
set_option maxHeartbeats 0
theorem pre(w:World)(os:OsState):topGo treeTable pwL w 11 ann 12 ⟨boot_heap w.params,⟨[]⟩,boot_drawn,boot_toks,os⟩ (topStub pwL)=some (SA w os,⟨denote treeTable cE,cE,⟨0,0,0,0⟩,BB⟩):=by
 rw[a1,a2,a5,a6,a9];kernel_rfl
theorem blk(w:World)(os:OsState):segRun treeTable pwL w 11 ann 1 1 (SA w os) (blockOf (behindTheImports pwL) env cE ⟨0,0,0,0⟩ BB)=some (.next,(S1 w os).abs,cE,⟨0,0,0,0⟩):=by
 rw[a1,a4,a6,a7,a9];kernel_rfl
abbrev c1:List Stmt:=[topF 0,topF 1]
theorem p1(w:World)(os:OsState):segRunT treeTable pwL w 11 ann 1 196 (S1 w os) (piecesOf c1 env cE ⟨0,0,0,0⟩ BB)=some (.next,S2 w os,cE,⟨2,0,3,8⟩):=by
 unfold c1;rw[a0,a1,a6,a7,a9,a10];kernel_rfl
abbrev c2:List Stmt:=[topF 2]
theorem p2(w:World)(os:OsState):segRunT treeTable pwL w 11 ann 1 214 (S2 w os) (piecesOf c2 env cE ⟨2,0,3,8⟩ BB)=some (.next,S3 w os,cE,⟨4,0,5,8⟩):=by
 unfold c2;rw[a0,a1,a6,a7,a9,a10];kernel_rfl
abbrev c3:List Stmt:=[topF 3]
theorem p3(w:World)(os:OsState):segRunT treeTable pwL w 11 ann 1 214 (S3 w os) (piecesOf c3 env cE ⟨4,0,5,8⟩ BB)=some (.next,S4 w os,cE,⟨6,0,7,8⟩):=by
 unfold c3;rw[a0,a1,a6,a7,a9,a10];kernel_rfl
abbrev c4:List Stmt:=[topF 4]
theorem p4(w:World)(os:OsState):segRunT treeTable pwL w 11 ann 1 214 (S4 w os) (piecesOf c4 env cE ⟨6,0,7,8⟩ BB)=some (.next,S5 w os,cE,⟨8,0,9,8⟩):=by
 unfold c4;rw[a0,a1,a6,a7,a9,a10];kernel_rfl
abbrev c5:List Stmt:=[topF 5,topF 6,topF 7,topF 8,topF 9,topF 10,topF 11,topF 12]
theorem p5(w:World)(os:OsState):segRunT treeTable pwL w 11 ann 1 389 (S5 w os) (piecesOf c5 env cE ⟨8,0,9,8⟩ BB)=some (.next,S6 w os,cE,⟨43,0,47,27⟩):=by
 unfold c5;rw[a0,a1,a6,a7,a9,a10];kernel_rfl
abbrev c6:List Stmt:=[topF 13,topF 14,topF 15,topF 16,topF 17,topF 18,topF 19,topF 20,topF 21,topF 22,topF 23,topF 24,topF 25,topF 26,topF 27]
theorem p6(w:World)(os:OsState):segRunT treeTable pwL w 11 ann 1 391 (S6 w os) (piecesOf c6 env cE ⟨43,0,47,27⟩ BB)=some (.next,S7 w os,cE,⟨109,0,110,47⟩):=by
 unfold c6;rw[a0,a1,a6,a7,a9,a10];kernel_rfl
abbrev c7:List Stmt:=[topF 28,topF 29,topF 30,topF 31,topF 32,topF 33,topF 34,topF 35,topF 36,topF 37,topF 38,topF 39,topF 40,topF 41,topF 42]
theorem p7(w:World)(os:OsState):segRunT treeTable pwL w 11 ann 1 389 (S7 w os) (piecesOf c7 env cE ⟨109,0,110,47⟩ BB)=some (.next,S8 w os,cE,⟨181,0,182,37⟩):=by
 unfold c7;rw[a0,a1,a6,a7,a9,a10];kernel_rfl
abbrev c8:List Stmt:=[topF 43,topF 44,topF 45,topF 46,topF 47,topF 48,topF 49,topF 50,topF 51,topF 52,topF 53,topF 54,topF 55,topF 56]
theorem p8(w:World)(os:OsState):segRunT treeTable pwL w 11 ann 1 377 (S8 w os) (piecesOf c8 env cE ⟨181,0,182,37⟩ BB)=some (.next,S9 w os,cE,⟨251,0,274,15⟩):=by
 unfold c8;rw[a0,a1,a6,a7,a9,a10];kernel_rfl
theorem fin(w:World)(os:OsState):topRun treeTable pwL w 11 ann 2 (S9 w os).abs ⟨doneF .next,cE,⟨251,0,274,15⟩,BB⟩=some (SF w os):=by
 rw[a1,a3,a6,a9];kernel_rfl
theorem body:behindTheImports pwL=c1++(c2++(c3++(c4++(c5++(c6++(c7++(c8++([])))))))):=by
 rw[a9];kernel_rfl
theorem run(w:World)(os:OsState):topRun treeTable pwL w 11 ann (12+(1+(196+(214+(214+(214+(389+(391+(389+(377+(2))))))))))) ⟨boot_heap w.params,⟨[]⟩,boot_drawn,boot_toks,os⟩ (topStub pwL)=some (SF w os):=
 go_top (pre w os) (piece_block (blk w os) (by rw[body];exact piece_app (segRun_of (p1 w os)) (piece_app (segRun_of (p2 w os)) (piece_app (segRun_of (p3 w os)) (piece_app (segRun_of (p4 w os)) (piece_app (segRun_of (p5 w os)) (piece_app (segRun_of (p6 w os)) (piece_app (segRun_of (p7 w os)) (piece_app (segRun_of (p8 w os)) (piece_nil (fin w os)))))))))))
theorem size(w:World):((boot_heap w.params).isNs mainGlobals&&(Array.mk ([]:List GenState)).size==0,(boot_heap w.params).objs.size,(boot_heap w.params).nsMap mainGlobals "__annotations__")=(true,11,ann):=by
 rw[a13];kernel_rfl
abbrev Xt(s:Shared):Bool:=xlAt q [] s&&recOk [] s
theorem U7(w:World)(os:OsState):(staticsOk (importedModules pwL.main.body) (boot_heap w.params) (HF w.params)&&namesBound pwL (HF w.params)&&gensDone (SF w os)&&laidKept (boot_heap w.params) (HF w.params))=true:=by
 rw[a9,a11];kernel_rfl
theorem Te(w:World)(os:OsState):openSeen q [] (importedModules pwL.main.body) Xt true (SF w os)=openGood q []:=by
 rw[a8,a9,a11,a12];kernel_rfl
theorem lk3(w:World)(os:OsState):QF as (SF w os)=Nm K 336 663 w:=by
 kernel_rfl
theorem imports:opening pwL=plainProg pwL.main.scope.names:=by kernel_rfl
theorem left:LeftO pwL q [] Xt (QF as) (Nm K 336 663) 4878:=
 LeftO.of_pieces (boot_open imports (by rfl) (λs=>by kernel_rfl)) size run (by rfl) λw=>funext λos=>looks_pair (U7 w os) (looks_pair (Te w os) (lk3 w os))
end
end H
end K44
open PySem PySem.W PyProof.Rows
set_option maxRecDepth 100000 in
set_option maxHeartbeats 0 in
theorem PySem.Challenge.cw_nextbyrule_k44_whole_far_by_rounds_holds : PySem.Challenge.rw_nextbyrule_k44_whole_far_by_rounds.Holds := by
 change K44.rwL.Holds
 w_on;o_law;rename_i said
 refine holds_openX (d:=?d) (kwd:=?kwd) K44.H.left (λs h=>xl_of s (Gv.mp h).1) XL.keeps (by rfl) (by rfl) (by rfl) (λs h=>recFacts_of (Gv.mp h).2) (by rfl) said (by decide +kernel) ⟨rfl,rfl,rfl,rfl,rfl,by decide +kernel⟩ ?hw ?hc;case hw=>w_witness2
 k_fill
 refine L2.acj (λ_=>by kernel_rfl) ?_;refine L2.Uv (l:=K44.rwL) (n:=63) (k:=K44.DW) (x:= "_law_script") (CX:=λw=>L2.jX K44.rwL.prog w) (sp:=λ_=>K44.CW _) rfl (by decide) rfl ⟨rfl,by decide,by decide⟩ (λw h Y=>Y) ?F (λw H a ns hl hb _ hS=>⟨a,ns,rfl,hS,hl,hb,λ_=>rfl⟩) (λ_ _ _ _ _ z=>L2.Rr z);case F=>
  intro w mg fa h KX G hmg;apply K44.all_mk KX G hmg;all_goals first|(refine' L2.aeB ?a ?l ?c ?k;(case a|l|c|k=>k_is))|k_is|exact⟨_,by k_is⟩|k_exc|kernel_rfl|kit_is
