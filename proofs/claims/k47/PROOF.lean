import PyProof.Rows.All
import Wide.All
import OpenK.AllK
import Wide.FinOn
import Lean
import PyProof.EqAt
import PyProof.EqKinds
import PyProof.TupleCall
import PySem.Challenge.RW_nextbyrule_k47_closed_forms
local macro_rules | `(tactic| omega)=>`(tactic| lia)
local macro_rules | `(⋯)=>`(by omega)
local macro_rules | `(∅)=>`(by decide)
set_option Elab.async false
set_option linter.all false
set_option maxRecDepth 100000
noncomputable section
open List renaming length_map->aB,mem_cons_self->bN,mem_cons_of_mem->cO,mem_singleton->dj,mem_cons->bH,map_cons->cD,mem_map->cB,size_toArray->fj,map_map->cH,length_append->fO,length_cons->fB,length_reverse->gU,mem_append->fM,not_mem_nil->gR,map_append->gO,mem_iff_getElem->jD,mem_map_of_mem->jr,eq_nil_of_length_eq_zero->rE,mem_range->iQ,replicate->iK,range->eO,map_congr_left->m7,mem_reverse->jC,mem_append_right->pq,length_take->jO,sum_cons->iY,all_eq_true->lK,take_length->ni,length_drop->oA,length_range->oO,pairwise_singleton->vL,filter_eq_self->qP,take_of_length_le->vV,length_set->oJ,take_add_one->qU,pairwise_cons->tW,length_pos_iff->vP,mem_filter->qR,nodup_cons->rK,length_dropLast->wC,any_eq_true->tQ,pairwise_reverse->Bh,getElem_mem->xG,filter_cons->wJ,take_append_drop->DN,pairwise_append->CK,pairwise_map->yJ,replicate_succ->BL,map_take->vp,append_nil->Aw,length_filter_le->Jq,map->mY,mem_of_mem_take->Jj,range'->uT,filter_append->Jv,sum_append->DW,take_succ_eq_append_getElem->afg,flatten_cons->EV,append_assoc->Ht,map_reverse->Gz,filterMap_cons->SG,mem_filterMap->Pz,drop_zero->G9,drop_eq_getElem_cons->aap,take_sublist->M8,nodup_append->RM,count_append->KJ,length->Cm,of_mem_zip->Us,length_replicate->ZY,map_nil->Ih,length_singleton->aaQ,length_nil->OB,range_succ->Ls,take_eq_take_iff->aaI,mem_append_left->Xj,mem_of_mem_drop->Wi,any_cons->Mz,any_eq_false->ZW,reverse_cons->Y7,getElem_drop->aeL,ext_getElem->Yk,drop_length->YG,forIn_cons->ac5,isPerm_iff->aae,filter_map->ab7,foldl->K1,map_id'->Wx
open Nat renaming le_refl->aJ,zero_le->cj,add_sub_cancel->fX,ne_of_lt->fD,mul_le_mul->gM,lt_of_lt_of_le->jt,le_trans->fG,not_lt_zero->jP,le_of_lt->iM,mul_le_mul_right->qG,lt_of_le_of_lt->sE,lt_irrefl->nT,mul_le_mul_left->uQ,strongRecOn->sX,pow_le_pow_right->wO,lt_succ_self->vG,add_sub_cancel_left->D8,le_of_dvd->rD,lt_or_ge->qb,sub_self->pU,lt_succ_of_lt->Ag,succ_mul->um,mul_comm->uM,sub_zero->tV,mul_lt_mul_of_pos_right->Qt,one_mul->vW,gcd->jT,lt_or_gt_of_ne->E9,mul_div_cancel_left->Sx,le_mul_of_pos_left->KC,ne_of_gt->yV,lt_trans->Bl,pow_succ->Bj,eq_of_beq_eq_true->M4,dvd_trans->CJ,mul_add->Bo,add_mul_mod_self_left->aat,gcd_dvd_right->Pb,pow_lt_pow_iff_right->afN,add_mul->D5,mul_one->Es,gcd_dvd_left->Oh,dvd_of_mod_eq_zero->Wm,mod_eq_zero_of_dvd->W0,zero_add->Hi,min_eq_left->Ou,gcd_comm->Ia,le_succ->Gq,eq_zero_or_pos->aft,gcd_zero_right->abt,dvd_mul_right->Wq,le_of_eq->QF,add_zero->RB,zero_mul->Mr,pow_zero->PK,mul_zero->K8,min_le_right->aen,le_of_not_lt->aaN,le_max_right->adC,succ_ne_zero->aeV,le_max_left->aco,mod_lt->Nt,add_assoc->aeQ,add_comm->ad8,dvd_refl->ZK,beq->Ft
open Int renaming mul_zero->aV,mul_assoc->bV,mul_comm->bR,toNat_natCast->fQ,mul_left_comm->gk,add_zero->dz,zero_mul->fZ,emod_emod_of_dvd->nq,zero_add->iG,one_mul->iz,pow_succ->jd,mul_eq_zero->lF,mul_sub->iI,neg_mul->jf,mul_one->jh,mul_add->jl,emod_lt_of_pos->sV,natAbs_mul->pA,mul_emod->m9,emod_nonneg->rG,dvd_refl->nM,add_comm->oh,dvd_of_emod_eq_zero->C8,pow_zero->qT,zero_sub->sG,natAbs_natCast->zB,mul_le_mul_of_nonneg_left->KW,add_mul->tH,neg_one_mul->yK,mul_neg->uh,dvd_add->ur,dvd_mul_right->Cg,emod_eq_of_lt->Ew,eq_of_mul_eq_mul_left->PD,natCast_emod->Cv,mul_fdiv_cancel_left->MZ,sub_mul->yj,natAbs_neg->CN,natAbs_dvd_natAbs->Nv,dvd_trans->DL,ofNat_dvd->C9,sub_zero->Dc,sub_eq_add_neg->Qq,ofNat_dvd_left->Ox,neg_neg->Dn,add_assoc->EW,toNat->yZ,dvd_self_sub_emod->acA,natAbs->Bw,mul_le_mul->Mv,pow_add->Js,toNat_of_nonneg->abQ,zero_emod->Nm,sub_add_cancel->af2,dvd_mul_left->aef,mul_ne_zero->aad,natCast_mul->aav,natCast_pow->Xm,natCast_add->aan,ediv_one->aeX,sub_self->afl,le_trans->abw
open Bool renaming false_ne_true->fW,and_eq_true->ji,or_eq_true->zp,and_eq_true_iff->IV,eq_iff_iff->Bx,false_eq_true->E5,and_true->Hr,true_and->PZ,false_or->Z0
open PySem.Heap renaming lt_size->cQ,SameBut->xV,size_push->RL,ExtBut->ae2
open PySem.W renaming Frag->aF,mg_none_of->lA,kitOne->mR,nsIn->iy,kia_one->pX,findIn->qM,kas_sort->Ac,fnOf->qH,keepIn->yM,mroIn->wA,mg_of->yr,cellsFrom_some->acR,codeIn->Dd,methodObj->O2,hideAll->Ig,instObj->Sh,excIn->E3
open PyProof.Rows renaming callWith_type1->rY,slot_tuple_getitem->zj,callWith_builtin1->aaq
open Classical renaming byContradiction->uR,not_forall->BZ,not_imp->Oc,skolem->Og,choose->X7
open PySem.Obj renaming data_mapFields->rJ,mapSeq->iJ,isFreed_of_fields->Ef,cls_mapFields->Lw,putSet->yO,mapFields->RH
open PySem.Heap.SameBut renaming update->uD
open Option.some renaming inj->pF
open PySem renaming mem_of_lookup->vR,Within->Xc,call->YK
open PySem.Around renaming under_plainId->yC
open PySem.PyData renaming eqv->pD,depthAll->yg,canLayAll0->C6,canLay0->Eo,eqvAll->DY,depth->DC,int->JY
open Or renaming inr->gP,inl->oF
open PySem.F renaming called_set->vm,args_tuple_add_2->Tq,slot_list_getattribute->Uh,entry_tuple_add->Qu,slot_tuple_add->RK,excBase_ValueError->MG,plain_reversed_new->WL,slot_tuple_getitem->YM,plainAttrs_list->afS,made_reversed->afx,plain_extend_loop->acF,slot_int_rmul->Vw,plain_set_new->Vz
open PyProof.Rows.F renaming plain_set_update_loop->Ov,entry_set_update_loop->Vf
open Array renaming size_map->DX,length_toList->Kv,append_assoc->aaA,toList->XE
open Ne renaming symm->nO
open PySem.Calls renaming Name_function_global->Xg,spliced_cons->O9,call_function_entry->aeR,spliced_nil->Pn,evalArgs_plain->aa6
open List.Pairwise renaming imp_of_mem->afR,nil->alo,map->anl
open PyProof renaming noPylong_small->acM
open Option renaming map_eq_some_iff->aa4,isSome_map->acn,getD_none->ac9,none->aeS
open Sum.inl renaming inj->Kc
open PySem.Shared renaming TypeIs->KR
open Sum renaming inl->xg,inr->wI
open PySem.Heap.DictOf renaming new->acf
open PyProof.Rows.IntsAre renaming int_at->atq
open PySem.EqNone renaming eq_none_none->agR,eq_none_bool->akV,eq_bool_none->avn,ne_none_none->ajG,ne_none_bool->ajO,ne_bool_none->agO,eq_none_int->aj9,eq_none_str->apZ,eq_int_none->ak5,eq_str_none->ana,ne_none_int->ajP,ne_none_str->ahd,ne_int_none->ahP,ne_str_none->ale
open PySem.EqMixed renaming eq_bool_str->aqQ,eq_str_bool->agh,ne_bool_str->amw,ne_str_bool->axi,eq_int_str->aje,eq_str_int->aqh,ne_int_str->amD,ne_str_int->anC
open PySem.W.X renaming obsZ->aeP,valZ->Z2
open Prod renaming ext->Fw,fst->NK
open PySem.Heap.IsSliceOf renaming new->avY
open List.Sublist renaming slnil->aoi
namespace L2
open PySem PySem.Spec PyProof.Rows
abbrev Key:=Sum Int Str
def Bm:Key->Value->Bool
 |.inl k,v=>Value.isInt k v
 |.inr x,v=>Value.isStrOf x v
def auE(w:World):Key->Int
 |.inl k=>hashInt k
 |.inr x=>hashStr w x
def qX:∀{k:Key} {v:Value},Bm k v=true->(∃i t,k=xg i/\v=Value.int i t)∨(∃x t,k=wI x/\v=Value.str x t)
 |.inl i,v,h=>by
  obtain⟨t,e⟩:=Value.isInt_shape (k:=i) (v:=v) h;exact .inl ⟨i,t,rfl,e⟩
 |.inr x,v,h=>by
  obtain⟨t,e⟩:=Value.isStrOf_shape (x:=x) (v:=v) h;exact .inr ⟨x,t,rfl,e⟩
def aiI(i:Int)(t:Tok):Bm (.inl i) (.int i t)=true:=by simp[Bm,Value.isInt]
def atB(x:Str)(t:Tok):Bm (.inr x) (.str x t)=true:=by simp[Bm,Value.isStrOf]
def aqJ(a b:Int):decide ((xg a:Key)=xg b)=(a==b):=by
 by_cases e:a=b
 .subst e;simp
 .have h:¬(xg a:Key)=xg b:=λq=>e (Kc q);rw[decide_eq_false h];exact(beq_eq_false_iff_ne.mpr e).symm
def aqM(a b:Str):decide ((wI a:Key)=wI b)=decide (a=b):=by
 by_cases e:a=b
 .subst e;simp
 .have h:¬(wI a:Key)=wI b:=λq=>e (Sum.inr.inj q);rw[decide_eq_false h,decide_eq_false e]
def ajY(a:Int)(b:Str):decide ((xg a:Key)=wI b)=false:=decide_eq_false (λq=>nomatch q)
def aui(a:Str)(b:Int):decide ((wI a:Key)=xg b)=false:=decide_eq_false (λq=>nomatch q)
def eE(prog:Program)(w:World):PySem.KeyKind prog w Key where
 is:=Bm
 hash:=auE w
 inj:=λv a b ha hb=>by
  rcases qX ha with⟨i,t,rfl,rfl⟩|⟨x,t,rfl,rfl⟩
  .rcases qX hb with⟨j,u,rfl,e⟩|⟨y,u,rfl,e⟩
   .injection e with e1 _;rw[e1]
   .exact nomatch e
  .rcases qX hb with⟨j,u,rfl,e⟩|⟨y,u,rfl,e⟩
   .exact nomatch e
   .injection e with e1 _;rw[e1]
 byValue:=λk v h=>by
  rcases qX h with⟨i,t,rfl,rfl⟩|⟨x,t,rfl,rfl⟩<;>rfl
 pyHash:=λhv h=>by
  rcases qX hv with⟨i,t,rfl,rfl⟩|⟨x,t,rfl,rfl⟩
  .exact wpAny_pyHash_int h
  .exact wpAny_pyHash_str h
 eqBool:=λhu hv h=>by
  rcases qX hu with⟨i,t,rfl,rfl⟩|⟨x,t,rfl,rfl⟩
  .rcases qX hv with⟨j,u,rfl,rfl⟩|⟨y,u,rfl,rfl⟩
   .rw[aqJ]at h;exact wpAny_eqBool_int h
   .rw[ajY]at h;exact SeqAt.EqAt.int_str i t y u _ _ _ _ h
  .rcases qX hv with⟨j,u,rfl,rfl⟩|⟨y,u,rfl,rfl⟩
   .rw[aui]at h;exact SeqAt.EqAt.str_int x t j u _ _ _ _ h
   .rw[aqM]at h;exact wpAny_eqBool_str h
 «strs»:=λk x t v h=>by
  rcases qX h with⟨i,u,rfl,e⟩|⟨y,u,rfl,e⟩
  .exact nomatch e
  .injection e with e1 _;subst e1;cases v<;>rfl
def arJ(prog:Program)(w:World)(i:Int)(t:Tok):(eE prog w).is (.inl i) (.int i t)=true:=aiI i t
def aqC(prog:Program)(w:World)(x:Str)(t:Tok):(eE prog w).is (.inr x) (.str x t)=true:=atB x t
inductive V where
 |non|bl (b:Bool)|int (i:Int)|str (x:Str)|mV (b:Array UInt8)|flt (b:UInt64)|ref (a:Addr)|ty (n:String)
 deriving DecidableEq
def RelV:V->Value->Prop
 |.non,u=>u=Value.none
 |.bl b,u=>u=Value.bool b
 |.int i,u=>∃t,u=Value.int i t
 |.str x,u=>∃t,u=Value.str x t
 |.mV b,u=>∃t,u=Value.bytes b t
 |.flt b,u=>∃t,u=Value.float b t
 |.ref a,u=>u=Value.ref a
 |.ty n,u=>u=Value.type n
abbrev Vals:List V->List Value->Prop:=Paired RelV
theorem Vals.length{xs:List V}{us:List Value}(r:Vals xs us):xs.length=us.length:=Paired.length r
theorem Vals.get:∀{xs:List V} {us:List Value} {i:Nat} {x:V},Vals xs us->xs[i]?=some x->∃u,us[i]?=some u/\RelV x u
 |_,_,_,_,.nil,e=>by simp at e
 |_,_,0,_,.cons r _,e=>by simp at e;subst e;exact⟨_,rfl,r⟩
 |_,_,i+1,x,.cons _ t,e=>by
  obtain⟨u,h1,h2⟩:=Vals.get (i:=i) (x:=x) t (by simpa using e);exact⟨u,by simpa using h1,h2⟩
theorem Vals.set{x:V}{u:Value}(r:RelV x u):∀{xs:List V} {us:List Value} (i:Nat),Vals xs us->Vals (xs.set i x) (us.set i u)
 |_,_,_,.nil=> .nil
 |_,_,0,.cons _ t=> .cons r t
 |_,_,i+1,.cons q t=> .cons q (Vals.set r i t)
theorem Vals.append:∀{xs ys:List V} {us ws:List Value},Vals xs us->Vals ys ws->Vals (xs++ys) (us++ws)
 |_,_,_,_,.nil,s=>s
 |_,_,_,_,.cons r t,s=> .cons r (Vals.append t s)
theorem Vals.take:∀{xs:List V} {us:List Value} (n:Nat),Vals xs us->Vals (xs.take n) (us.take n)
 |_,_,0,_=> .nil
 |_,_,_+1,.nil=> .nil
 |_,_,n+1,.cons r t=> .cons r (Vals.take n t)
theorem Vals.drop:∀{xs:List V} {us:List Value} (n:Nat),Vals xs us->Vals (xs.drop n) (us.drop n)
 |_,_,0,r=>r
 |_,_,_+1,.nil=> .nil
 |_,_,n+1,.cons _ t=>Vals.drop n t
def lX:Option V->Option Value->Prop
 |some v,some u=>RelV v u
 |none,none=>True
 |_,_=>False
def KV{κ:Type}:List (κ×V)->List (κ×Value)->Prop:=Paired λ(p:κ×V) (q:κ×Value)=>p.1=q.1/\RelV p.2 q.2
def kV:Key->V
 |.inl i=> .int i
 |.inr x=> .str x
inductive HO where
 /-- a list -/
 |lst (xs:List V)
 /-- a tuple (never changes) -/
 |tup (xs:List V)
 /-- a dict whose keys are ints and texts;one whose keys are tuples of ints and texts (the empty one is both) -/
 |dK (kvs:List (Key×V))|dT (kvs:List (List Key×V))
 /-- a set of ints: its members,its size -/
 |set (S:Int->Bool) (n:Nat)
 /-- an instance of the class at C,its dict at dx,its attributes -/
 |ins (C dx:Addr) (fs:List (Str×V))
 /-- the dict of the instance at x -/
 |own (x:Addr)
 /-- the dict of an exception -/
 |xd (fs:List (Str×V))
 /-- a bound method,f of x -/
 |met (f x:Addr)
 /-- a range object lo,lo+1,.. below hi -/
 |rng (lo hi:Int)
 /-- a thing that is known to the object (the script;a dict while a loop walks it): read,never written while it is so -/
 |dw (o:Obj) (u:HO)
 /-- a code object's table -/
 |rW (ps:Array Value)
 /-- any other thing,by what is true of its one object (a def of ayl own: ax9 a S n:=HO.ext λh=> ..) -/
 |ext (φ:Heap->Prop)
abbrev Hp:=Addr->Option HO
def upd(H:Hp)(a:Addr)(o:HO):Hp:=λb=>if b=a then some o else H b
def aC{H:Hp}{a:Addr}{o:HO}:upd H a o a=some o:=by unfold upd;rw[if_pos rfl]
def bK{H:Hp}{a b:Addr}{o:HO}(h:b≠a):upd H a o b=H b:=by unfold upd;rw[if_neg h]
def Xy{H:Hp}{a:Addr}{o u:HO}:upd (upd H a o) a u=upd H a u:=by
 funext b;unfold upd;split<;>rfl
def akZ{H:Hp}{a b:Addr}{o u:HO}(h:H a=some o)(h':H b=some u)(d:o≠u):a≠b:=by
 intro e;subst e;rw[h]at h';exact d (pF h')
def nZ{H:Hp}{a b:Addr}{o:HO}(h:H a=some o)(h':H b=none):a≠b:=by
 intro e;subst e;rw[h]at h';cases h'
section
variable (P:Program) (w:World)
def dB(H:Hp)(h:Heap)(a:Addr):HO->Prop
 |.lst xs=>xs.length<=sizeLine/\∃(its:List Value) (n:Nat),Vals xs its/\h.get? a=some { cls:= .type "list",data:= .seq its.toArray n }
 |.tup xs=>xs.length<=sizeLine/\∃its:List Value,Vals xs its/\IsTup h a its.toArray
 |.dK kvs=>kvs.length<=sizeLine/\(a==sysModules)=false/\∃vs,KV kvs vs/\h.DictOf (eE P w) a vs
 |.dT kvs=>kvs.length<=sizeLine/\(a==sysModules)=false/\∃xs:List (List Key×Addr×Value),
   Paired (λ(p:List Key×V) (q:List Key×Addr×Value)=>p.1=q.1/\H q.2.1=some (.tup (p.1.map kV))/\RelV p.2 q.2.2) kvs xs/\
   ∃o es ep,h.get? a=some o/\o.ExactDict/\o.data = .dict es ep/\es.toList=xs.map (entryOfKey (tupleKind (eE P w)))/\(xs.map (·.1)).Nodup
 |.set S n=>h.SetOf (intKind P w) a S n
 |.ins C dx fs=>H dx=some (.own a)/\fs.length<=1000/\dx≠a/\h.get? a=some (Sh C dx)/\
   ∃mA,h.Ns1 dx mA/\(∀f,lX (fs.lookup f) (mA f))/\Xc mA (fs.map (·.1))
 |.own _=>∃o,h.get? a=some o
 |.xd fs=>∃mA,h.Ns1 a mA/\∀f,lX (fs.lookup f) (mA f)
 |.rng lo hi=>∃t u v,h.get? a=some { cls:= .type "range",data:= .fields #[.int lo t,.int hi u,.int 1 v] }
 |.dw o u=>h.get? a=some o/\dB H h a u
 |.rW ps=>h.get? a=some { cls:= .none,data:= .fields ps }
 |.met f x=>h.get? a=some (O2 (.ref f) (.ref x))
 |.ext φ=>φ h/\(∃o,h.get? a=some o)/\∀h1 h2:Heap,φ h1->(∀o,h1.get? a=some o->h2.get? a=some o)->φ h2
def eZ(H:Hp)(h:Heap):Prop:=∀a o,H a=some o->dB P w H h a o
end
section
variable {P:Program} {w:World} {H H':Hp} {h h':Heap} {a:Addr} {o:HO}
theorem dB.lt(x:dB P w H h a o):a<h.objs.size:=by
 cases o with
 |lst xs=>obtain⟨_,_,_,_,e⟩:=x;exact cQ e
 |tup xs=>obtain⟨_,_,_,p⟩:=x;exact p.lt
 |dK kvs=>obtain⟨_,_,_,_,o,_,_,e,_⟩:=x;exact cQ e
 |dT kvs=>obtain⟨_,_,_,_,o,_,_,e,_⟩:=x;exact cQ e
 |set S n=>obtain⟨o,_,_,_,e,_⟩:=x;exact cQ e
 |ins C dx fs=>obtain⟨_,_,_,e,_⟩:=x;exact cQ e
 |own y=>obtain⟨_,e⟩:=x;exact cQ e
 |xd fs=>obtain⟨_,⟨_,_,_,e,_⟩,_⟩:=x;exact cQ e
 |rng lo hi=>obtain⟨_,_,_,e⟩:=x;exact cQ e
 |dw ob u=>obtain⟨e,_⟩:=x;exact cQ e
 |rW ps=>exact cQ (show h.get? a=some _ from x)
 |met f y=>exact cQ (show h.get? a=some _ from x)
 |ext φ=>obtain⟨_,⟨_,e⟩,_⟩:=x;exact cQ e
theorem Paired.NW{α β:Type}{F G:α->β->Prop}:∀{l₁:List α} {l₂:List β},Paired F l₁ l₂->(∀a b,F a b->G a b)->Paired G l₁ l₂
 |_,_,.nil,_=> .nil
 |_,_,.cons r t,f=> .cons (f _ _ r) (Paired.NW t f)
def dB.stay(x:dB P w H h a o)(k:∀b u,(b=a∨H b=some (.own a))->h.get? b=some u->h'.get? b=some u)
  (ho:∀b,H b=some (.own a)->H' b=some (.own a)) (ht:∀b xs,H b=some (.tup xs)->H' b=some (.tup xs)):dB P w H' h' a o:=by
 induction o with
 |lst xs=>obtain⟨z,its,n,r,e⟩:=x;exact⟨z,its,n,r,k _ _ (.inl rfl) e⟩
 |tup xs=>obtain⟨z,its,r,ob,e,c⟩:=x;exact⟨z,its,r,ob,k _ _ (.inl rfl) e,c⟩
 |dK kvs=>obtain⟨z,y,vs,r,ob,es,ep,e,c⟩:=x;exact⟨z,y,vs,r,ob,es,ep,k _ _ (.inl rfl) e,c⟩
 |dT kvs=>
  obtain⟨z,y,xs,r,ob,es,ep,e,c⟩:=x;exact⟨z,y,xs,Paired.NW r λp q z=>⟨z.1,ht _ _ z.2.1,z.2.2⟩,ob,es,ep,k _ _ (.inl rfl) e,c⟩
 |set S n=>obtain⟨ob,es,ep,t,e,c⟩:=x;exact⟨ob,es,ep,t,k _ _ (.inl rfl) e,c⟩
 |ins C dx fs=>
  obtain⟨d,z,ne,e,mA,⟨od,es,ep,e2,c⟩,r⟩:=x;exact⟨ho _ d,z,ne,k _ _ (.inl rfl) e,mA,⟨od,es,ep,k _ _ (.inr d) e2,c⟩,r⟩
 |own y=>obtain⟨ob,e⟩:=x;exact⟨ob,k _ _ (.inl rfl) e⟩
 |xd fs=>obtain⟨mA,⟨od,es,ep,e,c⟩,r⟩:=x;exact⟨mA,⟨od,es,ep,k _ _ (.inl rfl) e,c⟩,r⟩
 |rng lo hi=>obtain⟨t,u,v,e⟩:=x;exact⟨t,u,v,k _ _ (.inl rfl) e⟩
 |dw ob u ih=>obtain⟨e,q⟩:=x;exact⟨k _ _ (.inl rfl) e,ih q⟩
 |rW ps=>
  have e:h.get? a=some { cls:= .none,data:= .fields ps }:=x;show h'.get? a=some { cls:= .none,data:= .fields ps };exact k a _ (.inl rfl) e
 |met f y=>
  have e:h.get? a=some (O2 (.ref f) (.ref y)):=x;show h'.get? a=some (O2 (.ref f) (.ref y));exact k a _ (.inl rfl) e
 |ext φ=>obtain⟨p,⟨o,e⟩,st⟩:=x;exact⟨st _ _ p λo q=>k _ _ (.inl rfl) q,⟨o,k _ _ (.inl rfl) e⟩,st⟩
theorem eZ.lt(x:eZ P w H h)(e:H a=some o):a<h.objs.size:=(x a o e).lt
def eZ.fresh(x:eZ P w H h)(e:h.objs.size<=a):H a=none:=by
 cases q:H a with
 |none=>rfl
 |some u=>exact absurd (jt (x.lt q) e) (nT _)
def eZ.kept(x:eZ P w H h)(k:∀b u,h.get? b=some u->h'.get? b=some u):eZ P w H h':=λa o e=>
 (x a o e).stay (λb u _ q=>k b u q) (λ_ q=>q) λ_ _ q=>q
def eZ.laid(x:eZ P w H h)(k:∀b u,h.get? b=some u->h'.get? b=some u)(hp:h.objs.size<=a)(new:dB P w (upd H a o) h' a o):eZ P w (upd H a o) h':=λb u e=>by
 have hn:=x.fresh hp;by_cases hb:b=a
 .subst hb;rw[aC]at e;cases e;exact new
 .rw[bK hb]at e;exact(x b u e).stay (λc v _ q=>k c v q) (λc q=>by rw[bK (nZ q hn)];exact q) λc xs q=>by rw[bK (nZ q hn)];exact q
end
def Rd(H:Hp)(a:Addr)(u:HO):Prop:=H a=some u∨∃o,H a=some (.dw o u)
def Rd.ok{P:Program}{w:World}{H:Hp}{h:Heap}{a:Addr}{u:HO}(r:Rd H a u)(x:eZ P w H h):dB P w H h a u:=by
 rcases r with r|⟨o,r⟩
 .exact x a u r
 .obtain⟨_,q⟩:=x a _ r;exact q
def Cj:Option HO->Prop
 |some (.lst _)=>True
 |some (.dK _)=>True
 |some (.dT _)=>True
 |some (.set _ _)=>True
 |some (.ins _ _ _)=>True
 |some (.ext _)=>True
 |_=>False
section
variable {P:Program} {w:World} {H:Hp} {h h':Heap} {x e:Addr} {o':HO}
def eZ.write(ok:eZ P w H h)(mu:Cj (H x))(he:e=x∨H e=some (.own x))(k:∀b u,b≠e->h.get? b=some u->h'.get? b=some u)(heo:∃u,h'.get? e=some u)
  (new:dB P w (upd H x o') h' x o'):eZ P w (upd H x o') h':=λb u q=>by
 have WM:∀c y,H c=some (.own y)->c≠x:=λc y r z=>by subst z;rw[r]at mu;exact mu
 have akX:∀c xs,H c=some (.tup xs)->c≠x:=λc xs r z=>by subst z;rw[r]at mu;exact mu
 by_cases hb:b=x
 .subst hb;rw[aC]at q;cases q;exact new
 .rw[bK hb]at q;by_cases hbe:b=e
  .have q':H b=some (.own x):=by
    rcases he with z|z
    .exact absurd (hbe.trans z) hb
    .rw[hbe];exact z
   rw[q]at q';cases q';obtain⟨v,hv⟩:=heo;exact⟨v,by rw[hbe];exact hv⟩
  .refine(ok b u q).stay (λc v hc r=>k c v ?_ r) (λc r=>by rw[bK (WM c b r)];exact r) λc xs r=>by rw[bK (akX c xs r)];exact r
   rcases hc with rfl|hc
   .exact hbe
   .rintro rfl;rcases he with z|z
    .exact WM c b hc z
    .rw[hc]at z;cases z;exact hb rfl
end
structure Un(fs ex:List Addr)(H H':Hp)(h h':Heap):Prop where
 keep:∀b o,h.get? b=some o->H b=none->b∉fs->b∉ex->h'.get? b=some o
 slot:∀b o,h.get? b=some o->H b=none->b∈fs->b∉ex->∃sl,h'.get? b=some { o with slots:=sl }
 free:∀b o,h.get? b=some o->H b=none->b∉ex->H' b=none
 there:∀b o,h.get? b=some o->b∉ex->∃o',h'.get? b=some o'
 tups:∀b xs,H b=some (.tup xs)->H' b=some (.tup xs)
 lH:∀b o u,H b=some (.dw o u)->H' b=some (.dw o u)
 nW:∀b ps,H b=some (.rW ps)->∃more,H' b=some (.rW (ps++more))
section
variable {fs fs' ex ex':List Addr} {H H1 H2:Hp} {h h1 h2 h':Heap} {a x e:Addr} {o:HO}
def Un.any(u:Un fs ex H H1 h h1){b:Addr}{ob:Obj}(q:h.get? b=some ob)(n:H b=none)(hx:b∉ex):∃sl,h1.get? b=some { ob with slots:=sl }:=by
 by_cases hb:b∈fs
 .exact u.slot b ob q n hb hx
 .exact⟨ob.slots,u.keep b ob q n hb hx⟩
def Un.kept(k:∀b u,h.get? b=some u->h'.get? b=some u):Un fs ex H H h h':=
 ⟨λb ob q _ _ _=>k b ob q,λb ob q _ _ _=>⟨ob.slots,k b ob q⟩,λ_ _ _ n _=>n,λb ob q _=>⟨ob,k b ob q⟩,λ_ _ q=>q,λ_ _ _ q=>q,λ_ ps q=>⟨#[],by rw[q];simp⟩⟩
def Un.refl:Un fs ex H H h h:=Un.kept λ_ _ q=>q
def Un.laid(k:∀b u,h.get? b=some u->h'.get? b=some u)(hp:h.objs.size<=a)(hn:H a=none):Un fs ex H (upd H a o) h h' where
 keep:=λb u q _ _ _=>k b u q
 slot:=λb u q _ _ _=>⟨u.slots,k b u q⟩
 free:=λb u q n _=>by rw[bK (fD (jt (cQ q) hp))];exact n
 there:=λb u q _=>⟨u,k b u q⟩
 tups:=λb xs q=>by rw[bK (nZ q hn)];exact q
 lH:=λb u xs q=>by rw[bK (nZ q hn)];exact q
 nW:=λb ps q=>⟨#[],by rw[bK (nZ q hn),q];simp⟩
def Un.write(mu:Cj (H x))(he:e=x∨H e=some (.own x))(k:∀b u,b≠e->h.get? b=some u->h'.get? b=some u)(heo:∃u,h'.get? e=some u):Un fs ex H (upd H x o) h h':=by
 have hx:∀b,H b=none->b≠x:=λb n z=>by subst z;rw[n]at mu;exact mu
 have hb:∀b,H b=none->b≠e:=λb n z=>by
  subst z;rcases he with r|r
  .exact hx b n r
  .rw[n]at r;cases r
 have hm:∀b u,H b=some u->¬Cj (some u)->b≠x:=λb u q nm z=>by subst z;rw[q]at mu;exact nm mu
 refine⟨λb u q n _ _=>k b u (hb b n) q,λb u q n _ _=>⟨u.slots,k b u (hb b n) q⟩,λb u q n _=>by rw[bK (hx b n)];exact n,λb u q _=>?_,
  λb xs q=>by rw[bK (hm b _ q λz=>z)];exact q,λb u xs q=>by rw[bK (hm b _ q λz=>z)];exact q,λb ps q=>⟨#[],by rw[bK (hm b _ q λz=>z),q];simp⟩⟩
 by_cases hbe:b=e
 .subst hbe;exact heo
 .exact⟨u,k b u hbe q⟩
end
def Ga(h:Heap)(H:Hp):List Addr:=(eO h.objs.size).filter λa=>(H a).isSome
def uw(h:Heap)(H:Hp):Heap:=Ig h (Ga h H)
def awy(h:Heap)(H:Hp):(uw h H).objs.size=h.objs.size:=W.hideAll_size _ _
def auw{h:Heap}{H:Hp}{b:Addr}{o:Obj}(e:h.get? b=some o)(n:H b=none):(uw h H).get? b=some o:=
 W.hideAll_get _ e λhm=>by
  have q:(H b).isSome=true:=(qR.mp hm).2;rw[n]at q;simp at q
def akp{h:Heap}{H:Hp}{b:Addr}{o:Obj}(e:(uw h H).get? b=some o):h.get? b=some o/\H b=none:=by
 have e':h.get? b=some o:=W.of_hideAll (Ga h H) e;refine⟨e',?_⟩;cases q:H b with
 |none=>rfl
 |some x=>
  have hm:b∈Ga h H:=qR.mpr ⟨iQ.mpr (cQ e'),by simp[q]⟩;have z:(uw h H).get? b=none:=W.hideAll_none (Ga h H) hm;rw[z]at e;cases e
structure Mod(K:aF)(mg:Str->Option Value)(base:Heap):Prop where
 Ku:K.In base
 glob:base.Ns mainGlobals mg
 blt:∃mb,base.Ns builtinsNs mb/\∀x:Str,x≠ "__name__" -> mb x=bootBuiltins x
 nolimit:base.NoLimit
 digits:base.NoDigits
structure Cx where
 prog:Program
 w:World
 K:aF
 mg:Str->Option Value
 base:Heap
 A:Around
 N:List Str
 s₀:Shared
 H₀:Hp
 env:Env
 outer:List Env
 stack:List Env
 ex:List Addr
 fn:Str->Bool
 calm:Bool
 pn:List (Addr×Obj)
 xe:Value->Shared->Prop
def frs(l:List Env):List Addr:=l.filterMap (·.frame)
abbrev Cx.fs(X:Cx):List Addr:=frs X.outer
def Fz(sc:Scope)(x:Str):Prop:=sc.names.lookup x=some .local∨sc.names.lookup x=some .cell∨sc.names.lookup x=some .free
def Loc(sc:Scope)(x:Str):Prop:=sc.names.lookup x=some .local∨sc.names.lookup x=some .cell
def Look(env:Env)(h:Heap)(m:Str->Option Value)(x:Str)(u:Value):Prop:=
 (env.kindOf x=some .local/\m x=some u)∨((env.kindOf x=some .cell∨env.kindOf x=some .free)/\∃c,env.cells.lookup x=some c/\h.IsCell c (some u))
structure Cx.Ok(X:Cx):Prop where
 mod:Mod X.K X.mg X.base
 kind:X.env.scope.kind = .function
 glob:X.env.globals=mainGlobals
 blt:X.env.builtins=builtinsNs
 above:X.s₀.heap.objs.size<=X.env.locals
 inj:∀x y c,X.env.cells.lookup x=some c->X.env.cells.lookup y=some c->x=y
 has:∀x,(X.env.kindOf x=some .cell∨X.env.kindOf x=some .free)->∃c,X.env.cells.lookup x=some c
 cab:∀x c,X.fn x=true->X.env.cells.lookup x=some c->X.s₀.heap.objs.size<=c
 hd:X.calm=true->X.A.handled=none
 frames:X.A.frames=some X.stack
 stk:X.stack=X.outer∨(X.stack=X.env::X.outer/\X.env.frame=some X.env.locals)
 WD:∀b∈X.ex,b≠X.env.locals/\∀x c,X.env.cells.lookup x=some c->c≠b
 bs:∀b o,X.base.get? b=some o->X.s₀.heap.get? b=some o/\X.H₀ b=none
 v8:X.base.objs.size<=X.s₀.heap.objs.size
 Ds:∀b o,X.base.get? b=some o->b∉X.ex
 CY:∀b∈X.ex,b∉X.fs
 pH:X.s₀.heap.FunFrames X.base X.outer
 AH:∀b∈X.fs,X.H₀ b=none
structure Inv(X:Cx)(pins:List (Addr×Obj))(σ:List (Option V))(H:Hp)(s:Shared):Prop where
 ok:X.Ok
 os:s.os=X.s₀.os
 bare:AllBare s.gens
 base:Un X.fs X.ex X.H₀ H X.s₀.heap s.heap
 loc:∃m,s.heap.Ns X.env.locals m/\∀(i:Nat) (x:Str) (v:V),X.N[i]?=some x->σ[i]?=some (some v)->Fz X.env.scope x->∃u,RelV v u/\Look X.env s.heap m x u
 cell:∀x c,X.env.cells.lookup x=some c->∃v,s.heap.IsCell c v
 free:H X.env.locals=none
 pG:∀x c,X.env.cells.lookup x=some c->H c=none
 pin:∀p∈X.pn++pins,s.heap.get? p.1=some p.2/\H p.1=none/\p.1≠X.env.locals/\p.1∉X.fs/\∀v,p.2.data≠ .cell v
 hok:eZ X.prog X.w H s.heap
 len:σ.length=X.N.length
section
variable {X:Cx} {pins:List (Addr×Obj)} {σ:List (Option V)} {H H':Hp} {s:Shared} {h':Heap}
def Cx.Ok.arA(ok:X.Ok){b:Addr}{o:Obj}(e:X.base.get? b=some o):b∉X.fs:=λhb=>by
 have:=(ok.pH.mem hb).1;rw[e]at this;cases this
theorem Inv.bs(I:Inv X pins σ H s):∀b o,X.base.get? b=some o->s.heap.get? b=some o/\H b=none:=λb o e=>
 ⟨I.base.keep b o (I.ok.bs b o e).1 (I.ok.bs b o e).2 (I.ok.arA e) (I.ok.Ds b o e),I.base.free b o (I.ok.bs b o e).1 (I.ok.bs b o e).2 (I.ok.Ds b o e)⟩
def Inv.bk(I:Inv X pins σ H s):∀b o,X.base.get? b=some o->s.heap.get? b=some o:=λb o e=>(I.bs b o e).1
theorem Inv.mod(I:Inv X pins σ H s):Mod X.K X.mg X.base:=I.ok.mod
def Inv.jF(I:Inv X pins σ H s):X.K.In s.heap:=I.ok.mod.Ku.keeps I.bk
theorem Inv.lt(I:Inv X pins σ H s):X.env.locals<s.heap.objs.size:=let⟨_,hn,_⟩:=I.loc;hn.lt
def Inv.sz(I:Inv X pins σ H s):X.s₀.heap.objs.size<=s.heap.objs.size:=fG I.ok.above (iM I.lt)
def Inv.ahr(I:Inv X pins σ H s){a:Addr}(h:s.heap.objs.size<=a):a∉X.fs:=λhb=>by
 obtain⟨_,o,ho,_⟩:=I.ok.pH.mem hb;exact absurd (jt (cQ ho) (fG I.sz h)) (nT _)
def Inv.xU(I:Inv X pins σ H s):∀x c,X.env.cells.lookup x=some c->c≠X.env.locals:=λx c e z=>by
 obtain⟨v,o,ho,hd⟩:=I.cell x c e;obtain⟨m,⟨o',es,ep,ho',hd',_⟩,_⟩:=I.loc;rw[z,ho']at ho;cases ho;rw[hd']at hd;cases hd
theorem Inv.pH(I:Inv X pins σ H s):s.heap.FunFrames X.base X.outer:=by
 have all:∀(l:List Env),(∀b∈frs l,b∈X.fs)->X.s₀.heap.FunFrames X.base l->s.heap.FunFrames X.base l:=by
  intro l;induction l with
  |nil=>intro _ _;trivial
  |cons env r ih=>
   intro hs hl;obtain⟨hk,⟨L,o,hf,hn,ho,hd⟩,hr⟩:=hl;have hL:L∈X.fs:=hs L (by unfold frs;rw[SG,hf];exact bN);obtain⟨sl,e⟩:=I.base.slot L o ho (I.ok.AH L hL) hL λz=>I.ok.CY L z hL;exact⟨hk,⟨L,_,hf,hn,e,hd⟩,ih (λb hb=>hs b (by unfold frs;rw[SG,hf];exact cO _ hb)) hr⟩
 exact all X.outer (λ_ hb=>hb) I.ok.pH
theorem Inv.stack(I:Inv X pins σ H s):s.heap.FunFrames X.base X.stack:=by
 rcases I.ok.stk with e|⟨e,hf⟩
 .rw[e];exact I.pH
 .rw[e];obtain⟨m,hn,_⟩:=I.loc;refine .cons (by rw[I.ok.kind];decide) hf hn ?_ I.pH;exact Heap.get?_none_of_le (fG I.ok.v8 I.ok.above)
def Inv.JC(I:Inv X pins σ H s):∀b∈frs X.stack,b∈X.env.locals::X.fs:=λb hb=>by
 rcases I.ok.stk with e|⟨e,hf⟩
 .rw[e]at hb;exact cO _ hb
 .rw[e]at hb;unfold frs at hb;rw[SG,hf]at hb;exact hb
def Inv.Q8(I:Inv X pins σ H s):∀b∈frs X.stack,H b=none:=λb hb=>by
 rcases bH.mp (I.JC b hb)with e|hb
 .rw[e];exact I.free
 .obtain⟨_,o,ho,_⟩:=I.ok.pH.mem hb;exact I.base.free b o ho (I.ok.AH b hb) λz=>I.ok.CY b z hb
def Inv.step{g':Array GenState}{t':Nat}{d':Drawn}{ch:List Addr}(I:Inv X pins σ H s)
  (hch:∀b∈ch,(b∈X.ex∨X.s₀.heap.objs.size<=b)/\b≠X.env.locals/\(∀x c,X.env.cells.lookup x=some c->c≠b)/\∀p∈X.pn++pins,p.1≠b)
  (keep:∀b o,b≠X.env.locals->b∉X.fs->b∉ch->s.heap.get? b=some o->H b=none->h'.get? b=some o)
  (slot:∀b o,b≠X.env.locals->b∈X.fs->b∉ch->s.heap.get? b=some o->H b=none->∃sl,h'.get? b=some { o with slots:=sl }) (free:∀b o,b∉ch->s.heap.get? b=some o->H b=none->H' b=none)
  (there:∀b o,b∉ch->s.heap.get? b=some o->∃o',h'.get? b=some o')
  (tups:∀b xs,H b=some (.tup xs)->H' b=some (.tup xs)) (lH:∀b o u,H b=some (.dw o u)->H' b=some (.dw o u)) (nW:∀b ps,H b=some (.rW ps)->∃more,H' b=some (.rW (ps++more)))
  (ns:∀m,s.heap.Ns X.env.locals m->h'.Ns X.env.locals m) (hok:eZ X.prog X.w H' h') (hg:AllBare g'):
  Inv X pins σ H' { s with heap:=h',gens:=g',drawn:=d',toks:=t' }:=by
 have neL:∀b o,X.s₀.heap.get? b=some o->b≠X.env.locals:=λb o e=>fD (jt (cQ e) I.ok.above);have Jx:∀b o,X.s₀.heap.get? b=some o->b∉X.ex->b∉ch:=λb o e hx hb=>by
  rcases(hch b hb).1 with z|z
  .exact hx z
  .exact absurd (jt (cQ e) z) (nT _)
 have cellK:∀x c,X.env.cells.lookup x=some c->∀v,s.heap.IsCell c v->h'.IsCell c v:=λx c e v ⟨o,ho,hd⟩=>by
  have D4:c∉ch:=λz=>(hch c z).2.2.1 x c e rfl;by_cases hc:c∈X.fs
  .obtain⟨sl,q⟩:=slot c o (I.xU x c e) hc D4 ho (I.pG x c e);exact⟨_,q,hd⟩
  .exact⟨o,keep c o (I.xU x c e) hc D4 ho (I.pG x c e),hd⟩
 refine⟨I.ok,I.os,hg,⟨λb o e n hb hx=>?_,λb o e n hb hx=>?_,λb o e n hx=>?_,λb o e hx=>?_,λb xs e=>tups b xs (I.base.tups b xs e),λb o xs e=>lH b o xs (I.base.lH b o xs e),λb ps e=>?_⟩,?_,λx c e=>?_,?_,λx c e=>?_,λp hp=>?_,hok,I.len⟩
 .exact keep b o (neL b o e) hb (Jx b o e hx) (I.base.keep b o e n hb hx) (I.base.free b o e n hx)
 .obtain⟨sl,e1⟩:=I.base.slot b o e n hb hx;obtain⟨sl',e2⟩:=slot b _ (neL b o e) hb (Jx b o e hx) e1 (I.base.free b o e n hx);exact⟨sl',e2⟩
 .obtain⟨o',e1⟩:=I.base.there b o e hx;exact free b o' (Jx b o e hx) e1 (I.base.free b o e n hx)
 .obtain⟨o',e1⟩:=I.base.there b o e hx;exact there b o' (Jx b o e hx) e1
 .obtain⟨m1,e1⟩:=I.base.nW b ps e;obtain⟨m2,e2⟩:=nW b _ e1;exact⟨m1++m2,by rw[e2,aaA]⟩
 .obtain⟨m,hn,hl⟩:=I.loc;refine⟨m,ns m hn,λi x v e1 e2 e3=>?_⟩;obtain⟨u,r,l⟩:=hl i x v e1 e2 e3;refine⟨u,r,?_⟩;rcases l with l|⟨k,c,e,z⟩
  .exact .inl l
  .exact .inr ⟨k,c,e,cellK x c e _ z⟩
 .obtain⟨v,z⟩:=I.cell x c e;exact⟨v,cellK x c e v z⟩
 .obtain⟨m,⟨o,_,_,ho,_⟩,_⟩:=I.loc;exact free _ o (λz=>(hch _ z).2.1 rfl) ho I.free
 .obtain⟨v,o,ho,hd⟩:=I.cell x c e;exact free c o (λz=>(hch c z).2.2.1 x c e rfl) ho (I.pG x c e)
 .obtain⟨e,n,ne,nf,d⟩:=I.pin p hp;have D4:p.1∉ch:=λz=>(hch p.1 z).2.2.2 p hp rfl;exact⟨keep p.1 p.2 ne nf D4 e n,free p.1 p.2 D4 e n,ne,nf,d⟩
def Inv.un{t':Nat}(I:Inv X pins σ H s)(u:Un X.fs [] H H' s.heap h')(hok:eZ X.prog X.w H' h'):Inv X pins σ H' { s with heap:=h',toks:=t' }:=by
 obtain⟨m,⟨o,es,ep,ho,r⟩,_⟩:=id I.loc;obtain⟨sl,hL⟩:=u.any ho I.free (by simp);exact I.step (g':=s.gens) (d':=s.drawn) (ch:=[]) (λ_ z=>nomatch z) (λb o _ hb _ e n=>u.keep b o e n hb (by simp)) (λb o _ hb _ e n=>u.slot b o e n hb (by simp)) (λb o _ e n=>u.free b o e n (by simp)) (λb o _ e=>u.there b o e (by simp)) u.tups u.lH u.nW (λm' hm=>by
  obtain⟨o',es',ep',ho',r'⟩:=hm;rw[ho]at ho';cases ho';exact⟨_,es',ep',hL,r'⟩) hok I.bare
def Inv.call{g':Array GenState}{t':Nat}{d':Drawn}{ch:List Addr}(I:Inv X pins σ H s)(u:Un (frs X.stack) ch H H' s.heap h')(hok:eZ X.prog X.w H' h')(hg:AllBare g')
  (hch:∀b∈ch,(b∈X.ex∨X.s₀.heap.objs.size<=b)/\b≠X.env.locals/\(∀x c,X.env.cells.lookup x=some c->c≠b)/\∀p∈X.pn++pins,p.1≠b):
  Inv X pins σ H' { s with heap:=h',gens:=g',drawn:=d',toks:=t' }:=by
 obtain⟨m,⟨o,es,ep,ho,r⟩,_⟩:=id I.loc;obtain⟨sl,hL⟩:=u.any ho I.free λz=>(hch _ z).2.1 rfl;exact I.step (ch:=ch) hch (λb o hL hb hc e n=>u.keep b o e n (λz=>(bH.mp (I.JC b z)).elim hL hb) hc) (λb o _ _ hc e n=>u.any e n hc) (λb o hc e n=>u.free b o e n hc) (λb o hc e=>u.there b o e hc) u.tups u.lH u.nW (λm' hm=>by
  obtain⟨o',es',ep',ho',r'⟩:=hm;rw[ho]at ho';cases ho';exact⟨_,es',ep',hL,r'⟩) hok hg
def Inv.turned{t':Nat}{it:Addr}(I:Inv X pins σ H s)(k:∀b o,b≠it->s.heap.get? b=some o->h'.get? b=some o)(hn:H it=none)(hL:it≠X.env.locals)
  (h1:it∈X.ex∨X.s₀.heap.objs.size<=it) (h2:∀x c,X.env.cells.lookup x=some c->c≠it) (h3:∀p∈X.pn++pins,p.1≠it):Inv X pins σ H { s with heap:=h',toks:=t' }:=by
 have nit:∀b u,H b=some u->b≠it:=λb u e z=>by rw[z,hn]at e;cases e
 refine I.step (g':=s.gens) (d':=s.drawn) (ch:=[it]) (λb hb=>?_) (λb o _ _ hc e _=>k b o (λz=>hc (by simp[z])) e) (λb o _ _ hc e _=>⟨o.slots,k b o (λz=>hc (by simp[z])) e⟩) (λ_ _ _ _ n=>n)
  (λb o hc e=>⟨o,k b o (λz=>hc (by simp[z])) e⟩) (λ_ _ e=>e) (λ_ _ _ e=>e) (λb ps e=>⟨#[],by rw[e];simp⟩) (λm hm=>?_) (λb u e=>?_) I.bare
 .have e:b=it:=by simpa using hb
  subst e;exact⟨h1,hL,h2,h3⟩
 .obtain⟨o,es,ep,ho,r⟩:=hm;exact⟨o,es,ep,k _ o (nO hL) ho,r⟩
 .refine(I.hok b u e).stay (λc v hc q=>k c v ?_ q) (λ_ q=>q) λ_ _ q=>q;rcases hc with z|z
  .rw[z];exact nit b u e
  .exact nit c _ z
def Inv.tok(I:Inv X pins σ H s)(t:Nat):Inv X pins σ H { s with toks:=t }:=I.un (h':=s.heap) (t':=t) Un.refl I.hok
theorem Inv.kept{t':Nat}(I:Inv X pins σ H s)(k:∀b u,s.heap.get? b=some u->h'.get? b=some u):Inv X pins σ H { s with heap:=h',toks:=t' }:=I.un (Un.kept k) (I.hok.kept k)
theorem Inv.laid{a:Addr}{o:HO}{t':Nat}(I:Inv X pins σ H s)(k:∀b u,s.heap.get? b=some u->h'.get? b=some u)(hp:s.heap.objs.size<=a)(new:dB X.prog X.w (upd H a o) h' a o):
  Inv X pins σ (upd H a o) { s with heap:=h',toks:=t' }:=I.un (Un.laid k hp (I.hok.fresh hp)) (I.hok.laid k hp new)
theorem Inv.write{x e:Addr}{o:HO}{t':Nat}(I:Inv X pins σ H s)(mu:Cj (H x))(he:e=x∨H e=some (.own x))(k:∀b u,b≠e->s.heap.get? b=some u->h'.get? b=some u)(heo:∃u,h'.get? e=some u)
  (new:dB X.prog X.w (upd H x o) h' x o):Inv X pins σ (upd H x o) { s with heap:=h',toks:=t' }:=I.un (Un.write mu he k heo) (I.hok.write mu he k heo new)
def Inv.aeO{Zm:List (Addr×Obj)}(I:Inv X pins σ H s)(h:∀p∈Zm,s.heap.get? p.1=some p.2/\H p.1=none/\p.1≠X.env.locals/\p.1∉X.fs/\∀v,p.2.data≠ .cell v):Inv X Zm σ H s:=
 ⟨I.ok,I.os,I.bare,I.base,I.loc,I.cell,I.free,I.pG,λp hp=>(fM.mp hp).elim (λz=>I.pin p (Xj _ z)) (h p),I.hok,I.len⟩
def afB{N:List Str}(hN:N.Nodup){i j:Nat}{x:Str}(a:N[i]?=some x)(b:N[j]?=some x):i=j:=by
 obtain⟨h1,e1⟩:=List.getElem?_eq_some_iff.mp a;obtain⟨h2,e2⟩:=List.getElem?_eq_some_iff.mp b;exact(List.getElem_inj hN).mp (e1.trans e2.symm)
def ar4{M:Model}{A:Around}{E:Value->Shared->Prop}{i:Nat}{x:Str}{v:V}{u:Value}{Q:Unit->Shared->Prop}(I:Inv X pins σ H s)(hN:X.N.Nodup)(hi:X.N[i]?=some x)(hx:Loc X.env.scope x)(r:RelV v u)
  (h:∀s',Inv X pins (σ.set i (some v)) H s'->(∃a,xV a s.heap s'.heap/\(a=X.env.locals∨X.env.cells.lookup x=some a))->Q () s') (hf:X.fn x=true∨X.env.scope.names.lookup x=some .local:=by first|exact .inl rfl|exact .inr rfl|assumption):wpAny M A (storeName X.env x u) Q E s:=by
 obtain⟨m,hn,hl⟩:=id I.loc;have hcls:(X.env.scope.kind== .class||(X.env.scope.kind== .module&&X.env.locals != X.env.globals))=false:=by rw[I.ok.kind];rfl
 have hiσ:i < σ.length:=by rw[I.len];exact(List.getElem?_eq_some_iff.mp hi).1
 have xU:=I.xU;have tracked:∀{a:Addr} {h':Heap},(∃o,s.heap.get? a=some o/\H a=none)->xV a s.heap h'->eZ X.prog X.w H h':=λ{a h'} ha hs b ob e=>by
  obtain⟨_,_,hfree⟩:=ha;refine(I.hok b ob e).stay (λc w' hc q=>(hs.2 c ?_).trans q) (λ_ q=>q) λ_ _ q=>q;rintro rfl;rcases hc with rfl|hc
  .rw[hfree]at e;cases e
  .rw[hfree]at hc;cases hc
 rcases hx with hk|hk
 .refine wpAny_storeName_local hk hn (λh' hn' hs=>?_) hcls;obtain⟨oL,_,_,hoL,_⟩:=id hn;refine h _ ⟨I.ok,I.os,I.bare,⟨λb o e n hb hx=>?_,λb o e n hb hx=>?_,I.base.free,λb o e hx=>?_,I.base.tups,I.base.lH,I.base.nW⟩,⟨_,hn',λj y v' e1 e2 e3=>?_⟩,λy c e=>?_,I.free,I.pG,λp hp=>?_,tracked ⟨oL,hoL,I.free⟩ hs,by simpa using I.len⟩ ⟨_,hs,.inl rfl⟩
  .exact(hs.2 b (fD (jt (cQ e) I.ok.above))).trans (I.base.keep b o e n hb hx)
  .obtain⟨sl,e1⟩:=I.base.slot b o e n hb hx;exact⟨sl,(hs.2 b (fD (jt (cQ e) I.ok.above))).trans e1⟩
  .obtain⟨o',e1⟩:=I.base.there b o e hx;exact⟨o',(hs.2 b (fD (jt (cQ e) I.ok.above))).trans e1⟩
  .by_cases hj:j=i
   .subst hj;rw[hi]at e1;cases e1;rw[List.getElem?_set_self hiσ]at e2;cases e2;exact⟨u,r,.inl ⟨hk,by simp⟩⟩
   .rw[List.getElem?_set_ne (nO hj)]at e2;obtain⟨u',r',q⟩:=hl j y v' e1 e2 e3;refine⟨u',r',?_⟩;rcases q with⟨k,e⟩|⟨k,c,e,z⟩
    .refine .inl ⟨k,?_⟩;have:y≠x:=λe=>hj (afB hN e1 (e▸hi));simp[this,e]
    .exact .inr ⟨k,c,e,z.sameBut hs (xU y c e)⟩
  .obtain⟨w',z⟩:=I.cell y c e;exact⟨w',z.sameBut hs (xU y c e)⟩
  .obtain⟨e,n,ne,nf,d⟩:=I.pin p hp;exact⟨(hs.2 p.1 ne).trans e,n,ne,nf,d⟩
 .have hfn:X.fn x=true:=by
   rcases hf with z|z
   .exact z
   .rw[z]at hk;cases hk
  obtain⟨c,hc⟩:=I.ok.has x (.inl hk);obtain⟨w',z⟩:=I.cell x c hc;refine wpAny_storeName_cell I.ok.kind hk hc z (λh' hc' hs=>?_);obtain⟨oc,hoc,ahg⟩:=id z;refine h { s with heap:=h' } ⟨I.ok,I.os,I.bare,⟨λb o e n hb hx=>?_,λb o e n hb hx=>?_,I.base.free,λb o e hx=>?_,I.base.tups,I.base.lH,I.base.nW⟩,⟨m,hn.sameBut hs (nO (xU x c hc)),λj y v' e1 e2 e3=>?_⟩,λy c' e=>?_,I.free,I.pG,λp hp=>?_,tracked ⟨oc,hoc,I.pG x c hc⟩ hs,by simpa using I.len⟩ ⟨c,hs,.inr hc⟩
  .exact(hs.2 b (fD (jt (cQ e) (I.ok.cab x c hfn hc)))).trans (I.base.keep b o e n hb hx)
  .obtain⟨sl,e1⟩:=I.base.slot b o e n hb hx;exact⟨sl,(hs.2 b (fD (jt (cQ e) (I.ok.cab x c hfn hc)))).trans e1⟩
  .obtain⟨o',e1⟩:=I.base.there b o e hx;exact⟨o',(hs.2 b (fD (jt (cQ e) (I.ok.cab x c hfn hc)))).trans e1⟩
  .by_cases hj:j=i
   .subst hj;rw[hi]at e1;cases e1;rw[List.getElem?_set_self hiσ]at e2;cases e2;exact⟨u,r,.inr ⟨.inl hk,c,hc,hc'⟩⟩
   .rw[List.getElem?_set_ne (nO hj)]at e2;obtain⟨u',r',q⟩:=hl j y v' e1 e2 e3;refine⟨u',r',?_⟩;rcases q with q|⟨k,c',e,z'⟩
    .exact .inl q
    .refine .inr ⟨k,c',e,z'.sameBut hs ?_⟩;rintro rfl;exact hj (afB hN e1 (I.ok.inj _ _ _ e hc▸hi))
  .by_cases hcc:c'=c
   .subst hcc;exact⟨_,hc'⟩
   .obtain⟨w2,z2⟩:=I.cell y c' e;exact⟨w2,z2.sameBut hs hcc⟩
  .obtain⟨e,n,ne,nf,d⟩:=I.pin p hp;refine⟨(hs.2 p.1 ?_).trans e,n,ne,nf,d⟩;intro q;rw[q,hoc]at e;have q':oc=p.2:=pF e;exact d w' (by rw[<-q'];exact ahg)
def CM{M:Model}{A:Around}{E:Value->Shared->Prop}{i:Nat}{x:Str}{v:V}{u:Value}{Q:Unit->Shared->Prop}(I:Inv X pins σ H s)(hN:X.N.Nodup)(hi:X.N[i]?=some x)(hx:Loc X.env.scope x)(r:RelV v u)
  (h:∀s',Inv X pins (σ.set i (some v)) H s'->Q () s') (hf:X.fn x=true∨X.env.scope.names.lookup x=some .local:=by first|exact .inl rfl|exact .inr rfl|assumption):wpAny M A (storeName X.env x u) Q E s:=
 ar4 I hN hi hx r (λs' I' _=>h s' I') hf
def Inv.ajh{s':Shared}{ch:List Addr}(I:Inv X pins σ H s)(ho:s'.os=s.os)(u:Un (frs X.stack) ch H H' s.heap s'.heap)(hok:eZ X.prog X.w H' s'.heap)(hg:AllBare s'.gens)
  (hch:∀b∈ch,(b∈X.ex∨X.s₀.heap.objs.size<=b)/\b≠X.env.locals/\(∀x c,X.env.cells.lookup x=some c->c≠b)/\∀p∈X.pn++pins,p.1≠b):Inv X pins σ H' s':=by
 obtain⟨h',g',d',t',o'⟩:=s';have e:o'=s.os:=ho;subst e;exact I.call (g':=g') (t':=t') (d':=d') u hok hg hch
end
abbrev XK:=Value->Option Addr->Hp->Prop
abbrev St:=List (Option V)
abbrev VK:=V->Hp->Prop
abbrev TE:=St->Hp->VK->Prop
abbrev TT:=St->Hp->(Bool->Hp->Prop)->Prop
abbrev TA:=St->Hp->(List V->Hp->Prop)->Prop
structure Ends where
 nx:St->Hp->Prop
 rt:VK
 bk:St->Hp->Prop:=λ_ _=>False
 ct:St->Hp->Prop:=λ_ _=>False
abbrev TS:=Ends->St->Hp->Prop
def EP(X:Cx)(pins:List (Addr×Obj))(σ:St)(Q:VK)(u:Value)(s':Shared):Prop:=∃v H',Inv X pins σ H' s'/\RelV v u/\Q v H'
def TP(X:Cx)(pins:List (Addr×Obj))(σ:St)(Q:Bool->Hp->Prop)(b:Bool)(s':Shared):Prop:=∃H',Inv X pins σ H' s'/\Q b H'
def AP(X:Cx)(pins:List (Addr×Obj))(σ:St)(Q:List V->Hp->Prop)(us:List Value)(s':Shared):Prop:=∃vs H',Inv X pins σ H' s'/\Vals vs us/\Q vs H'
def SP(X:Cx)(pins:List (Addr×Obj))(D:Ends)(f:Flow)(s':Shared):Prop:=
 match f with
 |.next=>∃σ' H',Inv X pins σ' H' s'/\D.nx σ' H'
 |.brk=>∃σ' H',Inv X pins σ' H' s'/\D.bk σ' H'
 |.cont=>∃σ' H',Inv X pins σ' H' s'/\D.ct σ' H'
 |.ret u=>∃v σ' H',Inv X pins σ' H' s'/\RelV v u/\D.rt v H'
def PE(X:Cx)(e:Expr)(t:TE):Prop:=
 ∀(pins:List (Addr×Obj)) (s:Shared) (σ:St) (H:Hp) (Q:VK),Inv X pins σ H s->t σ H Q->wpAny (model X.prog X.w) X.A (eval e X.env) (EP X pins σ Q) X.xe s
def PT(X:Cx)(e:Expr)(t:TT):Prop:=
 ∀(pins:List (Addr×Obj)) (s:Shared) (σ:St) (H:Hp) (Q:Bool->Hp->Prop),Inv X pins σ H s->t σ H Q->wpAny (model X.prog X.w) X.A (isTrue e X.env (eval e X.env)) (TP X pins σ Q) X.xe s
def PW(X:Cx)(e:Expr)(t:TT):Prop:=
 ∀(whole:Sem Value) (pins:List (Addr×Obj)) (s:Shared) (σ:St) (H:Hp) (Q:Bool->Hp->Prop),Inv X pins σ H s->t σ H Q->wpAny (model X.prog X.w) X.A (isTrue e X.env whole) (TP X pins σ Q) X.xe s
def PW.pt{X:Cx}{e:Expr}{t:TT}(h:PW X e t):PT X e t:=h _
def PA(X:Cx)(es:List Expr)(t:TA):Prop:=
 ∀(pos:Pos) (pins:List (Addr×Obj)) (s:Shared) (σ:St) (H:Hp) (Q:List V->Hp->Prop),Inv X pins σ H s->t σ H Q->wpAny (model X.prog X.w) X.A (spliced (backTo pos (starEach es X.env))) (AP X pins σ Q) X.xe s
def PS(X:Cx)(st:Stmt)(t:TS):Prop:=
 ∀(pins:List (Addr×Obj)) (s:Shared) (σ:St) (H:Hp) (D:Ends),Inv X pins σ H s->t D σ H->wpAny (model X.prog X.w) X.A (exec st X.env) (SP X pins D) X.xe s
def jG(X:Cx)(st:List Stmt)(t:TS):Prop:=
 ∀(pins:List (Addr×Obj)) (s:Shared) (σ:St) (H:Hp) (D:Ends),Inv X pins σ H s->t D σ H->wpAny (model X.prog X.w) X.A (execs st X.env) (SP X pins D) X.xe s
def aU{α:Type}{t:Sem α}{Q Q':α->Shared->Prop}{M:Model}{A:Around}{E:Value->Shared->Prop}{s:Shared}(h:wpAny M A t Q E s)(hQ:∀a s,Q a s->Q' a s):wpAny M A t Q' E s:=wpAny_mono h hQ λ_ _ x=>x
section
variable {X:Cx}
inductive amj(i:Nat)(σ:St)(H:Hp)(Q:VK):Prop|mk (v:V) (h:σ[i]?=some (some v)) (q:Q v H)
def QY(i:Nat):TE:=λσ H Q=>amj i σ H Q
def tC(v:V):TE:=λ_ H Q=>Q v H
def ah6{i:Nat}{x:Str}{pos:Pos}(hN:X.N[i]?=some x)(hv:Fz X.env.scope x)(hd:(x==("__debug__" : Str))=false:=by decide)(hcd:(x==("__classdict__" : Str))=false:=by decide):PE X (.Name x pos) (QY i):=by
 intro pins s σ H Q I h;obtain⟨v,e,h⟩:=h;obtain⟨m,hn,hl⟩:=I.loc;obtain⟨u,r,l⟩:=hl i x v hN e hv;have fin:EP X pins σ Q u s:=⟨v,H,I,r,h⟩;rcases l with⟨hk,hm⟩|⟨hk,c,hc,hcell⟩
 .exact wpAny_Name (wpAny_loadName_local I.ok.kind hk hn hm fin) hd
 .rcases hk with hk|hk
  .exact wpAny_Name (wpAny_loadName_cell I.ok.kind hk hc hcell fin) hd
  .exact wpAny_Name (wpAny_loadName_free I.ok.kind hk hc hcell fin hcd) hd
def ao{i j pos}:PE X (.Constant (.int i) j pos) (tC (.int i)):=λ_ _ _ H _ I h=>wpAny_Constant_int ⟨.int i,H,I.tok _,⟨_,rfl⟩,h⟩
def oB{b j pos}:PE X (.Constant (.bool b) j pos) (tC (.bl b)):=λ_ _ _ H _ I h=>Constant_bool ⟨.bl b,H,I,rfl,h⟩
def Ld{j pos}:PE X (.Constant .none j pos) (tC .non):=λ_ _ _ H _ I h=>Constant_none ⟨.non,H,I,rfl,h⟩
def Eu{x j pos}:PE X (.Constant (.str x) j pos) (tC (.str x)):=λ_ _ _ H _ I h=>Calls.Constant_str ⟨.str x,H,I.tok _,⟨_,rfl⟩,h⟩
def Gl(X:Cx)(x:Str):Prop:=X.env.kindOf x=some .globalImplicit
def O8{E:Value->Shared->Prop}{pins:List (Addr×Obj)}{s:Shared}{σ:St}{H:Hp}{x:Str}{u:Value}{pos:Pos}{Q:Value->Shared->Prop}(I:Inv X pins σ H s)(hg:Gl X x)(hm:X.mg x=some u)(h:Q u s)
  (hd:(x==("__debug__" : Str))=false:=by decide):wpAny (model X.prog X.w) X.A (eval (.Name x pos) X.env) Q E s:=
 Xg I.ok.kind hg (Calls.loadGlobal_global (by rw[I.ok.glob];exact I.mod.glob.keeps I.bk) hm h) hd
def oE{E:Value->Shared->Prop}{pins:List (Addr×Obj)}{s:Shared}{σ:St}{H:Hp}{x:Str}{u:Value}{pos:Pos}{Q:Value->Shared->Prop}(I:Inv X pins σ H s)(hg:Gl X x)(hm:X.mg x=none)(hv:bootBuiltins x=some u)(h:Q u s)
  (hn:x≠ "__name__" := by decide) (hd:(x==("__debug__" : Str))=false:=by decide):wpAny (model X.prog X.w) X.A (eval (.Name x pos) X.env) Q E s:=by
 obtain⟨mb,h1,h2⟩:=I.mod.blt;exact Xg I.ok.kind hg (Calls.loadGlobal_builtin (by rw[I.ok.glob];exact I.mod.glob.keeps I.bk) hm (by rw[I.ok.blt];exact h1.keeps I.bk) ((h2 x hn).trans hv) h) hd
def atf{x:Str}{v:V}{u:Value}{pos:Pos}(hg:Gl X x)(hm:X.mg x=some u)(r:RelV v u)(hd:(x==("__debug__" : Str))=false:=by decide):PE X (.Name x pos) (tC v):=
 λ_ _ _ H _ I h=>O8 I hg hm ⟨v,H,I,r,h⟩ hd
def akA{x:Str}{v:V}{u:Value}{pos:Pos}(hg:Gl X x)(hm:X.mg x=none)(hv:bootBuiltins x=some u)(r:RelV v u)(hn:x≠ "__name__" := by decide)(hd:(x==("__debug__" : Str))=false:=by decide):PE X (.Name x pos) (tC v):=
 λ_ _ _ H _ I h=>oE I hg hm hv ⟨v,H,I,r,h⟩ hn hd
variable {a b:Expr} {ta tb:TE} {pos:Pos}
def PC(X:Cx)(op:CmpOp)(a b:Expr)(t:TE):Prop:=
 ∀(pins:List (Addr×Obj)) (s:Shared) (σ:St) (H:Hp) (Q:VK),Inv X pins σ H s->t σ H Q->
  wpAny (model X.prog X.w) X.A (eval a X.env) (λv s₁=>wpAny (model X.prog X.w) X.A (eval b X.env) (λu s₂=>wpAny (model X.prog X.w) X.A (compareOp op v u) (EP X pins σ Q) X.xe s₂) X.xe s₁) X.xe s
def ajb(b:Expr){op:CmpOp}(h:op≠ .In)(h2:op≠ .NotIn):behindInMarks op b=false:=by
 have e1:(op==CmpOp.In)=false:=by cases op<;>first|rfl|exact absurd rfl h
 have e2:(op==CmpOp.NotIn)=false:=by cases op<;>first|rfl|exact absurd rfl h2
 cases b<;>simp[behindInMarks,e1,e2]
def arC(ta:TE):TE:=λσ H Q=>ta σ H λx H1=>Q (.bl (decide (x = .non))) H1
def aiS(ta:TE):TE:=λσ H Q=>ta σ H λx H1=>Q (.bl (!decide (x = .non))) H1
def RelV.XO{x:V}{v:Value}(r:RelV x v):(v==Value.none)=decide (x = .non):=by
 cases x with
 |non=>cases r;rfl
 |bl _=>cases r;rfl
 |int _=>obtain⟨t,rfl⟩:=r;rfl
 |str _=>obtain⟨t,rfl⟩:=r;rfl
 |mV _=>obtain⟨t,rfl⟩:=r;rfl
 |flt _=>obtain⟨t,rfl⟩:=r;rfl
 |ref _=>cases r;rfl
 |ty _=>cases r;rfl
def ak2{j pos'}(ha:PE X a ta):PC X .Is a (.Constant .none j pos') (arC ta):=by
 intro pins s σ H Q I h;refine aU (ha pins s σ H _ I h) λv s1 ⟨x,H1,I1,r1,q1⟩=>?_;exact Constant_none (is_none_gen ⟨.bl _,H1,I1,by rw[r1.XO];rfl,q1⟩)
def aiL{j pos'}(ha:PE X a ta):PC X .IsNot a (.Constant .none j pos') (aiS ta):=by
 intro pins s σ H Q I h;refine aU (ha pins s σ H _ I h) λv s1 ⟨x,H1,I1,r1,q1⟩=>?_;exact Constant_none (isnot_none_gen ⟨.bl _,H1,I1,by rw[r1.XO];rfl,q1⟩)
def tB(t:TE):TT:=λσ H Q=>t σ H λx H1=>∃c,x = .bl c/\Q c H1
def HW{op:CmpOp}{t:TE}(h:PC X op a b t)(h1:behindInMarks op b=false:=by first|exact ajb _ ∅ ∅ | rfl):PT X (.Compare a [op] [b] pos) (tB t):=by
 intro pins s σ H Q I hw;refine wpAny_isTrue_Compare1 (aU (h pins s σ H _ I hw) λv s1 h1=>aU h1 λu s2 h2=>aU h2 λc s3 ⟨x,H1,I1,r1,q1⟩=>?_) h1;obtain⟨d,rfl,q⟩:=q1;cases r1;exact wpAny_truthy_bool ⟨H1,I1,q⟩
def lB{e:Expr}{t:TE}(h:PE X e t)(he:∀whole,isTrue e X.env whole=(do let v<-whole;standAt e.pos;holding [v] (truthy v)):=by intro _;rfl):PT X e (tB t):=by
 intro pins s σ H Q I hw;refine isTrue_plain (aU (h pins s σ H _ I hw) λv s1 ⟨x,H1,I1,r1,q1⟩=>?_) (he _);obtain⟨d,rfl,q⟩:=q1;cases r1;exact wpAny_truthy_bool ⟨H1,I1,q⟩
variable {tA Jr:TT} {rest:List Expr}
def aqU(t u:TT):TT:=λσ H Q=>t σ H λc H1=>if c=true then u σ H1 Q else Q false H1
def tOr(t u:TT):TT:=λσ H Q=>t σ H λc H1=>if c=true then Q true H1 else u σ H1 Q
def aog(t:TT):TT:=λσ H Q=>t σ H λc H1=>Q (!c) H1
def Y0(ha:PT X a tA):PW X (.BoolOp .And [a] pos) tA:=by
 intro wh pins s σ H Q I h;refine isTrue_and (aU (ha pins s σ H Q I h) λc s1 e=>?_);cases c with
 |true=>exact isTrue_and_nil e
 |false=>exact e
def B7(ha:PT X a tA):PW X (.BoolOp .Or [a] pos) tA:=by
 intro wh pins s σ H Q I h;refine isTrue_or (aU (ha pins s σ H Q I h) λc s1 e=>?_);cases c with
 |false=>exact isTrue_or_nil e
 |true=>exact e
def afI(ha:PT X a tA)(hb:PW X (.BoolOp .And (b::rest) pos) Jr):PW X (.BoolOp .And (a::b::rest) pos) (aqU tA Jr):=by
 intro wh pins s σ H Q I h;refine isTrue_and (aU (ha pins s σ H _ I h) λc s1 ⟨H1,I1,q1⟩=>?_);cases c with
 |true=>exact hb wh pins s1 σ H1 Q I1 q1
 |false=>exact⟨H1,I1,q1⟩
def oM(ha:PT X a tA)(hb:PW X (.BoolOp .Or (b::rest) pos) Jr):PW X (.BoolOp .Or (a::b::rest) pos) (tOr tA Jr):=by
 intro wh pins s σ H Q I h;refine isTrue_or (aU (ha pins s σ H _ I h) λc s1 ⟨H1,I1,q1⟩=>?_);cases c with
 |true=>exact⟨H1,I1,q1⟩
 |false=>exact hb wh pins s1 σ H1 Q I1 q1
def oR(ha:PT X a tA):PT X (.UnaryOp .Not a pos) (aog tA):=by
 intro pins s σ H Q I h;exact isTrue_not (ha pins s σ H (λc H1=>Q (!c) H1) I h)
def al4(ta tb:TE):TE:=λσ H Q=>ta σ H λx H1=>∃c,x = .bl c/\if c=true then tb σ H1 Q else Q (.bl false) H1
def arH(ta:TE):TE:=λσ H Q=>ta σ H λx H1=>∃c,x = .bl c/\Q (.bl (!c)) H1
def aeD{op}{t:TE}(h:PE X a t):PE X (.BoolOp op [a] pos) t:=λpins s σ H Q I hw=>BoolOp_one (h pins s σ H Q I hw)
def R6(ha:PE X a ta)(hb:PE X (.BoolOp .And (b::rest) pos) tb):PE X (.BoolOp .And (a::b::rest) pos) (al4 ta tb):=by
 intro pins s σ H Q I h;refine BoolOp_and (aU (ha pins s σ H _ I h) λv s1 ⟨x,H1,I1,r1,q1⟩=>?_);obtain⟨c,rfl,q1⟩:=q1;cases r1;refine wpAny_truthy_bool ?_;cases c with
 |true=>exact hb pins s1 σ H1 Q I1 q1
 |false=>exact⟨.bl false,H1,I1,rfl,q1⟩
def anF(ha:PE X a ta):PE X (.UnaryOp .Not a pos) (arH ta):=by
 intro pins s σ H Q I h;refine UnaryOp_ (aU (ha pins s σ H _ I h) λv s1 ⟨x,H1,I1,r1,q1⟩=>?_);obtain⟨c,rfl,q1⟩:=q1;cases r1;exact not_of (wpAny_truthy_bool ⟨.bl (!c),H1,I1,rfl,q1⟩)
def tIf(t:TT)(ta tb:TE):TE:=λσ H Q=>t σ H λc H1=>if c=true then ta σ H1 Q else tb σ H1 Q
def acC{c:Expr}(hc:PT X c tA)(ha:PE X a ta)(hb:PE X b tb):PE X (.IfExp c a b pos) (tIf tA ta tb):=by
 intro pins s σ H Q I h;refine wpAny_IfExp (aU (hc pins s σ H _ I h) λd s1 ⟨H1,I1,q1⟩=>?_);cases d with
 |true=>exact ha pins s1 σ H1 Q I1 q1
 |false=>exact hb pins s1 σ H1 Q I1 q1
end
def au(K:aF)(H:Hp)(a:Addr)(xs:List V):Prop:=
 Rd H a (.lst xs)∨
  ∃(o:Obj) (its:Array Value) (n:Nat),K.lookup a=some o/\o.cls = .type "list" /\ o.dict=none/\o.data = .seq its n/\its.size<=sizeLine/\Vals xs its.toList
def aA(K:aF)(H:Hp)(a:Addr)(xs:List V):Prop:=
 Rd H a (.tup xs)∨
  ∃(o:Obj) (its:Array Value) (n:Nat),K.lookup a=some o/\o.cls = .type "tuple" /\ o.data = .seq its n/\its.size<=sizeLine/\Vals xs its.toList
def aiP:Value->Option V
 |.none=>some .non
 |.bool b=>some (.bl b)
 |.int i _=>some (.int i)
 |.str x _=>some (.str x)
 |.bytes b _=>some (.mV b)
 |.float b _=>some (.flt b)
 |.ref a=>some (.ref a)
 |.type n=>some (.ty n)
 |_=>none
def RelV.abs{x:V}{u:Value}(r:RelV x u):aiP u=some x:=by
 cases x with
 |non=>cases r;rfl
 |bl _=>cases r;rfl
 |int _=>obtain⟨t,rfl⟩:=r;rfl
 |str _=>obtain⟨t,rfl⟩:=r;rfl
 |mV _=>obtain⟨t,rfl⟩:=r;rfl
 |flt _=>obtain⟨t,rfl⟩:=r;rfl
 |ref _=>cases r;rfl
 |ty _=>cases r;rfl
theorem RelV.inj{x y:V}{u:Value}(r:RelV x u)(q:RelV y u):x=y:=pF (r.abs.symm.trans q.abs)
theorem Vals.inj{xs ys:List V}{us:List Value}(h:Vals xs us)(h':Vals ys us):xs=ys:=by
 induction h generalizing ys with
 |nil=>cases h';rfl
 |cons r t ih=>
  cases h' with
  |cons r' t'=>rw[r.inj r',ih t']
section
variable {X:Cx} {pins:List (Addr×Obj)} {σ:St} {H:Hp} {s:Shared} {a:Addr} {xs ys:List V}
def au.of{K:aF}(h:H a=some (.lst xs)):au K H a xs:= .inl (.inl h)
def aA.of{K:aF}(h:H a=some (.tup xs)):aA K H a xs:= .inl (.inl h)
def Inv.list(I:Inv X pins σ H s)(h:au X.K H a xs):∃its:List Value,Vals xs its/\PlainL s.heap a its.toArray/\xs.length<=sizeLine:=by
 rcases h with h|⟨o,its,n,hk,hc,hd,hs,hz,r⟩
 .obtain⟨z,its,n,r,e⟩:=h.ok I.hok;exact⟨its,r,⟨_,n,e,rfl,rfl,rfl⟩,z⟩
 .refine⟨its.toList,r,⟨o,n,I.jF a o hk,hc,hd,by simpa using hs⟩,?_⟩;have e:=r.length;simp only[Kv]at e;omega
def Inv.tuple(I:Inv X pins σ H s)(h:aA X.K H a xs):∃its:List Value,Vals xs its/\IsTup s.heap a its.toArray/\xs.length<=sizeLine:=by
 rcases h with h|⟨o,its,n,hk,hc,hs,hz,r⟩
 .obtain⟨z,its,r,p⟩:=h.ok I.hok;exact⟨its,r,p,z⟩
 .refine⟨its.toList,r,⟨o,I.jF a o hk,hc,n,by simpa using hs⟩,?_⟩;have e:=r.length;simp only[Kv]at e;omega
def Inv.WC(I:Inv X pins σ H s)(h:au X.K H a xs)(h':au X.K H a ys):xs=ys:=by
 obtain⟨its,r,⟨o,n,e,_,_,d⟩,_⟩:=I.list h;obtain⟨its',r',⟨o',n',e',_,_,d'⟩,_⟩:=I.list h';rw[e]at e';cases e';rw[d]at d';injection d' with d1 _;have:its=its':=by simpa using congrArg XE d1
 subst this;exact r.inj r'
def Inv.ZC(I:Inv X pins σ H s)(h:aA X.K H a xs)(h':aA X.K H a ys):xs=ys:=by
 obtain⟨its,r,⟨o,e,_,n,d⟩,_⟩:=I.tuple h;obtain⟨its',r',⟨o',e',_,n',d'⟩,_⟩:=I.tuple h';rw[e]at e';cases e';rw[d]at d';injection d' with d1 _;have:its=its':=by simpa using congrArg XE d1
 subst this;exact r.inj r'
end
abbrev Cx.wish(X:Cx)(E:Value->Shared->Prop):Cx:={ X with xe:=E }
abbrev Cx.Cq(X:Cx):Cx:=X.wish λ_ _=>False
theorem Cx.Ok.wish{X:Cx}(ok:X.Ok)(E:Value->Shared->Prop):(X.wish E).Ok:=
 ⟨ok.mod,ok.kind,ok.glob,ok.blt,ok.above,ok.inj,ok.has,ok.cab,ok.hd,ok.frames,ok.stk,ok.WD,ok.bs,ok.v8,ok.Ds,ok.CY,ok.pH,ok.AH⟩
def Cx.Ok.vJ{X:Cx}{E:Value->Shared->Prop}(ok:(X.wish E).Ok):X.Ok:=
 ⟨ok.mod,ok.kind,ok.glob,ok.blt,ok.above,ok.inj,ok.has,ok.cab,ok.hd,ok.frames,ok.stk,ok.WD,ok.bs,ok.v8,ok.Ds,ok.CY,ok.pH,ok.AH⟩
section
variable {X:Cx} {pins:List (Addr×Obj)} {σ:St} {H:Hp} {s:Shared} {E:Value->Shared->Prop}
theorem Inv.wish(I:Inv X pins σ H s)(E:Value->Shared->Prop):Inv (X.wish E) pins σ H s:=⟨I.ok.wish E,I.os,I.bare,I.base,I.loc,I.cell,I.free,I.pG,I.pin,I.hok,I.len⟩
theorem Inv.vJ(I:Inv (X.wish E) pins σ H s):Inv X pins σ H s:=⟨I.ok.vJ,I.os,I.bare,I.base,I.loc,I.cell,I.free,I.pG,I.pin,I.hok,I.len⟩
theorem SP.vJ{D:Ends}{f:Flow}{s':Shared}(h:SP (X.wish E) pins D f s'):SP X pins D f s':=by
 cases f with
 |next=>obtain⟨σ',H',I,q⟩:=h;exact⟨σ',H',I.vJ,q⟩
 |brk=>obtain⟨σ',H',I,q⟩:=h;exact⟨σ',H',I.vJ,q⟩
 |cont=>obtain⟨σ',H',I,q⟩:=h;exact⟨σ',H',I.vJ,q⟩
 |ret u=>obtain⟨v,σ',H',I,r,q⟩:=h;exact⟨v,σ',H',I.vJ,r,q⟩
theorem jG.Cq{st:List Stmt}{t:TS}(h:jG X.Cq st t):jG X st t:=λpins s σ H D I hw=>
 wpAny_mono (h pins s σ H D (I.wish _) hw) (λ_ _ q=>q.vJ) λ_ _ z=>False.elim z
end
section
variable {X:Cx} {st:Stmt} {rest:List Stmt} {t u:TS} {e:Expr} {te:TE} {pos:Pos}
def apl:TS:=λD σ H=>D.nx σ H
def ajX(t u:TS):TS:=λD σ H=>t { D with nx:=u D } σ H
def dW:jG X [] apl:=λ_ _ σ H _ I h=>wpAny_execs_nil ⟨σ,H,I,h⟩
def aq(h1:PS X st t)(h2:jG X rest u):jG X (st::rest) (ajX t u):=by
 intro pins s σ H D I h;refine wpAny_execs_cons (aU (h1 pins s σ H { D with nx:=u D } I h) λf s1 q=>?_);cases f with
 |next=>
  obtain⟨σ',H',I',q⟩:=q;exact h2 pins s1 σ' H' D I' q
 |ret v=>exact q
 |brk=>exact q
 |cont=>exact q
def aD(h1:PS X st t):jG X [st] t:=by
 intro pins s σ H D I h;refine wpAny_execs_cons (aU (h1 pins s σ H D I h) λf s1 q=>?_);cases f with
 |next=>exact wpAny_execs_nil q
 |ret v=>exact q
 |brk=>exact q
 |cont=>exact q
def Inv.quiet{pins:List (Addr×Obj)}{σ:St}{H:Hp}{s:Shared}(I:Inv X pins σ H s):interactive X.env=false:=by simp[interactive,I.ok.kind]
def aoX(te:TE):TS:=λD σ H=>te σ H λ_ H1=>D.nx σ H1
def nA(he:PE X e te)(hs:swapsWith e none pos.line X.env=pure false:=by rfl):PS X (.Expr e pos) (aoX te):=by
 intro pins s σ H D I h;exact wpAny_Expr_any (aU (he pins s σ H _ I h) λv s1 ⟨x,H1,I1,r1,q1⟩=>⟨σ,H1,I1,q1⟩) I.quiet hs
def awX(te:TE):TS:=λD σ H=>te σ H D.rt
def aZ(he:PE X e te):PS X (.Return (some e) pos) (awX te):=by
 intro pins s σ H D I h;exact wpAny_Return_some (aU (he pins s σ H _ I h) λv s1 ⟨x,H1,I1,r1,q1⟩=>⟨x,σ,H1,I1,r1,q1⟩)
def amc(c:TT)(t u:TS):TS:=λD σ H=>c σ H λb H1=>if b=true then t D σ H1 else u D σ H1
def dF{c:Expr}{a b:List Stmt}{tc:TT}(hc:PT X c tc)(ha:jG X a t)(hb:jG X b u):PS X (.If c a b pos) (amc tc t u):=by
 intro pins s σ H D I h;refine wpAny_If (aU (hc pins s σ H _ I h) λd s1 ⟨H1,I1,q1⟩=>?_);cases d with
 |true=>exact ha pins s1 σ H1 D I1 q1
 |false=>exact hb pins s1 σ H1 D I1 q1
def ahC:TS:=λ_ _ _=>False
def adQ:PS X st ahC:=λ_ _ _ _ _ _ h=>h.elim
end
abbrev TG:=V->St->Hp->(St->Hp->Prop)->Prop
abbrev uP:=List V->St->Hp->(St->Hp->Prop)->Prop
def PG(X:Cx)(target:Expr)(t:TG):Prop:=
 ∀(pins:List (Addr×Obj)) (s:Shared) (σ:St) (H:Hp) (v:V) (u:Value) (Q:St->Hp->Prop),Inv X pins σ H s->RelV v u->t v σ H Q->
  wpAny (model X.prog X.w) X.A (assign target X.env u) (λ_ s'=>∃σ' H',Inv X pins σ' H' s'/\Q σ' H') X.xe s
def yX(X:Cx)(ts:List Expr)(t:uP):Prop:=
 ∀(pins:List (Addr×Obj)) (s:Shared) (σ:St) (H:Hp) (vs:List V) (us:List Value) (Q:St->Hp->Prop),Inv X pins σ H s->Vals vs us->t vs σ H Q->
  wpAny (model X.prog X.w) X.A (assignInOrder ((assignEach ts X.env).map (·.2)) us) (λ_ s'=>∃σ' H',Inv X pins σ' H' s'/\Q σ' H') X.xe s
abbrev NZ:=V->V->V->Hp->(Hp->Prop)->Prop
def abo(X:Cx)(t:NZ):Prop:=
 ∀(pins:List (Addr×Obj)) (s:Shared) (σ:St) (H:Hp) (o i v:V) (ov iv u:Value) (Q:Hp->Prop),Inv X pins σ H s->RelV o ov->RelV i iv->RelV v u->t o i v H Q->
  wpAny (model X.prog X.w) X.A (setItem ov iv u) (λ_ s'=>∃H',Inv X pins σ H' s'/\Q H') X.xe s
section
variable {X:Cx} {pos:Pos}
def ig(i:Nat):TG:=λv σ H Q=>Q (σ.set i (some v)) H
def SM{i:Nat}{x:Str}(hN:X.N.Nodup)(hi:X.N[i]?=some x)(hx:Loc X.env.scope x)(hf:X.fn x=true∨X.env.scope.names.lookup x=some .local:=by first|exact .inl rfl|exact .inr rfl|assumption):PG X (.Name x pos) (ig i):=by
 intro pins s σ H v u Q I r h;exact wpAny_assign_Name (CM I hN hi hx r (λs' I'=>⟨_,H,I',h⟩) hf)
def Lp:uP:=λvs σ H Q=>vs=[]/\Q σ H
inductive ag4(t:TG)(u:uP)(vs:List V)(σ:St)(H:Hp)(Q:St->Hp->Prop):Prop|mk (v:V) (r:List V) (h:vs=v::r) (q:t v σ H λσ' H'=>u r σ' H' Q)
def BK(t:TG)(u:uP):uP:=λvs σ H Q=>ag4 t u vs σ H Q
def wW:yX X [] Lp:=by
 intro pins s σ H vs us Q I r h;obtain⟨e,h⟩:=h;subst e;cases r;exact assignInOrder_nil ⟨σ,H,I,h⟩
def lW{e:Expr}{es:List Expr}{t:TG}{u:uP}(h1:PG X e t)(h2:yX X es u)
  (hs:(assignEach (e::es) X.env).map (·.2)=assign e X.env::(assignEach es X.env).map (·.2):=by rfl):yX X (e::es) (BK t u):=by
 intro pins s σ H vs us Q I r h;obtain⟨v,vr,e1,h⟩:=h;subst e1;cases r with
 |cons r rr=>
  rw[hs];refine assignInOrder_cons (aU (h1 pins s σ H _ _ _ I r h) λ_ s1 ⟨σ1,H1,I1,q1⟩=>?_);exact h2 pins s1 σ1 H1 _ _ Q I1 rr q1
def Gk(K:aF)(n:Nat)(t:uP):TG:=λv σ H Q=>∃a xs,v = .ref a/\aA K H a xs/\xs.length=n/\t xs σ H Q
def avP{es:List Expr}{k:Nat}{t:uP}{n:Nat}(hc:X.calm=true)(h:yX X es t)
  (hn:(assignEach es X.env).length=n:=by rfl) (hst:(assignEach es X.env).findIdx? (·.1)=none:=by rfl):PG X (.Tuple es k pos) (Gk X.K n t):=by
 intro pins s σ H v u Q I r hw;obtain⟨a,xs,e1,hq,hl,hw⟩:=hw;subst e1;cases r;obtain⟨its,rv,ht,hz⟩:=I.tuple hq;refine assign_Tuple_tuple (I.ok.hd hc) ht (by simp[hn,<-hl,rv.length]) hst λh' hx=>?_;have I1:Inv X pins σ H { s with heap:=h' }:=I.kept (t':=s.toks) λb o e=>hx b o (fD (cQ e)) e;exact h pins _ σ H xs _ Q I1 (by simpa using rv) hw
def anU(to ti:TE)(t:NZ):TG:=λv σ H Q=>to σ H λo H1=>ti σ H1 λi H2=>t o i v H2 λH3=>Q σ H3
def yc{o i:Expr}{to ti:TE}{t:NZ}(ho:PE X o to)(hi:PE X i ti)(hs:abo X t)
  (ha:∀v,assign (.Subscript o i pos) X.env v=(do
   let ov<-holding [v] (eval o X.env)
   let iv<-holding [v,ov] (eval i X.env)
   standAt pos
   holding [v,ov,iv] (setItem ov iv v)
   release [v,ov,iv] []):=by intro _;rfl):PG X (.Subscript o i pos) (anU to ti t):=by
 intro pins s σ H v u Q I r h;rw[ha];refine wpAny_bind (wpAny_holding (aU (ho pins s σ H _ I h) λov s1 ⟨x,H1,I1,r1,q1⟩=>?_));refine wpAny_bind (wpAny_holding (aU (hi pins s1 σ H1 _ I1 q1) λiv s2 ⟨y,H2,I2,r2,q2⟩=>?_));refine wpAny_bind (wpAny_standAt (wpAny_bind (wpAny_holding (aU (hs pins s2 σ H2 x y v ov iv u _ I2 r1 r2 r q2) λ_ s3 ⟨H3,I3,q3⟩=>?_))));exact wpAny_release ⟨σ,H3,I3,q3⟩
def Fj(te:TE)(g:TG):TS:=λD σ H=>te σ H λx H1=>g x σ H1 D.nx
def v7{tg e:Expr}{te:TE}{g:TG}(he:PE X e te)(hg:PG X tg g)(hs:swapsWithSole [tg] e pos.line X.env=pure false:=by rfl)(hw:swappedStores [tg] e X.env=pure none:=by rfl)
  (h1:(assignEach [tg] X.env).map (·.2)=[assign tg X.env]:=by rfl):PS X (.Assign [tg] e pos) (Fj te g):=by
 intro pins s σ H D I h;refine wpAny_Assign_stores (aU (he pins s σ H _ I h) λv s1 ⟨x,H1,I1,r1,q1⟩=>?_) hs hw;rw[h1];exact aU (hg pins s1 σ H1 x v _ I1 r1 q1) λ_ s2 q=>q
def iZ{i:Nat}{x:Str}{e:Expr}{te:TE}{pos':Pos}(hN:X.N.Nodup)(hi:X.N[i]?=some x)(hx:Loc X.env.scope x)(he:PE X e te)(hs:swapsWith e (some (.Name x pos')) pos.line X.env=pure false:=by rfl)(hf:X.fn x=true∨X.env.scope.names.lookup x=some .local:=by first|exact .inl rfl|exact .inr rfl|assumption):
  PS X (.Assign [.Name x pos'] e pos) (Fj te (ig i)):=by
 intro pins s σ H D I h;refine wpAny_Assign_Name (aU (he pins s σ H _ I h) λv s1 ⟨y,H1,I1,r1,q1⟩=>?_) hs;exact CM I1 hN hi hx r1 (λs2 I2=>⟨_,H1,I2,q1⟩) hf
def aoC(i j:Nat)(ta:TA):TS:=λD σ H=>ta σ H λvs H1=>∃v w,vs=[v,w]/\D.nx ((σ.set i (some v)).set j (some w)) H1
def alI{i j:Nat}{x y:Str}{a b:Expr}{ta:TA}{px py pt:Pos}{kt k2 Mh}(hc:X.calm=true)(hN:X.N.Nodup)(hi:X.N[i]?=some x)(hj:X.N[j]?=some y)(hij:i≠j)
  (hx:X.env.scope.names.lookup x=some .local) (hy:X.env.scope.names.lookup y=some .local) (ha:PA X [a,b] ta)
  (hw:swappedStores [.Tuple [.Name x px,.Name y py] kt pt] (.Tuple [a,b] k2 Mh) X.env=pure (some [x,y]))
  (hs:swapsWithSole [.Tuple [.Name x px,.Name y py] kt pt] (.Tuple [a,b] k2 Mh) pos.line X.env=pure false:=by rfl):
  PS X (.Assign [.Tuple [.Name x px,.Name y py] kt pt] (.Tuple [a,b] k2 Mh) pos) (aoC i j ta):=by
 intro pins s σ H D I h;rw[exec_Assign_arm];refine wpAny_bind (wpAny_standAt ?_);rw[hs];refine wpAny_bind (wpAny_pure ?_);rw[if_neg ∅];refine wpAny_bind (Tuple_ (aU (ha _ pins s σ H _ I h) λus s1 ⟨vs,H1,I1,r1,q1⟩=>?_));obtain⟨v,w,e1,q1⟩:=q1;subst e1;obtain⟨u1,u2,rfl,rv,pQ⟩:∃u1 u2,us=[u1,u2]/\RelV v u1/\RelV w u2:=by
  cases r1 with
  |cons p q=>
   cases q with
   |cons p' q'=>
    cases q';exact⟨_,_,rfl,p,p'⟩
 refine wpAny_newObj_type ?_ (by show 2<=sizeLine;decide);have I2:Inv X pins σ H1 { s1 with heap:=s1.heap.push { cls:= .type "tuple",data:= .seq [u1,u2].toArray } }:=I1.kept (t':=s1.toks) λb o e=>Heap.get?_push_of_some _ e;rw[hw];refine wpAny_bind (wpAny_pure ?_);show wpAny (model X.prog X.w) X.A (do rule "assign.swapped-stores";let items<-unpackItems (.ref s1.heap.objs.size) 2 none;assignInOrder [λv=>bindName X.env y v,λv=>bindName X.env x v] items.reverse;pure Flow.next) _ _ _
 refine wpAny_bind (wpAny_rule (wpAny_bind (unpackItems_tuple (items:=#[u1,u2]) (I.ok.hd hc) (IsTup.new s1.heap _) λh' hx'=>?_)));have I3:=I2.kept (h':=h') (t':=s1.toks) λb o e=>hx' b o (fD (cQ e)) e;show wpAny _ _ (assignInOrder [λv=>bindName X.env y v,λv=>bindName X.env x v] [u2,u1]>>=λ_=>pure Flow.next) _ _ _;refine wpAny_bind (assignInOrder_cons (wpAny_bindName (CM I3 hN hj (.inl hy) pQ (λs2 I4=>?_) (.inr hy))));refine assignInOrder_cons (wpAny_bindName (CM I4 hN hi (.inl hx) rv (λs3 I5=>assignInOrder_nil (wpAny_pure ?_)) (.inr hx)));rw[List.set_comm _ _ (nO hij)]at I5;exact⟨_,H1,I5,q1⟩
end
section
variable {X:Cx} {pos:Pos}
def ag5(c:TT)(tb:TS):TS:=λD σ H=>∃W:Nat->St->Hp->Prop,(∃m,W m σ H)/\∀m σ H,W m σ H->
 c σ H λb H1=>if b=true then ∃N:St->Hp->Prop,(∀σ' H',N σ' H'->∃m',m'<m/\W m' σ' H')/\tb { D with nx:=N,ct:=N,bk:=D.nx } σ H1 else D.nx σ H1
def qm{c:Expr}{body:List Stmt}{tc:TT}{tb:TS}(hp:PassesOwn (model X.prog X.w) X.A X.env X.xe)(hc:PT X c tc)(hb:jG X body tb):PS X (.While c body [] pos) (ag5 tc tb):=by
 intro pins s σ H D I h;obtain⟨W,⟨m0,w0⟩,turn⟩:=h;refine wpAny_While (codeAny_whileLoop (λn s'=>∃σ' H',Inv X pins σ' H' s'/\W n σ' H') ?_ m0 ⟨σ,H,I,w0⟩);rintro n s1 ⟨σ1,H1,I1,w1⟩;refine wpAny_passesOwn hp (aU (hc pins s1 σ1 H1 _ I1 (turn n σ1 H1 w1)) λb s2 ⟨H2,I2,q2⟩=>?_);cases b with
 |true=>
  obtain⟨N,hN,q2⟩:=q2;rw[if_pos rfl];refine wpAny_passesOwn hp (aU (hb pins s2 σ1 H2 _ I2 q2) λf s3 q3=>?_);cases f with
  |next=>
   obtain⟨σ3,H3,I3,n3⟩:=q3;obtain⟨m',hm,w3⟩:=hN σ3 H3 n3;exact⟨m',hm,σ3,H3,I3,w3⟩
  |cont=>
   obtain⟨σ3,H3,I3,n3⟩:=q3;obtain⟨m',hm,w3⟩:=hN σ3 H3 n3;exact⟨m',hm,σ3,H3,I3,w3⟩
  |brk=>exact q3
  |ret v=>exact q3
 |false=>
  rw[if_neg fW];exact wpAny_execs_nil ⟨σ1,H2,I2,q2⟩
end
structure It where
 go:Nat->Hp->Prop
 jM:Nat->Hp->V->Hp->Prop
 stop:Nat->Hp->Prop
def rZ(X:Cx)(pins:List (Addr×Obj))(H:Hp)(b:Addr):Prop:=
 H b=none/\b≠X.env.locals/\b∉X.fs/\(b∈X.ex∨X.s₀.heap.objs.size<=b)/\(∀x c,X.env.cells.lookup x=some c->c≠b)/\∀p∈X.pn++pins,p.1≠b
def Inv.sS{X:Cx}{pins:List (Addr×Obj)}{σ:St}{H H':Hp}{s:Shared}{b:Addr}(I:Inv X pins σ H s)(hb:s.heap.objs.size<=b)(hn:H' b=none):rZ X pins H' b:=by
 refine⟨hn,yV (jt I.lt hb),I.ahr hb,.inr (fG I.sz hb),λx c e z=>?_,λp hp z=>?_⟩
 .obtain⟨v,q⟩:=I.cell x c e;exact absurd (jt q.lt (by rw[z];exact hb)) (nT _)
 .exact absurd (jt (cQ (I.pin p hp).1) (by rw[z];exact hb)) (nT _)
structure Turn(P:Program)(w:World)(K:aF)(tg:Expr)(J:It)(fp:List Addr)(it:Addr)(tn:Nat->Heap->Prop):Prop where
 mem:it∈fp
 obj:∀i h,tn i h->∀b∈fp,∃o,h.get? b=some o/\∀v,o.data≠ .cell v
 keep:∀i h h',tn i h->(∀b∈fp,∀o,h.get? b=some o->h'.get? b=some o)->tn i h'
 item:∀(X:Cx),X.prog=P->X.w=w->X.K=K->X.calm=true->∀(i:Nat) (pins:List (Addr×Obj)) (s:Shared) (σ:St) (H:Hp) (E:Value->Shared->Prop),Inv X pins σ H s->(∀b∈fp,rZ X pins H b)->tn i s.heap->J.go i H->
  wpAny (model P w) X.A (pyNext (.ref it)) (λr s1=>∃u,r=some u/\
   wpAny (model P w) X.A (letOwnedTupleGo tg (.ref it) u) (λ_ s2=>∃x H',Inv X pins σ H' s2/\RelV x u/\J.jM i H x H'/\tn (i+1) s2.heap/\∀b∈fp,H' b=none) E s1) E s
 done:∀(X:Cx),X.prog=P->X.w=w->X.K=K->X.calm=true->∀(i:Nat) (pins:List (Addr×Obj)) (s:Shared) (σ:St) (H:Hp) (E:Value->Shared->Prop),Inv X pins σ H s->(∀b∈fp,rZ X pins H b)->tn i s.heap->J.stop i H->
  wpAny (model P w) X.A (pyNext (.ref it)) (λr s1=>r=none/\Inv X pins σ H s1) E s
 self:∀(A:Around) (i:Nat) (s:Shared) (Q:Value->Shared->Prop) (E:Value->Shared->Prop),tn i s.heap->Q (.ref it) s->wpAny (model P w) A (pyIter (.ref it)) Q E s
abbrev TI:=St->Hp->(It->Hp->Prop)->Prop
def TY(X:Cx)(pins:List (Addr×Obj))(σ:St)(tg:Expr)(R:It->Hp->Prop)(itv:Value)(s2:Shared):Prop:=
 ∃(it:Addr) (fp:List Addr) (tn:Nat->Heap->Prop) (J:It) (H':Hp),itv = .ref it/\Inv X pins σ H' s2/\Turn X.prog X.w X.K tg J fp it tn/\tn 0 s2.heap/\(∀b∈fp,rZ X pins H' b)/\R J H'
def PI(X:Cx)(tg iter:Expr)(wi:TI):Prop:=
 ∀(pins:List (Addr×Obj)) (s:Shared) (σ:St) (H:Hp) (R:It->Hp->Prop),Inv X pins σ H s->wi σ H R->
  wpAny (model X.prog X.w) X.A (eval iter X.env) (λv s1=>wpAny (model X.prog X.w) X.A (pyIter v) (TY X pins σ tg R) X.xe s1) X.xe s
def wk{M:Model}{A:Around}{E:Value->Shared->Prop}{s:Shared}{tg:Expr}{it:Addr}{u:Value}{o:Obj}{n:String}{vs:Array Value}{Q:Unit->Shared->Prop}(ho:s.heap.get? it=some o)(hc:o.cls = .type n)(hd:o.data = .fields vs)
  (hn:["enumerate","zip","dict_itemiterator","dict_reverseitemiterator","odict_iterator","itertools.zip_longest","itertools.pairwise"].contains n=false) (hQ:Q () s):wpAny M A (letOwnedTupleGo tg (.ref it) u) Q E s:=by
 unfold letOwnedTupleGo;cases tg<;>first
  |exact wpAny_pure hQ
  |(cases u<;>first
    |exact wpAny_pure hQ
    |(refine wpAny_bind (wpAny_load ho ?_);rw[hc,hd];show wpAny M A (if(["enumerate","zip","dict_itemiterator","dict_reverseitemiterator","odict_iterator","itertools.zip_longest","itertools.pairwise"].contains n&&vs[0]?==some (rawInt _))=true then _ else _) Q E s;rw[if_neg (by intro h;rw[hn,Bool.false_and]at h;cases h)];exact wpAny_pure hQ))
def lV(K:aF)(a:Addr):It:=
 ⟨λi H=>∃xs x,au K H a xs/\xs[i]?=some x,λi H x H'=>H'=H/\∀xs,au K H a xs->xs[i]?=some x,λi H=>∃xs,au K H a xs/\xs.length<=i⟩
def Fi(K:aF)(a:Addr):It:=
 ⟨λi H=>∃xs x,aA K H a xs/\xs[i]?=some x,λi H x H'=>H'=H/\∀xs,aA K H a xs->xs[i]?=some x,λi H=>∃xs,aA K H a xs/\xs.length<=i⟩
def sO(lo:Int)(n:Nat):It:=⟨λi _=>i<n,λi H x H'=>H'=H/\x = .int (lo+i),λi _=>n<=i⟩
def ati{P:Program}{w:World}{K:aF}{tg:Expr}(a it:Addr):Turn P w K tg (lV K a) [it] it (λi h=>h.IsListIter it a i) where
 mem:=by simp
 obj:=λi h st b hb=>by
  have e:b=it:=by simpa using hb
  subst e;obtain⟨o,e,c,d⟩:=st;exact⟨o,e,λv z=>by rw[d]at z;cases z⟩
 keep:=λi h h' st k=>st.at λo e=>k it (by simp) o e
 item:=by
  intro X hP hw hK hc i pins s σ H E I hf st hg;subst hP hw hK;obtain⟨xs,x,hq,hx⟩:=hg;obtain⟨its,rv,p,hz⟩:=I.list hq;obtain⟨u,hu,ru⟩:=rv.get hx;obtain⟨f0,f1,f2,f3,f4,f5⟩:=hf it (by simp);refine wpAny_pyNext_list_item st p.isList (x:=u) (by simpa using hu) λh' st' sb=>?_;have I1:Inv X pins σ H { s with heap:=h' }:=I.turned (t':=s.toks) (λb o hb e=>(sb.2 b hb).trans e) f0 f1 f3 f4 f5;obtain⟨o,e,c,d⟩:=id st';exact⟨u,rfl,wk (s:={ s with heap:=h' }) e c d ∅ ⟨x,H,I1,ru,⟨rfl,λys hy=>by rw[I.WC hy hq];exact hx⟩,st',λb hb=>(hf b hb).1⟩⟩
 done:=by
  intro X hP hw hK hc i pins s σ H E I hf st hg;subst hP hw hK;obtain⟨xs,hq,hx⟩:=hg;obtain⟨its,rv,p,hz⟩:=I.list hq;obtain⟨f0,f1,f2,f3,f4,f5⟩:=hf it (by simp);have hl:=rv.length;exact wpAny_pyNext_list_end (I.ok.hd hc) st p.isList (by simp;omega) λh' eb=>⟨rfl,I.turned (t':=s.toks) (λb o hb e=>eb b o hb e) f0 f1 f3 f4 f5⟩
 self:=λ_ _ _ _ _ st h=>wpAny_pyIter_listiter st h
def awt{P:Program}{w:World}{K:aF}{tg:Expr}(a it:Addr):Turn P w K tg (Fi K a) [it] it (λi h=>h.IsTupleIter it a i) where
 mem:=by simp
 obj:=λi h st b hb=>by
  have e:b=it:=by simpa using hb
  subst e;obtain⟨o,e,c,d⟩:=st;exact⟨o,e,λv z=>by rw[d]at z;cases z⟩
 keep:=λi h h' st k=>st.at λo e=>k it (by simp) o e
 item:=by
  intro X hP hw hK hc i pins s σ H E I hf st hg;subst hP hw hK;obtain⟨xs,x,hq,hx⟩:=hg;obtain⟨its,rv,p,hz⟩:=I.tuple hq;obtain⟨u,hu,ru⟩:=rv.get hx;obtain⟨f0,f1,f2,f3,f4,f5⟩:=hf it (by simp);refine wpAny_pyNext_tuple_item st (show s.heap.IsTuple a its.toArray from p) (x:=u) (by simpa using hu) λh' st' sb=>?_;have I1:Inv X pins σ H { s with heap:=h' }:=I.turned (t':=s.toks) (λb o hb e=>(sb.2 b hb).trans e) f0 f1 f3 f4 f5;obtain⟨o,e,c,d⟩:=id st';exact⟨u,rfl,wk (s:={ s with heap:=h' }) e c d ∅ ⟨x,H,I1,ru,⟨rfl,λys hy=>by rw[I.ZC hy hq];exact hx⟩,st',λb hb=>(hf b hb).1⟩⟩
 done:=by
  intro X hP hw hK hc i pins s σ H E I hf st hg;subst hP hw hK;obtain⟨xs,hq,hx⟩:=hg;obtain⟨its,rv,p,hz⟩:=I.tuple hq;obtain⟨f0,f1,f2,f3,f4,f5⟩:=hf it (by simp);have hl:=rv.length;exact wpAny_pyNext_tuple_end (I.ok.hd hc) st (show s.heap.IsTuple a its.toArray from p) (by simp;omega) λh' eb=>⟨rfl,I.turned (t':=s.toks) (λb o hb e=>eb b o hb e) f0 f1 f3 f4 f5⟩
 self:=λ_ _ _ _ _ st h=>wpAny_pyIter_tupleiter st h
def ahM{P:Program}{w:World}{K:aF}{tg:Expr}(it:Addr)(lo:Int)(n:Nat):Turn P w K tg (sO lo n) [it] it (λi h=>IsRangeIter h it (lo+(i:Nat)*1) ((n:Int)-(i:Nat)) 1) where
 mem:=by simp
 obj:=λi h st b hb=>by
  have e:b=it:=by simpa using hb
  subst e;exact⟨_,st,λv z=>by
   have z':Data.fields _=Data.cell v:=z;cases z'⟩
 keep:=λi h h' st k=>k it (by simp) _ st
 item:=by
  intro X hP hw hK hc i pins s σ H E I hf st hg;subst hP hw hK;obtain⟨f0,f1,f2,f3,f4,f5⟩:=hf it (by simp);have W:=Walks.range (prog:=X.prog) (w:=X.w) (I.ok.hd hc) it lo 1 n;refine W.item i s _ _ hg st λv h' tk hv st' kk=>?_;obtain⟨t,rfl⟩:=hv;have I1:Inv X pins σ H { s with heap:=h',toks:=tk }:=I.turned (λb o hb e=>kk b o (by simpa using hb) e) f0 f1 f3 f4 f5;refine⟨_,rfl,wk (s:={ s with heap:=h',toks:=tk }) (n:= "range_iterator") st' rfl rfl ∅ ⟨.int (lo+i),H,I1,⟨t,?_⟩,⟨rfl,rfl⟩,st',λb hb=>(hf b hb).1⟩⟩;rw[jh]
 done:=by
  intro X hP hw hK hc i pins s σ H E I hf st hg;subst hP hw hK;obtain⟨f0,f1,f2,f3,f4,f5⟩:=hf it (by simp);exact wpAny_pyNext_range_end (I.ok.hd hc) st (by have:n<=i:=hg;omega) λh' eb=>⟨rfl,I.turned (t':=s.toks) (λb o hb e=>eb b o hb e) f0 f1 f3 f4 f5⟩
 self:=λ_ _ _ _ _ st h=>wpAny_pyIter_rangeiter st h
section
variable {X:Cx} {tg:Expr}
def amk(K:aF)(tl:TE):TI:=λσ H R=>tl σ H λx H1=>∃a,x = .ref a/\(∃xs,au K H1 a xs)/\R (lV K a) H1
def ac6{pins:List (Addr×Obj)}{σ:St}{H:Hp}{s:Shared}{R:It->Hp->Prop}{E:Value->Shared->Prop}{lo hi:Int}{t u v:Tok}{tk:Nat}(I:Inv X pins σ H s)(h1:-(2^62)<=lo)(h2:lo<2^62)(h3:-(2^62)<=hi)(h4:hi<2^62)
  (q:R (sO lo (hi-lo).toNat) H):wpAny (model X.prog X.w) X.A (pyIter (.ref s.heap.objs.size)) (TY X pins σ tg R) E { s with heap:=s.heap.push { cls:= .type "range",data:= .fields #[.int lo t,.int hi u,.int 1 v] },toks:=tk }:=by
 refine wpAny_pyIter_range (IsRange.new ..) (small_one h1 h2 h3 h4) ?_;have I1:Inv X pins σ H { s with heap:=s.heap.push { cls:= .type "range",data:= .fields #[.int lo t,.int hi u,.int 1 v] },toks:=tk }:=I.kept λb o e=>Heap.get?_push_of_some _ e;refine⟨(s.heap.push { cls:= .type "range",data:= .fields #[.int lo t,.int hi u,.int 1 v] }).objs.size,[(s.heap.push { cls:= .type "range",data:= .fields #[.int lo t,.int hi u,.int 1 v] }).objs.size],_,_,H,rfl,
  I1.kept (t':=tk) λb o e=>Heap.get?_push_of_some _ e,ahM _ lo (hi-lo).toNat,?_,λb hb=>?_,q⟩
 .have e1:lo+((0:Nat):Int)*1=lo:=by simp
  have e2:(((hi-lo).toNat:Nat):Int)-((0:Nat):Int)=Builtin.Range.rangeSize lo hi 1:=by rw[rangeSize_one];split<;>omega
  show IsRangeIter _ _ (lo+((0:Nat):Int)*1) ((((hi-lo).toNat:Nat):Int)-((0:Nat):Int)) 1;rw[e1,e2];exact Heap.get?_push_size _ rfl
 .have e:b=(s.heap.push { cls:= .type "range",data:= .fields #[.int lo t,.int hi u,.int 1 v] }).objs.size:=by simpa using hb
  subst e;exact I1.sS (aJ _) (I1.hok.fresh (aJ _))
inductive amo(vs:List V)(H:Hp)(R:It->Hp->Prop):Prop|mk (j:Int) (h:vs=[.int j]) (h1:-(2^62)<=j) (h2:j<2^62) (q:R (sO 0 j.toNat) H)
def avr(ta:TA):TI:=λσ H R=>ta σ H λvs H1=>amo vs H1 R
def atV(ta:TA):TI:=λσ H R=>ta σ H λvs H1=>∃i j:Int,vs=[.int i,.int j]/\(-(2^62)<=i/\i<2^62/\-(2^62)<=j/\j<2^62)/\R (sO i (j-i).toNat) H1
def iB{a:Expr}{ta:TA}{p pos:Pos}(hg:Gl X "range")(hm:X.mg "range" = none)(ha:PA X [a] ta)(hs:starEach [a] X.env=[(false,eval a X.env)]:=by rfl):PI X tg (.Call (.Name "range" p) [a] [] pos) (avr ta):=by
 intro pins s σ H R I h;refine Call_ (oE I hg hm boot_range (rY (aU (ha pos pins s σ H _ I h) λus s1 ⟨vs,H1,I1,r1,q1⟩=>?_) hs rfl));obtain⟨j,e,q1,q2,q⟩:=q1;subst e;cases r1 with
 |cons r rr=>
  cases rr;obtain⟨t,rfl⟩:=r;exact call_range_1 (ac6 I1 ⋯ ⋯ q1 q2 (by simpa using q))
def Yc{a b:Expr}{ta:TA}{p pos:Pos}(hg:Gl X "range")(hm:X.mg "range" = none)(ha:PA X [a,b] ta)(hs:starEach [a,b] X.env=[(false,eval a X.env),(false,eval b X.env)]:=by rfl)(hs2:starEach [b] X.env=[(false,eval b X.env)]:=by rfl):
  PI X tg (.Call (.Name "range" p) [a,b] [] pos) (atV ta):=by
 intro pins s σ H R I h;refine Call_ (oE I hg hm boot_range (rY (aU (ha pos pins s σ H _ I h) λus s1 ⟨vs,H1,I1,r1,q1⟩=>?_) (by rw[hs,hs2]) (by rw[hs2];rfl)));obtain⟨i,j,e,⟨q1,q2,q3,q4⟩,q⟩:=q1;subst e;cases r1 with
 |cons r rr=>
  cases rr with
  |cons r' rr=>
   cases rr;obtain⟨t,rfl⟩:=r;obtain⟨t',rfl⟩:=r';exact call_range_2 (ac6 I1 q1 q2 q3 q4 q)
def al9(wi:TI)(g:TG)(tb:TS):TS:=λD σ H=>wi σ H λJ H1=>∃W:Nat->Nat->St->Hp->Prop,(∃m,W 0 m σ H1)/\∀i m σ H,W i m σ H->
 (J.stop i H/\D.nx σ H)∨(J.go i H/\∃N:St->Hp->Prop,(∀σ' H',N σ' H'->∃m',m'<m/\W (i+1) m' σ' H')/\∀x H',J.jM i H x H'->g x σ H' λσ2 H2=>tb { D with nx:=N,ct:=N,bk:=D.nx } σ2 H2)
def Em(fp:List Addr)(h:Heap):List (Addr×Obj):=fp.filterMap λb=>(h.get? b).map λo=>(b,o)
def Dh{fp:List Addr}{h:Heap}{b:Addr}{o:Obj}(hb:b∈fp)(e:h.get? b=some o):(b,o)∈Em fp h:=Pz.mpr ⟨b,hb,by rw[e];rfl⟩
def avs{fp:List Addr}{h:Heap}{p:Addr×Obj}(hp:p∈Em fp h):p.1∈fp/\h.get? p.1=some p.2:=by
 obtain⟨b,hb,e⟩:=Pz.mp hp;cases q:h.get? b with
 |none=>rw[q]at e;cases e
 |some o=>
  rw[q]at e;have e':(b,o)=p:=pF e;subst e';exact⟨hb,q⟩
def Inv.pinned{pins:List (Addr×Obj)}{σ:St}{H:Hp}{s:Shared}{fp:List Addr}(I:Inv X pins σ H s)(hf:∀b∈fp,rZ X pins H b)(ho:∀b∈fp,∃o,s.heap.get? b=some o/\∀v,o.data≠ .cell v):Inv X (pins++Em fp s.heap) σ H s:=
 I.aeO λp hp=>(fM.mp hp).elim (λz=>I.pin p (pq _ z)) λz=>by
  obtain⟨hb,e⟩:=avs z;obtain⟨f0,f1,f2,_⟩:=hf p.1 hb;obtain⟨o,e',d⟩:=ho p.1 hb;rw[e]at e';cases e';exact⟨e,f0,f1,f2,d⟩
def Inv.BR{pins pl:List (Addr×Obj)}{σ:St}{H:Hp}{s:Shared}(I:Inv X (pins++pl) σ H s):Inv X pins σ H s:=I.aeO λp hp=>I.pin p (pq _ (Xj _ hp))
def fY{iter:Expr}{body:List Stmt}{wi:TI}{g:TG}{tb:TS}{pos:Pos}(hp:PassesOwn (model X.prog X.w) X.A X.env X.xe)(hc:X.calm=true)(hi:PI X tg iter wi)(hg:PG X tg g)(hb:jG X body tb)
  (hs:∀x,foldedSetIterable iter X.env x=pure x:=by intro _;rfl):PS X (.For tg iter body [] pos) (al9 wi g tb):=by
 intro pins s σ H D I h;refine wpAny_For (aU (hi pins s σ H _ I h) λv s1 h1=>aU h1 λitv s2 h2=>?_) hs;obtain⟨it,fp,tn,J,H2,e,I2,T,st2,f2,W,⟨m0,w0⟩,turn⟩:=h2;subst e;have stat:∀{H':Hp},(∀b∈fp,H' b=none)->∀b∈fp,rZ X pins H' b:=λhn b hb=>⟨hn b hb,(f2 b hb).2⟩;refine codeAny_forLoop_any (λn s'=>∃i σ' H',Inv X pins σ' H' s'/\tn i s'.heap/\(∀b∈fp,H' b=none)/\W i n σ' H') ?_ m0 ⟨0,σ,H2,I2,st2,λb hb=>(f2 b hb).1,w0⟩;rintro n s3 ⟨i,σ3,H3,I3,st3,fr3,w3⟩;rcases turn i n σ3 H3 w3 with⟨stop,qn⟩|⟨go,N,hN,step⟩
 .refine wpAny_passesOwn hp (aU (T.done X rfl rfl rfl hc i pins s3 σ3 H3 X.xe I3 (stat fr3) st3 stop) λr s4 ⟨hr,I4⟩=>?_);subst hr;exact wpAny_execs_nil ⟨σ3,H3,I4,qn⟩
 .refine wpAny_passesOwn hp (aU (T.item X rfl rfl rfl hc i pins s3 σ3 H3 X.xe I3 (stat fr3) st3 go) λr s4 ⟨u,hr,h4⟩=>?_);subst hr;refine wpAny_passesOwn hp (aU h4 λ_ s5 ⟨x,H5,I5,r5,y5,Bf,Kl⟩=>?_);have I5':=I5.pinned (stat Kl) (T.obj _ _ Bf);refine wpAny_passesOwn hp (aU (hg _ s5 σ3 H5 x u _ I5' r5 (step x H5 y5)) λ_ s6 ⟨σ6,H6,I6,q6⟩=>?_);refine wpAny_passesOwn hp (aU (hb _ s6 σ6 H6 _ I6 q6) λf s7 q7=>?_);have again:∀{σ7:St} {H7:Hp},Inv X (pins++Em fp s5.heap) σ7 H7 s7->N σ7 H7->∃m,m<n/\∃i σ' H',Inv X pins σ' H' s7/\tn i s7.heap/\(∀b∈fp,H' b=none)/\W i m σ' H':=λ{σ7 H7} I7 n7=>by
   obtain⟨m',hm,w7⟩:=hN σ7 H7 n7;refine⟨m',hm,i+1,σ7,H7,I7.BR,T.keep _ _ _ Bf λb hb o e=>(I7.pin (b,o) (pq _ (pq _ (Dh hb e)))).1,λb hb=>?_,w7⟩;obtain⟨o,e,d⟩:=T.obj _ _ Bf b hb;exact(I7.pin (b,o) (pq _ (pq _ (Dh hb e)))).2.1
  cases f with
  |next=>obtain⟨σ7,H7,I7,n7⟩:=q7;exact again I7 n7
  |cont=>obtain⟨σ7,H7,I7,n7⟩:=q7;exact again I7 n7
  |brk=>obtain⟨σ7,H7,I7,q7⟩:=q7;exact⟨σ7,H7,I7.BR,q7⟩
  |ret v=>obtain⟨x7,σ7,H7,I7,r7,q7⟩:=q7;exact⟨x7,σ7,H7,I7.BR,r7,q7⟩
end
def jH{lo:Int}{n:Nat}{g:TG}{tb:TS}{D:Ends}{σ:St}{H:Hp}(Pv:Nat->St->Hp->Prop)(h0:Pv 0 σ H)
  (hs:∀i σ H,i<n->Pv i σ H->g (.int (lo+i)) σ H λσ2 H2=>tb { D with nx:=Pv (i+1),ct:=Pv (i+1),bk:=D.nx } σ2 H2) (hd:∀σ H,Pv n σ H->D.nx σ H):
  ∃W:Nat->Nat->St->Hp->Prop,(∃m,W 0 m σ H)/\∀i m σ H,W i m σ H->
   ((sO lo n).stop i H/\D.nx σ H)∨((sO lo n).go i H/\∃N:St->Hp->Prop,(∀σ' H',N σ' H'->∃m',m'<m/\W (i+1) m' σ' H')/\∀x H',(sO lo n).jM i H x H'->g x σ H' λσ2 H2=>tb { D with nx:=N,ct:=N,bk:=D.nx } σ2 H2):=by
 refine⟨λi m σ H=>m=n-i/\i<=n/\Pv i σ H,⟨n,by simp,cj _,h0⟩,?_⟩;rintro i m σ H ⟨rfl,hi,p⟩;by_cases hlt:i<n
 .refine .inr ⟨hlt,Pv (i+1),λσ' H' p'=>⟨n-(i+1),⋯,rfl,hlt,p'⟩,λx H' y=>?_⟩;obtain⟨e,y⟩:=y;subst e y;exact hs i σ _ hlt p
 .have e:i=n:=⋯;subst e;exact .inl ⟨aJ _,hd σ H p⟩
abbrev R2:=V->V->Hp->VK->Prop
def cV(X:Cx)(f:Value->Value->Sem Value)(r:R2):Prop:=
 ∀(pins:List (Addr×Obj)) (s:Shared) (σ:St) (H:Hp) (x y:V) (v u:Value) (Q:VK),Inv X pins σ H s->RelV x v->RelV y u->r x y H Q->
  wpAny (model X.prog X.w) X.A (f v u) (EP X pins σ Q) X.xe s
def Ti(X:Cx)(f:Value->Sem Value)(r:V->Hp->VK->Prop):Prop:=
 ∀(pins:List (Addr×Obj)) (s:Shared) (σ:St) (H:Hp) (x:V) (v:Value) (Q:VK),Inv X pins σ H s->RelV x v->r x H Q->
  wpAny (model X.prog X.w) X.A (f v) (EP X pins σ Q) X.xe s
def kO(X:Cx)(f:Value)(r:List V->Hp->VK->Prop):Prop:=
 ∀(pins:List (Addr×Obj)) (s:Shared) (σ:St) (H:Hp) (xs:List V) (us:List Value) (Q:VK),Inv X pins σ H s->Vals xs us->r xs H Q->
  wpAny (model X.prog X.w) X.A (call f us) (EP X pins σ Q) X.xe s
def vO(r:R2)(ta tb:TE):TE:=λσ H Q=>ta σ H λx H1=>tb σ H1 λy H2=>r x y H2 Q
def tUn(r:V->Hp->VK->Prop)(ta:TE):TE:=λσ H Q=>ta σ H λx H1=>r x H1 Q
inductive SII(C:Int->Int->Prop)(g:Int->Int->V)(x y:V)(H:Hp)(Q:VK):Prop|mk (i j:Int) (hx:x = .int i) (hy:y = .int j) (c:C i j) (q:Q (g i j) H)
def rI(C:Int->Int->Prop)(g:Int->Int->V):R2:=λx y H Q=>SII C g x y H Q
inductive SI0(g:Int->Int->V)(x y:V)(H:Hp)(Q:VK):Prop|mk (i j:Int) (hx:x = .int i) (hy:y = .int j) (q:Q (g i j) H)
def uz(g:Int->Int->V):R2:=λx y H Q=>SI0 g x y H Q
inductive SU(g:Int->V)(x:V)(H:Hp)(Q:VK):Prop|mk (i:Int) (hx:x = .int i) (q:Q (g i) H)
def rU(g:Int->V):V->Hp->VK->Prop:=λx H Q=>SU g x H Q
section
variable {X:Cx} {a b c:Expr} {ta tb tc:TE} {pos:Pos}
def Mi(ha:PE X a ta)(hb:PE X b tb){pins:List (Addr×Obj)}{s:Shared}{σ:St}{H:Hp}{R:V->V->Hp->Prop}(I:Inv X pins σ H s)
  (h:ta σ H λx H1=>tb σ H1 λy H2=>R x y H2) {Q:Value->Shared->Prop} {f:Value->Value->Sem Value}
  (hf:∀v u s2 x y H2,Inv X pins σ H2 s2->RelV x v->RelV y u->R x y H2->wpAny (model X.prog X.w) X.A (f v u) Q X.xe s2):
  wpAny (model X.prog X.w) X.A (eval a X.env) (λv s₁=>wpAny (model X.prog X.w) X.A (eval b X.env) (λu s₂=>wpAny (model X.prog X.w) X.A (f v u) Q X.xe s₂) X.xe s₁) X.xe s:=by
 refine aU (ha pins s σ H _ I h) λv s1 ⟨x,H1,I1,r1,q1⟩=>?_;refine aU (hb pins s1 σ H1 _ I1 q1) λu s2 ⟨y,H2,I2,r2,q2⟩=>?_;exact hf v u s2 x y H2 I2 r1 r2 q2
def aH{op:Operator}{r:R2}(ho:cV X (binaryOp op) r)(ha:PE X a ta)(hb:PE X b tb):PE X (.BinOp a op b pos) (vO r ta tb):=by
 intro pins s σ H Q I h;exact wpAny_BinOp (Mi ha hb I h λv u s2 x y H2 I2 rx ry q=>ho pins s2 σ H2 x y v u Q I2 rx ry q)
def tK{op:UnaryOp}{r:V->Hp->VK->Prop}(ho:Ti X (unaryOp op) r)(ha:PE X a ta):PE X (.UnaryOp op a pos) (tUn r ta):=by
 intro pins s σ H Q I h;exact UnaryOp_ (aU (ha pins s σ H _ I h) λv s1 ⟨x,H1,I1,r1,q1⟩=>ho pins s1 σ H1 x v Q I1 r1 q1)
def CT{f:Value->Value->Sem Value}{C:Int->Int->Prop}{g:Int->Int->Int}
  (rule:∀(i j:Int) (t u:Tok) (s:Shared) (Q:Value->Shared->Prop) (E:Value->Shared->Prop),C i j->Q (.int (g i j) s.toks) { s with toks:=s.toks+1 }->wpAny (model X.prog X.w) X.A (f (.int i t) (.int j u)) Q E s):
  cV X f (rI C λi j=> .int (g i j)):=by
 intro pins s σ H x y v u Q I rx ry h;obtain⟨i,j,rfl,rfl,hc,q⟩:=h;obtain⟨t,rfl⟩:=rx;obtain⟨t',rfl⟩:=ry;exact rule i j t t' s _ _ hc ⟨.int (g i j),H,I.tok _,⟨_,rfl⟩,q⟩
def adu{f:Value->Value->Sem Value}{g:Int->Int->Int}
  (rule:∀(i j:Int) (t u:Tok) (s:Shared) (Q:Value->Shared->Prop) (E:Value->Shared->Prop),Q (.int (g i j) s.toks) { s with toks:=s.toks+1 }->wpAny (model X.prog X.w) X.A (f (.int i t) (.int j u)) Q E s):
  cV X f (uz λi j=> .int (g i j)):=by
 intro pins s σ H x y v u Q I rx ry h;obtain⟨i,j,rfl,rfl,q⟩:=h;obtain⟨t,rfl⟩:=rx;obtain⟨t',rfl⟩:=ry;exact rule i j t t' s _ _ ⟨.int (g i j),H,I.tok _,⟨_,rfl⟩,q⟩
def Ir{f:Value->Value->Sem Value}{g:Int->Int->Bool}
  (rule:∀(i j:Int) (t u:Tok) (s:Shared) (Q:Value->Shared->Prop) (E:Value->Shared->Prop),Q (.bool (g i j)) s->wpAny (model X.prog X.w) X.A (f (.int i t) (.int j u)) Q E s):
  cV X f (uz λi j=> .bl (g i j)):=by
 intro pins s σ H x y v u Q I rx ry h;obtain⟨i,j,rfl,rfl,q⟩:=h;obtain⟨t,rfl⟩:=rx;obtain⟨t',rfl⟩:=ry;exact rule i j t t' s _ _ ⟨.bl (g i j),H,I,rfl,q⟩
def ajH(i j:Int):Prop:=0<j/\j<1073741824
def aqy(i j:Int):Prop:=0<=j/\j<=1000000/\i.natAbs<2^64
def auq:cV X (binaryOp .Add) (uz λi j=> .int (i+j)):=adu λ_ _ _ _ _ _ _ q=>add_int q
def cZ:cV X (binaryOp .Sub) (uz λi j=> .int (i-j)):=adu λ_ _ _ _ _ _ _ q=>sub_int q
def xP:cV X (binaryOp .FloorDiv) (rI ajH λi j=> .int (i/j)):=CT λi j _ _ _ _ _ hc q=>by
 have h1:(0:Int)<j:=hc.1;have h2:j<1073741824:=hc.2;exact floordiv_int ⋯ (by rw[Int.fdiv_eq_ediv_of_nonneg i ⋯];exact q) (.inl (acM ⋯))
def gK:cV X (binaryOp .Mod) (rI (λ_ j=>0<j) λi j=> .int (i%j)):=CT λi j _ _ _ _ _ hc q=>by
 have h1:(0:Int)<j:=hc;exact mod_int' ⋯ (by rw[Int.fmod_eq_emod_of_nonneg i ⋯];exact q)
def U8:cV X (binaryOp .Pow) (rI aqy λi j=> .int (i^j.toNat)):=CT λ_ _ _ _ _ _ _ hc q=>pow_int_small hc.1 hc.2.1 hc.2.2 q
def unI{f:Value->Sem Value}{g:Int->Int}
  (rule:∀(i:Int) (t:Tok) (s:Shared) (Q:Value->Shared->Prop) (E:Value->Shared->Prop),Q (.int (g i) s.toks) { s with toks:=s.toks+1 }->wpAny (model X.prog X.w) X.A (f (.int i t)) Q E s):
  Ti X f (rU λi=> .int (g i)):=by
 intro pins s σ H x v Q I rx h;obtain⟨i,rfl,q⟩:=h;obtain⟨t,rfl⟩:=rx;exact rule i t s _ _ ⟨.int (g i),H,I.tok _,⟨_,rfl⟩,q⟩
def tG:Ti X (unaryOp .USub) (rU λi=> .int (-i)):=unI λ_ _ _ _ _ q=>neg_int q
end
def KP:V->V->Bool
 |.non,.non=>true | .non,.int _=>true | .int _,.non=>true | .non,.bl _=>true | .bl _,.non=>true | .non,.str _=>true | .str _,.non=>true
 |.int _,.int _=>true | .bl _,.bl _=>true | .str _,.str _=>true | .mV _,.mV _=>true
 |.int _,.str _=>true | .str _,.int _=>true | .bl _,.str _=>true | .str _,.bl _=>true
 |_,_=>false
def rEq:R2:=λx y H Q=>KP x y=true/\Q (.bl (decide (x=y))) H
def rNe:R2:=λx y H Q=>KP x y=true/\Q (.bl (!decide (x=y))) H
def Yu{i j:Int}:decide (V.int i=V.int j)=(i==j):=by
 rw[Bx];simp
def ac1{i j:Bool}:decide (V.bl i=V.bl j)=(i==j):=by
 rw[Bx];simp
def aeW{i j:Str}:decide (V.str i=V.str j)=(i==j):=by
 rw[Bx];simp
def Wh{i j:Array UInt8}:decide (V.mV i=V.mV j)=(i.toList==j.toList):=by
 rw[Bx];cases i;cases j;simp
section
variable {X:Cx} {a b c:Expr} {ta tb tc:TE} {pos:Pos}
def fJ{pins:List (Addr×Obj)}{σ:St}{H:Hp}{s:Shared}{Q:VK}{k k':Bool}(I:Inv X pins σ H s)(q:Q (.bl k) H)(e:k=k'):EP X pins σ Q (.bool k') s:=by
 subst e;exact⟨.bl k,H,I,rfl,q⟩
def aqz:cV X (compareOp .Eq) rEq:=by
 intro pins s σ H x y v u Q I rx ry h;obtain⟨hs,q⟩:=h;cases x with
 |non=>
  cases rx;cases y with
  |non=>cases ry;exact agR (fJ I q (by simp))
  |bl j=>cases ry;exact akV (fJ I q (by simp))
  |int j=>obtain⟨t',rfl⟩:=ry;exact aj9 (fJ I q (by simp))
  |str j=>obtain⟨t',rfl⟩:=ry;exact apZ (fJ I q (by simp))
  |_=>exact absurd (show false=true from hs) fW
 |bl i=>
  cases rx;cases y with
  |non=>cases ry;exact avn (fJ I q (by simp))
  |bl j=>cases ry;exact eq_bool (fJ I q ac1)
  |str j=>obtain⟨t',rfl⟩:=ry;exact aqQ (fJ I q (by simp))
  |_=>exact absurd (show false=true from hs) fW
 |int i=>
  obtain⟨t,rfl⟩:=rx;cases y with
  |non=>cases ry;exact ak5 (fJ I q (by simp))
  |int j=>obtain⟨t',rfl⟩:=ry;exact eq_int (fJ I q Yu)
  |str j=>obtain⟨t',rfl⟩:=ry;exact aje (fJ I q (by simp))
  |_=>exact absurd (show false=true from hs) fW
 |str i=>
  obtain⟨t,rfl⟩:=rx;cases y with
  |non=>cases ry;exact ana (fJ I q (by simp))
  |bl j=>cases ry;exact agh (fJ I q (by simp))
  |int j=>obtain⟨t',rfl⟩:=ry;exact aqh (fJ I q (by simp))
  |str j=>obtain⟨t',rfl⟩:=ry;exact eq_str (fJ I q aeW)
  |_=>exact absurd (show false=true from hs) fW
 |mV i=>
  obtain⟨t,rfl⟩:=rx;cases y with
  |mV j=>obtain⟨t',rfl⟩:=ry;exact W.eq_bytes (fJ I q Wh)
  |_=>exact absurd (show false=true from hs) fW
 |_=>cases y<;>exact absurd (show false=true from hs) fW
def asZ:cV X (compareOp .NotEq) rNe:=by
 intro pins s σ H x y v u Q I rx ry h;obtain⟨hs,q⟩:=h;cases x with
 |non=>
  cases rx;cases y with
  |non=>cases ry;exact ajG (fJ I q (by simp))
  |bl j=>cases ry;exact ajO (fJ I q (by simp))
  |int j=>obtain⟨t',rfl⟩:=ry;exact ajP (fJ I q (by simp))
  |str j=>obtain⟨t',rfl⟩:=ry;exact ahd (fJ I q (by simp))
  |_=>exact absurd (show false=true from hs) fW
 |bl i=>
  cases rx;cases y with
  |non=>cases ry;exact agO (fJ I q (by simp))
  |bl j=>cases ry;exact ne_bool (fJ I q (congrArg not ac1))
  |str j=>obtain⟨t',rfl⟩:=ry;exact amw (fJ I q (by simp))
  |_=>exact absurd (show false=true from hs) fW
 |int i=>
  obtain⟨t,rfl⟩:=rx;cases y with
  |non=>cases ry;exact ahP (fJ I q (by simp))
  |int j=>obtain⟨t',rfl⟩:=ry;exact ne_int (fJ I q (congrArg not Yu))
  |str j=>obtain⟨t',rfl⟩:=ry;exact amD (fJ I q (by simp))
  |_=>exact absurd (show false=true from hs) fW
 |str i=>
  obtain⟨t,rfl⟩:=rx;cases y with
  |non=>cases ry;exact ale (fJ I q (by simp))
  |bl j=>cases ry;exact axi (fJ I q (by simp))
  |int j=>obtain⟨t',rfl⟩:=ry;exact anC (fJ I q (by simp))
  |str j=>obtain⟨t',rfl⟩:=ry;exact ne_str (fJ I q (congrArg not aeW))
  |_=>exact absurd (show false=true from hs) fW
 |mV i=>
  obtain⟨t,rfl⟩:=rx;cases y with
  |mV j=>obtain⟨t',rfl⟩:=ry;exact W.ne_bytes (fJ I q (congrArg not Wh))
  |_=>exact absurd (show false=true from hs) fW
 |_=>cases y<;>exact absurd (show false=true from hs) fW
def AK:cV X (compareOp .Lt) (uz λi j=> .bl (decide (i<j))):=Ir λ_ _ _ _ _ _ _ q=>lt_int q
def Lg:cV X (compareOp .LtE) (uz λi j=> .bl (decide (i<=j))):=Ir λ_ _ _ _ _ _ _ q=>le_int q
def qg:cV X (compareOp .Gt) (uz λi j=> .bl (decide (j<i))):=Ir λ_ _ _ _ _ _ _ q=>gt_int q
def ard:cV X (compareOp .GtE) (uz λi j=> .bl (decide (j<=i))):=Ir λ_ _ _ _ _ _ _ q=>ge_int q
def cV.or{f:Value->Value->Sem Value}{r r':R2}(h:cV X f r)(h':cV X f r'):cV X f (λx y H Q=>r x y H Q∨r' x y H Q):=by
 intro pins s σ H x y v u Q I rx ry q;rcases q with q|q
 .exact h pins s σ H x y v u Q I rx ry q
 .exact h' pins s σ H x y v u Q I rx ry q
def sH(b:Expr){op:CmpOp}(h:op≠ .In:=by decide)(h2:op≠ .NotIn:=by decide):behindInMarks op b=false:=by
 have e1:(op==CmpOp.In)=false:=by cases op<;>first|rfl|exact absurd rfl h
 have e2:(op==CmpOp.NotIn)=false:=by cases op<;>first|rfl|exact absurd rfl h2
 cases b<;>simp[behindInMarks,e1,e2]
def tM{op:CmpOp}{r:R2}(ho:cV X (compareOp op) r)(ha:PE X a ta)(hb:PE X b tb)(hm:behindInMarks op b=false):PE X (.Compare a [op] [b] pos) (vO r ta tb):=by
 intro pins s σ H Q I h;exact wpAny_Compare1 (Mi ha hb I h λv u s2 x y H2 I2 rx ry q=>ho pins s2 σ H2 x y v u Q I2 rx ry q) hm
inductive akq(x:V)(H:Hp)(Q:Bool->Hp->Prop):Prop|mk (k:Bool) (hx:x = .bl k) (q:Q k H)
def abE(t:TE):TT:=λσ H Q=>t σ H λx H'=>akq x H' Q
def avx{op:CmpOp}{r:R2}(ho:cV X (compareOp op) r)(ha:PE X a ta)(hb:PE X b tb)(hm:behindInMarks op b=false):PT X (.Compare a [op] [b] pos) (abE (vO r ta tb)):=by
 intro pins s σ H Q I h;refine wpAny_isTrue_Compare1 (aU (ha pins s σ H _ I h) λv s1 ⟨x,H1,I1,r1,q1⟩=>aU (hb pins s1 σ H1 _ I1 q1) λu s2 ⟨y,H2,I2,r2,q2⟩=>
  aU (ho pins s2 σ H2 x y v u _ I2 r1 r2 q2) λc s3 ⟨z,H3,I3,r3,k,e,q3⟩=>?_) hm
 subst e;cases r3;exact wpAny_truthy_bool ⟨H3,I3,q3⟩
def axK{κ:Type}{kvs:List (κ×V)}{vs:List (κ×Value)}(r:KV kvs vs):(!vs.isEmpty)=!kvs.isEmpty:=by
 cases r<;>rfl
def ax0{xs:List V}{its:List Value}(r:Vals xs its):(!its.toArray.isEmpty)=!xs.isEmpty:=by
 cases r<;>simp
def Cz:(sizeLine:Nat)<2^63:=by rw[sizeLine_eq];decide
def agg:cV X (binaryOp .Add) (λx y H Q=>∃i j,x = .str i/\y = .str j/\i.length+j.length<=sizeLine/\Q (.str (i++j)) H):=by
 intro pins s σ H x y v u Q I rx ry h;obtain⟨i,j,rfl,rfl,hz,q⟩:=h;obtain⟨t,rfl⟩:=rx;obtain⟨t',rfl⟩:=ry;exact add_str (λt' tk=>⟨.str (i++j),H,I.tok _,⟨_,rfl⟩,q⟩) hz
def vals1{x:V}{us:List Value}(r:Vals [x] us):∃u,us=[u]/\RelV x u:=by
 cases r with
 |cons r1 r2=>cases r2;exact⟨_,rfl,r1⟩
def vals2{x y:V}{us:List Value}(r:Vals [x,y] us):∃u w',us=[u,w']/\RelV x u/\RelV y w':=by
 cases r with
 |cons r1 r2=>
  cases r2 with
  |cons r3 r4=>cases r4;exact⟨_,_,rfl,r1,r3⟩
def wz:kO X (.builtin "abs") (λxs H Q=>∃i,xs=[.int i]/\Q (.int (if i<0 then -i else i)) H):=by
 intro pins s σ H xs us Q I r h;obtain⟨i,rfl,q⟩:=h;obtain⟨u,rfl,t,rfl⟩:=vals1 r;exact call_abs_int λu tk=>⟨.int (if i<0 then -i else i),H,I.tok _,⟨_,rfl⟩,q⟩
def ajD(hc:X.calm=true):kO X (.builtin "max") (λxs H Q=>∃i j,xs=[.int i,.int j]/\Q (.int (if j>i then j else i)) H):=by
 intro pins s σ H xs us Q I r h;obtain⟨i,j,rfl,q⟩:=h;obtain⟨u,w',rfl,⟨t,rfl⟩,⟨t',rfl⟩⟩:=vals2 r;refine max_two_ints (I.ok.hd hc) λh' tk k=>⟨_,H,I.kept k,?_,q⟩;by_cases hj:j>i
 .rw[if_pos hj,if_pos hj];exact⟨_,rfl⟩
 .rw[if_neg hj,if_neg hj];exact⟨_,rfl⟩
def Rv(K:aF)(x:V)(H:Hp)(n:Nat):Prop:=
 match x with
 |.str y=>y.length<=sizeLine/\n=y.length
 |.mV y=>y.size<=sizeLine/\n=y.size
 |.ref p=>(∃xs,au K H p xs/\n=xs.length)∨∃xs,aA K H p xs/\n=xs.length
 |_=>False
def awo:kO X (.builtin "len") (λxs H Q=>∃x n,xs=[x]/\Rv X.K x H n/\Q (.int n) H):=by
 intro pins s σ H xs us Q I r h;obtain⟨x,n,rfl,e,q⟩:=h;obtain⟨u,rfl,rx⟩:=vals1 r;have hl:=Cz;have hs:sizeLine=16777216:=sizeLine_eq;cases x with
 |str y=>
  obtain⟨t,rfl⟩:=rx;obtain⟨hy,e'⟩:y.length<=sizeLine/\n=y.length:=e;subst e';exact len_str ⋯ ⟨.int _,H,I.tok _,⟨_,rfl⟩,q⟩
 |mV y=>
  obtain⟨t,rfl⟩:=rx;obtain⟨hy,e'⟩:y.size<=sizeLine/\n=y.size:=e;subst e';exact W.len_bytes ⋯ ⟨.int _,H,I.tok _,⟨_,rfl⟩,q⟩
 |ref p=>
  cases rx;have e':(∃xs,au X.K H p xs/\n=xs.length)∨∃xs,aA X.K H p xs/\n=xs.length:=e;rcases e' with⟨xs,hx,e'⟩|⟨xs,hx,e'⟩
  .subst e';obtain⟨its,r',pl,hz⟩:=I.list hx;have hlen:=r'.length;exact Calls.call_len_list pl.isList (by simp only[fj];omega) ⟨.int xs.length,H,I.tok _,⟨_,by simp only[fj];rw[hlen]⟩,q⟩
  .subst e';obtain⟨its,r',pl,hz⟩:=I.tuple hx;have hlen:=r'.length;exact len_tuple pl (by simp only[fj];omega) ⟨.int xs.length,H,I.tok _,⟨_,by simp only[fj];rw[hlen]⟩,q⟩
 |_=>exact(show False from e).elim
end
structure KZ(h:Heap)(x dx C:Addr)(mA:Str->Option Value):Prop where
 obj:h.get? x=some (Sh C dx)
 ns:h.Ns1 dx mA
 ne:dx≠x
def amy{h:Heap}{dx:Addr}{mA:Str->Option Value}(n:h.Ns1 dx mA):∃od,h.get? dx=some od/\∀name,W.lookIn name od=some (mA name):=by
 obtain⟨o,es,ep,ho,hd,hk,_,hm⟩:=n;refine⟨o,ho,λname=>?_⟩;have e:=hm name;unfold nsFind findBy at e;rw[<-Array.find?_toList]at e;unfold W.lookIn;rw[hd];dsimp only;split
 .rename_i y q
  rw[q]at e;exact congrArg some e
 .rename_i q
  rw[q]at e;have a:es.toList.any (·.refKey)=false:=by
   rw[ZW];intro y hy;obtain⟨z,t,hkey⟩:=hk y (Array.mem_toList_iff.mp hy);simp[DictEntry.refKey,hkey]
  have a':¬es.toList.any (·.refKey)=true:=by rw[a];exact fW
  rw[if_neg a'];exact congrArg some e
def KZ.look{h:Heap}{x dx C:Addr}{mA:Str->Option Value}(I:KZ h x dx C mA):∃od,W.InstAt h x (Sh C dx) C (some od)/\∀name,W.lookIn name od=some (mA name):=
 let⟨od,ho,hl⟩:=amy I.ns
 ⟨od,⟨I.obj,rfl,rfl,ho⟩,hl⟩
section
variable {prog:Program} {w:World} {A:Around} {E:Value->Shared->Prop} {s:Shared} {K:aF} {x dx C f:Addr} {mA:Str->Option Value} {name:Str} {v:Value}
end
def lX.some_of{v:V}{o:Option Value}(r:lX (some v) o):∃u,o=some u/\RelV v u:=by
 cases o with
 |none=>exact(show False from r).elim
 |some u=>exact⟨u,rfl,r⟩
def lX.none_of{o:Option Value}(r:lX none o):o=none:=by
 cases o with
 |none=>rfl
 |some u=>exact(show False from r).elim
section
variable {P:Program} {w:World} {H H':Hp} {h h':Heap} {a C dx:Addr} {fs fs':List (Str×V)}
def amn(hok:eZ P w H h)(e:H a=some (.ins C dx fs)):∃mA,KZ h a dx C mA/\(∀f,lX (fs.lookup f) (mA f))/\Xc mA (fs.map (·.1))/\fs.length<=1000/\H dx=some (.own a):=by
 obtain⟨d,z,ne,ob,mA,n,r,q⟩:=(show dB P w H h a (.ins C dx fs)from hok a _ e);exact⟨mA,⟨ob,n,ne⟩,r,q,z,d⟩
end
structure Cls(K:aF)(C:Addr):Prop where
 pg:W.plainGet K C Str.empty=true
 hd:W.hasDictIn K C=true
 po:W.plainOver K C=true
 sa:qM K (.ref C) "__setattr__" = some (some (.builtin "object.__setattr__"))
def Cls.get{K:aF}{C:Addr}(c:Cls K C)(f:Str):W.plainGet K C f=true:=c.pg
section
variable {X:Cx} {pins:List (Addr×Obj)} {σ:St} {H:Hp} {s:Shared} {a C dx:Addr} {fs:List (Str×V)} {f:Str} {v:V} {A:Around} {E:Value->Shared->Prop}
end
section
variable {X:Cx} {o e value:Expr} {f:Str} {pos pos' tpos:Pos} {ta tv:TE}
end
section
variable {X:Cx} {pins:List (Addr×Obj)} {σ:St} {H:Hp} {s:Shared} {A:Around} {E:Value->Shared->Prop} {Q:Value->Shared->Prop} {c:Value} {b:Bool}
inductive nQ(K:aF)(H:Hp):V->Value->Prop where
 |non:nQ K H .non (.type "NoneType")
 |bl (x:Bool):nQ K H (.bl x) (.type "bool")
 |int (i:Int):nQ K H (.int i) (.type "int")
 |str (x:Str):nQ K H (.str x) (.type "str")
 |flt (x:UInt64):nQ K H (.flt x) (.type "float")
 |lst {a:Addr} {xs:List V} (e:H a=some (.lst xs)):nQ K H (.ref a) (.type "list")
 |dw {a:Addr} {o:Obj} {xs:List V} (e:H a=some (.dw o (.lst xs))):nQ K H (.ref a) (.type "list")
 |tup {a:Addr} {xs:List V} (e:H a=some (.tup xs)):nQ K H (.ref a) (.type "tuple")
 |dK {a:Addr} {kvs:List (Key×V)} (e:H a=some (.dK kvs)):nQ K H (.ref a) (.type "dict")
 |dT {a:Addr} {kvs:List (List Key×V)} (e:H a=some (.dT kvs)):nQ K H (.ref a) (.type "dict")
 |ins {a C dx:Addr} {fs:List (Str×V)} (e:H a=some (.ins C dx fs)) (cl:Cls K C) (ha:qM K (.ref C) "__class__" = some (some (.builtin "object.__class__")))
   (hn:W.specialIn K (.builtin "object.__class__") "__get__" = some (some (.builtin "getset_descriptor.__get__"))) (htk:W.takesIn K (.builtin "object.__class__")=some true)
   (hm:wA K C (.type "object")=some true):nQ K H (.ref a) (.ref C)
def agK{x:V}{u t:Value}(I:Inv X pins σ H s)(rx:RelV x u)(ty:nQ X.K H x t)(e:mR X.K t c=some b)(h:∀tk,Q (.bool b) { s with toks:=tk }):
  wpAny (model X.prog X.w) A (call (.builtin "isinstance") [u,c]) Q E s:=by
 cases ty with
 |non=>cases (show u=Value.none from rx);exact pX W.kitx_none I.jF True.intro e (λz=>nomatch z) h
 |bl y=>cases (show u=Value.bool y from rx);exact pX W.kitx_bool I.jF True.intro e (λz=>nomatch z) h
 |int i=>obtain⟨t,q⟩:=(show ∃t,u=Value.int i t from rx);cases q;exact pX W.kitx_int I.jF True.intro e (λz=>nomatch z) h
 |str y=>obtain⟨t,q⟩:=(show ∃t,u=Value.str y t from rx);cases q;exact pX W.kitx_str I.jF True.intro e (λz=>nomatch z) h
 |flt y=>obtain⟨t,q⟩:=(show ∃t,u=Value.float y t from rx);cases q;exact pX W.kitx_float I.jF True.intro e (λz=>nomatch z) h
 |@lst a xs ea=>
  cases (show u=Value.ref a from rx);obtain⟨_,_,n,_,h1⟩:=(show dB X.prog X.w H s.heap a (.lst xs)from I.hok a _ ea);exact pX W.kitx_list I.jF ⟨_,h1,rfl⟩ e (λz=>nomatch z) h
 |@dw a ob xs ea=>
  cases (show u=Value.ref a from rx);obtain⟨_,_,_,n,_,h1⟩:=(show dB X.prog X.w H s.heap a (.dw ob (.lst xs))from I.hok a _ ea);exact pX W.kitx_list I.jF ⟨_,h1,rfl⟩ e (λz=>nomatch z) h
 |@tup a xs ea=>
  cases (show u=Value.ref a from rx);obtain⟨_,_,_,p⟩:=(show dB X.prog X.w H s.heap a (.tup xs)from I.hok a _ ea);obtain⟨o,h1,h2,_⟩:=p;exact pX W.kitx_tuple I.jF ⟨o,h1,h2⟩ e (λz=>nomatch z) h
 |@dK a kvs ea=>
  cases (show u=Value.ref a from rx);obtain⟨_,_,vs,_,p⟩:=(show dB X.prog X.w H s.heap a (.dK kvs)from I.hok a _ ea);obtain⟨o,es,ep,h1,h2,_⟩:=p;exact pX W.kitx_dict I.jF ⟨o,h1,h2.1⟩ e (λz=>nomatch z) h
 |@dT a kvs ea=>
  cases (show u=Value.ref a from rx);obtain⟨_,_,xs,_,o,es,ep,h1,h2,_⟩:=(show dB X.prog X.w H s.heap a (.dT kvs)from I.hok a _ ea);exact pX W.kitx_dict I.jF ⟨o,h1,h2.1⟩ e (λz=>nomatch z) h
 |@ins a C dx fs ea cl ha hn htk hm=>
  cases (show u=Value.ref a from rx);obtain⟨mA,O,_⟩:=amn I.hok ea;obtain⟨od,J,_⟩:=O.look;exact pX (W.kitx_own (cl.get _) cl.hd ha hn htk hm) I.jF J e (λz=>nomatch z) h
end
structure dY(k:Nat)(A:Around):Prop where
 hd:A.handled=none
 dp:A.depth+3*k+5<recursionLimit
 un:A.units+16*k+200<cLine
def dY.mono{j k:Nat}{A:Around}(r:dY k A)(h:j<=k):dY j A:=⟨r.hd,by have:=r.dp;omega,by have:=r.un;omega⟩
theorem dY.deeper{k:Nat}{A:Around}(r:dY (k+1) A)(env:Env):dY k (A.deeper env):=
 ⟨r.hd,by have:=r.dp;show A.depth+1+3*k+5<_;omega,by have:=r.un;show A.units+3+16*k+200<_;omega⟩
theorem dY.depth{k:Nat}{A:Around}(r:dY k A):A.depth<recursionLimit:=by have:=r.dp;omega
theorem dY.units{k:Nat}{A:Around}(r:dY k A):A.units+64<cLine:=by have:=r.un;omega
def dY.ad3{k:Nat}{A:Around}(r:dY k A):A.units<cLine:=by have:=r.un;omega
def Ua:TA:=λ_ H Q=>Q [] H
def tZ(ta:TE)(tr:TA):TA:=λσ H Q=>ta σ H λx H1=>tr σ H1 λxs H2=>Q (x::xs) H2
section
variable {X:Cx} {e:Expr} {es:List Expr} {te:TE} {t:TA} {pos:Pos}
def aj:PA X [] Ua:=λ_ _ _ _ H Q I h=>Pn ⟨[],H,I,.nil,h⟩
def aN(ha:PE X e te)(hr:PA X es t)(hs:starEach (e::es) X.env=(false,eval e X.env)::starEach es X.env:=by rfl):PA X (e::es) (tZ te t):=by
 intro pos pins s σ H Q I h;rw[hs];show wpAny _ _ (spliced ((false,eval e X.env)::backTo pos (starEach es X.env))) _ _ s;refine O9 (aU (ha pins s σ H _ I h) λu s1 ⟨x,H1,I1,r1,q1⟩=>?_);exact aU (hr pos pins s1 σ H1 _ I1 q1) λus s2 ⟨xs,H2,I2,r2,q2⟩=>⟨x::xs,H2,I2,.cons r1 r2,q2⟩
inductive XJ(xs:List V)(o:HO)(H:Hp)(Q:VK):Prop|mk (hz:xs.length<=sizeLine) (q:∀p,H p=none->Q (.ref p) (upd H p o))
def agF(t:TA):TE:=λσ H Q=>t σ H λxs H1=>XJ xs (.tup xs) H1 Q
def aqP(t:TA):TE:=λσ H Q=>t σ H λxs H1=>XJ xs (.lst xs) H1 Q
def gb{x1}(h:PA X es t):PE X (.Tuple es x1 pos) (agF t):=by
 intro pins s σ H Q I hq;refine wpAny_Tuple_spliced (aU (h pos pins s σ H _ I hq) λus s1 ⟨xs,H1,I1,r,z,q⟩=>⟨by rw[<-r.length];exact z,?_⟩);have hf:H1 s1.heap.objs.size=none:=I1.hok.fresh (aJ _);refine⟨.ref s1.heap.objs.size,upd H1 s1.heap.objs.size (.tup xs),I1.laid (t':=s1.toks) (λb u e=>Heap.get?_push_of_some _ e) (aJ _) ?_,rfl,q _ hf⟩;exact⟨z,us,r,⟨_,Heap.get?_push_size _ rfl,rfl,_,rfl⟩⟩
def f9(h:PA X es t):PE X (.List es pos) (aqP t):=by
 intro pins s σ H Q I hq;refine wpAny_List_spliced (aU (h pos pins s σ H _ I hq) λus s1 ⟨xs,H1,I1,r,z,q⟩=>⟨by rw[<-r.length];exact z,?_⟩);have hf:H1 s1.heap.objs.size=none:=I1.hok.fresh (aJ _);refine⟨.ref s1.heap.objs.size,upd H1 s1.heap.objs.size (.lst xs),I1.laid (t':=s1.toks) (λb u e=>Heap.get?_push_of_some _ e) (aJ _) ?_,rfl,q _ hf⟩;exact⟨z,us,0,r,Heap.get?_push_size _ rfl⟩
end
abbrev Sp:=List V->Hp->VK->XK->Prop
abbrev rT:=List Env->Hp->Shared->XK->Value->Shared->Prop
structure HN(P:Program)(w:World)(K:aF)(mg:Str->Option Value)(base:Heap)(A:Around)(outer:List Env)(s:Shared)(H:Hp):Prop where
 frames:A.frames=some outer
 mod:Mod K mg base
 bs:∀b o,base.get? b=some o->s.heap.get? b=some o/\H b=none
 v8:base.objs.size<=s.heap.objs.size
 pH:s.heap.FunFrames base outer
 AH:∀b∈frs outer,H b=none
 hok:eZ P w H s.heap
 bare:AllBare s.gens
def CE(outer:List Env)(P:Program)(w:World)(H:Hp)(s:Shared)(Q:VK)(u:Value)(s':Shared):Prop:=
 ∃v H',s'.os=s.os/\AllBare s'.gens/\Un (frs outer) [] H H' s.heap s'.heap/\eZ P w H' s'.heap/\RelV v u/\Q v H'
def CR(CX:rT)(outer:List Env)(P:Program)(w:World)(H:Hp)(s:Shared)(Q:VK)(E:XK)(r:Result)(s':Shared):Prop:=
 match r with
 |.ok (.ret u)=>CE outer P w H s Q u s'
 |.ok _=>False
 |.error e=>CX outer H s E e s'
structure sI(P:Program)(w:World)(K:aF)(mg:Str->Option Value)(base:Heap)(CX:rT)(k:Nat)(f:Addr)(fd:FuncData)(ps:List Str)(sp:Sp):Prop where
 len:∀vs H Q E,sp vs H Q E->vs.length=ps.length
 run:∀(A:Around) (outer:List Env) (s:Shared) (H:Hp) (args:Args) (us:List Value) (vs:List V) (Q:VK) (E:XK),dY k A->HN P w K mg base A outer s H->BindsTo s fd args (ps.zip us)->Vals vs us->sp vs H Q E->
  codeAny (model P w) A (.call (.ref f) args) (CR CX outer P w H s Q E) s
section
variable {X:Cx} {pins:List (Addr×Obj)} {σ:St} {H:Hp} {s s':Shared}
def Inv.env0(I:Inv X pins σ H s):HN X.prog X.w X.K X.mg X.base X.A X.stack s H:=
 ⟨I.ok.frames,I.ok.mod,I.bs,fG I.ok.v8 I.sz,I.stack,I.Q8,I.hok,I.bare⟩
def Inv.after{Q:VK}{u:Value}(I:Inv X pins σ H s)(h:CE X.stack X.prog X.w H s Q u s'):EP X pins σ Q u s':=by
 obtain⟨v,H',os,bare,un,hok,r,q⟩:=h;obtain⟨hh,g,d,t,os'⟩:=s';obtain rfl:os'=s.os:=os;exact⟨v,H',I.call (h':=hh) (g':=g) (d':=d) (t':=t) (ch:=[]) un hok bare (λb z=>absurd z (by simp)),r,q⟩
end
def Jc(sp:Sp)(vH:List V)(E:XK)(t:TA):TE:=λσ H Q=>t σ H λvs H1=>sp (vs++vH) H1 Q E
def Binds(K:aF)(fd:FuncData)(ps:List Str)(ds:List Value):Prop:=
 ∀(s:Shared) (us:List Value),K.In s.heap->(us++ds).length=ps.length->BindsTo s fd ⟨us,[]⟩ (ps.zip (us++ds))
def Binds.all{K:aF}{fd:FuncData}{ps:List Str}(h:∀us:List Value,us.length=ps.length->bindArgs fd ⟨us,[]⟩=pure (ps.zip us)):Binds K fd ps []:=λs us _ hl=>by
 rw[Aw]at hl⊢;exact .of_eq (h us hl)
def Passes(CX:rT)(X:Cx)(E:XK):Prop:=∀(pins:List (Addr×Obj)) (σ:St) (H:Hp) (s:Shared) (e:Value) (s':Shared),Inv X pins σ H s->CX X.stack H s E e s'->X.xe e s'
section
variable {X:Cx} {CX:rT} {k:Nat} {f C:Addr} {fd:FuncData} {ps:List Str} {sp:Sp} {vH:List V} {ds:List Value} {E:XK} {x m:Str} {p pos apos:Pos} {e o:Expr} {es:List Expr} {ta:TE} {t:TA}
def av6{pins:List (Addr×Obj)}{σ:St}{H:Hp}{s:Shared}{Q:VK}{us:List Value}{vs:List V}(F:sI X.prog X.w X.K X.mg X.base CX k f fd ps sp)(hr:dY k X.A)(hb:Binds X.K fd ps ds)(hd:Vals vH ds)(hx:Passes CX X E)
  (I:Inv X pins σ H s) (r:Vals vs us) (h:sp (vs++vH) H Q E):wpAny (model X.prog X.w) X.A (call (.ref f) us) (EP X pins σ Q) X.xe s:=by
 have r2:Vals (vs++vH) (us++ds):=r.append hd;have hl:(us++ds).length=ps.length:=by rw[<-r2.length];exact F.len _ _ _ _ h
 refine wpAny_call (codeAny_mono (F.run X.A X.stack s H ⟨us,[]⟩ (us++ds) (vs++vH) Q E hr I.env0 (hb s us I.jF hl) r2 h) λr s' hq=>?_);cases r with
 |error e=>exact hx pins σ H s e s' I hq
 |ok fl=>
  cases fl with
  |ret u=>exact I.after hq
  |next=>exact False.elim hq
  |brk=>exact False.elim hq
  |cont=>exact False.elim hq
def aeb(F:sI X.prog X.w X.K X.mg X.base CX k f fd ps sp)(hr:dY k X.A)(hg:Gl X x)(hm:X.mg x=some (.ref f))(hk:yM X.K (.ref f)=true)(hb:Binds X.K fd ps ds)(hd:Vals vH ds)(hx:Passes CX X E)
  (ha:PA X (e::es) t) (hdb:(x==("__debug__" : Str))=false:=by decide) (he:starEach (e::es) X.env=(false,eval e X.env)::starEach es X.env:=by rfl) (hpl:(backTo pos (starEach es X.env)).any (·.1)=false:=by rfl):
  PE X (.Call (.Name x p) (e::es) [] pos) (Jc sp vH E t):=by
 intro pins s σ H Q I h;refine wpAny_Call_Name_kw (O8 I hg hm ?_ hdb);refine W.callWith_K (h₀:=X.base) I.ok.mod.Ku hk (aU (ha pos pins s σ H _ I h) λus s1 ⟨vs,H1,I1,r,q⟩=>⟨I1.jF,?_⟩) he hpl;exact av6 F hr hb hd hx I1 r q
end
section
variable {X:Cx} {CX:rT} {k:Nat} {f C:Addr} {fd:FuncData} {ps ks:List Str} {sp:Sp} {E:XK} {x m:Str} {p pos apos kpos:Pos} {e o:Expr} {es:List Expr} {kws:List Keyword} {te ta:TE} {t tk:TA} {nm:Option Str}
variable {g:List Value->List Value->List Value} {gV:List V->List V->List V}
end
structure bB(N P:List Str)(sc:Scope):Prop where
 kind:sc.kind = .function
 co:sc.isCoroutine=false
 gen:sc.isGenerator=false
 nd:N.Nodup
 pre:N.take P.length=P
 par:∀x∈P,sc.names.lookup x=some .local∨sc.names.lookup x=some .cell
 U5:∀y∈sc.names,y.2≠ .free
theorem WW{kindOf:Str->Option NameKind}{x:Str}:∀{binds:List (Str×Value)} {m:Str->Option Value},(∀v,(x,v)∉binds)->bindL kindOf binds m x=m x
 |[],_,_=>rfl
 |(n,v)::r,m,h=>by
  unfold bindL;rw[WW λw hw=>h w (cO _ hw)];split
  .have:x≠n:=by rintro rfl;exact h v bN
   simp[this]
  .rfl
theorem afH{kindOf:Str->Option NameKind}{x:Str}:∀{binds:List (Str×Value)} {m:Str->Option Value},(∀v,(x,v)∉binds)->bindC kindOf binds m x=m x
 |[],_,_=>rfl
 |(n,v)::r,m,h=>by
  unfold bindC;rw[afH λw hw=>h w (cO _ hw)];split
  .rfl
  .have:x≠n:=by rintro rfl;exact h v bN
   simp[this]
theorem acT{kindOf:Str->Option NameKind}{x:Str}{v:Value}:∀{P:List Str} {vs:List Value} {i:Nat} {m:Str->Option Value},P.Nodup->P[i]?=some x->vs[i]?=some v->kindOf x=some .local->
  bindL kindOf (P.zip vs) m x=some v
 |[],_,_,_,_,h,_,_=>by simp at h
 |_::_,[],_,_,_,_,h,_=>by simp at h
 |p::P,w::vs,0,m,nd,h1,h2,hk=>by
  simp at h1 h2;subst h1;subst h2;show bindL kindOf ((p,w)::P.zip vs) m p=_;unfold bindL;rw[WW λv hv=>(rK.mp nd).1 (Us hv).1,if_pos hk];simp
 |p::P,w::vs,i+1,m,nd,h1,h2,hk=>by
  show bindL kindOf ((p,w)::P.zip vs) m x=_;unfold bindL;exact acT (i:=i) (rK.mp nd).2 (by simpa using h1) (by simpa using h2) hk
theorem abJ{kindOf:Str->Option NameKind}{x:Str}{v:Value}:∀{P:List Str} {vs:List Value} {i:Nat} {m:Str->Option Value},P.Nodup->P[i]?=some x->vs[i]?=some v->kindOf x≠some .local->
  bindC kindOf (P.zip vs) m x=some v
 |[],_,_,_,_,h,_,_=>by simp at h
 |_::_,[],_,_,_,_,h,_=>by simp at h
 |p::P,w::vs,0,m,nd,h1,h2,hk=>by
  simp at h1 h2;subst h1;subst h2;show bindC kindOf ((p,w)::P.zip vs) m p=_;unfold bindC;rw[afH λv hv=>(rK.mp nd).1 (Us hv).1,if_neg hk];simp
 |p::P,w::vs,i+1,m,nd,h1,h2,hk=>by
  show bindC kindOf ((p,w)::P.zip vs) m x=_;unfold bindC;exact abJ (i:=i) (rK.mp nd).2 (by simpa using h1) (by simpa using h2) hk
def start(N:List Str)(vs:List V):St:=vs.map some++iK (N.length-vs.length) none
def Ar(CX:rT)(P:Program)(w:World)(K:aF)(mg:Str->Option Value)(base:Heap)(N:List Str)(qual:Str)(scope:Scope)(f:Addr)(cd:Value)(A:Around)(outer:List Env)(s:Shared)(H:Hp)(E:XK):Cx where
 prog:=P
 w:=w
 K:=K
 mg:=mg
 base:=base
 A:=A.deeper (envOfC qual scope s.heap.objs.size f cd)
 N:=N
 s₀:=s
 H₀:=H
 env:=envOfC qual scope s.heap.objs.size f cd
 outer:=outer
 stack:=envOfC qual scope s.heap.objs.size f cd::outer
 ex:=[]
 calm:=true
 fn:=λ_=>true
 pn:=[]
 xe:=λe s'=>wpAny (model P w) (A.deeper (envOfC qual scope s.heap.objs.size f cd)) (leaving (envOfC qual scope s.heap.objs.size f cd) e) (λ_ s''=>CX outer H s E e s'') (λe' s''=>CX outer H s E e' s'') s'
def W2{sc:Scope}{n:Nat}{x:Str}(h:sc.names.lookup x=some .cell):∃c,(cellsFrom n sc.names []).lookup x=some c:=by
 have q:=acR sc.names n [] (.inl h);exact Option.isSome_iff_exists.mp q
def atD{CX:rT}{P:Program}{w:World}{K:aF}{mg:Str->Option Value}{base:Heap}{N ps:List Str}{qual:Str}{scope:Scope}{f:Addr}{cd:Value}{A:Around}{outer:List Env}{s s1:Shared}{H:Hp}{E:XK}{us:List Value}{vs:List V}
  (S:bB N ps scope) (hd:A.handled=none) (e0:HN P w K mg base A outer s H) (hl:vs.length=ps.length) (r:Vals vs us)
  (x:InCallC s s.heap.objs.size (bindL (envOfC qual scope s.heap.objs.size f cd).kindOf (ps.zip us) λ_=>none) (cellsFrom (s.heap.objs.size+1) scope.names []) (bindC (envOfC qual scope s.heap.objs.size f cd).kindOf (ps.zip us) λ_=>none) s1):
  Inv (Ar CX P w K mg base N qual scope f cd A outer s H E) [] (start N vs) H s1:=by
 have hpl:ps.length<=N.length:=by have:=congrArg Cm S.pre;rw[jO]at this;omega
 obtain⟨h1,tk,rfl,hk⟩:=x.done;have B5:∀b:Addr,b∉(Ar CX P w K mg base N qual scope f cd A outer s H E).ex:=λb z=>absurd (show b∈([]:List Addr)from z) (by simp);refine⟨⟨e0.mod,S.kind,rfl,rfl,aJ _,λy z c h1 h2=>?_,λy hy=>?_,λy c _ h=>?_,λ_=>hd,Around.frames_deeper e0.frames,.inr ⟨rfl,rfl⟩,λb z=>absurd z (B5 b),e0.bs,e0.v8,λb _ _=>B5 b,λb z=>absurd z (B5 b),e0.pH,e0.AH⟩,
  rfl,e0.bare,Un.kept hk,⟨_,x.toInCall.ns,λi y v h1 h2 h3=>?_⟩,λy c h=>⟨_,x.cell y c h⟩,e0.hok.fresh (aJ _),λy c h=>?_,λp hp=>absurd (show p∈([]:List (Addr×Obj))from hp) (by simp),e0.hok.kept hk,?_⟩
 .exact name_of_addr x.apart (vR h1) (vR h2)
 .have hy:scope.names.lookup y=some .cell∨scope.names.lookup y=some .free:=hy;rcases hy with hy|hy
  .exact W2 hy
  .exact absurd rfl (S.U5 _ (vR hy))
 .exact iM (x.above y c (vR h))
 .have hi:i<vs.length:=by
   unfold start at h2;by_cases hi:i<vs.length
   .exact hi
   .rw[List.getElem?_append_right (by simpa using hi)]at h2;rw[List.getElem?_replicate]at h2;split at h2<;>cases h2
  have ha:vs[i]?=some v:=by
   unfold start at h2;rw[List.getElem?_append_left (by simpa using hi),List.getElem?_map]at h2;cases e:vs[i]? with
   |none=>rw[e]at h2;cases h2
   |some a=>rw[e]at h2;cases h2;rfl
  obtain⟨u,hu,rv⟩:=r.get ha;have hp:ps[i]?=some y:=by
   rw[<-S.pre,List.getElem?_take_of_lt ⋯];exact h1
  have Y8:ps.Nodup:=by rw[<-S.pre];exact S.nd.sublist (M8 _ _)
  refine⟨u,rv,?_⟩;rcases S.par y (List.mem_of_getElem? hp)with k|k
  .exact .inl ⟨k,acT Y8 hp hu k⟩
  .obtain⟨c,e⟩:=W2 (n:=s.heap.objs.size+1) k;refine .inr ⟨.inl k,c,e,?_⟩;have q:=x.cell y c e;rw[abJ Y8 hp hu (by show scope.names.lookup y≠_;rw[k];decide)]at q;exact q
 .exact e0.hok.fresh (iM (x.above y c (vR h)))
 .unfold start;show _=N.length;rw[fO,aB,ZY];omega
def aqZ{CX:rT}{P:Program}{w:World}{K:aF}{mg:Str->Option Value}{base:Heap}{k:Nat}{f:Addr}{name qual:Str}{params:Arguments}{body:List Stmt}{scope:Scope}{dV kV doc pm cdv ct oc:Value}{an od:Option Addr}
  {osl:Array (Option Value)} {N ps:List Str} {sp:Sp} (lk:K.lookup f=some ⟨oc,od,.func (qH name qual params body scope dV kV doc pm an cdv ct),osl⟩) (hcd:Dd K cdv qual=true) (S:bB N ps scope)
  (len:∀vs H Q E,sp vs H Q E->vs.length=ps.length)
  (hbody:∀(A:Around) (outer:List Env) (s:Shared) (H:Hp) (vs:List V) (Q:VK) (E:XK),dY k (A.deeper (envOfC qual scope s.heap.objs.size f cdv))->sp vs H Q E->
   ∃t,jG (Ar CX P w K mg base N qual scope f cdv A outer s H E) body t/\t { nx:=λ_ H'=>Q .non H',rt:=Q } (start N vs) H):
  sI P w K mg base CX (k+1) f (qH name qual params body scope dV kV doc pm an cdv ct) ps sp:=by
 refine⟨len,λA outer s H args us vs Q E hr e0 hb r hsp=>?_⟩;have hl:=len _ _ _ _ hsp;have KX:K.In s.heap:=e0.mod.Ku.keeps λb o e=>(e0.bs b o e).1;have lim:s.heap.NoLimit:=e0.mod.nolimit.keeps λb o e=>(e0.bs b o e).1;have hkind:∀y∈ps.zip us,scope.names.lookup y.1=some .local∨(scope.names.lookup y.1=some .cell/\((cellsFrom (s.heap.objs.size+1) scope.names []).lookup y.1).isSome=true):=λ⟨n,v⟩ hy=>by
  rcases S.par n (Us hy).1 with q|q
  .exact .inl q
  .exact .inr ⟨q,acR _ _ _ (.inl q)⟩
 refine codeAny_call_function hr.depth (KX _ _ lk) rfl S.co S.gen rfl (W.codeRec_of KX hcd) (hb _ _ _ _ ?_);refine wpAny_newFunctionEnv_cells S.kind hkind λenv he s1 x=>?_;subst he;refine⟨lim.keeps x.toInCall.keep,codeAny_func ?_⟩;obtain⟨t,ht,hq⟩:=hbody A outer s H vs Q E (hr.deeper _) hsp;have I:Inv (Ar CX P w K mg base N qual scope f cdv A outer s H E) [] (start N vs) H s1:=atD S hr.hd e0 hl r x;refine wpAny_mono (ht [] s1 (start N vs) H _ I hq) (λfl s' hs=>?_) λe s' hs=>hs;have fin:∀{σ':St} {H':Hp} {v:V} {u:Value},Inv (Ar CX P w K mg base N qual scope f cdv A outer s H E) [] σ' H' s'->RelV v u->Q v H'->CE outer P w H s Q u s':=
  λ{σ' H' v u} J rv q=>⟨v,H',J.os,J.bare,J.base,J.hok,rv,q⟩
 cases fl with
 |ret u=>
  obtain⟨v,σ',H',J,rv,q⟩:=hs;exact fin J rv q
 |next=>
  obtain⟨σ',H',J,q⟩:=hs;exact fin (v:=V.non) (u:=Value.none) J rfl q
 |brk=>
  obtain⟨_,_,_,q⟩:=hs;exact False.elim q
 |cont=>
  obtain⟨_,_,_,q⟩:=hs;exact False.elim q
section
variable {X:Cx} {x:Str} {p pos:Pos} {e:Expr} {es:List Expr} {t:TA} {id T:String} {r:List V->Hp->VK->Prop}
def UZ(r:List V->Hp->VK->Prop)(t:TA):TE:=λσ H Q=>t σ H λvs H1=>r vs H1 Q
def gY(hc:kO X (.builtin id) r)(hg:Gl X x)(hm:X.mg x=none)(hv:bootBuiltins x=some (.builtin id))(ha:PA X (e::es) t)(hn:x≠ "__name__" := by decide)(hdb:(x==("__debug__" : Str))=false:=by decide)
  (he:starEach (e::es) X.env=(false,eval e X.env)::starEach es X.env:=by rfl) (hpl:(backTo pos (starEach es X.env)).any (·.1)=false:=by rfl):PE X (.Call (.Name x p) (e::es) [] pos) (UZ r t):=by
 intro pins s σ H Q I h;refine wpAny_Call_Name_kw (oE I hg hm hv ?_ hn hdb);exact aaq (aU (ha pos pins s σ H _ I h) λus s1 ⟨vs,H1,I1,r1,q1⟩=>hc pins s1 σ H1 vs us Q I1 r1 q1) he hpl
def kZ(hc:kO X (.type T) r)(hg:Gl X x)(hm:X.mg x=none)(hv:bootBuiltins x=some (.type T))(ha:PA X (e::es) t)(hn:x≠ "__name__" := by decide)(hdb:(x==("__debug__" : Str))=false:=by decide)
  (he:starEach (e::es) X.env=(false,eval e X.env)::starEach es X.env:=by rfl) (hpl:(backTo pos (starEach es X.env)).any (·.1)=false:=by rfl):PE X (.Call (.Name x p) (e::es) [] pos) (UZ r t):=by
 intro pins s σ H Q I h;refine wpAny_Call_Name_kw (oE I hg hm hv ?_ hn hdb);exact rY (aU (ha pos pins s σ H _ I h) λus s1 ⟨vs,H1,I1,r1,q1⟩=>hc pins s1 σ H1 vs us Q I1 r1 q1) he hpl
end
end L2
namespace HT
open PySem PyProof.Rows
section
open PySem.SeqAt
open PySem.AutoSeq1 (wpAny_loadPart')
open PySem.MeetsSeq PySem.MeetsSeq2 PySem.MeetsSeq3
end
section
variable {prog:Program} {w:World} {A:Around} {E:Value->Shared->Prop} {s:Shared}
def ajf{t b:Addr}{vs ws:List Value}{Q:Value->Shared->Prop}(ht:IsTup s.heap t vs.toArray)(hb:IsTup s.heap b ws.toArray)(hv:vs≠[])
  (h1:ws=[]->Q (.ref t) s) (h2:ws≠[]->Q (.ref s.heap.objs.size) { s with heap:=s.heap.push { cls:= .type "tuple",data:= .seq (vs++ws).toArray } })
  (hsz:vs.length+ws.length<=sizeLine):wpAny (model prog w) A (binaryOp .Add (.ref t) (.ref b)) Q E s:=by
 obtain⟨⟨cls,dd,data,sl⟩,ho,hc,n,hd⟩:=id ht;obtain⟨⟨cls2,dd2,data2,sl2⟩,ho2,hc2,n2,hd2⟩:=id hb;simp only at hc hd hc2 hd2;subst hc hd hc2 hd2;have e:vs.toArray++ws.toArray=(vs++ws).toArray:=by simp
 by_cases hw:ws=[]
 .exact concat_meets ⟨_,ho,rfl⟩ ⟨_,ho2,rfl⟩ noFill_tuple_add seq_tuple_add RK Qu (Tq _ _)
   (tuple_addW1 t b vs.toArray ws.toArray n n2 dd dd2 sl sl2 (by simpa using hv) (by simp[hw])) ⟨ho,ho2,h1 hw⟩
 .refine concat_meets ⟨_,ho,rfl⟩ ⟨_,ho2,rfl⟩ noFill_tuple_add seq_tuple_add RK Qu (Tq _ _)
   (tuple_addW2 t b vs.toArray ws.toArray n n2 dd dd2 sl sl2 (by simpa using hv) (by simpa using hw) (by rw[fj,fj];exact hsz)) ⟨ho,ho2,?_⟩
  rw[e];exact h2 hw
def bf(n d:Nat):Option Int->Nat
 |none=>d
 |some v=>if v<0 then(v+(n:Int)).toNat else min v.toNat n
def vD(n d:Nat):bf n d none=d:=rfl
def uI(n d k:Nat):bf n d (some (k:Int))=min k n:=by
 show(if(k:Int)<0 then((k:Int)+(n:Int)).toNat else min (k:Int).toNat n)=min k n;rw[if_neg ⋯,fQ]
def awa(n d:Nat)(hd:d<=n)(o:Option Int):bf n d o<=n:=by
 cases o with
 |none=>exact hd
 |some v=>
  show(if v<0 then(v+(n:Int)).toNat else min v.toNat n)<=n;by_cases hv:v<0
  .rw[if_pos hv];omega
  .rw[if_neg hv];exact aen _ _
def Yz(v:Int)(n d:Nat):(if v<0 then max (v+(n:Int)) 0 else min v (n:Int))=((bf n d (some v):Nat):Int):=by
 show(if v<0 then max (v+(n:Int)) 0 else min v (n:Int))=(((if v<0 then(v+(n:Int)).toNat else min v.toNat n):Nat):Int);by_cases hv:v<0
 .simp only[if_pos hv];omega
 .simp only[if_neg hv];omega
def aty(lo hi:Option Int)(n:Nat):Builtin.Slice.sliceAdjust lo hi 1 (n:Int)=(((bf n 0 lo:Nat):Int),((bf n n hi:Nat):Int)):=by
 have h1:¬((1:Int)<0):=⋯;unfold Builtin.Slice.sliceAdjust;simp only[h1,if_false];refine Fw ?_ ?_
 .cases lo with
  |none=>rfl
  |some v=>exact Yz v n 0
 .cases hi with
  |none=>rfl
  |some v=>exact Yz v n n
def amL(i j:Nat):Builtin.Slice.slicePlaces (i:Int) (j:Int) 1=j-i:=by
 unfold Builtin.Slice.slicePlaces;have h1:(1:Int)>0:=⋯;simp only[h1,if_true,aeX];split<;>omega
def afW{v:Value}{o:Option Int}{Q:Option Int->Shared->Prop}(p:IsPart v o)(h:Q o s):wpAny (model prog w) A (Builtin.Slice.slicePartIndex v) Q E s:=by
 cases p with
 |none=>exact slicePart_none h
 |int i t=>exact slicePart_int h
def abN{sl:Addr}{vl vu:Value}{lo hi:Option Int}{n:Nat}{Q:Int×Int×Nat->Shared->Prop}(hs:s.heap.IsSliceOf sl vl vu .none)(pl:IsPart vl lo)(pu:IsPart vu hi)
  (h:Q (((bf n 0 lo:Nat):Int),1,bf n n hi-bf n 0 lo) s):wpAny (model prog w) A (Builtin.Slice.sliceApplied (.ref sl) (pure (n:Int))) Q E s:=by
 obtain⟨os,hos,hcs,hds⟩:=id hs;unfold Builtin.Slice.sliceApplied Builtin.Slice.sliceFields;refine wpAny_bind (wpAny_bind (wpAny_field hos hds (x:=vl) rfl (wpAny_bind (wpAny_field hos hds (x:=vu) rfl (wpAny_bind (wpAny_field hos hds (x:= .none) rfl (wpAny_pure ?_)))))));refine wpAny_bind (slicePart_none ?_);show wpAny _ _ (if((1:Int)==0)=true then _ else _) _ _ s;rw[if_neg ∅];refine wpAny_bind (afW pl (wpAny_bind (afW pu (wpAny_bind (wpAny_pure ?_)))));show wpAny _ _ (match Builtin.Slice.sliceAdjust lo hi 1 (n:Int)with|(lo,hi)=>pure (lo,(1:Int),Builtin.Slice.slicePlaces lo hi 1)) _ _ s
 rw[aty lo hi n];show wpAny _ _ (pure (((bf n 0 lo:Nat):Int),(1:Int),Builtin.Slice.slicePlaces ((bf n 0 lo:Nat):Int) ((bf n n hi:Nat):Int) 1)) _ _ s;rw[amL];exact wpAny_pure h
def awf(xs:Array Value)(i k:Nat):((eO k).filterMap λ(m:Nat)=>xs[((i:Int)+(m:Int)*1).toNat]?).toArray=((xs.toList.drop i).take k).toArray:=by
 have e:(λ(m:Nat)=>xs[((i:Int)+(m:Int)*1).toNat]?)=λm=>xs[i+m]?:=by
  funext m
  have:((i:Int)+(m:Int)*1).toNat=i+m:=⋯;rw[this]
 rw[e];have:=pick_run xs i k;rw[List.filterMap_map]at this;have e2:((λx=>xs[x]?)∘λx=>i+x)=λm=>xs[i+m]?:=rfl;rw[e2]at this;rw[this]
def avV{t sl:Addr}{items:Array Value}{vl vu:Value}{lo hi:Option Int}{Q:Value->Shared->Prop}(ht:IsTup s.heap t items)(hs:s.heap.IsSliceOf sl vl vu .none)(pl:IsPart vl lo)(pu:IsPart vu hi)
  (hw:¬(bf items.size 0 lo=0/\bf items.size items.size hi=items.size))
  (h:Q (.ref s.heap.objs.size) { s with heap:=s.heap.push { cls:= .type "tuple",data:= .seq ((items.toList.drop (bf items.size 0 lo)).take (bf items.size items.size hi-bf items.size 0 lo)).toArray } })
  (hsz:items.size<=sizeLine):wpAny (model prog w) A (getItem (.ref t) (.ref sl)) Q E s:=by
 have Jf:sizeOk (.seq ((items.toList.drop (bf items.size 0 lo)).take (bf items.size items.size hi-bf items.size 0 lo)).toArray):=by
  show((items.toList.drop (bf items.size 0 lo)).take (bf items.size items.size hi-bf items.size 0 lo)).toArray.size<=sizeLine;rw[fj,jO,oA,Kv];omega
 have hj:bf items.size items.size hi<=items.size:=awa _ _ (aJ _) hi;obtain⟨os,hos,hcs,hds⟩:=id hs;have hTs:s.TypeIs (.ref sl) "slice" := ⟨os,hos,hcs⟩;unfold getItem;try with_reducible refine wpAny_holding ?_
 first|refine wpAny_bind (wpAny_pure ?_)|skip
 refine wpAny_bind (wpAny_sequenceKey ht.typeIs ∅ ?_);refine wpAny_bind (wpAny_callSpecial?_slot (name:=Str.ofString "__getitem__") ht.typeIs zj
  (wpAny_call_entry zj ht.typeIs entry_tuple_getitem ?_ (args_tuple_getitem _ _)))
 show wpAny _ _ (Builtin.Tuple.tupleItemsOf (.ref t)>>=_) _ _ s;refine wpAny_bind (tupleItemsOf_ ht ?_);refine wpAny_bind (wpAny_typeOf hTs ?_);rw[if_pos ∅];refine wpAny_bind (abN hs pl pu ?_);have hno:¬((((bf items.size 0 lo:Nat):Int)==0&&(1:Int)==1&&(bf items.size items.size hi-bf items.size 0 lo)==items.size)=true):=by
  intro q;rw[ji,ji]at q;have q1:((bf items.size 0 lo:Nat):Int)=0:=eq_of_beq q.1.1;have q2:bf items.size items.size hi-bf items.size 0 lo=items.size:=eq_of_beq q.2;exact hw ⟨⋯,⋯⟩
 show wpAny _ _ (if(((bf items.size 0 lo:Nat):Int)==0&&(1:Int)==1&&(bf items.size items.size hi-bf items.size 0 lo)==items.size)=true then _ else _) _ _ s;rw[if_neg hno,awf];first
  |exact wpAny_bind (m:=Builtin.Tuple.tupleExact _) (wpAny_newObj_type (wpAny_pure ⟨_,rfl,wpAny_pure h⟩) Jf)
  |exact wpAny_bind (m:=Builtin.Tuple.tupleExact _) (wpAny_newObj_type (wpAny_bind (wpAny_pure (wpAny_pure ⟨_,rfl,wpAny_pure h⟩))) Jf)
  |exact wpAny_bind (wpAny_bind (m:=Builtin.Tuple.tupleExact _) (wpAny_newObj_type (wpAny_pure (wpAny_pure ⟨_,rfl,wpAny_pure h⟩)) Jf))
  |exact wpAny_bind (wpAny_bind (m:=Builtin.Tuple.tupleExact _) (wpAny_newObj_type (wpAny_pure ⟨_,rfl,wpAny_pure h⟩) Jf))
end
end HT
namespace L2
open PySem PySem.Spec PyProof.Rows
abbrev TO:=St->Hp->(Option Int->Hp->Prop)->Prop
def PO(X:Cx)(e:Option Expr)(t:TO):Prop:=
 ∀(pins:List (Addr×Obj)) (s:Shared) (σ:St) (H:Hp) (Q:Option Int->Hp->Prop),Inv X pins σ H s->t σ H Q->
  wpAny (model X.prog X.w) X.A (evalPart e X.env) (λu s'=>∃o H',Inv X pins σ H' s'/\IsPart u o/\Q o H') X.xe s
def aov:TO:=λ_ H Q=>Q none H
inductive axd(x:V)(H:Hp)(Q:Option Int->Hp->Prop):Prop|mk (i:Int) (hx:x = .int i) (q:Q (some i) H)
def axj(t:TE):TO:=λσ H Q=>t σ H λx H1=>axd x H1 Q
def intsAre_of{ns:List Int}:∀{us:List Value},Vals (ns.map V.int) us->IntsAre us ns:=by
 induction ns with
 |nil=>intro us r;rw[Ih]at r;cases r;exact .nil
 |cons n ns ih=>
  intro us r;rw[cD]at r;cases r with
  |cons r1 r2=>
   obtain⟨t,e⟩:=r1;subst e;exact .cons n t (ih r2)
section
variable {X:Cx} {e:Expr} {te:TE} {lo hi:Option Expr} {tl th:TO} {pos p2:Pos}
def uK:PO X none aov:=by
 intro pins s σ H Q I h;rw[evalPart_none];exact wpAny_pure ⟨none,H,I,.none,h⟩
def pZ(h:PE X e te):PO X (some e) (axj te):=by
 intro pins s σ H Q I hw;rw[evalPart_some];refine aU (h pins s σ H _ I hw) λu s1 ⟨x,H1,I1,r1,q1⟩=>?_;obtain⟨i,rfl,q⟩:=q1;obtain⟨t,rfl⟩:=r1;exact⟨some i,H1,I1,.int i t,q⟩
def oK(X:Cx)(r:V->Option Int->Option Int->Hp->VK->Prop):Prop:=
 ∀(pins:List (Addr×Obj)) (s:Shared) (σ:St) (H:Hp) (x:V) (v vl vu:Value) (lo hi:Option Int) (sl:Addr) (Q:VK),Inv X pins σ H s->RelV x v->s.heap.IsSliceOf sl vl vu .none->IsPart vl lo->IsPart vu hi->r x lo hi H Q->
  ∃T id,typeLookup (.type T) "__getitem__" = pure (some (.builtin id))/\s.TypeIs v T/\wpAny (model X.prog X.w) X.A (getItem v (.ref sl)) (EP X pins σ Q) X.xe s
def oK.or{r r':V->Option Int->Option Int->Hp->VK->Prop}(h:oK X r)(h':oK X r'):oK X (λx lo hi H Q=>r x lo hi H Q∨r' x lo hi H Q):=by
 intro pins s σ H x v vl vu lo hi sl Q I rx hs pl pu q;rcases q with q|q
 .exact h pins s σ H x v vl vu lo hi sl Q I rx hs pl pu q
 .exact h' pins s σ H x v vl vu lo hi sl Q I rx hs pl pu q
def tSl(r:V->Option Int->Option Int->Hp->VK->Prop)(te:TE)(tl th:TO):TE:=λσ H Q=>te σ H λx H1=>tl σ H1 λl H2=>th σ H2 λu H3=>r x l u H3 Q
def rP{r:V->Option Int->Option Int->Hp->VK->Prop}(hr:oK X r)(he:PE X e te)(hl:PO X lo tl)(hu:PO X hi th):PE X (.Subscript e (.Slice lo hi none p2) pos) (tSl r te tl th):=by
 intro pins s σ H Q I h;refine Subscript_ (aU (he pins s σ H _ I h) λv s1 ⟨x,H1,I1,r1,q1⟩=>?_);refine wpAny_Slice (aU (hl pins s1 σ H1 _ I1 q1) λvl s2 ⟨l,H2,I2,pl,q2⟩=>aU (hu pins s2 σ H2 _ I2 q2) λvu s3 ⟨u,H3,I3,pu,q3⟩=>?_);rw[evalPart_none];refine wpAny_pure ?_;have I4:Inv X pins σ H3 { s3 with heap:=s3.heap.push { cls:= .type "slice",data:= .fields #[vl,vu,.none] } }:=I3.kept (t':=s3.toks) λb ob q=>Heap.get?_push_of_some _ q;obtain⟨T,id,hT,ht,hg⟩:=hr pins { s3 with heap:=s3.heap.push { cls:= .type "slice",data:= .fields #[vl,vu,.none] } } σ H3 x v vl vu l u s3.heap.objs.size Q I4 r1 (avY ..) pl pu q3;show wpAny (model X.prog X.w) X.A (subscriptTail e (.Slice lo hi none p2) v (.ref s3.heap.objs.size)) (EP X pins σ Q) X.xe { s3 with heap:=s3.heap.push { cls:= .type "slice",data:= .fields #[vl,vu,.none] } };exact tail_any (ops:=[.ref s3.heap.objs.size,v]) ht hT hg (by with_unfolding_all rfl)
def jc(xs:List V)(lo hi:Option Int):List V:=(xs.drop (HT.bf xs.length 0 lo)).take (HT.bf xs.length xs.length hi-HT.bf xs.length 0 lo)
def XF(xs:List V)(lo hi:Option Int):(jc xs lo hi).length<=xs.length:=by
 unfold jc;rw[jO,oA];omega
def ajw(K:aF):V->Option Int->Option Int->Hp->VK->Prop:=λx lo hi H Q=>∃a xs,x = .ref a/\aA K H a xs/\
 ¬(HT.bf xs.length 0 lo=0/\HT.bf xs.length xs.length hi=xs.length)/\∀p,H p=none->Q (.ref p) (upd H p (.tup (jc xs lo hi)))
def ajM:oK X (ajw X.K):=by
 intro pins s σ H x v vl vu lo hi sl Q I rx hs pl pu h;obtain⟨a,xs,rfl,hx,hw,q⟩:=h;cases rx;obtain⟨its,r,ht,hz⟩:=I.tuple hx;have hlen:its.toArray.size=xs.length:=by rw[fj];exact r.length.symm
 refine⟨"tuple",_,zj.lookup,ht.typeIs,?_⟩;refine HT.avV ht hs pl pu (by rw[hlen];exact hw) ?_ (by rw[hlen];exact hz);rw[hlen];refine⟨.ref s.heap.objs.size,_,I.laid (t':=s.toks) (o:= .tup (jc xs lo hi)) (λb ob q=>Heap.get?_push_of_some _ q) (aJ _) ?_,rfl,q _ (I.hok.fresh (aJ _))⟩;exact⟨fG (XF xs lo hi) hz,_,(r.drop (HT.bf xs.length 0 lo)).take (HT.bf xs.length xs.length hi-HT.bf xs.length 0 lo),IsTup.new _ _⟩
def ap8(K:aF):R2:=λx y H Q=>∃a b xs ys,x = .ref a/\y = .ref b/\aA K H a xs/\aA K H b ys/\xs≠[]/\xs.length+ys.length<=sizeLine/\
 (ys=[]->Q (.ref a) H)/\(ys≠[]->∀p,H p=none->Q (.ref p) (upd H p (.tup (xs++ys))))
def Vals.Hq{xs:List V}{us:List Value}(r:Vals xs us):us=[]↔xs=[]:=by
 cases r with
 |nil=>simp
 |cons _ _=>simp
def aqG:cV X (binaryOp .Add) (ap8 X.K):=by
 intro pins s σ H x y v u Q I rx ry h;obtain⟨a,b,xs,ys,rfl,rfl,ha,hb,hx,hz,q1,q2⟩:=h;cases rx;cases ry;obtain⟨its,r1,p1,_⟩:=I.tuple ha;obtain⟨its2,r2,p2,_⟩:=I.tuple hb;refine HT.ajf p1 p2 (λz=>hx (r1.Hq.mp z)) (λz=>⟨.ref a,H,I,rfl,q1 (r2.Hq.mp z)⟩) (λz=>?_) (by rw[<-r1.length,<-r2.length];exact hz);refine⟨.ref s.heap.objs.size,_,I.laid (t':=s.toks) (o:= .tup (xs++ys)) (λb ob q=>Heap.get?_push_of_some _ q) (aJ _) ?_,rfl,q2 (λw=>z (r2.Hq.mpr w)) _ (I.hok.fresh (aJ _))⟩;exact⟨by rw[fO];exact hz,_,r1.append r2,IsTup.new _ _⟩
end
def rM(n:Nat)(i:Int):Option Nat:=if 0<=i then(if i<n then some i.toNat else none)else if -(n:Int)<=i then some (i+n).toNat else none
def nF{α:Type}(xs:List α)(i:Int):Option α:=(rM xs.length i).bind λj=>xs[j]?
def acI{n:Nat}{i:Int}{j:Nat}(h:rM n i=some j):seqIndex? i n=some j/\j<n/\-(n:Int)<=i/\i<n:=by
 unfold rM at h;by_cases h0:0<=i
 .rw[if_pos h0]at h;by_cases h1:i<n
  .rw[if_pos h1]at h;have e:i.toNat=j:=pF h;exact⟨by rw[seqIndex_of h0 h1,e],⋯,⋯,h1⟩
  .rw[if_neg h1]at h;cases h
 .rw[if_neg h0]at h;by_cases h1:-(n:Int)<=i
  .rw[if_pos h1]at h;have e:(i+n).toNat=j:=pF h;exact⟨by rw[seqIndex_neg ⋯ h1,e],⋯,h1,⋯⟩
  .rw[if_neg h1]at h;cases h
def SY{α:Type}{xs:List α}{i:Int}{v:α}(h:nF xs i=some v):∃j,seqIndex? i xs.length=some j/\xs[j]?=some v/\j<xs.length/\-(xs.length:Int)<=i/\i<xs.length:=by
 unfold nF at h;cases e:rM xs.length i with
 |none=>rw[e]at h;cases h
 |some j=>
  rw[e]at h;obtain⟨h1,h2,h3,h4⟩:=acI e;exact⟨j,h1,h,h2,h3,h4⟩
def YQ{α:Type}{xs:List α}{j:Nat}{v:α}(h:xs[j]?=some v):nF xs (j:Int)=some v:=by
 have hj:j<xs.length:=(List.getElem?_eq_some_iff.mp h).1;have e:rM xs.length (j:Int)=some j:=by
  unfold rM;rw[if_pos ⋯,if_pos ⋯];simp
 unfold nF;rw[e];exact h
def VW(b:Expr):Prop:=∀o i,subscripted b false o i=operate [o,i] (getItem o i)
def mK(X:Cx)(r:R2):Prop:=
 ∀(value slice:Expr) (pins:List (Addr×Obj)) (s:Shared) (σ:St) (H:Hp) (x y:V) (v u:Value) (Q:VK),Inv X pins σ H s->RelV x v->RelV y u->r x y H Q->
  subscripted slice false v u=operate [v,u] (getItem v u)->wpAny (model X.prog X.w) X.A (subscriptTail value slice v u) (EP X pins σ Q) X.xe s
def MtR(X:Cx)(id:String)(r:V->List V->Hp->VK->Prop):Prop:=
 ∀(pins:List (Addr×Obj)) (s:Shared) (σ:St) (H:Hp) (x:V) (xs:List V) (v:Value) (us:List Value) (Q:VK),Inv X pins σ H s->RelV x v->Vals xs us->r x xs H Q->
  wpAny (model X.prog X.w) X.A (call (.builtin id) (v::us)) (EP X pins σ Q) X.xe s
section
variable {X:Cx} {a b:Expr} {ta tb:TE} {pos:Pos}
def mK.or{r r':R2}(h:mK X r)(h':mK X r'):mK X (λx y H Q=>r x y H Q∨r' x y H Q):=by
 intro value slice pins s σ H x y v u Q I rx ry q hs;rcases q with q|q
 .exact h value slice pins s σ H x y v u Q I rx ry q hs
 .exact h' value slice pins s σ H x y v u Q I rx ry q hs
def ag2{r:R2}(hr:mK X r)(ha:PE X a ta)(hb:PE X b tb)(hs:VW b):PE X (.Subscript a b pos) (vO r ta tb):=by
 intro pins s σ H Q I h;exact Subscript_ (Mi ha hb I h λv u s2 x y H2 I2 rx ry q=>hr a b pins s2 σ H2 x y v u Q I2 rx ry q (hs _ _))
def adL(K:aF):R2:=λx y H Q=>∃p xs i v,x = .ref p/\y = .int i/\au K H p xs/\nF xs i=some v/\Q v H
def acY(K:aF):R2:=λx y H Q=>∃p xs i v,x = .ref p/\y = .int i/\aA K H p xs/\nF xs i=some v/\Q v H
def XS:R2:=λx y H Q=>∃z i c,x = .str z/\y = .int i/\z.length<=sizeLine/\nF z.cps.toList i=some c/\Q (.str ⟨#[c]⟩) H
def anj:mK X (adL X.K):=by
 intro value slice pins s σ H x y v u Q I rx ry h hs;obtain⟨p,xs,i,z,rfl,rfl,hq,he,q⟩:=h;cases rx;obtain⟨t,rfl⟩:=ry;obtain⟨its,r,pl,hz⟩:=I.list hq;obtain⟨j,h1,h2,h3,h4,h5⟩:=SY he;obtain⟨w,ew,pQ⟩:=r.get h2;have hl:=r.length;have hn:=Cz;have fin:EP X pins σ Q w s:=⟨z,H,I,pQ,q⟩;by_cases h0:0<=i
 .have hj:i.toNat=j:=by
   rw[seqIndex_of h0 h5]at h1;exact pF h1
  exact item_listR pl.isList h0 ⋯ (by rw[hj];simpa using ew) fin hs
 .have hj:(i+(its.toArray.size:Int)).toNat=j:=by
   rw[seqIndex_neg ⋯ h4]at h1;rw[fj,<-hl];exact pF h1
  exact subscriptTail_builtinR (x:=w) pl.isList.typeIs slot_list_getitem.lookup
   (wpAny_getItem_list_neg (Q:=λr s'=>r=w/\EP X pins σ Q r s') pl.isList ⋯ (by rw[fj]<;>omega) ⋯ (by rw[hj];simpa using ew) ⟨rfl,fin⟩) hs
def aqX:mK X (acY X.K):=by
 intro value slice pins s σ H x y v u Q I rx ry h hs;obtain⟨p,xs,i,z,rfl,rfl,hq,he,q⟩:=h;cases rx;obtain⟨t,rfl⟩:=ry;obtain⟨its,r,pl,hz⟩:=I.tuple hq;obtain⟨j,h1,h2,h3,h4,h5⟩:=SY he;obtain⟨w,ew,pQ⟩:=r.get h2;have hl:=r.length;have hn:=Cz;have fin:EP X pins σ Q w s:=⟨z,H,I,pQ,q⟩;exact subscriptTail_builtinR (x:=w) pl.typeIs slot_tuple_getitem.lookup
  (getItem_tuple (j:=j) (Q:=λr s'=>r=w/\EP X pins σ Q r s') pl ⋯ ⋯ (by rw[fj,<-hl];exact h1) (by simpa using ew) ⟨rfl,fin⟩) hs
def atm:mK X XS:=by
 intro value slice pins s σ H x y v u Q I rx ry h hs;obtain⟨z,i,c,rfl,rfl,hz,he,q⟩:=h;obtain⟨t,rfl⟩:=rx;obtain⟨t',rfl⟩:=ry;obtain⟨j,h1,h2,h3,h4,h5⟩:=SY he;have hl:z.cps.toList.length=z.length:=by simp[Str.length]
 rw[hl]at h1 h4 h5;have hn:=Cz;exact tail_any (typeIs_str s z t) slot_str_getitem.lookup (getItem_str (c:=c) (by
  have e1:decide (i < -(2^63:Int))=false:=decide_eq_false ⋯;have e2:decide (i≥2^63)=false:=decide_eq_false ⋯;rw[e1,e2,Bool.or_false]) (by rw[h1];simpa using h2) ⟨.str ⟨#[c]⟩,H,I.tok _,⟨_,rfl⟩,q⟩) hs
def rIx(K:aF):R2:=λx y H Q=>adL K x y H Q∨acY K x y H Q∨XS x y H Q
def agu:mK X (rIx X.K):=anj.or (aqX.or atm)
def agY(its:List Value)(n j:Nat)(u:Value):iJ (·.setIfInBounds j u) { cls:= .type "list",data:= .seq its.toArray n }={ cls:= .type "list",data:= .seq (its.set j u).toArray n }:=by
 simp[iJ]
theorem Inv.lst{pins:List (Addr×Obj)}{σ:St}{H:Hp}{s:Shared}{p:Addr}{xs:List V}(I:Inv X pins σ H s)(h:H p=some (.lst xs)):
  ∃(its:List Value) (n:Nat),Vals xs its/\s.heap.get? p=some { cls:= .type "list",data:= .seq its.toArray n }/\xs.length<=sizeLine:=by
 obtain⟨z,its,n,r,e⟩:=I.hok p _ h;exact⟨its,n,r,e,z⟩
def Inv.aoO{pins:List (Addr×Obj)}{σ:St}{H:Hp}{s:Shared}{p:Addr}{xs ys:List V}{its its':List Value}{n n':Nat}{f:Obj->Obj}(I:Inv X pins σ H s)(h:H p=some (.lst xs))
  (ho:s.heap.get? p=some { cls:= .type "list",data:= .seq its.toArray n }) (hf:f { cls:= .type "list",data:= .seq its.toArray n }={ cls:= .type "list",data:= .seq its'.toArray n' }) (r:Vals ys its') (hz:ys.length<=sizeLine) (t:Nat):
  Inv X pins σ (upd H p (.lst ys)) { s with heap:=s.heap.update p f,toks:=t }:=by
 have e:(s.heap.update p f).get? p=some { cls:= .type "list",data:= .seq its'.toArray n' }:=by
  rw[Heap.get?_update_self f ho (by rw[hf]<;>rfl),hf]
 refine I.write (x:=p) (e:=p) (by rw[h];trivial) (.inl rfl) (λb u hb q=>(Heap.get?_update_other _ _ (nO hb)).trans q) ⟨_,e⟩ ?_;exact⟨hz,its',n',r,e⟩
inductive SSet(o i v:V)(H:Hp)(Q:Hp->Prop):Prop|mk (p:Addr) (xs:List V) (k:Int) (j:Nat) (ho:o = .ref p) (hi:i = .int k) (hp:H p=some (.lst xs)) (hj:rM xs.length k=some j) (q:Q (upd H p (.lst (xs.set j v))))
def ao5:V->V->V->Hp->(Hp->Prop)->Prop:=λo i v H Q=>SSet o i v H Q
def set_list:abo X ao5:=by
 intro pins s σ H o i v ov iv u Q I ro ri rv h;obtain⟨p,xs,k,j,rfl,rfl,hp,hj,q⟩:=h;cases ro;obtain⟨t,rfl⟩:=ri;obtain⟨its,n,r,ho,hz⟩:=I.lst hp;obtain⟨h1,h2,h3,h4⟩:=acI hj;have hl:=r.length;have hn:=Cz;have I':Inv X pins σ (upd H p (.lst (xs.set j v))) { s with heap:=s.heap.update p (iJ (·.setIfInBounds j u)) }:=
  I.aoO hp ho (agY its n j u) (r.set rv j) (by rw[oJ];exact hz) s.toks
 by_cases h0:0<=k
 .have hk:k.toNat=j:=by
   rw[seqIndex_of h0 h4]at h1;exact pF h1
  exact W.ki_setAt ho h0 ⋯ (by rw[fj,<-hl];exact h4) (by rw[hk];exact⟨_,I',q⟩)
 .have hk:(k+(its.toArray.size:Int)).toNat=j:=by
   rw[seqIndex_neg ⋯ h3]at h1;rw[fj,<-hl];exact pF h1
  exact W.ki_setBack ho ⋯ (by rw[fj,<-hl];exact h3) ⋯ (by rw[hk];exact⟨_,I',q⟩)
def auJ(lo hi:Option Int)(n:Nat):(sliceBounds lo hi none n).1=((HT.bf n 0 lo:Nat):Int)/\(sliceBounds lo hi none n).2.1=((HT.bf n n hi:Nat):Int)/\(sliceBounds lo hi none n).2.2=1:=by
 refine⟨?_,?_,rfl⟩
 .cases lo with
  |none=>simp[sliceBounds,HT.bf]
  |some i=>
   simp only[sliceBounds,HT.bf,ac9,show(1:Int)>0 by decide,if_true];by_cases h:i<0
   .simp only[h,if_true]<;>omega
   .simp only[h,if_false]<;>omega
 .cases hi with
  |none=>simp[sliceBounds,HT.bf]
  |some i=>
   simp only[sliceBounds,HT.bf,ac9,show(1:Int)>0 by decide,if_true];by_cases h:i<0
   .simp only[h,if_true]<;>omega
   .simp only[h,if_false]<;>omega
def as6(its:List Value)(lo hi:Option Int):slicePick its.toArray lo hi none=((its.drop (HT.bf its.length 0 lo)).take (HT.bf its.length its.length hi-HT.bf its.length 0 lo)).toArray:=by
 obtain⟨h1,h2,h3⟩:=auJ lo hi its.toArray.size;unfold slicePick;rw[h1,h2,h3];simp only[sliceRange_one,pick_run,fj]<;>rfl
def aiy(K:aF):V->Option Int->Option Int->Hp->VK->Prop:=λx lo hi H Q=>∃a xs,x = .ref a/\au K H a xs/\∀p,H p=none->Q (.ref p) (upd H p (.lst (jc xs lo hi)))
def alm:oK X (aiy X.K):=by
 intro pins s σ H x v vl vu lo hi sl Q I rx hs pl pu h;obtain⟨a,xs,rfl,hx,q⟩:=h;cases rx;obtain⟨its,r,ht,hz⟩:=I.list hx;have hlen:=r.length;refine⟨"list",_,slot_list_getitem.lookup,ht.isList.typeIs,?_⟩;refine wpAny_getItem_list_slice ht.isList hs pl pu .none (by simp) ?_ (by rw[fj]<;>omega);rw[as6,<-hlen];refine⟨.ref s.heap.objs.size,_,I.laid (t':=s.toks) (o:= .lst (jc xs lo hi)) (λb ob q=>Heap.get?_push_of_some _ q) (aJ _) ?_,rfl,q _ (I.hok.fresh (aJ _))⟩;exact⟨fG (XF xs lo hi) hz,_,0,(r.drop (HT.bf xs.length 0 lo)).take (HT.bf xs.length xs.length hi-HT.bf xs.length 0 lo),Heap.get?_push_size _ rfl⟩
def qO:V->Bool
 |.non=>true
 |.bl _=>true
 |.int _=>true
 |.str _=>true
 |_=>false
def QN:V->V->Bool
 |.non,.non=>true
 |.bl a,.bl b=>a==b
 |.bl a,.int b=>(if a then 1 else 0)==b
 |.int a,.bl b=>a==(if b then 1 else 0)
 |.int a,.int b=>a==b
 |.str a,.str b=>a==b
 |_,_=>false
def arw{A:Around}{s:Shared}{y x:V}{u v:Value}(ry:RelV y u)(rx:RelV x v)(fy:qO y=true)(fx:qO x=true):SeqAt.EqAt A s u v (QN y x):=by
 cases y with
 |non=>
  cases ry;cases x with
  |non=>cases rx;exact SeqAt.EqAt.same _
  |bl b=>cases rx;exact SeqAt.EqAt.none_bool b
  |int b=>obtain⟨t,rfl⟩:=rx;exact SeqAt.EqAt.none_int b t
  |str b=>obtain⟨t,rfl⟩:=rx;exact SeqAt.EqAt.none_str b t
  |_=>exact absurd (show false=true from fx) fW
 |bl a=>
  cases ry;cases x with
  |non=>cases rx;exact SeqAt.EqAt.bool_none a
  |bl b=>cases rx;exact SeqAt.EqAt.bool_bool a b
  |int b=>obtain⟨t,rfl⟩:=rx;exact SeqAt.EqAt.bool_int a b t
  |str b=>obtain⟨t,rfl⟩:=rx;exact SeqAt.EqAt.bool_str a b t
  |_=>exact absurd (show false=true from fx) fW
 |int a=>
  obtain⟨t',rfl⟩:=ry;cases x with
  |non=>cases rx;exact SeqAt.EqAt.int_none a t'
  |bl b=>cases rx;exact SeqAt.EqAt.int_bool a t' b
  |int b=>obtain⟨t,rfl⟩:=rx;exact SeqAt.EqAt.int_int a t' b t
  |str b=>obtain⟨t,rfl⟩:=rx;exact SeqAt.EqAt.int_str a t' b t
  |_=>exact absurd (show false=true from fx) fW
 |str a=>
  obtain⟨t',rfl⟩:=ry;cases x with
  |non=>cases rx;exact SeqAt.EqAt.str_none a t'
  |bl b=>cases rx;exact SeqAt.EqAt.str_bool a t' b
  |int b=>obtain⟨t,rfl⟩:=rx;exact SeqAt.EqAt.str_int a t' b t
  |str b=>obtain⟨t,rfl⟩:=rx;exact SeqAt.EqAt.str_str a t' b t
  |_=>exact absurd (show false=true from fx) fW
 |_=>exact absurd (show false=true from fy) fW
def apr:kO X (.type "list") (λxs H Q=>∃p ys,xs=[.ref p]/\(au X.K H p ys∨aA X.K H p ys)/\∀l,H l=none->Q (.ref l) (upd H l (.lst ys))):=by
 intro pins s σ H xs us Q I r h;obtain⟨p,ys,rfl,hq,q⟩:=h;obtain⟨u,rfl,rx⟩:=vals1 r;cases rx;have fin:∀(its:List Value),Vals ys its->ys.length<=sizeLine->∀(h':Heap) (c':Nat),(∀b o',s.heap.get? b=some o'->h'.get? b=some o')->
   h'.get? s.heap.objs.size=some { cls:= .type "list",dict:=none,data:= .seq its.toArray c',slots:=#[] }->EP X pins σ Q (.ref s.heap.objs.size) { s with heap:=h' }:=λits r' hz h' c' kp e=>
  ⟨.ref s.heap.objs.size,_,I.laid (t':=s.toks) kp (aJ _) (show dB X.prog X.w _ h' _ (.lst ys)from⟨hz,its,c',r',e⟩),rfl,q _ (I.hok.fresh (aJ _))⟩
 rcases hq with hq|hq
 .obtain⟨its,r',pl,hz⟩:=I.list hq;have hlen:=r'.length;obtain⟨o,ho,hc,n,hd⟩:=pl.isList;exact call_list_seq p (.inl rfl) ho hc hd (λh' c' kp e=>fin its r' hz h' c' kp e) (by simp only[fj]<;>omega)
 .obtain⟨its,r',pl,hz⟩:=I.tuple hq;have hlen:=r'.length;obtain⟨o,ho,hc,n,hd⟩:=pl;exact call_list_seq p (.inr rfl) ho hc hd (λh' c' kp e=>fin its r' hz h' c' kp e) (by simp only[fj]<;>omega)
def ap9:kO X (.type "tuple") (λxs H Q=>∃p ys,xs=[.ref p]/\((au X.K H p ys/\∀l,H l=none->Q (.ref l) (upd H l (.tup ys)))∨(aA X.K H p ys/\Q (.ref p) H))):=by
 intro pins s σ H xs us Q I r h;obtain⟨p,ys,rfl,h⟩:=h;obtain⟨u,rfl,rx⟩:=vals1 r;cases rx;rcases h with⟨hq,q⟩|⟨hq,q⟩
 .obtain⟨its,r',pl,hz⟩:=I.list hq;have hlen:=r'.length;refine call_tuple_list pl.isList (λh' kp=>?_) (by simp only[fj]<;>omega);have I1:Inv X pins σ H { s with heap:=h' }:=I.kept (t':=s.toks) kp;have I2:Inv X pins σ (upd H h'.objs.size (.tup ys)) { s with heap:=h'.push { cls:= .type "tuple",data:= .seq its.toArray } }:=
   I1.laid (t':=s.toks) (λb o e=>Heap.get?_push_of_some _ e) (aJ _) (show dB X.prog X.w _ _ _ (.tup ys)from⟨hz,its,r',IsTup.new _ _⟩)
  exact⟨.ref h'.objs.size,_,I2,rfl,q _ (I1.hok.fresh (aJ _))⟩
 .obtain⟨its,r',pl,hz⟩:=I.tuple hq;exact call_tuple_same pl ⟨.ref p,H,I,rfl,q⟩
def VQ(K:aF)(T:String)(x:V)(H:Hp):Prop:=match x with
 |.str _=>T = "str"
 |.int _=>T = "int"
 |.ref p=>(T = "list" /\ ∃xs,au K H p xs)∨(T = "tuple" /\ ∃o,K.lookup p=some o/\o.cls = .type "tuple" /\ o.dict=none)∨
   (T = "dict" /\ ((∃kvs,H p=some (.dK kvs))∨∃kvs,H p=some (.dT kvs)))∨(T = "set" /\ ∃S n,H p=some (.set S n))
 |_=>False
def avj{pins:List (Addr×Obj)}{σ:St}{H:Hp}{s:Shared}{T:String}{x:V}{v:Value}(I:Inv X pins σ H s)(r:RelV x v)(ty:VQ X.K T x H):
  s.TypeIs v T/\∀a,v = .ref a->∃ob,s.heap.get? a=some ob/\ob.dict=none:=by
 cases x with
 |str z=>
  obtain⟨t,rfl⟩:=r;cases (show T = "str" from ty);exact⟨typeIs_str s z t,λ_ e=>nomatch e⟩
 |int i=>
  obtain⟨t,rfl⟩:=r;cases (show T = "int" from ty);exact⟨typeIs_int s i t,λ_ e=>nomatch e⟩
 |ref p=>
  cases r;rcases ty with⟨rfl,xs,hq⟩|⟨rfl,o,hk,hc,hd⟩|⟨rfl,hk⟩|⟨rfl,S,n,hk⟩
  .obtain⟨its,_,pl,_⟩:=I.list hq;refine⟨pl.isList.typeIs,λa e=>?_⟩;cases e;obtain⟨o,n,e,c,hd,_⟩:=pl;exact⟨o,e,hd⟩
  .refine⟨⟨o,I.jF p o hk,hc⟩,λa e=>?_⟩;cases e;exact⟨o,I.jF _ o hk,hd⟩
  .have z:∃o,s.heap.get? p=some o/\o.ExactDict:=by
    rcases hk with⟨kvs,hk⟩|⟨kvs,hk⟩
    .obtain⟨_,_,_,_,o,_,_,e,ex,_⟩:=I.hok p _ hk;exact⟨o,e,ex⟩
    .obtain⟨_,_,_,_,o,_,_,e,ex,_⟩:=I.hok p _ hk;exact⟨o,e,ex⟩
   obtain⟨o,e,ex⟩:=z;refine⟨⟨o,e,ex.1⟩,λa e2=>?_⟩;cases e2;exact⟨o,e,ex.2.1⟩
  .obtain⟨o,_,_,_,e,ex,_⟩:=I.hok p _ hk;refine⟨⟨o,e,ex.1⟩,λa e2=>?_⟩;cases e2;exact⟨o,e,ex.2.1⟩
 |_=>exact False.elim ty
def K9(K:aF)(T:String)(r:V->List V->Hp->VK->Prop)(to:TE)(t:TA):TE:=λσ H Q=>to σ H λx H1=>VQ K T x H1/\t σ H1 λxs H2=>r x xs H2 Q
variable {o e:Expr} {es:List Expr} {to:TE} {t:TA} {name:Str} {apos cpos:Pos} {T id:String} {r:V->List V->Hp->VK->Prop}
def Zj(pa:PlainAttrs T)(slot:Slot T name id)(hty:typeOf (.builtin id)=pure (.type "method_descriptor"))(hm:MtR X id r)(ho:PE X o to)(ha:PA X (e::es) t)
  (hbase:attributeBase o name X.env (eval o X.env)=eval o X.env:=by rfl)
  (hfew:((backTo cpos (starEach (e::es) X.env)).all (λx=>!x.1)&&(backToKw cpos (keywordEach [] X.env)).all (λx=>x.1.isSome)
   && decide ((e::es).length+([]:List Keyword).length+(if([]:List Keyword).isEmpty then 0 else 1)<30))=true:=by rfl)
  (hline:(apos.endLine==cpos.line)=true:=by rfl) (hs:starEach (e::es) X.env=(false,eval e X.env)::starEach es X.env:=by rfl) (hplain:(backTo cpos (starEach es X.env)).any (·.1)=false:=by rfl):
  PE X (.Call (.Attribute o name apos) (e::es) [] cpos) (K9 X.K T r to t):=by
 intro pins s σ H Q I h;refine wpAny_Call_method_late hbase hfew hline rfl (aU (ho pins s σ H _ I h) λv s1 ⟨x,H1,I1,r1,ty,q1⟩=>?_);obtain⟨h1,h2⟩:=avj I1 r1 ty;refine⟨T,id,pa,slot,hty,h1,h2,?_⟩;have hA:=ha cpos pins s1 σ H1 _ I1 q1;rw[hs]at hA⊢;refine Calls.callWith_builtin (by show(false||(backTo cpos (starEach es X.env)).any (·.1))=false;rw[hplain]<;>rfl) (aa6 ?_);exact aU hA λus s2 ⟨vs,H2,I2,r2,q2⟩=>hm pins s2 σ H2 x vs v us Q I2 r1 r2 q2
end
def MtM(X:Cx)(id:String)(r:V->List V->Hp->VK->Prop):Prop:=
 ∀(pins:List (Addr×Obj)) (s:Shared) (σ:St) (H:Hp) (x:V) (xs:List V) (v:Value) (us:List Value) (Q:VK),Inv X pins σ H s->RelV x v->Vals xs us->r x xs H Q->
  wpAny (model X.prog X.w) X.A (call (.builtin id) (v::us)) (EP X pins σ Q) X.xe s
def Vals.one{x:V}{us:List Value}(h:Vals [x] us):∃u,us=[u]/\RelV x u:=by
 cases h with
 |cons r h=>cases h;exact⟨_,rfl,r⟩
def Vals.two{x y:V}{us:List Value}(h:Vals [x,y] us):∃u v,us=[u,v]/\RelV x u/\RelV y v:=by
 cases h with
 |cons r h=>
  obtain⟨v,rfl,q⟩:=Vals.one h;exact⟨_,_,rfl,r,q⟩
theorem Vals.reverse{xs:List V}{us:List Value}(h:Vals xs us):Vals xs.reverse us.reverse:=by
 induction h with
 |nil=>exact .nil
 |cons r t ih=>rw[Y7,Y7];exact Vals.append ih (.cons r .nil)
theorem Vals.rep{xs:List V}{us:List Value}(h:Vals xs us):∀k:Nat,Vals (iK k xs).flatten (iK k us).flatten
 |0=> .nil
 |k+1=>by
  rw[BL,BL,EV,EV];exact Vals.append h (Vals.rep h k)
theorem foldl_rep(its:List Value):∀(k:Nat) (acc:List Value),
  K1 (λx1 x2=>x1++x2) acc.toArray (iK k its.toArray)=(acc++(iK k its).flatten).toArray
 |0,acc=>by simp
 |k+1,acc=>by
  have e:acc.toArray++its.toArray=(acc++its).toArray:=by simp
  have e2:(acc++its)++(iK k its).flatten=acc++(iK (k+1) its).flatten:=by
   rw[BL,EV,Ht]
  rw[<-e2,<-foldl_rep its k (acc++its),<-e,BL,List.foldl_cons]
section
variable {X:Cx} {pins:List (Addr×Obj)} {σ:St} {H:Hp} {s:Shared} {l b:Addr} {xs ys zs:List V}
def Inv.X4{its its':List Value}{n:Nat}{f:Array Value->Array Value}{t':Nat}(I:Inv X pins σ H s)(hH:H l=some (.lst xs))
  (e:s.heap.get? l=some { cls:= .type "list",data:= .seq its.toArray n }) (hf:f its.toArray=its'.toArray) (hv:Vals ys its') (hz:ys.length<=sizeLine):
  Inv X pins σ (upd H l (.lst ys)) { s with heap:=s.heap.update l (iJ f),toks:=t' }:=by
 have q:=PySem.IsL.update e f;rw[hf]at q;refine I.write (x:=l) (e:=l) (by rw[hH];exact trivial) (.inl rfl) (λb' u hb hu=>(Heap.get?_update_other s.heap (iJ f) (nO hb)).trans hu) ⟨_,q⟩ ?_;exact⟨hz,its',_,hv,q⟩
def Inv.Tf{its:List Value}{t':Nat}(I:Inv X pins σ H s)(hv:Vals ys its)(hz:ys.length<=sizeLine):
  Inv X pins σ (upd H s.heap.objs.size (.lst ys)) { s with heap:=s.heap.push { cls:= .type "list",data:= .seq its.toArray },toks:=t' }:=
 I.laid (λ_ _ q=>Heap.get?_push_of_some _ q) (aJ _) ⟨hz,its,0,hv,Heap.get?_push_size _ rfl⟩
theorem Inv.fresh(I:Inv X pins σ H s):H s.heap.objs.size=none:=I.hok.fresh (aJ _)
def Inv.rN(I:Inv X pins σ H s)(hH:H l=some (.lst xs)):xs.length<=sizeLine/\∃(its:List Value) (n:Nat),Vals xs its/\xs.length=its.length/\s.heap.get? l=some { cls:= .type "list",data:= .seq its.toArray n }:=by
 obtain⟨z,its,n,r,e⟩:=I.hok l _ hH;exact⟨z,its,n,r,r.length,e⟩
def acj{n:Nat}(h:n<=sizeLine):Builtin.List.listTooLong n=false:=by
 unfold Builtin.List.listTooLong;exact decide_eq_false ⋯
end
section
variable {X:Cx}
inductive agQ(x:V)(vs:List V)(H:Hp)(Q:VK):Prop|mk (l:Addr) (xs:List V) (y:V) (hx:x = .ref l) (hv:vs=[y]) (hl:H l=some (.lst xs)) (hz:xs.length<sizeLine) (q:Q .non (upd H l (.lst (xs++[y]))))
def abe:V->List V->Hp->VK->Prop:=λx vs H Q=>agQ x vs H Q
def afE:MtM X "list.append" abe:=by
 intro pins s σ H x vs v us Q I rx rv h;obtain⟨l,xs,y,rfl,rfl,hH,hz,q⟩:=h;cases rx;obtain⟨u,rfl,ru⟩:=rv.one;obtain⟨z,its,n,r,hl,e⟩:=I.rN hH;refine call_meets F.slot_list_append ⟨_,e,rfl⟩ F.entry_list_append (F.args_list_append_2 _ _) (PySem.list_append l its.toArray n u (by rw[fj];omega)) ⟨e,?_⟩;refine⟨.non,_,I.X4 (its':=its++[u]) hH e (by simp) (r.append (.cons ru .nil)) ?_,rfl,q⟩;rw[fO,aaQ];omega
def V9:V->List V->Hp->VK->Prop:=λx vs H Q=>∃l b xs zs,x = .ref l/\vs=[.ref b]/\H l=some (.lst xs)/\H b=some (.lst zs)/\xs.length+zs.length<=sizeLine/\Q .non (upd H l (.lst (xs++zs)))
def apb:MtM X "list.extend" V9:=by
 intro pins s σ H x vs v us Q I rx rv h;obtain⟨l,b,xs,zs,rfl,rfl,hH,hB,hz,q⟩:=h;cases rx;obtain⟨u,rfl,ru⟩:=rv.one;cases ru;obtain⟨z,its,n,r,hl,e⟩:=I.rN hH;obtain⟨z2,its2,n2,r2,hl2,e2⟩:=I.rN hB;have hsz:its.toArray.size+its2.toArray.size<=sizeLine:=by rw[fj,fj];omega
 have TJ:¬(!its.toArray.isEmpty&&Builtin.List.listTooLong (its.toArray.size+its2.toArray.size))=true:=by
  rw[acj hsz,Bool.and_false];exact fW
 refine call_meets F.slot_list_extend ⟨_,e,rfl⟩ F.entry_list_extend (F.args_list_extend_2 _ _)
  (AutoSeq1.list_extend_list_list_0 l its.toArray n b its2.toArray n2 TJ (by rw[fj];omega) ⋯) ⟨e,e2,?_⟩
 refine⟨.non,_,I.X4 (its':=its++its2) hH e (by simp) (r.append r2) ?_,rfl,q⟩;rw[fO];omega
def ag1:R2:=λx y H Q=>∃l b xs zs,x = .ref l/\y = .ref b/\H l=some (.lst xs)/\H b=some (.lst zs)/\xs.length+zs.length<=sizeLine/\∀p,H p=none->Q (.ref p) (upd H p (.lst (xs++zs)))
def aoz:cV X (binaryOp .Add) ag1:=by
 intro pins s σ H x y v u Q I rx ry h;obtain⟨l,b,xs,zs,rfl,rfl,hH,hB,hz,q⟩:=h;cases rx;cases ry;obtain⟨z,its,n,r,hl,e⟩:=I.rN hH;obtain⟨z2,its2,n2,r2,hl2,e2⟩:=I.rN hB;refine PySem.P.add_list e e2 ?_ (by rw[fj,fj];omega);have ea:its.toArray++its2.toArray=(its++its2).toArray:=by simp
 rw[ea];exact⟨.ref _,_,I.Tf (t':=s.toks) (r.append r2) (by rw[fO];omega),rfl,q _ I.fresh⟩
def al0:R2:=λx y H Q=>∃l k xs,x = .ref l/\y = .int k/\H l=some (.lst xs)/\-(2^63)<=k/\k<2^63/\xs.length*k.toNat<=sizeLine/\
 ∀p,H p=none->Q (.ref p) (upd H p (.lst (iK k.toNat xs).flatten))
def len_rep{α:Type}(xs:List α)(k:Nat):(iK k xs).flatten.length=k*xs.length:=by
 induction k with
 |zero=>simp
 |succ k ih=>rw[BL,EV,fO,ih,um,ad8]
def ak1:cV X (binaryOp .Mult) al0:=by
 intro pins s σ H x y v u Q I rx ry h;obtain⟨l,k,xs,rfl,rfl,hH,h1,h2,hz,q⟩:=h;cases rx;obtain⟨t,rfl⟩:=ry;obtain⟨z,its,n,r,hl,e⟩:=I.rN hH;have hlen:its.toArray.size*k.toNat<=sizeLine:=by rw[fj,<-hl];exact hz
 have hcap:¬its.toArray.size*k.toNat>(2^63-1)/8:=by
  have:(sizeLine:Nat)<=(2^63-1)/8:=∅;omega
 have hfit:¬(!Builtin.List.listFitsIndex k)=true:=by
  rw[fitsIndex_both h1 h2];exact fW
 have TJ:¬Builtin.List.listTooLong (its.toArray.size*k.toNat)=true:=by
  rw[acj hlen];exact fW
 have hnew:K1 (λx1 x2=>x1++x2) #[] (iK (if its.toArray.isEmpty=true then 0 else k.toNat) its.toArray)=(iK k.toNat its).flatten.toArray:=by
  have f0:∀m:Nat,K1 (λx1 x2=>x1++x2) #[] (iK m its.toArray)=(iK m its).flatten.toArray:=λm=>by
   have:=foldl_rep its m [];rw[List.nil_append]at this;exact this
  rw[f0];cases its with
  |nil=>simp
  |cons a r'=>rw[if_neg (by simp)]
 refine wpAny_binaryOp_repeat_ref (T:= "list") (U:= "int") ∅ ⟨_,e,rfl⟩ (λs'=>typeIs_int s' k t) noFill_list_mul F.fills_int_mul Vw repeat_list F.slot_int_index.lookup
  (call_meets Vw (typeIs_int s k t) F.entry_int_rmul (F.args_int_rmul_2 _ _) (int___rmul___int_list k t l its.toArray n)
   ⟨e,rfl,⟨_,e,rfl⟩,call_meets F.slot_list_mul ⟨_,e,rfl⟩ F.entry_list_mul (F.args_list_mul_2 _ _) (AutoListH.list___mul___list_int_3 l its.toArray n k t hfit hcap TJ) ⟨e,?_⟩⟩)
 rw[hnew];exact⟨.ref _,_,I.Tf (t':=s.toks) (r.rep k.toNat) (by rw[len_rep,uM];exact hz),rfl,q _ I.fresh⟩
end
section
variable {prog:Program} {w:World} {A:Around} {E:Value->Shared->Prop} {s:Shared}
end
section
variable {X:Cx}
end
section
variable {κ:Type} [DecidableEq κ]
def eU(kvs:List (κ×V))(k:κ):Option V:=(kvs.find? λkv=>decide (kv.1=k)).map (·.2)
def putK(kvs:List (κ×V))(k:κ)(v:V):List (κ×V):=
 if(kvs.any λkv=>decide (kv.1=k))=true then kvs.map (λkv=>if kv.1=k then(kv.1,v)else kv)else kvs++[(k,v)]
def J2{p:κ×V}{r:List (κ×V)}{k:κ}(e:p.1=k):eU (p::r) k=some p.2:=by simp[eU,List.find?_cons,e]
def BX{p:κ×V}{r:List (κ×V)}{k:κ}(e:¬p.1=k):eU (p::r) k=eU r k:=by simp[eU,List.find?_cons,e]
theorem XU(k:κ):∀kvs:List (κ×V),(kvs.any λkv=>decide (kv.1=k))=(eU kvs k).isSome
 |[]=>rfl
 |p::r=>by
  rw[Mz];by_cases e:p.1=k
  .simp only[J2 e,decide_eq_true e,Bool.true_or,Option.isSome_some]
  .rw[BX e,decide_eq_false e,Z0];exact XU k r
def NP(kvs:List (κ×V))(k:κ)(v:V):(putK kvs k v).length<=kvs.length+1:=by
 unfold putK;split
 .rw[aB];omega
 .rw[fO,fB,OB];omega
def lX.Ma{o:Option V}{u:Option Value}(r:lX o u):o.isSome=u.isSome:=by
 cases o with
 |none=>cases u with
  |none=>rfl
  |some _=>exact(show False from r).elim
 |some _=>cases u with
  |none=>exact(show False from r).elim
  |some _=>rfl
def KV.val{kvs:List (κ×V)}{vs:List (κ×Value)}(r:KV kvs vs)(k:κ):lX (eU kvs k) (valueAt vs k):=by
 unfold KV at r;induction r with
 |nil=>exact True.intro
 |@cons p q ps qs h t ih=>
  obtain⟨h1,h2⟩:=h;by_cases e:p.1=k
  .have e':q.1=k:=h1.symm.trans e;have b:valueAt (q::qs) k=some q.2:=by simp[valueAt,List.find?_cons,e']
   rw[J2 e,b];exact h2
  .have e':¬q.1=k:=λz=>e (h1.trans z);have b:valueAt (q::qs) k=valueAt qs k:=by simp[valueAt,List.find?_cons,e']
   rw[BX e,b];exact ih
theorem KV.any{kvs:List (κ×V)}{vs:List (κ×Value)}(r:KV kvs vs)(k:κ):(kvs.any λkv=>decide (kv.1=k))=vs.any λkv=>decide (kv.1=k):=by
 unfold KV at r;induction r with
 |nil=>rfl
 |cons h t ih=>rw[Mz,Mz,ih,h.1]
def KV.repl{kvs:List (κ×V)}{vs:List (κ×Value)}(r:KV kvs vs)(k:κ){y:V}{u:Value}(ry:RelV y u):
  KV (kvs.map λkv=>if kv.1=k then(kv.1,y)else kv) (vs.map λkv=>if kv.1=k then(kv.1,u)else kv):=by
 unfold KV at r⊢;induction r with
 |nil=>exact .nil
 |@cons p q ps qs h t ih=>
  rw[cD,cD];refine .cons ?_ ih;obtain⟨h1,h2⟩:=h;by_cases e:p.1=k
  .rw[if_pos e,if_pos (h1.symm.trans e)];exact⟨h1,ry⟩
  .rw[if_neg e,if_neg (λz=>e (h1.trans z))];exact⟨h1,h2⟩
def KV.put{kvs:List (κ×V)}{vs:List (κ×Value)}(r:KV kvs vs)(k:κ){y:V}{u:Value}(ry:RelV y u):KV (putK kvs k y) (stored vs k u):=by
 unfold putK stored;rw[r.any k];by_cases e:(vs.any λkv=>decide (kv.1=k))=true
 .rw[if_pos e,if_pos e];exact r.repl k ry
 .rw[if_neg e,if_neg e];exact Paired.snoc r ⟨rfl,ry⟩
theorem KV.length{kvs:List (κ×V)}{vs:List (κ×Value)}(r:KV kvs vs):kvs.length=vs.length:=Paired.length r
end
def DM{P:Program}{w:World}{k:Key}{u:Value}(r:RelV (kV k) u):(eE P w).is k u=true:=by
 cases k with
 |inl i=>obtain⟨t,e⟩:=(show ∃t,u=Value.int i t from r);subst e;exact arJ P w i t
 |inr x=>obtain⟨t,e⟩:=(show ∃t,u=Value.str x t from r);subst e;exact aqC P w x t
theorem adJ{P:Program}{w:World}:∀{ks:List Key} {us:List Value},Vals (ks.map kV) us->ItemsAre (eE P w) ks us
 |[],_,r=>by rw[Ih]at r;cases r;exact .nil
 |k::ks,_,r=>by
  rw[cD]at r;cases r with
  |cons h t=>exact .cons (DM h) (adJ t)
abbrev KT(H:Hp):List (List Key×V)->List (List Key×Addr×Value)->Prop:=Paired λp q=>p.1=q.1/\H q.2.1=some (.tup (p.1.map kV))/\RelV p.2 q.2.2
def KT.val{H:Hp}{kvs:List (List Key×V)}{xs:List (List Key×Addr×Value)}(r:KT H kvs xs)(k:List Key):lX (eU kvs k) ((atKey xs k).map (·.2)):=by
 induction r with
 |nil=>exact True.intro
 |@cons p q ps qs h t ih=>
  obtain⟨h1,_,h2⟩:=h;by_cases e:p.1=k
  .have e':q.1=k:=h1.symm.trans e;have b:atKey (q::qs) k=some q.2:=by simp[atKey,List.find?_cons,e']
   rw[J2 e,b];exact h2
  .have e':¬q.1=k:=λz=>e (h1.trans z);have b:atKey (q::qs) k=atKey qs k:=by simp[atKey,List.find?_cons,e']
   rw[BX e,b];exact ih
def KT.repl{H:Hp}{kvs:List (List Key×V)}{xs:List (List Key×Addr×Value)}(r:KT H kvs xs)(k:List Key){y:V}{u:Value}(ry:RelV y u):
  KT H (kvs.map λkv=>if kv.1=k then(kv.1,y)else kv) (xs.map (putAt k u)):=by
 induction r with
 |nil=>exact .nil
 |@cons p q ps qs h t ih=>
  rw[cD,cD];refine .cons ?_ ih;obtain⟨h1,h2,h3⟩:=h;unfold putAt;by_cases e:p.1=k
  .rw[if_pos e,if_pos (h1.symm.trans e)];exact⟨h1,h2,ry⟩
  .rw[if_neg e,if_neg (λz=>e (h1.trans z))];exact⟨h1,h2,h3⟩
def KT.put{H:Hp}{kvs:List (List Key×V)}{xs:List (List Key×Addr×Value)}(r:KT H kvs xs)(k:List Key){b:Addr}{y:V}{u:Value}(hb:H b=some (.tup (k.map kV)))(ry:RelV y u):
  KT H (putK kvs k y) (storedH xs k b u):=by
 have e:(kvs.any λkv=>decide (kv.1=k))=(atKey xs k).isSome:=by
  rw[XU,(r.val k).Ma,acn]
 unfold putK storedH;rw[e];by_cases q:(atKey xs k).isSome=true
 .rw[if_pos q,if_pos q];exact r.repl k ry
 .rw[if_neg q,if_neg q];exact Paired.snoc r ⟨rfl,hb,ry⟩
def KT.keeps{H H':Hp}{kvs:List (List Key×V)}{xs:List (List Key×Addr×Value)}(r:KT H kvs xs)(ht:∀b ys,H b=some (.tup ys)->H' b=some (.tup ys)):KT H' kvs xs:=
 Paired.NW r λ_ _ z=>⟨z.1,ht _ _ z.2.1,z.2.2⟩
section
variable {P:Program} {w:World} {H:Hp} {h:Heap} {a:Addr}
def af4{u:HO}(ok:eZ P w H h)(e:Rd H a u):dB P w H h a u:=e.ok ok
def Gu{kvs:List (Key×V)}(ok:eZ P w H h)(e:Rd H a (.dK kvs)):kvs.length<=sizeLine/\(a==sysModules)=false/\∃vs,KV kvs vs/\h.DictOf (eE P w) a vs:=
 show dB P w H h a (.dK kvs)from af4 ok e
def abV{kvs:List (Key×V)}(ok:eZ P w H h)(e:H a=some (.dK kvs)):kvs.length<=sizeLine/\(a==sysModules)=false/\∃vs,KV kvs vs/\h.DictOf (eE P w) a vs:=Gu ok (.inl e)
def G7{ks:List Key}(ok:eZ P w H h)(e:H a=some (.tup (ks.map kV))):(tupleKind (eE P w)).is h ks a:=by
 obtain⟨_,its,r,o,h1,h2,n,h3⟩:=(show dB P w H h a (.tup (ks.map kV))from ok a _ e);exact⟨o,its.toArray,n,h1,h2,h3,by simpa using adJ r⟩
def JN{kvs:List (List Key×V)}(ok:eZ P w H h)(e:Rd H a (.dT kvs)):kvs.length<=sizeLine/\(a==sysModules)=false/\
  ∃xs,KT H kvs xs/\h.DictOfH (tupleKind (eE P w)) a xs:=by
 obtain⟨z,y,xs,r,o,es,ep,h1,h2,h3,h4,h5⟩:=(show dB P w H h a (.dT kvs)from af4 ok e);refine⟨z,y,xs,r,o,es,ep,h1,h2,h3,h4,λx hx=>?_,h5⟩;have all:∀{l:List (List Key×V)} {m:List (List Key×Addr×Value)},KT H l m->∀x∈m,(tupleKind (eE P w)).is h x.1 x.2.1:=by
  intro l m q;induction q with
  |nil=>intro x hx;exact nomatch hx
  |@cons p q ps qs hq t ih=>
   intro x hx;rcases bH.mp hx with e|hx
   .subst e;exact G7 ok (by rw[<-hq.1];exact hq.2.1)
   .exact ih x hx
 exact all r x hx
def aw4{kvs:List (List Key×V)}(ok:eZ P w H h)(e:H a=some (.dT kvs)):kvs.length<=sizeLine/\(a==sysModules)=false/\
  ∃xs,KT H kvs xs/\h.DictOfH (tupleKind (eE P w)) a xs:=JN ok (.inl e)
end
def rm(H:Hp)(a:Addr)(y:V)(r:Option V):Prop:=
 (∃kvs k,Rd H a (.dK kvs)/\y=kV k/\r=eU kvs k)∨∃kvs k b,Rd H a (.dT kvs)/\y = .ref b/\H b=some (.tup (k.map kV))/\r=eU kvs k
def Bu(H:Hp)(a:Addr)(y v:V)(H':Hp):Prop:=
 (∃kvs k,H a=some (.dK kvs)/\y=kV k/\kvs.length<sizeLine/\H'=upd H a (.dK (putK kvs k v)))∨
 ∃kvs k b,H a=some (.dT kvs)/\y = .ref b/\H b=some (.tup (k.map kV))/\kvs.length<sizeLine/\H'=upd H a (.dT (putK kvs k v))
theorem rm.k{H:Hp}{a:Addr}{kvs:List (Key×V)}{k:Key}(e:H a=some (.dK kvs)):rm H a (kV k) (eU kvs k):= .inl ⟨kvs,k,.inl e,rfl,rfl⟩
theorem Bu.k{H:Hp}{a:Addr}{kvs:List (Key×V)}{k:Key}{v:V}(e:H a=some (.dK kvs))(hl:kvs.length<sizeLine):Bu H a (kV k) v (upd H a (.dK (putK kvs k v))):= .inl ⟨kvs,k,e,rfl,hl,rfl⟩
section
variable {X:Cx} {pins:List (Addr×Obj)} {σ:St} {H:Hp} {s:Shared} {a:Addr} {y v:V} {u r:Value} {o:Option V} {A:Around} {E:Value->Shared->Prop}
def Inv.big(I:Inv X pins σ H s):sysModules<s.heap.objs.size:=by
 have h:mainGlobals<s.heap.objs.size:=(I.mod.glob.keeps I.bk).lt;exact Bl ∅ h
def ahf{Q:Value->Shared->Prop}(hu:A.units+1<cLine)(I:Inv X pins σ H s)(g:rm H a y (some v))(ry:RelV y u)(h:∀w' s',Inv X pins σ H s'->RelV v w'->Q w' s'):
  wpAny (model X.prog X.w) A (getItem (.ref a) u) Q E s:=by
 rcases g with⟨kvs,k,e,ey,l⟩|⟨kvs,k,b,e,ey,eb,l⟩
 .subst ey;obtain⟨z,hd,vs,rel,dd⟩:=Gu I.hok e;obtain⟨w',hw,pQ⟩:=lX.some_of (v:=v) (o:=valueAt vs k) (by rw[l];exact rel.val k);exact wpAny_getItem_of (DM ry) dd.mapOf hw (h w' _ (I.tok _) pQ)
 .subst ey;cases (show u=Value.ref b from ry);obtain⟨z,hd,xs,rel,dd⟩:=JN I.hok e;obtain⟨w',hw,pQ⟩:=lX.some_of (v:=v) (o:=(atKey xs k).map (·.2)) (by rw[l];exact rel.val k);obtain⟨p,hp,hp2⟩:=aa4.mp hw;refine wpAny_getItem_heap (tupleKind_room_in1 hu) (G7 I.hok eb) dd hp ?_;rw[hp2];exact h w' _ (I.tok _) pQ
def atw{Q:Value->Shared->Prop}(hu:A.units+1<cLine)(I:Inv X pins σ H s)(g:rm H a y o)(ry:RelV y u)(h:∀s',Inv X pins σ H s'->Q (.bool (!o.isSome)) s'):
  wpAny (model X.prog X.w) A (compareOp .NotIn u (.ref a)) Q E s:=by
 rcases g with⟨kvs,k,e,ey,l⟩|⟨kvs,k,b,e,ey,eb,l⟩
 .subst ey;obtain⟨z,hd,vs,rel,dd⟩:=Gu I.hok e;refine wpAny_notIn_of (DM ry) hd dd.mapOf ?_;rw[<-(rel.val k).Ma,<-l];exact h _ (I.tok _)
 .subst ey;cases (show u=Value.ref b from ry);obtain⟨z,hd,xs,rel,dd⟩:=JN I.hok e;refine wpAny_notIn_heap (tupleKind_room_in1 hu) (G7 I.hok eb) hd dd ?_;have q:=(rel.val k).Ma;rw[acn]at q;rw[<-q,<-l];exact h _ (I.tok _)
def Tr{h':Heap}{t':Nat}{ob:HO}(I:Inv X pins σ H s)(mu:Cj (H a))(hs:xV a s.heap h')(he:∃q,h'.get? a=some q)(new:dB X.prog X.w (upd H a ob) h' a ob):
  Inv X pins σ (upd H a ob) { s with heap:=h',toks:=t' }:=
 I.write (x:=a) (e:=a) mu (.inl rfl) (λb q hb z=>(hs.2 b hb).trans z) he new
def SW{P:Program}{w:World}{H':Hp}{h':Heap}{kvs:List (Key×V)}{vs:List (Key×Value)}(z:kvs.length<=sizeLine)(hd:(a==sysModules)=false)(rel:KV kvs vs)(dd:h'.DictOf (eE P w) a vs):
  dB P w H' h' a (.dK kvs):=⟨z,hd,vs,rel,dd⟩
def apc{H':Hp}{Q:Unit->Shared->Prop}(hu:A.units+1<cLine)(I:Inv X pins σ H s)(g:Bu H a y v H')(ry:RelV y u)(rv:RelV v r)(h:∀s',Inv X pins σ H' s'->Q () s'):
  wpAny (model X.prog X.w) A (setItem (.ref a) u r) Q E s:=by
 rcases g with⟨kvs,k,e,ey,l,eH⟩|⟨kvs,k,b,e,ey,eb,l,eH⟩
 .subst ey eH;obtain⟨z,hd,vs,rel,dd⟩:=abV I.hok e;have hz:vs.length<=sizeLine:=by rw[<-rel.length];exact z
  have hl:(putK kvs k v).length<=sizeLine:=by have:=NP kvs k v;omega
  refine wpAny_setItem_pairs (hsz:=hz) (DM ry) dd λh' wX hs=>h _ ?_;have he:∃q,h'.get? a=some q:=let⟨q,_,_,hq,_⟩:=wX;⟨q,hq⟩;exact Tr I (by rw[e];exact True.intro) hs he (SW hl hd (rel.put k rv) wX)
 .subst ey eH;cases (show u=Value.ref b from ry);obtain⟨z,hd,xs,rel,dd⟩:=aw4 I.hok e;have hz:xs.length<=sizeLine:=by rw[<-Paired.length rel];exact z
  have hl:(putK kvs k v).length<=sizeLine:=by have:=NP kvs k v;omega
  refine wpAny_setItem_heap (hsz:=hz) (tupleKind_room_in1 hu) (G7 I.hok eb) dd λh' wX hs=>h _ ?_;obtain⟨q,es,ep,hq,h2,h3,h4,_,h5⟩:=wX;refine Tr I (by rw[e];exact True.intro) hs ⟨q,hq⟩ ⟨hl,hd,_,(rel.put k eb rv).keeps λc ys ec=>?_,q,es,ep,hq,h2,h3,h4,h5⟩;rw[bK (akZ ec e (λz=>nomatch z))];exact ec
end
section
variable {X:Cx} {pins:List (Addr×Obj)} {σ:St} {H:Hp} {s:Shared} {a:Addr} {kvs:List (Key×V)} {k:Key} {u:Value} {A:Around} {E:Value->Shared->Prop}
end
def adO(i:Expr):Prop:=∀ov iv,subscripted i false ov iv=operate [ov,iv] (getItem ov iv)
def atd{prog:Program}{w:World}{A:Around}{E:Value->Shared->Prop}{s:Shared}{env:Env}{value slice:Expr}{pos:Pos}{T id:String}{Q:Value->Shared->Prop}
  (hl:typeLookup (.type T) "__getitem__" = pure (some (.builtin id))) (hs:adO slice)
  (h:wpAny (model prog w) A (eval value env) (λo s₁=>wpAny (model prog w) A (eval slice env) (λi s₂=>s₂.TypeIs o T/\wpAny (model prog w) A (getItem o i) Q E s₂) E s₁) E s):
  wpAny (model prog w) A (eval (.Subscript value slice pos) env) Q E s:=by
 refine Subscript_ (wpAny_mono h (λo s₁ h₁=>wpAny_mono h₁ (λi s₂ h₂=>?_) λ_ _ x=>x) λ_ _ x=>x);obtain⟨hT,h₂⟩:=h₂;unfold subscriptTail;refine wpAny_bind ?_;rw[getitemInPython_of_ne hT.not_modules];refine wpAny_bind (wpAny_specialOf hT hl ?_);have fin:wpAny (model prog w) A (subscripted slice false o i) (λr s₃=>wpAny (model prog w) A (letTemporaryGo value o r>>=λ_=>pure r) Q E s₃) E s₂:=by
  rw[hs o i];exact wpAny_operating (wpAny_mono h₂ (λr s₃ h₃=>wpAny_bind (wpAny_letTemporaryGo (wpAny_pure h₃))) λ_ _ x=>x)
 first
  |exact wpAny_pure (wpAny_bind fin)
  |exact wpAny_bind (wpAny_pure (wpAny_bind fin))
  |exact wpAny_bind fin
def aln{X:Cx}{pins:List (Addr×Obj)}{σ:St}{H:Hp}{s:Shared}{a:Addr}{y:V}{o:Option V}(I:Inv X pins σ H s)(g:rm H a y o):s.TypeIs (.ref a) "dict" := by
 rcases g with⟨kvs,k,e,_,_⟩|⟨kvs,k,b,e,_,_,_⟩
 .obtain⟨_,_,vs,_,dd⟩:=Gu I.hok e;exact dd.typeIs
 .obtain⟨_,_,xs,_,dd⟩:=JN I.hok e;exact dd.typeIs
def avB(td ty:TE):TE:=λσ H Q=>td σ H λx H1=>ty σ H1 λy H2=>∃a v,x = .ref a/\rm H2 a y (some v)/\Q v H2
def akO(ty td:TE):TE:=λσ H Q=>ty σ H λy H1=>td σ H1 λx H2=>∃a o,x = .ref a/\rm H2 a y o/\Q (.bl (!o.isSome)) H2
def aw3(td ty tv:TE):TS:=λD σ H=>tv σ H λv H1=>td σ H1 λx H2=>ty σ H2 λy H3=>∃a H4,x = .ref a/\Bu H3 a y v H4/\D.nx σ H4
section
variable {X:Cx} {o i e value:Expr} {pos pos' tpos:Pos} {td ty tv:TE}
def Nx(hu:X.A.units+1<cLine)(ho:PE X o td)(hi:PE X i ty)(hs:adO i):PE X (.Subscript o i pos) (avB td ty):=by
 intro pins s σ H Q I h;refine atd PySem.F.slot_dict_getitem.lookup hs (aU (ho pins s σ H _ I h) λu s1 ⟨x,H1,I1,rx,q1⟩=>aU (hi pins s1 σ H1 _ I1 q1) λiv s2 ⟨y,H2,I2,ry,a,v,ex,g,q2⟩=>?_);subst ex;obtain rfl:u=Value.ref a:=rx;exact⟨aln I2 g,ahf hu I2 g ry λw' s3 I3 pQ=>⟨v,H2,I3,pQ,q2⟩⟩
def aeM(hu:X.A.units+1<cLine)(hi:PE X i ty)(ho:PE X o td):PC X .NotIn i o (akO ty td):=by
 intro pins s σ H Q I h;refine aU (hi pins s σ H _ I h) λiv s1 ⟨y,H1,I1,ry,q1⟩=>aU (ho pins s1 σ H1 _ I1 q1) λu s2 ⟨x,H2,I2,rx,a,ov,ex,g,q2⟩=>?_;subst ex;obtain rfl:u=Value.ref a:=rx;exact atw hu I2 g ry λs3 I3=>⟨.bl (!ov.isSome),H2,I3,rfl,q2⟩
def asF(hu:X.A.units+1<cLine)(ho:PE X o td)(hi:PE X i ty)(hv:PE X value tv)(hs:swapsWith value (some (.Subscript o i pos')) pos.line X.env=pure false):
  PS X (.Assign [.Subscript o i pos'] value pos) (aw3 td ty tv):=by
 intro pins s σ H D I h;refine wpAny_Assign_Subscript (aU (hv pins s σ H _ I h) λr s1 ⟨v,H1,I1,rv,q1⟩=>aU (ho pins s1 σ H1 _ I1 q1) λu s2 ⟨x,H2,I2,rx,q2⟩=>aU (hi pins s2 σ H2 _ I2 q2) λiv s3 ⟨y,H3,I3,ry,a,H4,ex,g,q3⟩=>?_) hs;subst ex;obtain rfl:u=Value.ref a:=rx;exact apc hu I3 g ry rv λs4 I4=>⟨σ,H4,I4,q3⟩
end
def Yp{P:Program}{w:World}{H:Hp}(h:Heap)(hb:sysModules<h.objs.size):dB P w H (h.push { cls:= .type "dict",data:= .dict #[] }) h.objs.size (.dK []):=
 ⟨cj _,beq_eq_false_iff_ne.mpr (nO (fD hb)),[],.nil,acf h⟩
def agM:TE:=λ_ H Q=>∀p,H p=none->Q (.ref p) (upd H p (.dK []))
section
variable {X:Cx} {pos:Pos}
def arK:PE X (.Dict [] [] pos) agM:=λpins s σ H Q I h=>
 wpAny_Dict_empty ⟨.ref s.heap.objs.size,_,I.laid (a:=s.heap.objs.size) (o:= .dK []) (t':=s.toks) (λ_ _ q=>Heap.get?_push_of_some _ q) (aJ _) (Yp s.heap I.big),rfl,h _ (I.hok.fresh (aJ _))⟩
end
def K3:List (TE×TE)->St->Hp->(List (V×V)->Hp->Prop)->Prop
 |[],_,H,Q=>Q [] H
 |(tk,tv)::r,σ,H,Q=>tk σ H λx H1=>tv σ H1 λy H2=>K3 r σ H2 λps H3=>Q ((x,y)::ps) H3
abbrev VV:List (V×V)->List (Value×Value)->Prop:=Paired λp q=>RelV p.1 q.1/\RelV p.2 q.2
def JB(X:Cx)(pos:Pos)(keys:List (Option Expr))(values:List Expr)(sZ:List (TE×TE)):Prop:=
 ∀(pins:List (Addr×Obj)) (s:Shared) (σ:St) (H:Hp) (Q:List (V×V)->Hp->Prop),Inv X pins σ H s->K3 sZ σ H Q->
  wpAny (model X.prog X.w) X.A (evalPairs (pairTrees keys values X.env pos)) (λvs s'=>∃ps H',Inv X pins σ H' s'/\VV ps vs/\Q ps H') X.xe s
def asU{X:Cx}{pos:Pos}:JB X pos [] [] []:=λpins s σ H Q I h=>pairTrees_nil_walk ⟨[],H,I,.nil,h⟩
def Vx{X:Cx}{pos:Pos}{k v:Expr}{ks:List (Option Expr)}{vs:List Expr}{tk tv:TE}{sZ:List (TE×TE)}(hk:PE X k tk)(hv:PE X v tv)(hr:JB X pos ks vs sZ):
  JB X pos (some k::ks) (v::vs) ((tk,tv)::sZ):=λpins s σ H Q I h=>
 pairTrees_cons_walk (aU (hk pins s σ H _ I h) λu s1 ⟨x,H1,I1,rx,q1⟩=>aU (hv pins s1 σ H1 _ I1 q1) λw2 s2 ⟨y,H2,I2,ry,q2⟩=>
  aU (hr pins s2 σ H2 _ I2 q2) λws s3 ⟨ps,H3,I3,rel,q3⟩=>⟨(x,y)::ps,H3,I3,.cons ⟨rx,ry⟩ rel,q3⟩)
def yW(kvs more:List (Key×V)):List (Key×V):=more.foldl (λacc kv=>putK acc kv.1 kv.2) kvs
def KV.merge:∀{more:List (Key×V)} {rs:List (Key×Value)} {kvs:List (Key×V)} {vs:List (Key×Value)},KV more rs->KV kvs vs->KV (yW kvs more) (merged vs rs):=by
 intro more rs kvs vs r;unfold KV at r;induction r generalizing kvs vs with
 |nil=>intro q;exact q
 |@cons p q ps qs h t ih=>
  intro r0;have e:KV (putK kvs p.1 p.2) (stored vs q.1 q.2):=by
   have:=r0.put p.1 h.2;rw[<-h.1];exact this
  exact ih e
theorem afn:∀(more kvs:List (Key×V)),(yW kvs more).length<=kvs.length+more.length
 |[],kvs=>by show kvs.length<=kvs.length+0;omega
 |p::r,kvs=>by
  have h1:=afn r (putK kvs p.1 p.2);have h2:=NP kvs p.1 p.2;show(yW (putK kvs p.1 p.2) r).length<=_;rw[fB];omega
theorem K7{P:Program}{w:World}:∀{kvs:List (Key×V)} {ws:List (Value×Value)},VV (kvs.map λkv=>(kV kv.1,kv.2)) ws->∃rs,Carries (eE P w) ws rs/\KV kvs rs
 |[],_,r=>by rw[Ih]at r;cases r;exact⟨[],True.intro,.nil⟩
 |p::kvs,_,r=>by
  rw[cD]at r;cases r with
  |@cons a b as bs h t=>
   obtain⟨rs,c,q⟩:=K7 (P:=P) (w:=w) t;obtain⟨b1,b2⟩:=b;exact⟨(p.1,b2)::rs,⟨DM h.1,rfl,c⟩,.cons ⟨rfl,h.2⟩ q⟩
def ar6(sZ:List (TE×TE)):TE:=λσ H Q=>∀p,H p=none->K3 sZ σ (upd H p (.dK [])) λps H2=>H2 p=some (.dK [])/\∃kvs:List (Key×V),ps=kvs.map (λkv=>(kV kv.1,kv.2))/\kvs.length<=15/\Q (.ref p) (upd H2 p (.dK (yW [] kvs)))
def aqY{X:Cx}{pos:Pos}{keys:List (Option Expr)}{values:List Expr}{sZ:List (TE×TE)}(h:JB X pos keys values sZ)(hall:keys.all (·.isSome)=true)(hl:keys.length=values.length)(h0:keys≠[])
  (h15:keys.length<=15):PE X (.Dict keys values pos) (ar6 sZ):=by
 intro pins s σ H Q I q;have hn:=I.hok.fresh (aJ s.heap.objs.size);have I1:=I.laid (a:=s.heap.objs.size) (o:= .dK []) (h':=s.heap.push { cls:= .type "dict",data:= .dict #[] }) (t':=s.toks) (λ_ _ q=>Heap.get?_push_of_some _ q) (aJ _) (Yp s.heap I.big);refine wpAny_Dict_walk (knd:=eE X.prog X.w) hall hl h0 h15 (aU (h pins _ σ _ _ I1 (q _ hn)) λws s2 ⟨ps,H2,I2,rel,e,kvs,ep,lk,q2⟩=>?_);subst ep;obtain⟨rs,c,rk⟩:=K7 (P:=X.prog) (w:=X.w) rel;obtain⟨z,hd,vs0,r0,dd⟩:=abV I2.hok e;cases r0;refine⟨rs,c,dd,λh' wX hs=>⟨.ref s.heap.objs.size,_,?_,rfl,q2⟩⟩;have hz:(yW [] kvs).length<=sizeLine:=by
  have h1:=afn kvs [];rw[OB]at h1;rw[sizeLine_eq];omega
 have he:∃q,h'.get? s.heap.objs.size=some q:=let⟨q,_,_,hq,_⟩:=wX;⟨q,hq⟩;exact Tr I2 (by rw[e];exact True.intro) hs he (SW hz hd (rk.merge .nil) wX)
section
variable {X:Cx} {pins:List (Addr×Obj)} {σ:St} {H:Hp} {s:Shared} {a:Addr} {y d:V} {u r:Value} {o:Option V} {A:Around} {E:Value->Shared->Prop}
end
section
variable {X:Cx} {o e f:Expr} {apos cpos:Pos} {td ty tx:TE}
end
section
variable {X:Cx} {pins:List (Addr×Obj)} {σ:St} {H:Hp} {s:Shared} {a:Addr} {kvs:List (Key×V)} {A:Around} {E:Value->Shared->Prop}
end
section
variable {X:Cx} {pins:List (Addr×Obj)} {σ:St} {H:Hp} {s:Shared} {a:Addr} {y:V} {u:Value} {A:Around} {E:Value->Shared->Prop}
end
end L2
namespace VL
open PySem PySem.W PySem.Calls PyProof.Rows
def avT{P:Params}{h:Heap}:∀(ns:List Int) (vs:List Value),WellAll P h vs (ns.map WData.int)->IntsAre vs ns:=by
 intro ns;induction ns with
 |nil=>
  intro vs w;rw[Ih]at w;cases w;exact .nil
 |cons n ns ih=>
  intro vs w;rw[cD]at w;cases w with
  |cons a b=>
   cases a;exact .cons _ _ (ih _ b)
def atF{l:OpenLaw}{n:Nat}(hn:l.most=some n){P:Params}{h:Heap}{args:List WData}{vals:List Value}
  (hpre:l.row.toRowW.claim.pre args=true) (hwl:WellAll P h vals args):
  ∃a vs ns,vals=[Value.ref a]/\args=[WData.list (ns.map WData.int)]/\h.get? a=some { cls:= .type "list",data:= .seq vs.toArray }/\IntsAre vs ns/\ns.length<=n:=by
 have hsh:WShape.hasAll [] args [.list .int]=true:=(pre_splitW hpre).1;have hc:l.pre.holds [] { args:=args }=true:=(pre_splitW hpre).2;obtain⟨d,r,rfl,h1,h2⟩:=hasAllW_cons hsh;obtain rfl:=hasAllW_nil h2;obtain⟨xs,rfl,h3⟩:=hasW_list h1;obtain⟨ns,rfl⟩:=items_int h3;have hlen:ns.length<=n:=by
  unfold OpenLaw.pre at hc;have h4:(WTm.not (.lt (.lit (.int (n:Int))) (.len (.arg 0)))).holds [] { args:=[.list (ns.map .int)] }=true:=by
   have h4:=(holds_andW hc).1;rw[hn]at h4;exact h4
  have h5:=condW_of h4 (w_not (w_lt w_lit (w_len_list (w_arg rfl))));rw[aB]at h5;refine aaN λq=>?_;have q':(n:Int)<((ns.length:Nat):Int):=⋯;first
   |(rw[decide_eq_true q']at h5;exact absurd h5 ∅)
   |(simp at h5;omega)
 cases hwl with
 |cons w1 w2=>
  cases w2;cases w1 with
  |list ho hall=>exact⟨_,_,ns,rfl,rfl,ho,avT ns _ hall,hlen⟩
def asw(l:OpenLaw)(args:List WData):l.row.toRowW.claim.post args (.bool true) args=true:=
 postW_of (r:=l.row.toRowW) (X:=(true==true))
  (show WShape.has [] (.bool true) .bool=true by first|rfl|decide|simp[WShape.has,WShape.arms,WShape.armsAll])
  (show(WTm.eq .res (.lit (.bool true))).value [] { args:=args,res:=some (.bool true),after:=args }=some (.bool (true==true))from w_eq_bool (w_res rfl) w_lit) rfl
def av7{l:OpenLaw}{n:Nat}{q:Program}{loose:List Str}{XP:(Str->Option Value)->Heap->Prop}{YP:World->Heap->Prop}{d:DefRec}
  (hn:l.most=some n) (hdf:d.params.defaults=[])
  (call:∀(w:World) (s₀ s₁:Shared) (mg mb:Str->Option Value) (fa:Addr) (o:Obj) (pm cd doc:Value) (a:Addr) (vs:List Value) (ns:List Int),
   Ground q loose [] XP w s₀ mg mb s₁.heap->YP w s₁.heap->
   s₁.heap.get? fa=some o->o.data = .func (docDef d.name d.params d.body d.scope pm cd doc)->s₁.heap.CodeRec cd d.name->mg d.name=some (.ref fa)->
   s₁.heap.get? a=some { cls:= .type "list",data:= .seq vs.toArray }->IntsAre vs ns->ns.length<=n->s₁.gens=#[]->
   codeAny (model l.prog w) callerA (.call (.ref fa) ⟨[.ref a],[]⟩) (λr s'=>r = .ok (.ret (.bool true))/\OldK s₁.heap s'.heap/\s'.os=s₁.os/\AllBare s'.gens) s₁):
  WalkO q loose XP YP l.row.toRowW d [] (λf vs=>YK f vs):=by
 intro w s₀ s₁ mg mb G Y fa o pm cd doc dV kV ho hd hcd hD hmg hg args vals as hpre hlay hrd hwl hlo;obtain rfl:dV = .none:=Dflts.none hD hdf;obtain rfl:kV = .none:=Dflts.noKw hD;obtain⟨a,vs,ns,rfl,rfl,hobj,hints,hlen⟩:=atF hn hpre hwl;refine enter_call (codeAny_mono (call w s₀ s₁ mg mb fa o pm cd doc a vs ns G Y ho (fd_plain hd) hcd hmg hobj hints hlen hg) λr s' hq=>?_);obtain⟨rfl,h2,h3,h4⟩:=hq;exact⟨.inl ⟨.bool true,.bool true,[],rfl,λ_=>rfl,.bool true,asw l _,λ_=>⟨alo,λ_ hm=>(nomatch hm)⟩⟩,h2,h3,h4⟩
section
variable {prog:Program} {w:World} {A:Around} {E:Value->Shared->Prop} {s:Shared} {K:Frag}
end
end VL
namespace L2
open PySem PySem.Spec PyProof.Rows
def aru{vs:List Value}{ns:List Int}(h:IntsAre vs ns):Vals (ns.map V.int) vs:=by
 induction h with
 |nil=>exact .nil
 |cons n t h ih=>exact .cons ⟨t,rfl⟩ ih
def Only(H:Hp):Prop:=∀b,H b=none∨∃o xs,H b=some (.dw o (.lst xs))
def auk{P:Program}{w:World}{K:aF}{mg mb:Str->Option Value}{CX:rT}{k:Nat}{fa a:Addr}{fd:FuncData}{x:Str}{sp:Sp}{s₁:Shared}{vs:List Value}{ns:List Int}
  (KX:K.In s₁.heap) (hns:s₁.heap.Ns mainGlobals mg) (hb:s₁.heap.Ns builtinsNs mb) (hbb:∀x:Str,x≠ "__name__" -> mb x=bootBuiltins x) (hlim:s₁.heap.NoLimit) (hdig:s₁.heap.NoDigits) (hg:s₁.gens=#[])
  (ha:s₁.heap.get? a=some { cls:= .type "list",data:= .seq vs.toArray }) (hi:IntsAre vs ns) (hl:ns.length<=sizeLine) (hr:dY k callerA)
  (F:∀base:Heap,K.In base->base.Ns mainGlobals mg->sI P w K mg base CX k fa fd [x] sp) (hbind:∀(s:Shared) (u:Value),BindsTo s fd ⟨[u],[]⟩ [(x,u)])
  (hsp:∀H:Hp,Only H->au K H a (ns.map V.int)->sp [.ref a] H (λv _=>v = .bl true) λ_ _ _=>False)
  (QX:∀H e s',CX [] H s₁ (λ_ _ _=>False) e s'->False):
  codeAny (model P w) callerA (.call (.ref fa) ⟨[.ref a],[]⟩) (λr s'=>r = .ok (.ret (.bool true))/\OldK s₁.heap s'.heap/\s'.os=s₁.os/\AllBare s'.gens) s₁:=by
 have rv:=aru hi;have lenV:=hi.length;have core:∀H:Hp,Only H->au K H a (ns.map V.int)->eZ P w H s₁.heap->(∀b,H b≠none->b=a)->(H a≠none->K.lookup a=none)->
   codeAny (model P w) callerA (.call (.ref fa) ⟨[.ref a],[]⟩) (λr s'=>r = .ok (.ret (.bool true))/\OldK s₁.heap s'.heap/\s'.os=s₁.os/\AllBare s'.gens) s₁:=by
  intro H hO hS hok hA hK;have aed:∀{b:Addr} {o:Obj},s₁.heap.get? b=some o->H b=none->(uw s₁.heap H).get? b=some o:=λe n=>auw e n;have B5:∀{b:Addr} {o:Obj} {es:Array DictEntry} {ep:Nat},s₁.heap.get? b=some o->o.data = .dict es ep->H b=none:=λ{b o es ep} e d=>by
   cases q:H b with
   |none=>rfl
   |some u=>
    have e':b=a:=hA b (by rw[q];simp);subst e';rw[ha]at e;cases e;have d':Data.seq vs.toArray _=Data.dict es ep:=d;cases d'
  have C7:∀{b:Addr} {m:Str->Option Value},s₁.heap.Ns b m->(uw s₁.heap H).Ns b m:=λ{b m} ⟨o,es,ep,e,d,r⟩=>⟨o,es,ep,aed e (B5 e d),d,r⟩;have Y4:K.In (uw s₁.heap H):=λb o e=>aed (KX b o e) (by
   cases q:H b with
   |none=>rfl
   |some u=>
    have e':b=a:=hA b (by rw[q];simp);subst e';rw[hK (by rw[q];simp)]at e;cases e)
  have hM:Mod K mg (uw s₁.heap H):=⟨Y4,C7 hns,⟨mb,C7 hb,hbb⟩,let⟨mc,h1,h2⟩:=hlim;⟨mc,C7 h1,h2⟩,let⟨mc,h1,h2⟩:=hdig;⟨mc,C7 h1,h2⟩⟩;have e0:HN P w K mg (uw s₁.heap H) callerA [] s₁ H:=⟨rfl,hM,λb o e=>akp e,QF (awy _ _),trivial,λb hb=>absurd (show b∈([]:List Addr)from hb) (by simp),hok,.of_eq hg⟩;refine codeAny_mono ((F _ Y4 (C7 hns)).run callerA [] s₁ H ⟨[.ref a],[]⟩ [.ref a] [.ref a] _ _ hr e0 (hbind s₁ (.ref a)) (.cons rfl .nil) (hsp H hO hS)) λr s' h=>?_;cases r with
  |error e=>exact(QX H e s' h).elim
  |ok fl=>
   cases fl with
   |next=>exact False.elim h
   |brk=>exact False.elim h
   |cont=>exact False.elim h
   |ret u=>
    obtain⟨v,H',os,bare,un,hok',r',q⟩:=h;have q':v = .bl true:=q;subst q';obtain rfl:u=Value.bool true:=r';refine⟨rfl,OldK.of_keep λb o e=>?_,os,bare⟩;cases q:H b with
    |none=>exact un.keep b o e q (by intro z;exact absurd (show b∈([]:List Addr)from z) (by simp)) (by simp)
    |some u=>
     rcases hO b with z|⟨ob,xs,z⟩
     .rw[q]at z;cases z
     .have z2:=un.lH b ob _ z;obtain⟨e1,_⟩:=hok b _ z;obtain⟨e2,_⟩:=hok' b _ z2;rw[e]at e1;cases e1;exact e2
 cases hk:K.lookup a with
 |some o=>
  have e:=KX a o hk;rw[ha]at e;cases e;refine core (λ_=>none) (λ_=> .inl rfl) (.inr ⟨_,vs.toArray,_,hk,rfl,rfl,rfl,by rw[fj,lenV];exact hl,by simpa using rv⟩) (λb u z=>by have z':(none:Option HO)=some u:=z;cases z') (λb z=>absurd rfl z) λz=>absurd rfl z
 |none=>
  refine core (λb=>if b=a then some (.dw { cls:= .type "list",data:= .seq vs.toArray } (.lst (ns.map V.int)))else none) (λb=>?_) (.inl (.inr ⟨{ cls:= .type "list",data:= .seq vs.toArray },if_pos rfl⟩)) (λb u z=>?_) (λb z=>?_) λ_=>hk
  .by_cases hb:b=a
   .exact .inr ⟨_,_,if_pos hb⟩
   .exact .inl (if_neg hb)
  .by_cases hb:b=a
   .have z':=(if_pos hb).symm.trans z;cases z';subst hb;exact⟨ha,by rw[aB];exact hl,vs,_,rv,ha⟩
   .have z':=(if_neg hb).symm.trans z;cases z'
  .by_cases hb:b=a
   .exact hb
   .exact absurd (if_neg hb) z
def arN{l:W.OpenLaw}{n k:Nat}{q:Program}{loose:List Str}{XP:(Str->Option Value)->Heap->Prop}{YP:World->Heap->Prop}{d:DefRec}{K:Params->aF}{CX:World->rT}{sp:World->Sp}{x:Str}
  (hn:l.most=some n) (hn2:n<=sizeLine) (hdf:d.params.defaults=[]) (hr:dY k callerA)
  (hY:∀(w:World) (h:Heap),YP w h->(K w.params).In h)
  (F:∀(w:World) (mg:Str->Option Value) (fa:Addr) (h:Heap),(K w.params).In h->h.Ns mainGlobals mg->mg d.name=some (.ref fa)->
   ∃fd:FuncData,(∀(s:Shared) (u:Value),BindsTo s fd ⟨[u],[]⟩ [(x,u)])/\
    ∀base:Heap,(K w.params).In base->base.Ns mainGlobals mg->sI l.prog w (K w.params) mg base (CX w) k fa fd [x] (sp w))
  (hsp:∀(w:World) (H:Hp) (a:Addr) (ns:List Int),ns.length<=n->Only H->au (K w.params) H a (ns.map V.int)->sp w [.ref a] H (λv _=>v = .bl true) λ_ _ _=>False)
  (QX:∀(w:World) (H:Hp) (s:Shared) (e:Value) (s':Shared),CX w [] H s (λ_ _ _=>False) e s'->False):
  W.WalkO q loose XP YP l.row.toRowW d [] (λf vs=>YK f vs):=by
 refine VL.av7 hn hdf λw s₀ s₁ mg mb fa o pm cd doc a vs ns G Y ho hd hcd hmg hobj hints hlen hg=>?_;have KX:=hY w _ Y;obtain⟨fd,hb,hF⟩:=F w mg fa _ KX G.T.g hmg;exact auk KX G.T.g G.T.b G.T.builtins G.T.nolimit G.T.nodigits hg hobj hints (fG hlen hn2) hr hF hb (λH hO hS=>hsp w H a ns hlen hO hS) λH e s'=>QX w H s₁ e s'
def qe(s:Stmt):Arguments:=match s with
 |.FunctionDef _ a _ _ _ _ _ _ _ _=>a
 |_=>{ posonlyargs:=[],args:=[],vararg:=none,kwonlyargs:=[],kw_defaults:=[],kwarg:=none,defaults:=[] }
def lE(s:Stmt):List Stmt:=match s with
 |.FunctionDef _ _ b _ _ _ _ _ _ _=>b
 |_=>[]
def aW(s:Stmt):Scope:=match s with
 |.FunctionDef _ _ _ _ _ _ sc _ _ _=>sc
 |_=>{ kind:= .function,names:=[],isGenerator:=false,isCoroutine:=false }
abbrev E0:XK:=λ_ _ _=>False
structure uJ(K:aF)(x qual:Str)(st:Stmt)(f:Addr)(fd:FuncData):Prop where
 ex:∃(oc:Value) (od:Option Addr) (kV doc pm:Value) (an:Option Addr) (cdv ct:Value) (osl:Array (Option Value)),
  fd=qH x qual (qe st) (lE st) (aW st) .none kV doc pm an cdv ct/\K.lookup f=some ⟨oc,od,.func fd,osl⟩/\Dd K cdv qual=true
 kp:yM K (.ref f)=true
section
variable {P:Program} {w:World} {K:aF} {mg:Str->Option Value} {base:Heap}
def uJ.binds{x qual:Str}{st:Stmt}{f:Addr}{fd:FuncData}{ps:List Str}(F:uJ K x qual st f fd)
  (h:∀(kV doc pm:Value) (an:Option Addr) (cdv ct:Value) (us:List Value),us.length=ps.length->bindArgs (qH x qual (qe st) (lE st) (aW st) .none kV doc pm an cdv ct) ⟨us,[]⟩=pure (ps.zip us)):Binds K fd ps []:=by
 obtain⟨oc,od,kV,doc,pm,an,cdv,ct,osl,rfl,lk,hcd⟩:=F.ex;exact .all (h kV doc pm an cdv ct)
def aeA{x qual:Str}{st:Stmt}{f:Addr}{oc:Value}{od an:Option Addr}{osl:Array (Option Value)}{kV doc pm cdv ct:Value}(l:K.lookup f=some ⟨oc,od,.func (qH x qual (qe st) (lE st) (aW st) .none kV doc pm an cdv ct),osl⟩)
  (c:Dd K cdv qual=true) (k:yM K (.ref f)=true):uJ K x qual st f (qH x qual (qe st) (lE st) (aW st) .none kV doc pm an cdv ct):=⟨⟨oc,od,kV,doc,pm,an,cdv,ct,osl,rfl,l,c⟩,k⟩
end
def fH{n:Nat}(h:n<=1000):n<sizeLine:=sE h ∅
section
variable {X:Cx}
def pv(i:Nat){x:Str}{pos:Pos}(hN:X.N[i]?=some x:=by rfl)(hv:Fz X.env.scope x:=by first|exact oF rfl|exact gP (oF rfl)|exact gP (gP rfl))(hd:(x==("__debug__" : Str))=false:=by decide)
  (hcd:(x==("__classdict__" : Str))=false:=by decide):PE X (.Name x pos) (QY i):=ah6 hN hv hd hcd
end
def gC{A B:Prop}(h:B):if false=true then A else B:=by
 rw[if_neg fW];exact h
def qj{A B:Prop}(h:A):if true=true then A else B:=by
 rw[if_pos rfl];exact h
def dM{c A B:Prop}[Decidable c](h1:c->A)(h2:¬c->B):if c then A else B:=by
 by_cases h:c
 .rw[if_pos h];exact h1 h
 .rw[if_neg h];exact h2 h
def Px{c A B:Prop}[Decidable c](hc:c)(h:B):if(!decide c)=true then A else B:=by
 rw[decide_eq_true hc];exact gC h
def Same(H H':Hp):Prop:=∀b o,H b=some o->H' b=some o
def Same.refl(H:Hp):Same H H:=λ_ _ h=>h
def Same.trans{H H1 H2:Hp}(a:Same H H1)(b:Same H1 H2):Same H H2:=λc o h=>b c o (a c o h)
def Same.free{H H':Hp}(e:Same H H'){l:Addr}(h:H' l=aeS):H l=aeS:=by
 cases q:H l with
 |none=>rfl
 |some o=>
  rw[e l o q]at h;cases h
def Same.seq{K:aF}{H H':Hp}{a:Addr}{xs:List V}(e:Same H H')(h:au K H a xs):au K H' a xs:=by
 rcases h with(h|⟨o,h⟩)|h
 .exact .inl (.inl (e _ _ h))
 .exact .inl (.inr ⟨o,e _ _ h⟩)
 .exact .inr h
section
variable {κ:Type} [DecidableEq κ]
end
def us0{us:List Value}(h:us.length=0):us=[]:=rE h
def DK{us:List Value}{n:Nat}(h:us.length=n+1):∃a r,us=a::r/\r.length=n:=by
 cases us with
 |nil=>cases h
 |cons a r=>exact⟨a,r,rfl,Nat.succ.inj h⟩
def us1{us:List Value}(h:us.length=1):∃a,us=[a]:=by
 obtain⟨a,r,rfl,k⟩:=DK h;obtain rfl:=us0 k;exact⟨a,rfl⟩
def VZ{us:List Value}(h:us.length=2):∃a b,us=[a,b]:=by
 obtain⟨a,r,rfl,k⟩:=DK h;obtain⟨b,rfl⟩:=us1 k;exact⟨a,b,rfl⟩
def Wv{us:List Value}(h:us.length=3):∃a b c,us=[a,b,c]:=by
 obtain⟨a,r,rfl,k⟩:=DK h;obtain⟨b,c,rfl⟩:=VZ k;exact⟨a,b,c,rfl⟩
def us4{us:List Value}(h:us.length=4):∃a b c d,us=[a,b,c,d]:=by
 obtain⟨a,r,rfl,k⟩:=DK h;obtain⟨b,c,d,rfl⟩:=Wv k;exact⟨a,b,c,d,rfl⟩
def us5{us:List Value}(h:us.length=5):∃a b c d e,us=[a,b,c,d,e]:=by
 obtain⟨a,r,rfl,k⟩:=DK h;obtain⟨b,c,d,e,rfl⟩:=us4 k;exact⟨a,b,c,d,e,rfl⟩
structure sW(P:Program)(w:World)(outer:List Env)(H:Hp)(s:Shared)(E:XK)(e:Value)(s':Shared):Prop where
 ex:∃(ea C:Addr) (a0:Value) (B:Heap) (H':Hp),e = .ref ea/\s'.os=s.os/\AllBare s'.gens/\Heap.FlyingW B outer ea (.ref C) a0 s'.heap/\eZ P w H' B/\Un (frs outer) [] H H' s.heap s'.heap/\
  (∀b o,s.heap.get? b=some o->b∈frs outer∨∃o',B.get? b=some o')/\E (.ref C) none H'
def afY{P:Program}{w:World}{outer:List Env}{H:Hp}{s s':Shared}{e:Value}(h:sW P w outer H s E0 e s'):False:=by
 obtain⟨_,_,_,_,_,_,_,_,_,_,_,_,q⟩:=h.ex;exact q
def anr{X:Cx}:Passes (sW X.prog X.w) X E0:=λ_ _ _ _ _ _ _ h=>(afY h).elim
section
variable {X:Cx} {pins:List (Addr×Obj)} {σ:St} {H:Hp} {s:Shared}
def Inv.Oj(I:Inv X pins σ H s){b:Addr}{o:Obj}(e:X.s₀.heap.get? b=some o)(hb:b∉X.fs):b∉frs X.stack:=λz=>by
 rcases bH.mp (I.JC b z)with q|q
 .exact absurd (jt (cQ e) I.ok.above) (by rw[<-q];exact nT _)
 .exact hb q
def Ka(I:Inv X pins σ H s){b:Addr}{o:Obj}(e:s.heap.get? b=some o)(hb:b∉frs X.stack):(Ig s.heap (frs X.stack)).get? b=some o:=W.hideAll_get _ e hb
def Inv.arF(I:Inv X pins σ H s):eZ X.prog X.w H (Ig s.heap (frs X.stack)):=λb o e=>
 (I.hok b o e).stay (λc u hc q=>Ka I q λz=>by
  have n:=I.Q8 c z;rcases hc with rfl|hc
  .rw[n]at e;cases e
  .rw[n]at hc;cases hc) (λ_ q=>q) λ_ _ q=>q
def Inv.adX(I:Inv X pins σ H s)(hex:X.ex=[]){H':Hp}{h':Heap}(keep:∀b o,s.heap.get? b=some o->H b=none->b∉frs X.stack->h'.get? b=some o)
  (slot:∀b o,s.heap.get? b=some o->H b=none->b∈X.fs->∃sl,h'.get? b=some { o with slots:=sl }) (free:∀b o,s.heap.get? b=some o->H b=none->H' b=none) (there:∀b o,s.heap.get? b=some o->∃o',h'.get? b=some o')
  (tups:∀b xs,H b=some (.tup xs)->H' b=some (.tup xs)) (lH:∀b o u,H b=some (.dw o u)->H' b=some (.dw o u)) (nW:∀b ps,H b=some (.rW ps)->∃more,H' b=some (.rW (ps++more))):
  Un (frs X.outer) [] X.H₀ H' X.s₀.heap h':=by
 have nx:∀b:Addr,b∉X.ex:=λb=>by rw[hex];simp
 refine⟨λb o e n hb _=>?_,λb o e n hb _=>?_,λb o e n _=>?_,λb o e _=>?_,λb xs e=>tups b xs (I.base.tups b xs e),λb o u e=>lH b o u (I.base.lH b o u e),λb ps e=>?_⟩
 .exact keep b o (I.base.keep b o e n hb (nx b)) (I.base.free b o e n (nx b)) (I.Oj e hb)
 .obtain⟨sl,e1⟩:=I.base.slot b o e n hb (nx b);obtain⟨sl',e2⟩:=slot b _ e1 (I.base.free b o e n (nx b)) hb;exact⟨sl',e2⟩
 .obtain⟨o',e1⟩:=I.base.there b o e (nx b);exact free b o' e1 (I.base.free b o e n (nx b))
 .obtain⟨o',e1⟩:=I.base.there b o e (nx b);exact there b o' e1
 .obtain⟨m1,e1⟩:=I.base.nW b ps e;obtain⟨m2,e2⟩:=nW b _ e1;exact⟨m1++m2,by rw[e2,aaA]⟩
end
abbrev gQ(P:Program)(w:World)(K:aF)(mg:Str->Option Value)(base:Heap)(N:List Str)(qual:Str)(scope:Scope)(f:Addr)(cdv:Value)(A:Around)(outer:List Env)(s:Shared)(H:Hp)(E:XK):Cx:=
 Ar (sW P w) P w K mg base N qual scope f cdv A outer s H E
section
variable {P:Program} {w:World} {K:aF} {mg:Str->Option Value} {base:Heap} {N:List Str} {qual:Str} {scope:Scope} {f:Addr} {cdv:Value} {A:Around} {outer:List Env} {s₀:Shared} {H₀:Hp} {E:XK}
def aiu{pins:List (Addr×Obj)}{σ:St}{H:Hp}{s:Shared}{h1:Heap}{e C:Addr}{vs:List Value}(I:Inv (gQ P w K mg base N qual scope f cdv A outer s₀ H₀ E) pins σ H s)(hx:Heap.MadeExcOf s.heap h1 e (.ref C) vs)(q:E (.ref C) none H):
  (gQ P w K mg base N qual scope f cdv A outer s₀ H₀ E).xe (.ref e) { s with heap:=h1 }:=by
 have hin:∀env∈envOfC qual scope s₀.heap.objs.size f cdv::outer,∀a,env.frame=some a->a∈frs (envOfC qual scope s₀.heap.objs.size f cdv::outer):=λenv he a ha=>Pz.mpr ⟨env,he,ha⟩;refine wpAny_leaves_madeW (base:=Ig s.heap (frs (envOfC qual scope s₀.heap.objs.size f cdv::outer))) (h:=s.heap) (L:=s₀.heap.objs.size) I.ok.frames rfl (λb o q=>W.of_hideAll _ q) (W.funFrames_hide I.stack hin) hx λh' t x1 x2 x3 x4=>?_;have up:∀b o,s.heap.get? b=some o->b∈frs (envOfC qual scope s₀.heap.objs.size f cdv::outer)->∃sl,h'.get? b=some { o with slots:=sl }:=λb o e hb=>by
  obtain⟨_,o',ho',hd⟩:=I.stack.mem hb;rw[e]at ho';cases ho';exact x4 b o (hx.keeps b o e) hd
 refine⟨e,C,.ref t,_,H,rfl,I.os,I.bare,x1,I.arF,I.adX rfl (λb o e _ hb=>x1.1 b o (Ka I e hb)) (λb o e _ hb=>up b o e (cO _ hb)) (λ_ _ _ n=>n) (λb o e=>?_) (λ_ _ z=>z) (λ_ _ _ z=>z) (λb ps z=>⟨#[],by rw[z];simp⟩),λb o e=>?_,q⟩
 .by_cases hb:b∈frs (envOfC qual scope s₀.heap.objs.size f cdv::outer)
  .obtain⟨sl,z⟩:=up b o e hb;exact⟨_,z⟩
  .exact⟨o,x1.1 b o (Ka I e hb)⟩
 .by_cases hb:b∈frs outer
  .exact .inl hb
  .obtain⟨o',e1⟩:=I.base.there b o e (by intro z;cases z);exact .inr ⟨o',Ka I e1 (I.Oj e hb)⟩
def aga:Passes (sW P w) (gQ P w K mg base N qual scope f cdv A outer s₀ H₀ E) E:=by
 intro pins σ H s e s' I h;obtain⟨ea,C,a0,B,H',rfl,os,bare,fl,hok,un,old,q⟩:=h.ex;refine wpAny_leaves_onW (L:=s₀.heap.objs.size) I.ok.frames rfl fl λh' x1 x2=>?_;have inB:∀b o,s.heap.get? b=some o->b∉frs (envOfC qual scope s₀.heap.objs.size f cdv::outer)->∃o',B.get? b=some o'/\s'.heap.get? b=some o':=λb o e hb=>by
  rcases old b o e with z|⟨o',z⟩
  .exact absurd z hb
  .exact⟨o',z,fl.1 b o' z⟩
 have up:∀b o,s'.heap.get? b=some o->b∈frs (envOfC qual scope s₀.heap.objs.size f cdv::outer)->∃sl,h'.get? b=some { o with slots:=sl }:=λb o e hb=>by
  obtain⟨_,o',ho',hd⟩:=fl.2.2.1.mem hb;rw[e]at ho';cases ho';exact x2 b o e hd
 refine⟨ea,C,a0,B,H',rfl,os.trans I.os,bare,x1,hok,I.adX rfl (λb o e n hb=>?_) (λb o e n hb=>?_) (λb o e n=>un.free b o e n (by simp)) (λb o e=>?_) un.tups un.lH un.nW,λb o e=>?_,q⟩
 .obtain⟨o',e1,e2⟩:=inB b o e hb;have e3:=un.keep b o e n hb (by simp);rw[e2]at e3;cases e3;exact x1.1 b _ e1
 .obtain⟨sl,e1⟩:=un.slot b o e n (cO _ hb) (by simp);obtain⟨sl',e2⟩:=up b _ e1 (cO _ hb);exact⟨sl',e2⟩
 .by_cases hb:b∈frs (envOfC qual scope s₀.heap.objs.size f cdv::outer)
  .obtain⟨o',e1⟩:=un.there b o e (by simp);obtain⟨sl,e2⟩:=up b o' e1 hb;exact⟨_,e2⟩
  .obtain⟨o',e1,_⟩:=inB b o e hb;exact⟨o',x1.1 b o' e1⟩
 .by_cases hb:b∈frs outer
  .exact .inl hb
  .obtain⟨o',e1⟩:=I.base.there b o e (by intro z;cases z);obtain⟨o2,e2,_⟩:=inB b o' e1 (I.Oj e hb);exact .inr ⟨o2,e2⟩
end
def aoj(C:Addr)(E:XK)(t:TA):TS:=λ_ σ H=>t σ H λvs H1=>vs.length<=sizeLine/\E (.ref C) none H1
structure JM(mg:Str->Option Value)(base:Heap)(x:Str)(C:Addr):Prop where
 ex:∃bm newId,OwnCls x C bm newId mg base/\∃(Bn inN:String) (bmN:List Value) (B nid initId:String),ExcBaseFacts Bn newId inN bmN/\bm.contains (.type Bn)=true/\ExcBaseFacts B nid initId bm
def Vi{P:Program}{w:World}{K:aF}{mg:Str->Option Value}{base:Heap}{N:List Str}{qual:Str}{scope:Scope}{f:Addr}{cdv:Value}{A:Around}{outer:List Env}{s₀:Shared}{H₀:Hp}{E:XK}
  {x:Str} {C:Addr} {np cpos pos:Pos} {e:Expr} {es:List Expr} {t:TA} (O:JM mg base x C) (hg:Gl (gQ P w K mg base N qual scope f cdv A outer s₀ H₀ E) x) (ha:PA (gQ P w K mg base N qual scope f cdv A outer s₀ H₀ E) (e::es) t)
  (hdb:(x==("__debug__" : Str))=false:=by decide)
  (he:starEach (e::es) (gQ P w K mg base N qual scope f cdv A outer s₀ H₀ E).env=(false,eval e (gQ P w K mg base N qual scope f cdv A outer s₀ H₀ E).env)::starEach es (gQ P w K mg base N qual scope f cdv A outer s₀ H₀ E).env:=by rfl)
  (hpl:(backTo cpos (starEach es (gQ P w K mg base N qual scope f cdv A outer s₀ H₀ E).env)).any (·.1)=false:=by rfl):
  PS (gQ P w K mg base N qual scope f cdv A outer s₀ H₀ E) (.Raise (some (.Call (.Name x np) (e::es) [] cpos)) none pos) (aoj C E t):=by
 intro pins s σ H D I h;obtain⟨bm,newId,O,Bn,inN,bmN,B,nid,initId,Fn,hBn,FB⟩:=O.ex;obtain⟨tl,Nn,nm,q,bs,hdct,sn,sub,ab,col,dd,k0,k1,k2,k3,k5,mN,hC,hN,hni,T⟩:=O.obj;refine wpAny_Raise_call_subU (C:=C) (nm:=nm) (q:=q) (N:=Nn) (bs:=bs) (bm:=tl) (hdct:=hdct) (sn:=sn) (sub:=sub) (ab:=ab) (col:=col) (dd:=dd) (k0:=k0) (k1:=k1) (k2:=k2) (k3:=k3) (k5:=k5)
  Fn hBn FB (mN:=mN) (T.hasType FB.hasBase) (I.ok.hd rfl) (by rw[he];show(false||(backTo cpos (starEach es (gQ P w K mg base N qual scope f cdv A outer s₀ H₀ E).env)).any (·.1))=false;rw[hpl];rfl) hni (O8 I hg O.bound ⟨rfl,?_⟩ hdb)
 have h2:=ha cpos pins s σ H _ I h;rw[he]at h2⊢;refine aa6 (wpAny_mono h2 (λus s2 ⟨vs,H2,I2,r,z,q⟩=>⟨rfl,by rw[<-r.length];exact z,I2.bk _ _ hC,hN.keeps I2.bk,T.keeps I2.bk,λh' e hm=>aiu I2 hm q⟩) λ_ _ y=>y)
def uJ.okF{P:Program}{w:World}{K:aF}{mg:Str->Option Value}{base:Heap}{x qual:Str}{st:Stmt}{f:Addr}{fd:FuncData}{N ps:List Str}{k:Nat}{sp:Sp}(F:uJ K x qual st f fd)(S:bB N ps (aW st))(len:∀vs H Q E,sp vs H Q E->vs.length=ps.length)
  (hbody:∀(cdv:Value) (A:Around) (outer:List Env) (s:Shared) (H:Hp) (vs:List V) (Q:VK) (E:XK),dY k (A.deeper (envOfC qual (aW st) s.heap.objs.size f cdv))->sp vs H Q E->
   ∃t,jG (gQ P w K mg base N qual (aW st) f cdv A outer s H E) (lE st) t/\t { nx:=λ_ H'=>Q .non H',rt:=Q } (start N vs) H):sI P w K mg base (sW P w) (k+1) f fd ps sp:=by
 obtain⟨oc,od,kV,doc,pm,an,cdv,ct,osl,rfl,lk,hcd⟩:=F.ex;exact aqZ lk hcd S len λA outer s H vs Q E hr hsp=>hbody cdv A outer s H vs Q E hr hsp
def uJ.okN{P:Program}{w:World}{K:aF}{mg:Str->Option Value}{base:Heap}{x qual:Str}{st:Stmt}{f:Addr}{fd:FuncData}{N ps:List Str}{k:Nat}{sp:Sp}(F:uJ K x qual st f fd)(S:bB N ps (aW st))(len:∀vs H Q E,sp vs H Q E->vs.length=ps.length)
  (hbody:∀(cdv:Value) (A:Around) (outer:List Env) (s:Shared) (H:Hp) (vs:List V) (Q:VK) (E:XK),dY k (A.deeper (envOfC qual (aW st) s.heap.objs.size f cdv))->sp vs H Q E->
   ∃t,jG (gQ P w K mg base N qual (aW st) f cdv A outer s H E).Cq (lE st) t/\t { nx:=λ_ H'=>Q .non H',rt:=Q } (start N vs) H):sI P w K mg base (sW P w) (k+1) f fd ps sp:=
 F.okF S len λcdv A outer s H vs Q E hr h=>let⟨t,a,b⟩:=hbody cdv A outer s H vs Q E hr h;⟨t,a.Cq,b⟩
section
variable {X:Cx}
def cV.imp{f:Value->Value->Sem Value}{r r':R2}(h:cV X f r)(i:∀x y H Q,r' x y H Q->r x y H Q):cV X f r':=λpins s σ H x y v u Q I rx ry q=>h pins s σ H x y v u Q I rx ry (i _ _ _ _ q)
def mK.imp{r r':R2}(h:mK X r)(i:∀x y H Q,r' x y H Q->r x y H Q):mK X r':=λvalue slice pins s σ H x y v u Q I rx ry q hs=>h value slice pins s σ H x y v u Q I rx ry (i _ _ _ _ q) hs
def afv{x:Str}{i:Int}{pos:Pos}(hg:Gl X x)(hm:∃t,X.mg x=some (.int i t))(hd:(x==("__debug__" : Str))=false:=by decide):PE X (.Name x pos) (tC (.int i)):=by
 obtain⟨t,e⟩:=hm;exact atf hg e ⟨t,rfl⟩ hd
def Ab{x:Str}{n:String}{pos:Pos}(hg:Gl X x)(hm:X.mg x=none)(hv:bootBuiltins x=some (.type n))(hn:x≠ "__name__" := by decide)(hd:(x==("__debug__" : Str))=false:=by decide):PE X (.Name x pos) (tC (.ty n)):=
 akA hg hm hv (v:= .ty n) rfl hn hd
structure j9(P:Program)(w:World)(K:aF)(mg:Str->Option Value)(base:Heap)(x:Str)(k:Nat)(ps:List Str)(sp:Sp):Prop where
 ex:∃(g:Addr) (gd:FuncData),mg x=some (.ref g)/\yM K (.ref g)=true/\Binds K gd ps []/\sI P w K mg base (sW P w) k g gd ps sp
def arq{x:Str}{k k':Nat}{ps:List Str}{sp:Sp}{p pos:Pos}{e:Expr}{es:List Expr}{t:TA}(C:j9 X.prog X.w X.K X.mg X.base x k ps sp)(hr:dY k' X.A)(hg:Gl X x)(ha:PA X (e::es) t)
  (hk:k<=k':=by decide) (hd:(x==("__debug__" : Str))=false:=by decide)
  (he:starEach (e::es) X.env=(false,eval e X.env)::starEach es X.env:=by rfl) (hpl:(backTo pos (starEach es X.env)).any (·.1)=false:=by rfl):PE X (.Call (.Name x p) (e::es) [] pos) (Jc sp [] E0 t):=by
 obtain⟨g,gd,hm,hkp,hb,F⟩:=C.ex;exact aeb F (hr.mono hk) hg hm hkp hb .nil anr ha hd he hpl
def SN{P:Program}{w:World}{K:aF}{mg:Str->Option Value}{base:Heap}{N:List Str}{qual:Str}{scope:Scope}{f:Addr}{cdv:Value}{A:Around}{outer:List Env}{s₀:Shared}{H₀:Hp}{E:XK}
  {x:Str} {k k':Nat} {ps:List Str} {sp:Sp} {p pos:Pos} {e:Expr} {es:List Expr} {t:TA} (C:j9 P w K mg base x k ps sp) (hr:dY k' (gQ P w K mg base N qual scope f cdv A outer s₀ H₀ E).A) (hg:Gl (gQ P w K mg base N qual scope f cdv A outer s₀ H₀ E) x)
  (ha:PA (gQ P w K mg base N qual scope f cdv A outer s₀ H₀ E) (e::es) t) (hk:k<=k':=by decide) (hd:(x==("__debug__" : Str))=false:=by decide)
  (he:starEach (e::es) (gQ P w K mg base N qual scope f cdv A outer s₀ H₀ E).env=(false,eval e (gQ P w K mg base N qual scope f cdv A outer s₀ H₀ E).env)::starEach es (gQ P w K mg base N qual scope f cdv A outer s₀ H₀ E).env:=by rfl)
  (hpl:(backTo pos (starEach es (gQ P w K mg base N qual scope f cdv A outer s₀ H₀ E).env)).any (·.1)=false:=by rfl):
  PE (gQ P w K mg base N qual scope f cdv A outer s₀ H₀ E) (.Call (.Name x p) (e::es) [] pos) (Jc sp [] E t):=by
 obtain⟨g,gd,hm,hkp,hb,F⟩:=C.ex;exact aeb (X:=gQ P w K mg base N qual scope f cdv A outer s₀ H₀ E) F (hr.mono hk) hg hm hkp hb .nil aga ha hd he hpl
def ah5{prog:Program}{w:World}{A:Around}{E:Value->Shared->Prop}{s:Shared}{t b:Addr}{vs ws:List Value}{Q:Value->Shared->Prop}(ht:IsTup s.heap t vs.toArray)(hb:IsTup s.heap b ws.toArray)(hv:vs=[])
  (h1:Q (.ref b) s):wpAny (model prog w) A (binaryOp .Add (.ref t) (.ref b)) Q E s:=by
 obtain⟨⟨cls,dd,data,sl⟩,ho,hc,n,hd⟩:=id ht;obtain⟨⟨cls2,dd2,data2,sl2⟩,ho2,hc2,n2,hd2⟩:=id hb;simp only at hc hd hc2 hd2;subst hc hd hc2 hd2;exact concat_meets ⟨_,ho,rfl⟩ ⟨_,ho2,rfl⟩ noFill_tuple_add seq_tuple_add RK Qu (Tq _ _)
   (tuple_addW0 t b vs.toArray ws.toArray n n2 dd dd2 sl sl2 (by simp[hv])) ⟨ho,ho2,h1⟩
def ase(K:aF):R2:=λx y H Q=>∃a b ys,x = .ref a/\y = .ref b/\aA K H a []/\aA K H b ys/\Q (.ref b) H
def axk:cV X (binaryOp .Add) (ase X.K):=by
 intro pins s σ H x y v u Q I rx ry h;obtain⟨a,b,ys,rfl,rfl,ha,hb,q⟩:=h;cases rx;cases ry;obtain⟨its,r1,p1,_⟩:=I.tuple ha;obtain⟨its2,r2,p2,_⟩:=I.tuple hb;exact ah5 p1 p2 (r1.Hq.mpr rfl) ⟨.ref b,H,I,rfl,q⟩
def Ib(K:aF):R2:=λx y H Q=>match x,y with
 |.int i,.int j=>Q (.int (i+j)) H
 |.str i,.str j=>i.length+j.length<=sizeLine/\Q (.str (i++j)) H
 |.ref a,.ref b=>(∃xs ys,H a=some (.lst xs)/\H b=some (.lst ys)/\xs.length+ys.length<=sizeLine/\∀p,H p=none->Q (.ref p) (upd H p (.lst (xs++ys))))∨
   (∃xs ys,aA K H a xs/\aA K H b ys/\xs.length+ys.length<=sizeLine/\(xs=[]->Q (.ref b) H)/\(xs≠[]->ys=[]->Q (.ref a) H)/\(xs≠[]->ys≠[]->∀p,H p=none->Q (.ref p) (upd H p (.tup (xs++ys)))))
 |_,_=>False
def v_add:cV X (binaryOp .Add) (Ib X.K):=by
 refine((auq.or agg).or (aoz.or (aqG.or axk))).imp λx y H Q h=>?_;unfold Ib at h;split at h
 .exact .inl (.inl ⟨_,_,rfl,rfl,h⟩)
 .exact .inl (.inr ⟨_,_,rfl,rfl,h⟩)
 .rcases h with⟨xs,ys,h1,h2,h3,h4⟩|⟨xs,ys,h1,h2,h3,h4,h5,h6⟩
  .exact .inr (.inl ⟨_,_,xs,ys,rfl,rfl,h1,h2,h3,h4⟩)
  .by_cases hx:xs=[]
   .subst hx;exact .inr (.inr (.inr ⟨_,_,ys,rfl,rfl,h1,h2,h4 rfl⟩))
   .exact .inr (.inr (.inl ⟨_,_,xs,ys,rfl,rfl,h1,h2,hx,h3,h5 hx,h6 hx⟩))
 .exact h.elim
def V3:R2:=λx y H Q=>match x,y with
 |.int i,.int j=>IntMulOk i j/\Q (.int (i*j)) H
 |.ref l,.int k=>∃xs,H l=some (.lst xs)/\-(2^63)<=k/\k<2^63/\xs.length*k.toNat<=sizeLine/\∀p,H p=none->Q (.ref p) (upd H p (.lst (iK k.toNat xs).flatten))
 |_,_=>False
def at3:cV X (binaryOp .Mult) (rI IntMulOk λi j=> .int (i*j)):=CT λ_ _ _ _ _ _ _ hc q=>mul_int q hc
def v_mul:cV X (binaryOp .Mult) V3:=by
 refine(at3.or ak1).imp λx y H Q h=>?_;unfold V3 at h;split at h
 .exact .inl ⟨_,_,rfl,rfl,h.1,h.2⟩
 .obtain⟨xs,h1,h2,h3,h4,h5⟩:=h;exact .inr ⟨_,_,xs,rfl,rfl,h1,h2,h3,h4,h5⟩
 .exact h.elim
inductive SIx(K:aF)(p:Addr)(i:Int)(H:Hp)(Q:VK):Prop|mk (xs:List V) (v:V) (hs:au K H p xs∨aA K H p xs) (ha:nF xs i=some v) (q:Q v H)
def Gg(K:aF):R2:=λx y H Q=>match x,y with
 |.ref p,.int i=>SIx K p i H Q
 |.str z,.int i=>∃c,z.length<=sizeLine/\nF z.cps.toList i=some c/\Q (.str ⟨#[c]⟩) H
 |_,_=>False
def anM:mK X (Gg X.K):=by
 refine agu.imp λx y H Q h=>?_;unfold Gg at h;split at h
 .obtain⟨xs,v,h1|h1,h2,h3⟩:=h
  .exact .inl ⟨_,xs,_,v,rfl,rfl,h1,h2,h3⟩
  .exact .inr (.inl ⟨_,xs,_,v,rfl,rfl,h1,h2,h3⟩)
 .obtain⟨c,h1,h2,h3⟩:=h;exact .inr (.inr ⟨_,_,c,rfl,rfl,h1,h2,h3⟩)
 .exact h.elim
def qN(H:Hp):V->Option String
 |.non=>some "NoneType"
 |.bl _=>some "bool"
 |.int _=>some "int"
 |.str _=>some "str"
 |.ref a=>match H a with
  |some (.lst _)=>some "list"
  |some (.dw _ (.lst _))=>some "list"
  |some (.tup _)=>some "tuple"
  |some (.dK _)=>some "dict"
  |_=>none
 |_=>none
def subB(t c:String):Bool:=t==c||(t== "bool" && c== "int")
def av0{K:aF}{t c:String}(ht:t∈["NoneType","bool","int","str","list","tuple","dict"])(hc:c∈["int","bool","tuple","list","str","dict"]):mR K (.type t) (.type c)=some (subB t c):=by
 simp only[bH,gR,or_false]at ht hc;rcases ht with rfl|rfl|rfl|rfl|rfl|rfl|rfl<;>rcases hc with rfl|rfl|rfl|rfl|rfl|rfl<;>kernel_rfl
def alO{K:aF}{H:Hp}{x:V}{t:String}(h:qN H x=some t):nQ K H x (.type t)/\t∈["NoneType","bool","int","str","list","tuple","dict"]:=by
 unfold qN at h;split at h
 .cases h;exact⟨.non,by simp⟩
 .cases h;exact⟨.bl _,by simp⟩
 .cases h;exact⟨.int _,by simp⟩
 .cases h;exact⟨.str _,by simp⟩
 .split at h
  .rename_i e;cases h;exact⟨.lst e,by simp⟩
  .rename_i e;cases h;exact⟨.dw e,by simp⟩
  .rename_i e;cases h;exact⟨.tup e,by simp⟩
  .rename_i e;cases h;exact⟨.dK e,by simp⟩
  .cases h
 .cases h
def yN:kO X (.builtin "isinstance") (λxs H Q=>∃x c t,xs=[x,.ty c]/\qN H x=some t/\c∈["int","bool","tuple","list","str","dict"]/\Q (.bl (subB t c)) H):=by
 intro pins s σ H xs us Q I r h;obtain⟨x,c,t,rfl,ht,hc,q⟩:=h;obtain⟨u,v,rfl,ru,rv⟩:=r.two;cases rv;obtain⟨ty,hm⟩:=alO (K:=X.K) ht;exact agK I ru ty (av0 hm hc) λtk=>⟨.bl _,H,I.tok tk,rfl,q⟩
theorem aaF:∀{bs:List Bool} {us:List Value},Vals (bs.map V.bl) us->us=bs.map Value.bool
 |[],_,.nil=>rfl
 |b::bs,_,.cons r t=>by
  have e:=aaF (bs:=bs) t;cases (show _=Value.bool b from r);rw[e];rfl
def axx{s:Shared}{h':Heap}{o:Obj}(hk:∀b x,b∉[s.heap.objs.size]->(s.heap.push o).get? b=some x->h'.get? b=some x):∀b x,s.heap.get? b=some x->h'.get? b=some x:=
 λb x e=>hk b x (λhm=>by rw[dj.mp hm]at e;exact nT _ (cQ e)) (Heap.get?_push_of_some _ e)
def v_sum(hc:X.calm=true):kO X (.builtin "sum") (λxs H Q=>∃(l:Addr) (ns:List Int),xs=[.ref l]/\au X.K H l (ns.map V.int)/\Q (.int ns.sum) H):=by
 intro pins s σ H xs us Q I r h;obtain⟨l,ns,rfl,hl,q⟩:=h;obtain⟨u,rfl,ru⟩:=r.one;cases ru;obtain⟨its,rv,pl,hz⟩:=I.list hl;have hi:=intsAre_of rv;obtain⟨xs,hx⟩:=hi.allInts.items;have hl':s.heap.IsList l (intItems xs):=hx▸pl.isList;refine sum_intListG (I.ok.hd hc) hl' λh' tk t' hk=>?_;have e1:ns=xs.toList.map (·.1):=by
  rw[<-nums_intItems,<-hx];exact(show numsOf its.toArray.toList=ns from hi.numsOf).symm
 have e2:preSum (numAt xs) xs.size=ns.sum:=by
  rw[preSum_eq,vV (by simp),e1]
 rw[e2];exact⟨.int _,H,I.kept hk,⟨_,rfl⟩,q⟩
def adh(K:aF)(tl:TE):TI:=λσ H R=>tl σ H λx H1=>∃a,x = .ref a/\(((∃xs,au K H1 a xs)/\R (lV K a) H1)∨((∃xs,aA K H1 a xs)/\R (Fi K a) H1))
def ahA{tg l:Expr}{tl:TE}(hl:PE X l tl):PI X tg l (adh X.K tl):=by
 intro pins s σ H R I h;refine aU (hl pins s σ H _ I h) λv s1 ⟨x,H1,I1,r1,a,e,q⟩=>?_;subst e;cases r1;rcases q with⟨⟨xs,hq⟩,q⟩|⟨⟨xs,hq⟩,q⟩
 .have hh:PI X tg l (amk X.K λσ' H' Q=>Q (.ref a) H')->True:=λ_=>trivial;obtain⟨its,rv,p,hz⟩:=I1.list hq;refine wpAny_pyIter_list p.isList ?_;refine⟨s1.heap.objs.size,[s1.heap.objs.size],_,_,H1,rfl,I1.kept (t':=s1.toks) λb o e=>Heap.get?_push_of_some _ e,ati a _,⟨_,Heap.get?_push_size _ rfl,rfl,rfl⟩,λb hb=>?_,q⟩;have e:b=s1.heap.objs.size:=by simpa using hb
  subst e;exact I1.sS (aJ _) (I1.hok.fresh (aJ _))
 .obtain⟨its,rv,p,hz⟩:=I1.tuple hq;refine wpAny_pyIter_tuple (show s1.heap.IsTuple a its.toArray from p) ?_;refine⟨s1.heap.objs.size,[s1.heap.objs.size],_,_,H1,rfl,I1.kept (t':=s1.toks) λb o e=>Heap.get?_push_of_some _ e,awt a _,⟨_,Heap.get?_push_size _ rfl,rfl,rfl⟩,λb hb=>?_,q⟩;have e:b=s1.heap.objs.size:=by simpa using hb
  subst e;exact I1.sS (aJ _) (I1.hok.fresh (aJ _))
end
theorem Va{env:Env}:∀(names:List (Str×NameKind)) (acc:List (Str×Addr)),(∀y∈names,y.2 = .free->∃c,env.cells.lookup y.1=some c)->(∀p∈acc,env.cells.lookup p.1=some p.2)->
 ∃cl,(forIn names acc λ(y:Str×NameKind) (cs:List (Str×Addr))=>match y with|(name,kind)=>if(kind== .free)=true then do let a<-cellOf env name;pure (ForInStep.yield ((name,a)::cs))else pure (ForInStep.yield cs))=(pure cl:Sem _)/\(∀p∈cl,env.cells.lookup p.1=some p.2)/\(∀p∈acc,p∈cl)/\∀y∈names,y.2 = .free->∃c,(y.1,c)∈cl
 |[],acc,_,ha=>⟨acc,rfl,ha,λ_ h=>h,λ_ h=>nomatch h⟩
 |(n,k)::r,acc,hf,ha=>by
  have hr:∀y∈r,y.2 = .free->∃c,env.cells.lookup y.1=some c:=λy hy=>hf y (cO _ hy);by_cases hk:k = .free
  .subst hk;obtain⟨c,hc⟩:=hf (n,.free) bN rfl;obtain⟨cl,e,h1,h2,h3⟩:=Va r ((n,c)::acc) hr (λp hp=>by
    rcases bH.mp hp with rfl|hp
    .exact hc
    .exact ha p hp)
   refine⟨cl,?_,h1,λp hp=>h2 p (cO _ hp),λy hy hyf=>?_⟩
   .rw[ac5];simp only[beq_self_eq_true,if_true,cellOf,hc,pure_bind];exact e
   .rcases bH.mp hy with rfl|hy
    .exact⟨c,h2 _ bN⟩
    .exact h3 y hy hyf
  .have hb:(k==NameKind.free)=false:=by simpa using hk
   obtain⟨cl,e,h1,h2,h3⟩:=Va r acc hr ha;refine⟨cl,?_,h1,h2,λy hy hyf=>?_⟩
   .rw[ac5];simp only[hb,E5,if_false,pure_bind];exact e
   .rcases bH.mp hy with rfl|hy
    .exact absurd hyf hk
    .exact h3 y hy hyf
def aos{env:Env}{scope:Scope}(hf:∀y∈scope.names,y.2 = .free->∃c,env.cells.lookup y.1=some c):
  ∃cl,closureFor scope env=pure cl/\(∀x c,cl.lookup x=some c->env.cells.lookup x=some c)/\∀y∈scope.names,y.2 = .free->∃c,cl.lookup y.1=some c:=by
 obtain⟨cl,e,h1,_,h3⟩:=Va (env:=env) scope.names [] hf (λ_ h=>nomatch h);refine⟨cl,?_,λx c h=>h1 (x,c) (vR h),λy hy hyf=>?_⟩
 .unfold closureFor;simp only[bind_pure_comp]at e⊢;rw[e];rfl
 .obtain⟨c,hc⟩:=h3 y hy hyf;cases q:cl.lookup y.1 with
  |some d=>exact⟨d,rfl⟩
  |none=>
   have z:=List.lookup_eq_none_iff.mp q (y.1,c) hc;simp at z
def Um(sc:Scope)(cl:List (Str×Addr))(C:Addr)(env:Env):Env:=
 { scope:=sc,locals:=C,globals:=env.globals,cells:=cl,qual:=env.qual,func:=none,code:=env.code,frame:=env.frame,builtins:=env.builtins }
def jL(X:Cx)(sc:Scope)(N:List Str)(cl:List (Str×Addr))(C:Addr)(s₀:Shared)(H₀:Hp)(ex:List Addr):Cx:=
 { X with env:=Um sc cl C X.env,N:=N,s₀:=s₀,H₀:=H₀,outer:=X.stack,ex:=ex,fn:=λ_=>false,pn:=[],xe:=λ_ _=>False }
def cst(ix:List (Option Nat))(σ:St):St:=ix.map λo=>match o with
 |none=>none
 |some i=>match σ[i]? with
  |some v=>v
  |none=>none
def Al(X:Cx)(ifs:List Expr)(t:TT):Prop:=
 ∀(pins:List (Addr×Obj)) (s:Shared) (σ:St) (H:Hp) (Q:Bool->Hp->Prop),Inv X pins σ H s->t σ H Q->
  wpAny (model X.prog X.w) X.A (forIn ifs true λc r=>if r=true then do let ok<-isTrue c X.env (eval c X.env);pure (ForInStep.yield ok)else pure (ForInStep.yield r)) (TP X pins σ Q) X.xe s
def mq:TT:=λ_ H Q=>Q true H
def eV{X:Cx}:Al X [] mq:=λ_ _ _ H _ I h=>wpAny_tests_nil ⟨H,I,h⟩
def Wz{X:Cx}{c:Expr}{t:TT}(h:PT X c t):Al X [c] t:=λpins s σ H Q I q=>wpAny_tests_one (h pins s σ H Q I q)
def akN{prog:Program}{w:World}{A:Around}{R:Result->Shared->Prop}{s:Shared}{elt target iter:Expr}{ifs:List Expr}{scope:Scope}{pos:Pos}{it acc:Value}{env:Env}(I:Nat->Shared->Prop)
  (turn:∀n s,I n s->wpAny (model prog w) A (pyNext it) (λr s₁=>match r with
   |none=>R (.ok .next) s₁
   |some v=>wpAny (model prog w) A (letOwnedTupleGo target it v) (λ_ s₀=>wpAny (model prog w) A (assign target env v) (λ_ s₂=>
     wpAny (model prog w) A (forIn ifs true λc r=>if r=true then do let ok<-isTrue c env (eval c env);pure (ForInStep.yield ok)else pure (ForInStep.yield r)) (λok s₃=>
      if ok=true then wpAny (model prog w) A (eval elt env) (λx s₄=>
       wpAny (model prog w) A (call (.builtin "list.append") [acc,x]) (λ_ s₅=>∃m,m<n/\I m s₅) (λ_ _=>False) s₄) (λ_ _=>False) s₃
      else ∃m,m<n/\I m s₃) (λ_ _=>False) s₂) (λ_ _=>False) s₀) (λ_ _=>False) s₁) (λ_ _=>False) s)
  (n:Nat) (h:I n s):
  codeAny (model prog w) A (.compLoop (.ListComp elt [⟨target,iter,ifs,0⟩] scope pos) 0 it acc env) R s:=by
 refine codeAny_loop rfl I (λn s hI=>?_) n h;show wpAny _ A ((compTurn (.ListComp elt [⟨target,iter,ifs,0⟩] scope pos) 0 it acc env).onRaise (λx=>do noteFrame x env;theTreesLotGoes x)) _ _ s
 refine wpAny_noted ?_;rw[compTurn_list];refine wpAny_bind (wpAny_standAt (wpAny_bind (wpAny_mono (turn n s hI) (λr s₁ h₁=>?_) λ_ _ h'=>h'.elim)));cases r with
 |none=>exact wpAny_pure h₁
 |some v=>
  refine wpAny_bind (wpAny_mono h₁ (λ_ s₀ h₀=>?_) λ_ _ h'=>h'.elim);refine wpAny_bind (wpAny_mono h₀ (λ_ s₂ h₂=>wpAny_bind (wpAny_mono h₂ (λok s₃ h₃=>?_) λ_ _ h'=>h'.elim)) λ_ _ h'=>h'.elim);cases ok with
  |false=>exact wpAny_pure ⟨rfl,h₃⟩
  |true=>
   exact wpAny_bind (wpAny_bind (wpAny_mono h₃ (λx s₄ h₄=>wpAny_bind (wpAny_mono h₄ (λ_ s₅ h₅=>wpAny_pure (wpAny_pure ⟨rfl,h₅⟩)) λ_ _ h'=>h'.elim)) λ_ _ h'=>h'.elim))
structure kE(ix:List (Option Nat))(g:TG)(tc:TT)(te:TE)(σ:St)(Q:VK)(J:It)(H1:Hp):Prop where
 go:∀D,H1 D=none->∃W:Nat->Nat->St->Hp->Prop,(∃m,W 0 m (cst ix σ) (upd H1 D (.lst [])))/\
  ∀i m σ' H',W i m σ' H'->(J.stop i H'/\Q (.ref D) H')∨(J.go i H'/\∀x H2,J.jM i H' x H2->g x σ' H2 λσ3 H3=>tc σ3 H3 λb H4=>
   if b=true then te σ3 H4 λy H5=>∃ys,H5 D=some (.lst ys)/\ys.length<sizeLine/\∃m',m'<m/\W (i+1) m' σ3 (upd H5 D (.lst (ys++[y])))
   else ∃m',m'<m/\W (i+1) m' σ3 H4)
def Mj(ix:List (Option Nat))(wi:TI)(g:TG)(tc:TT)(te:TE):TE:=λσ H Q=>wi σ H λJ H1=>kE ix g tc te σ Q J H1
structure Je(X:Cx)(scope sc:Scope)(N:List Str)(ix:List (Option Nat)):Prop where
 rel:relabel scope X.env=sc
 kind:scope.kind = .function
 cell:∀y∈scope.names,y.2≠ .cell
 names:∀x∈scope.names,x.2 = .local->scope.names.lookup x.1=some .local
 free:∀y∈scope.names,y.2 = .free->X.env.kindOf y.1=some .cell∨X.env.kindOf y.1=some .free
 len:N.length=ix.length
 ix:∀(j:Nat) (x:Str) (i:Nat),N[j]?=some x->ix[j]?=some (some i)->X.N[i]?=some x/\(x,NameKind.free)∈scope.names/\(sc.names.lookup x=some .cell∨sc.names.lookup x=some .free)
 has:∀x,(sc.names.lookup x=some .cell∨sc.names.lookup x=some .free)->(x,NameKind.free)∈scope.names
def Wl{X:Cx}{tg iter elt:Expr}{ifs:List Expr}{scope sc:Scope}{pos ip:Pos}{wi:TI}{g:TG}{tc:TT}{te:TE}{N:List Str}{ix:List (Option Nat)}(O:Je X scope sc N ix)(hc:X.calm=true)(hi:PI X tg iter wi)
  (hb:∀cl C s₀ H₀ ex,PG (jL X sc N cl C s₀ H₀ ex) tg g/\Al (jL X sc N cl C s₀ H₀ ex) ifs tc/\PE (jL X sc N cl C s₀ H₀ ex) elt te) (hs:∀x,foldedSetIterable iter X.env x=pure x)
  {use:Option (Value->Sem Unit)} {QQ:Value->Shared->Prop} {pins:List (Addr×Obj)} {s:Shared} {σ:St} {H:Hp} {Q:VK} (I:Inv X pins σ H s) (h:Mj ix wi g tc te σ H Q)
  (fin:∀(D C:Addr) (s6:Shared) (H5:Hp) (m:Str->Option Value),Inv X pins σ H5 s6->s6.heap.Ns C m->rZ X pins H5 C->Q (.ref D) H5->compPost (model X.prog X.w) X.A X.xe use QQ (.ref D) C (.ok .next) s6):
  wpAny (model X.prog X.w) X.A (comprehension (.ListComp elt [⟨tg,iter,ifs,0⟩] scope pos) scope X.env ip (newList []) false (eval iter X.env) use) QQ X.xe s:=by
 have hcl:∃cl,closureFor scope X.env=pure cl/\(∀x c,cl.lookup x=some c->X.env.cells.lookup x=some c)/\∀y∈scope.names,y.2 = .free->∃c,cl.lookup y.1=some c:=
  aos λy hy hf=>I.ok.has y.1 (O.free y hy hf)
 obtain⟨cl,ecl,yw,aai⟩:=hcl;refine wpAny_comprehension_free (use:=use) rfl hs ecl O.kind O.names (aU (hi pins s σ H _ I h) λv s1 h1=>aU h1 λitv s2 h2=>?_);obtain⟨it,fp,tn,J,H2,e,I2,T,st2,f2,q2⟩:=h2;subst e;obtain⟨W,⟨m0,w0⟩,turn⟩:=q2.go s2.heap.objs.size I2.fresh;refine wpAny_newObj_type ?_;have I3:=I2.Tf (its:=[]) (t':=s2.toks) (ys:=[]) .nil (cj _);generalize Ys:upd H2 s2.heap.objs.size (.lst [])=H3 at I3 w0;have eD:H3 s2.heap.objs.size=some (.lst []):=by rw[<-Ys];exact aC
 have ah2:∀b∈fp,b≠s2.heap.objs.size:=λb hb z=>by
  obtain⟨o,ho,_⟩:=T.obj _ _ st2 b hb;exact absurd (cQ ho) (by rw[z];exact nT _)
 have st3:tn 0 (s2.heap.push { cls:= .type "list",dict:=none,data:= .seq ([]:List Value).toArray }):=T.keep _ _ _ st2 λb _ o e=>Heap.get?_push_of_some _ e;have f3:∀b∈fp,rZ X pins H3 b:=λb hb=>⟨by rw[<-Ys,bK (ah2 b hb)];exact(f2 b hb).1,(f2 b hb).2⟩;generalize es3:({ s2 with heap:=s2.heap.push { cls:= .type "list",dict:=none,data:= .seq ([]:List Value).toArray },toks:=s2.toks }:Shared)=s3 at I3;have abW:tn 0 s3.heap:=by rw[<-es3];exact st3
 refine wpAny_newFunctionEnv O.cell (λy hy=>nomatch hy) (λh4 aik agj=>?_) O.kind;have O5:∀b o,s3.heap.get? b=some o->h4.get? b=some o:=λb o e=>(agj.2 b (fD (cQ e))).trans (Heap.get?_push_of_some _ e);have I4:Inv X pins σ H3 { s3 with heap:=h4,toks:=s3.toks+([]:List (Str×Value)).length }:=I3.kept O5;have alU:({ newEnv scope s3.heap.objs.size X.env.globals cl X.env.qual none .none (some X.env) builtinsNs with scope:=relabel scope X.env }:Env)=Um sc cl s3.heap.objs.size X.env:=by rw[O.rel];rfl
 rw[alU];show codeAny _ _ _ (compPost (model X.prog X.w) X.A X.xe use QQ (.ref s2.heap.objs.size) s3.heap.objs.size) _;generalize eC:s3.heap.objs.size=C;generalize es4:({ s3 with heap:=h4,toks:=s3.toks+([]:List (Str×Value)).length }:Shared)=s4 at I4;have Sv:s4.heap=h4:=by rw[<-es4]
 have o4s:s4.os=s3.os:=by rw[<-es4]
 have fC:∀b∈fp,b≠C:=λb hb z=>by
  obtain⟨o,ho,_⟩:=T.obj _ _ abW b hb;exact absurd (cQ ho) (by rw[z,eC];exact nT _)
 have okC:(jL X sc N cl C s3 H3 fp).Ok:=by
  refine⟨I3.ok.mod,?_,I3.ok.glob,I3.ok.blt,QF eC,λx y c h1 h2=>I3.ok.inj x y c (yw x c h1) (yw y c h2),λx hx=>?_,λx c z _=>(nomatch z),I3.ok.hd,I3.ok.frames,.inl rfl,λb hb=>⟨fC b hb,λx c e=>(f3 b hb).2.2.2.2.1 x c (yw x c e)⟩,
   I3.bs,fG I3.ok.v8 I3.sz,λb o e hb=>?_,λb hb z=>?_,I3.stack,I3.Q8⟩
  .show sc.kind = .function;rw[<-O.rel];exact O.kind
  .exact aai (x,.free) (O.has x hx) rfl
  .rcases(f3 b hb).2.2.2.1 with z|z
   .exact I3.ok.Ds b o e z
   .exact absurd (jt (cQ e) (fG I3.ok.v8 z)) (nT _)
  .rcases bH.mp (I3.JC b z)with z|z
   .exact(f3 b hb).2.1 z
   .exact(f3 b hb).2.2.1 z
 have IC:Inv (jL X sc N cl C s3 H3 fp) [] (cst ix σ) H3 s4:=by
  refine⟨okC,o4s,I4.bare,?_,?_,λx c e=>I4.cell x c (yw x c e),?_,λx c e=>I4.pG x c (yw x c e),λp hp=>(nomatch hp),I4.hok,?_⟩
  .rw[Sv];exact Un.kept O5
  .refine⟨_,by rw[Sv,<-eC];exact aik,λj x v e1 e2 e3=>?_⟩;have e2':(cst ix σ)[j]?=some (some v):=e2;unfold cst at e2';rw[List.getElem?_map]at e2';cases q:ix[j]? with
   |none=>rw[q]at e2';cases e2'
   |some o=>
    rw[q]at e2';cases o with
    |none=>cases e2'
    |some i=>
     obtain⟨hx,hm,hsc⟩:=O.ix j x i e1 q;cases q2:σ[i]? with
     |none=>simp[q2]at e2'
     |some w'=>
      simp[q2]at e2';subst e2';obtain⟨m,hn,hl⟩:=I4.loc;have kf:=O.free (x,.free) hm rfl;have vis:Fz X.env.scope x:=by
       rcases kf with k|k
       .exact .inr (.inl k)
       .exact .inr (.inr k)
      obtain⟨u,r,l⟩:=hl i x v hx q2 vis;refine⟨u,r,?_⟩;rcases l with⟨k,_⟩|⟨_,c,e,z⟩
      .rcases kf with k'|k'
       .rw[k]at k';cases k'
       .rw[k]at k';cases k'
      .obtain⟨c',e'⟩:=aai (x,.free) hm rfl;have:=yw x c' e';rw[e]at this;cases this;exact .inr ⟨hsc,c,e',z⟩
  .rw[<-eC];exact I3.fresh
  .show(cst ix σ).length=N.length;rw[O.len];simp[cst]
 have WZ:tn 0 s4.heap:=T.keep _ _ _ abW λb _ o e=>by rw[Sv];exact O5 b o e
 have stat:∀{H':Hp},(∀b∈fp,H' b=none)->∀b∈fp,rZ (jL X sc N cl C s3 H3 fp) [] H' b:=λhn b hb=>
  ⟨hn b hb,fC b hb,okC.CY b hb,.inl hb,λx c e=>(f3 b hb).2.2.2.2.1 x c (yw x c e),λp hp=>(nomatch hp)⟩
 obtain⟨hg,ht,he⟩:=hb cl C s3 H3 fp;have loop:codeAny (model X.prog X.w) X.A (.compLoop (.ListComp elt [⟨tg,iter,ifs,0⟩] scope pos) 0 (.ref it) (.ref s2.heap.objs.size) (Um sc cl C X.env))
   (compPost (model X.prog X.w) X.A X.xe use QQ (.ref s2.heap.objs.size) C) s4:=by
  refine akN (λn s'=>∃i σ' H',Inv (jL X sc N cl C s3 H3 fp) [] σ' H' s'/\tn i s'.heap/\(∀b∈fp,H' b=none)/\W i n σ' H') ?_ m0 ⟨0,cst ix σ,H3,IC,WZ,λb hb=>(f3 b hb).1,w0⟩;rintro n s5 ⟨i,σ5,H5,I5,Bf,Kl,w5⟩;rcases turn i n σ5 H5 w5 with⟨stop,qn⟩|⟨go,step⟩
  .refine aU (T.done (jL X sc N cl C s3 H3 fp) rfl rfl rfl hc i [] s5 σ5 H5 (λ_ _=>False) I5 (stat Kl) Bf stop) λr s6 ⟨hr,I6⟩=>?_;subst hr;obtain⟨m,hn,_⟩:=id I6.loc;have I7:Inv X pins σ H5 s6:=I3.ajh (ch:=fp) I6.os I6.base I6.hok I6.bare λb hb=>⟨(f3 b hb).2.2.2.1,(f3 b hb).2.1,(f3 b hb).2.2.2.2.1,(f3 b hb).2.2.2.2.2⟩;exact fin _ C s6 H5 m I7 hn (I3.sS (QF eC) I6.free) qn
  .refine aU (T.item (jL X sc N cl C s3 H3 fp) rfl rfl rfl hc i [] s5 σ5 H5 (λ_ _=>False) I5 (stat Kl) Bf go) λr s6 ⟨u,hr,h6⟩=>?_;subst hr;refine aU h6 λ_ s7 ⟨x,H7,I7,r7,y7,Lj,fr7⟩=>?_;have I7':=I7.pinned (stat fr7) (T.obj _ _ Lj);have again:∀{σ9:St} {H9:Hp} {s9:Shared} {m':Nat},Inv (jL X sc N cl C s3 H3 fp) ([]++Em fp s7.heap) σ9 H9 s9->m'<n->W (i+1) m' σ9 H9->
     ∃m,m<n/\∃i σ' H',Inv (jL X sc N cl C s3 H3 fp) [] σ' H' s9/\tn i s9.heap/\(∀b∈fp,H' b=none)/\W i m σ' H':=λ{σ9 H9 s9 m'} I9 hm w9=>by
    refine⟨m',hm,i+1,σ9,H9,I9.BR,T.keep _ _ _ Lj λb hb o e=>(I9.pin (b,o) (pq _ (pq _ (Dh hb e)))).1,λb hb=>?_,w9⟩;obtain⟨o,e,d⟩:=T.obj _ _ Lj b hb;exact(I9.pin (b,o) (pq _ (pq _ (Dh hb e)))).2.1
   refine aU (hg _ s7 σ5 H7 x u _ I7' r7 (step x H7 y7)) λ_ s8 ⟨σ8,H8,I8,q8⟩=>?_;refine aU (ht _ s8 σ8 H8 _ I8 q8) λb s9 ⟨H9,I9,q9⟩=>?_;cases b with
   |false=>
    rw[if_neg fW]at q9;obtain⟨m',hm,w9⟩:=q9;rw[if_neg fW];exact again I9 hm w9
   |true=>
    rw[if_pos rfl]at q9;rw[if_pos rfl];refine aU (he _ s9 σ8 H9 _ I9 q9) λy s10 ⟨yv,wY,Kz,r10,ys,e10,Gi,m',hm,w10⟩=>?_;refine aU (afE _ s10 σ8 wY (.ref s2.heap.objs.size) [yv] (.ref s2.heap.objs.size) [y] (λ_ H'=>W (i+1) m' σ8 H') Kz rfl (.cons r10 .nil) ⟨_,ys,yv,rfl,rfl,e10,Gi,w10⟩) λ_ s11 ⟨_,TN,I11,_,w11⟩=>?_;exact again I11 hm w11
 exact codeAny_compStart_list loop (T.self _ _ _ _ _ WZ loop)
def gF{X:Cx}{tg iter elt:Expr}{ifs:List Expr}{scope sc:Scope}{pos:Pos}{wi:TI}{g:TG}{tc:TT}{te:TE}{N:List Str}{ix:List (Option Nat)}(O:Je X scope sc N ix)(hc:X.calm=true)(hi:PI X tg iter wi)
  (hb:∀cl C s₀ H₀ ex,PG (jL X sc N cl C s₀ H₀ ex) tg g/\Al (jL X sc N cl C s₀ H₀ ex) ifs tc/\PE (jL X sc N cl C s₀ H₀ ex) elt te)
  (hs:∀x,foldedSetIterable iter X.env x=pure x:=by intro _;rfl):PE X (.ListComp elt [⟨tg,iter,ifs,0⟩] scope pos) (Mj ix wi g tc te):=by
 intro pins s σ H Q I h;rw[eval_ListComp];exact Wl (use:=none) (QQ:=EP X pins σ Q) O hc hi hb hs I h λD C s6 H5 m I7 hn f q=>⟨m,hn,λh' hs'=>⟨.ref D,H5,I7.turned (it:=C) (t':=s6.toks) (λb o hb e=>(hs'.2 b hb).trans e) f.1 f.2.1 f.2.2.2.1 f.2.2.2.2.1 f.2.2.2.2.2,rfl,q⟩⟩
def uL{X:Cx}{i:Nat}{y:Str}{py spos:Pos}{tg iter elt:Expr}{ifs:List Expr}{scope sc:Scope}{pos:Pos}{wi:TI}{g:TG}{tc:TT}{te:TE}{N:List Str}{ix:List (Option Nat)}(hN:X.N.Nodup)(hi':X.N[i]?=some y)(hx:Loc X.env.scope y)
  (O:Je X scope sc N ix) (hc:X.calm=true) (hi:PI X tg iter wi)
  (hb:∀cl C s₀ H₀ ex,PG (jL X sc N cl C s₀ H₀ ex) tg g/\Al (jL X sc N cl C s₀ H₀ ex) ifs tc/\PE (jL X sc N cl C s₀ H₀ ex) elt te)
  (hs:∀x,foldedSetIterable iter X.env x=pure x:=by intro _;rfl) (hsw:swapsWith (.ListComp elt [⟨tg,iter,ifs,0⟩] scope pos) (some (.Name y py)) spos.line X.env=pure true:=by rfl)
  (hf:X.fn y=true∨X.env.scope.names.lookup y=some .local:=by first|exact .inl rfl|exact .inr rfl|assumption):
  PS X (.Assign [.Name y py] (.ListComp elt [⟨tg,iter,ifs,0⟩] scope pos) spos) (Fj (Mj ix wi g tc te) (ig i)):=by
 intro pins s σ H D I h;rw[exec_Assign_Name_used _ _ _ _ hsw];refine wpAny_bind (wpAny_standAt (wpAny_bind ?_));show wpAny _ X.A (do let _<-comprehension (.ListComp elt [⟨tg,iter,ifs,0⟩] scope pos) scope X.env _ (newList []) false (eval iter X.env) (some (assign (.Name y py) X.env))) _ _ s
 refine wpAny_bind (wpAny_mono (Wl (use:=some (assign (.Name y py) X.env)) (QQ:=λ_ s'=>∃σ' H',Inv X pins σ' H' s'/\D.nx σ' H') O hc hi hb hs I h λD1 C s6 H5 m I7 hn f q=>?_) (λ_ s' ⟨σ',H',I',q'⟩=>wpAny_pure (wpAny_pure ⟨σ',H',I',q'⟩)) λ_ _ e=>e);obtain⟨o,es,ep,ho,hc1,hc2⟩:=id hn;have I8:=I7.pinned (fp:=[C]) (λb hb=>by
  have e:b=C:=by simpa using hb
  subst e;exact f) (λb hb=>by
  have e:b=C:=by simpa using hb
  subst e;exact⟨o,ho,λv z=>by first|(rw[hc1.2]at z;cases z)|(rw[hc2.1]at z;cases z)|(rw[hc1]at z;cases z)|(simp_all)⟩)
 show wpAny _ X.A (assign (.Name y py) X.env (.ref D1)) _ _ _;refine wpAny_assign_Name (CM I8 hN hi' hx (v:= .ref D1) rfl (λs7 I9=>?_) hf);have hC:=(I9.pin (C,o) (pq _ (pq _ (Dh (by simp) ho)))).1;refine⟨m,⟨o,es,ep,hC,hc1,hc2⟩,λh' hs'=>⟨_,H5,I9.BR.turned (it:=C) (t':=s7.toks) (λb o hb e=>(hs'.2 b hb).trans e) f.1 f.2.1 f.2.2.2.1 f.2.2.2.2.1 f.2.2.2.2.2,q⟩⟩
mutual
inductive mC(K:aF)(H:Hp):V->PyData->Prop
 |non:mC K H .non .none
 |bl (b:Bool):mC K H (.bl b) (.bool b)
 |int (i:Int):mC K H (.int i) (.int i)
 |str (x:Str):mC K H (.str x) (.str x)
 |lst {a:Addr} {xs:List V} {ds:List PyData}:au K H a xs->lJ K H xs ds->mC K H (.ref a) (.list ds)
 |tup {a:Addr} {xs:List V} {ds:List PyData}:aA K H a xs->lJ K H xs ds->mC K H (.ref a) (.tuple ds)
inductive lJ(K:aF)(H:Hp):List V->List PyData->Prop
 |nil:lJ K H [] []
 |cons {x:V} {d:PyData} {xs:List V} {ds:List PyData}:mC K H x d->lJ K H xs ds->lJ K H (x::xs) (d::ds)
end
section
variable {X:Cx} {pins:List (Addr×Obj)} {σ:St} {H:Hp} {s:Shared}
mutual
theorem Inv.reads(I:Inv X pins σ H s):∀{x:V} {d:PyData} {u:Value},mC X.K H x d->RelV x u->∃as,Reads s.heap u d as
 |_,_,_,.non,r=>by cases r;exact⟨_,.none⟩
 |_,_,_,.bl b,r=>by cases r;exact⟨_,.bool b⟩
 |_,_,_,.int i,r=>by obtain⟨t,rfl⟩:=r;exact⟨_,.int i t⟩
 |_,_,_,.str x,r=>by obtain⟨t,rfl⟩:=r;exact⟨_,.str x t⟩
 |_,_,_,.lst hq hs,r=>by
  cases r;obtain⟨its,rv,pl,_⟩:=I.list hq;obtain⟨as,ra⟩:=Inv.readsAll I hs rv;obtain⟨o,ho,hc,n,hd⟩:=pl.isList;exact⟨_,.list ho hc hd (by simpa using ra)⟩
 |_,_,_,.tup hq hs,r=>by
  cases r;obtain⟨its,rv,pl,_⟩:=I.tuple hq;obtain⟨as,ra⟩:=Inv.readsAll I hs rv;obtain⟨o,ho,hc,n,hd⟩:=pl;exact⟨_,.tuple ho hc hd (by simpa using ra)⟩
theorem Inv.readsAll(I:Inv X pins σ H s):∀{xs:List V} {ds:List PyData} {us:List Value},lJ X.K H xs ds->Vals xs us->∃as,ReadsAll s.heap us ds as
 |_,_,_,.nil,.nil=>⟨_,.nil⟩
 |_,_,_,.cons h1 h2,.cons r1 r2=>by
  obtain⟨as,a⟩:=Inv.reads I h1 r1;obtain⟨bs,b⟩:=Inv.readsAll I h2 r2;exact⟨_,.cons a b⟩
end
theorem lJ.ints{K:aF}{H:Hp}:∀ns:List Int,lJ K H (ns.map V.int) (ns.map JY)
 |[]=> .nil
 |n::r=> .cons (.int n) (lJ.ints r)
def rC(kb:List (Key×V)):List (Key×V)->Bool
 |[]=>true
 |(k,v)::r=>match eU kb k with
  |none=>false
  |some y=>QN v y&&rC kb r
theorem O1{A:Around}{kb:List (Key×V)}{vb:List (Key×Value)}(hb:KV kb vb)(fb:kb.all (λp=>qO p.2)=true):∀{ka:List (Key×V)} {va:List (Key×Value)},KV ka va->ka.all (λp=>qO p.2)=true->
  W.KeqHits A s vb va (rC kb ka)
 |[],_,.nil,_=> .nil
 |(k,v)::r,(k',v')::r',.cons ⟨e,rv⟩ t,f=>by
  cases (show k=k' from e);rw[List.all_cons,ji]at f;have hv:=KV.val hb k;cases q:eU kb k with
  |none=>
   have hn:valueAt vb k=none:=lX.none_of (by rw[q]at hv;exact hv);have e2:rC kb ((k,v)::r)=false:=by simp[rC,q]
   rw[e2];exact .miss hn
  |some y=>
   rw[q]at hv;obtain⟨u,hu,ru⟩:=lX.some_of hv;have fy:qO y=true:=by
    unfold eU at q;cases q2:kb.find? (λkv=>decide (kv.1=k))with
    |none=>rw[q2]at q;cases q
    |some p=>
     rw[q2]at q;cases q;exact lK.mp fb p (List.mem_of_find?_eq_some q2)
   have e2:rC kb ((k,v)::r)=(QN v y&&rC kb r):=by simp[rC,q]
   rw[e2];exact .hit hu (arw rv ru f.1 fy) (O1 hb fb t f.2)
end
section
variable {X:Cx}
def uo(K:aF)(g:Bool->Bool):R2:=λx y H Q=>match x,y with
 |.int i,.int j=>Q (.bl (g (decide (i=j)))) H
 |.bl i,.bl j=>Q (.bl (g (decide (i=j)))) H
 |.str i,.str j=>Q (.bl (g (decide (i=j)))) H
 |.non,.non=>Q (.bl (g true)) H
 |.ref a,.ref b=>(∃d e,mC K H (.ref a) d/\mC K H (.ref b) e/\SeqAt.shaped d=true/\SeqAt.shaped e=true/\Q (.bl (g (pD d e))) H)∨
   (∃ka kb,H a=some (.dK ka)/\H b=some (.dK kb)/\ka.all (λp=>qO p.2)=true/\kb.all (λp=>qO p.2)=true/\Q (.bl (g (ka.length==kb.length&&rC kb ka))) H)
 |.non,.ref _=>False
 |.ref _,.non=>False
 |x,y=>KP x y=true/\Q (.bl (g (decide (x=y)))) H
def awH{k:Nat}(hr:dY k X.A):cV X (compareOp .Eq) (λx y H Q=>∃d e,mC X.K H x d/\mC X.K H y e/\SeqAt.shaped d=true/\SeqAt.shaped e=true/\Q (.bl (pD d e)) H):=by
 intro pins s σ H x y v u Q I rx ry h;obtain⟨d,e,h1,h2,h3,h4,q⟩:=h;obtain⟨as,ra⟩:=I.reads h1 rx;obtain⟨bs,rb⟩:=I.reads h2 ry;exact eq_dataH ra rb h3 h4 hr.units ⟨.bl _,H,I,rfl,q⟩
def aub{k:Nat}(hr:dY k X.A):cV X (compareOp .NotEq) (λx y H Q=>∃d e,mC X.K H x d/\mC X.K H y e/\SeqAt.shaped d=true/\SeqAt.shaped e=true/\Q (.bl (!pD d e)) H):=by
 intro pins s σ H x y v u Q I rx ry h;obtain⟨d,e,h1,h2,h3,h4,q⟩:=h;obtain⟨as,ra⟩:=I.reads h1 rx;obtain⟨bs,rb⟩:=I.reads h2 ry;exact ne_dataH ra rb h3 h4 hr.units ⟨.bl _,H,I,rfl,q⟩
def am6{k:Nat}(hr:dY k X.A):cV X (compareOp .Eq) (λx y H Q=>∃a b ka kb,x = .ref a/\y = .ref b/\H a=some (.dK ka)/\H b=some (.dK kb)/\ka.all (λp=>qO p.2)=true/\kb.all (λp=>qO p.2)=true/\Q (.bl (ka.length==kb.length&&rC kb ka)) H):=by
 intro pins s σ H x y v u Q I rx ry h;obtain⟨a,b,ka,kb,rfl,rfl,h1,h2,h3,h4,q⟩:=h;cases rx;cases ry;obtain⟨_,ea,va,ra,da⟩:ka.length<=sizeLine/\(a==sysModules)=false/\∃vs,KV ka vs/\s.heap.DictOf (eE X.prog X.w) a vs:=I.hok a _ h1;obtain⟨_,eb,vb,rb,db⟩:kb.length<=sizeLine/\(b==sysModules)=false/\∃vs,KV kb vs/\s.heap.DictOf (eE X.prog X.w) b vs:=I.hok b _ h2;refine W.keq_eq ea eb da db hr.ad3 (λ_=>O1 rb h4 ra h3) ⟨.bl _,H,I,?_,q⟩;show _=Value.bool _;rw[Paired.length ra,Paired.length rb]
def ark{k:Nat}(hr:dY k X.A):cV X (compareOp .NotEq) (λx y H Q=>∃a b ka kb,x = .ref a/\y = .ref b/\H a=some (.dK ka)/\H b=some (.dK kb)/\ka.all (λp=>qO p.2)=true/\kb.all (λp=>qO p.2)=true/\Q (.bl (!(ka.length==kb.length&&rC kb ka))) H):=by
 intro pins s σ H x y v u Q I rx ry h;obtain⟨a,b,ka,kb,rfl,rfl,h1,h2,h3,h4,q⟩:=h;cases rx;cases ry;obtain⟨_,ea,va,ra,da⟩:ka.length<=sizeLine/\(a==sysModules)=false/\∃vs,KV ka vs/\s.heap.DictOf (eE X.prog X.w) a vs:=I.hok a _ h1;obtain⟨_,eb,vb,rb,db⟩:kb.length<=sizeLine/\(b==sysModules)=false/\∃vs,KV kb vs/\s.heap.DictOf (eE X.prog X.w) b vs:=I.hok b _ h2;refine W.keq_ne ea eb da db hr.ad3 (λ_=>O1 rb h4 ra h3) ⟨.bl _,H,I,?_,q⟩;show _=Value.bool _;rw[Paired.length ra,Paired.length rb]
def aaD{i j:Int}:decide (V.int i=V.int j)=decide (i=j):=by simp
def ae3{i j:Bool}:decide (V.bl i=V.bl j)=decide (i=j):=by simp
def abx{i j:Str}:decide (V.str i=V.str j)=decide (i=j):=by simp
def v_eq{k:Nat}(hr:dY k X.A):cV X (compareOp .Eq) (uo X.K id):=by
 refine(aqz.or ((awH hr).or (am6 hr))).imp λx y H Q h=>?_;unfold uo at h;split at h
 .exact .inl ⟨rfl,by rw[aaD];exact h⟩
 .exact .inl ⟨rfl,by rw[ae3];exact h⟩
 .exact .inl ⟨rfl,by rw[abx];exact h⟩
 .exact .inl ⟨rfl,by rw[decide_eq_true rfl];exact h⟩
 .rcases h with⟨d,e,h⟩|⟨ka,kb,h⟩
  .exact .inr (.inl ⟨d,e,h⟩)
  .exact .inr (.inr ⟨_,_,ka,kb,rfl,rfl,h⟩)
 .exact h.elim
 .exact h.elim
 .exact .inl h
def awC{k:Nat}(hr:dY k X.A):cV X (compareOp .NotEq) (uo X.K not):=by
 refine(asZ.or ((aub hr).or (ark hr))).imp λx y H Q h=>?_;unfold uo at h;split at h
 .exact .inl ⟨rfl,by rw[aaD];exact h⟩
 .exact .inl ⟨rfl,by rw[ae3];exact h⟩
 .exact .inl ⟨rfl,by rw[abx];exact h⟩
 .exact .inl ⟨rfl,by rw[decide_eq_true rfl];exact h⟩
 .rcases h with⟨d,e,h⟩|⟨ka,kb,h⟩
  .exact .inr (.inl ⟨d,e,h⟩)
  .exact .inr (.inr ⟨_,_,ka,kb,rfl,rfl,h⟩)
 .exact h.elim
 .exact h.elim
 .exact .inl h
end
end L2
namespace PySem.SeqAt
open AutoSeq1 (wpAny_loadPart')
open MeetsSeq MeetsSeq2 MeetsSeq3 SeqRoads2
section
variable {A:Around} {s:Shared}
end
end PySem.SeqAt
namespace L2
open PySem PySem.Spec PyProof.Rows
section
variable {X:Cx}
end
def boot_isinstance:bootBuiltins "isinstance" = some (.builtin "isinstance"):=by decide +kernel
def boot_abs:bootBuiltins "abs" = some (.builtin "abs"):=by decide +kernel
def boot_sum:bootBuiltins "sum" = some (.builtin "sum"):=by decide +kernel
def boot_max:bootBuiltins "max" = some (.builtin "max"):=by decide +kernel
def boot_int:bootBuiltins "int" = some (.type "int"):=by decide +kernel
def boot_bool:bootBuiltins "bool" = some (.type "bool"):=by decide +kernel
def boot_tuple:bootBuiltins "tuple" = some (.type "tuple"):=by decide +kernel
def boot_list:bootBuiltins "list" = some (.type "list"):=by decide +kernel
structure Fn(K:aF)(mg:Str->Option Value)(x:Str)(st:Stmt)(ps:List Str):Prop where
 ex:∃(f:Addr) (fd:FuncData),uJ K x x st f fd/\mg x=some (.ref f)/\Binds K fd ps []
def Fn.cal{P:Program}{w:World}{K:aF}{mg:Str->Option Value}{base:Heap}{x:Str}{st:Stmt}{N ps:List Str}{k:Nat}{sp:Sp}(F:Fn K mg x st ps)(S:bB N ps (aW st))(len:∀vs H Q E,sp vs H Q E->vs.length=ps.length)
  (hbody:∀(f:Addr) (cdv:Value) (A:Around) (outer:List Env) (s:Shared) (H:Hp) (vs:List V) (Q:VK) (E:XK),dY k (A.deeper (envOfC x (aW st) s.heap.objs.size f cdv))->sp vs H Q E->
   ∃t,jG (gQ P w K mg base N x (aW st) f cdv A outer s H E).Cq (lE st) t/\t { nx:=λ_ H'=>Q .non H',rt:=Q } (start N vs) H):j9 P w K mg base x (k+1) ps sp:=by
 obtain⟨f,fd,F,m,b⟩:=F.ex;exact⟨f,fd,m,F.kp,b,F.okN S len λcdv A outer s H vs Q E hr h=>hbody f cdv A outer s H vs Q E hr h⟩
def Fn.Gb{P:Program}{w:World}{K:aF}{mg:Str->Option Value}{base:Heap}{x:Str}{st:Stmt}{N ps:List Str}{k:Nat}{sp:Sp}(F:Fn K mg x st ps)(S:bB N ps (aW st))(len:∀vs H Q E,sp vs H Q E->vs.length=ps.length)
  (hbody:∀(f:Addr) (cdv:Value) (A:Around) (outer:List Env) (s:Shared) (H:Hp) (vs:List V) (Q:VK) (E:XK),dY k (A.deeper (envOfC x (aW st) s.heap.objs.size f cdv))->sp vs H Q E->
   ∃t,jG (gQ P w K mg base N x (aW st) f cdv A outer s H E) (lE st) t/\t { nx:=λ_ H'=>Q .non H',rt:=Q } (start N vs) H):j9 P w K mg base x (k+1) ps sp:=by
 obtain⟨f,fd,F,m,b⟩:=F.ex;exact⟨f,fd,m,F.kp,b,F.okF S len λcdv A outer s H vs Q E hr h=>hbody f cdv A outer s H vs Q E hr h⟩
def Same.new{H:Hp}{p:Addr}(h:H p=none)(o:HO):Same H (upd H p o):=λb u q=>by rw[bK (nZ q h)];exact q
theorem Same.upd{H H':Hp}{p:Addr}(g:Same H H')(h:H p=none)(o:HO):Same H (L2.upd H' p o):=λb u q=>by rw[bK (nZ q h)];exact g b u q
def Same.Ca{K:aF}{H H':Hp}{a:Addr}{xs:List V}(e:Same H H')(h:aA K H a xs):aA K H' a xs:=by
 rcases h with(h|⟨o,h⟩)|h
 .exact .inl (.inl (e _ _ h))
 .exact .inl (.inr ⟨o,e _ _ h⟩)
 .exact .inr h
def mulL{i j:Int}(h1:-(2^64)<i)(h2:i<2^64):IntMulOk i j:= .of_left (intBits_le_64 h1 h2)
def mulR{i j:Int}(h1:-(2^64)<j)(h2:j<2^64):IntMulOk i j:= .of_right (intBits_le_64 h1 h2)
def dU{N:List Str}(h:decide N.Nodup=true:=by kernel_rfl):N.Nodup:=of_decide_eq_true h
abbrev dZ(l:List (Str×NameKind)):Scope:={ kind:= .function,names:=l,isGenerator:=false,isCoroutine:=false }
def d7{X:Cx}{scope sc:Scope}{N:List Str}{ix:List (Option Nat)}(sc':relabel scope X.env=sc:=by kernel_rfl)(kind:scope.kind = .function:=by kernel_rfl)(cell:scope.names.all (λy=>y.2 != .cell)=true:=by kernel_rfl)
  (names:scope.names.all (λx=>x.2 != .local||scope.names.lookup x.1==some .local)=true:=by kernel_rfl)
  (free:scope.names.all (λy=>y.2 != .free||(X.env.scope.names.lookup y.1==some .cell||X.env.scope.names.lookup y.1==some .free))=true:=by kernel_rfl)
  (len:N.length=ix.length:=by kernel_rfl)
  (hix:(N.zip ix).all (λp=>match p.2 with
   |none=>true
   |some i=>X.N[i]?==some p.1&&scope.names.any (λy=>y.1==p.1&&y.2== .free)&&(sc.names.lookup p.1==some .cell||sc.names.lookup p.1==some .free))=true:=by kernel_rfl)
  (has:sc.names.all (λy=>(y.2 != .cell&&y.2 != .free)||scope.names.any (λz=>z.1==y.1&&z.2== .free))=true:=by kernel_rfl):Je X scope sc N ix:=by
 have mem:∀x:Str,scope.names.any (λy=>y.1==x&&y.2== .free)=true->(x,NameKind.free)∈scope.names:=λx h=>by
  obtain⟨y,hy,e⟩:=tQ.mp h;rw[ji]at e;obtain⟨a,b⟩:=y;have e1:a=x:=eq_of_beq e.1;have e2:b = .free:=eq_of_beq e.2;subst e1;subst e2;exact hy
 refine⟨sc',kind,λy hy e=>?_,λx hx e=>?_,λy hy e=>?_,len,λj x i h1 h2=>?_,λx hx=>?_⟩
 .have:=lK.mp cell y hy;rw[e]at this;cases this
 .have:=lK.mp names x hx;rw[e]at this;simpa using this
 .have:=lK.mp free y hy;rw[e]at this;simpa[Env.kindOf]using this
 .have hm:(x,some i)∈N.zip ix:=by
   have:(N.zip ix)[j]?=some (x,some i):=by
    rw[List.getElem?_zip_eq_some];exact⟨h1,h2⟩
   exact List.mem_of_getElem? this
  have:=lK.mp hix _ hm;simp only[ji]at this;obtain⟨⟨a1,a2⟩,a3⟩:=this;refine⟨eq_of_beq a1,mem x a2,?_⟩;rw[zp]at a3;rcases a3 with z|z
  .exact .inl (eq_of_beq z)
  .exact .inr (eq_of_beq z)
 .have hm:∃k,(x,k)∈sc.names/\(k = .cell∨k = .free):=by
   rcases hx with z|z
   .exact⟨_,vR z,.inl rfl⟩
   .exact⟨_,vR z,.inr rfl⟩
  obtain⟨k,hk,e⟩:=hm;have:=lK.mp has _ hk;rw[zp]at this;rcases this with z|z
  .rcases e with e|e<;>(subst e;simp at z)
  .exact mem x z
structure bG(K:aF)(x:Str)(st:Stmt):Prop where
 ex:∃(f:Addr) (oc:Value) (od:Option Addr) (kV doc pm:Value) (an:Option Addr) (cdv ct:Value) (sl:Array (Option Value)),iy K mainGlobals x=some (some (.ref f))/\
  K.lookup f=some ⟨oc,od,.func (qH x x (qe st) (lE st) (aW st) .none kV doc pm an cdv ct),sl⟩/\Dd K cdv x=true/\yM K (.ref f)=true
def at4{K:aF}{x:Str}{st:Stmt}{f:Addr}{oc:Value}{od:Option Addr}{kV doc pm:Value}{an:Option Addr}{cdv ct:Value}{sl:Array (Option Value)}(a:iy K mainGlobals x=some (some (.ref f)))
  (l:K.lookup f=some ⟨oc,od,.func (qH x x (qe st) (lE st) (aW st) .none kV doc pm an cdv ct),sl⟩) (c:Dd K cdv x=true) (k:yM K (.ref f)=true):bG K x st:=
 ⟨f,oc,od,kV,doc,pm,an,cdv,ct,sl,a,l,c,k⟩
def bG.fn{K:aF}{h:Heap}{mg:Str->Option Value}{x:Str}{st:Stmt}{ps:List Str}(F:bG K x st)(X:K.In h)(G:h.Ns mainGlobals mg)
  (hb:∀(kV doc pm:Value) (an:Option Addr) (cdv ct:Value) (us:List Value),us.length=ps.length->bindArgs (qH x x (qe st) (lE st) (aW st) .none kV doc pm an cdv ct) ⟨us,[]⟩=pure (ps.zip us)):Fn K mg x st ps:=by
 obtain⟨f,oc,od,kV,doc,pm,an,cdv,ct,sl,a,l,c,k⟩:=F.ex;have FF:=aeA (st:=st) l c k;exact⟨f,_,FF,yr X G a,FF.binds hb⟩
def bG.bY{K:aF}{h:Heap}{mg:Str->Option Value}{x:Str}{st:Stmt}{ps:List Str}(F:bG K x st)(X:K.In h)(G:h.Ns mainGlobals mg)
  (hb:∀(kV doc pm:Value) (an:Option Addr) (cdv ct:Value) (us:List Value),us.length=ps.length->bindArgs (qH x x (qe st) (lE st) (aW st) .none kV doc pm an cdv ct) ⟨us,[]⟩=pure (ps.zip us):=by
   intro _ _ _ _ _ _ us hl;first
    |(obtain⟨_,rfl⟩:=L2.us1 hl;rfl)
    |(obtain⟨_,_,rfl⟩:=L2.VZ hl;rfl)
    |(obtain⟨_,_,_,rfl⟩:=L2.Wv hl;rfl)
    |(obtain⟨_,_,_,_,rfl⟩:=L2.us4 hl;rfl)
    |(obtain rfl:=L2.us0 hl;rfl)
    |(obtain⟨_,_,_,_,_,rfl⟩:=L2.us5 hl;rfl)
    |(obtain⟨_,_,_,_,_,_,rfl⟩:=L2.us6 hl;rfl)):Fn K mg x st ps:=F.fn X G hb
def bU{N P:List Str}{sc:Scope}(kind:sc.kind = .function:=by rfl)(co:sc.isCoroutine=false:=by rfl)(gen:sc.isGenerator=false:=by rfl)(nd:N.Nodup:=by decide +kernel)(pre:N.take P.length=P:=by rfl)
  (par:∀x∈P,sc.names.lookup x=some .local∨sc.names.lookup x=some .cell:=by decide +kernel) (U5:∀y∈sc.names,y.2≠ .free:=by decide +kernel):bB N P sc:=⟨kind,co,gen,nd,pre,par,U5⟩
structure rR(J:It)(xs:List V)(H1:Hp):Prop where
 go:∀i H',Same H1 H'->i<xs.length->J.go i H'
 jM:∀i H' x H2,Same H1 H'->J.jM i H' x H2->H2=H'/\(i<xs.length->xs[i]?=some x)
 stop:∀i H',Same H1 H'->xs.length<=i->J.stop i H'
def qx{K:aF}{a:Addr}{xs:List V}{H1:Hp}(hq:au K H1 a xs):rR (lV K a) xs H1:=
 ⟨λi H' g h=>⟨xs,xs[i],g.seq hq,by simp[h]⟩,λi H' x H2 g y=>⟨y.1,λ_=>y.2 xs (g.seq hq)⟩,λi H' g h=>⟨xs,g.seq hq,h⟩⟩
def RG{K:aF}{a:Addr}{xs:List V}{H1:Hp}(hq:aA K H1 a xs):rR (Fi K a) xs H1:=
 ⟨λi H' g h=>⟨xs,xs[i],g.Ca hq,by simp[h]⟩,λi H' x H2 g y=>⟨y.1,λ_=>y.2 xs (g.Ca hq)⟩,λi H' g h=>⟨xs,g.Ca hq,h⟩⟩
def EG{lo:Int}{n:Nat}{H1:Hp}:rR (sO lo n) ((eO n).map λi=>V.int (lo+(i:Nat))) H1:=
 ⟨λi H' g h=>show i<n by simpa using h,λi H' x H2 g y=>⟨y.1,λh=>by
  have h':i<n:=by simpa using h
  rw[List.getElem?_map,List.getElem?_range h',y.2];rfl⟩,λi H' g h=>show n<=i by simpa using h⟩
def qw{J:It}{xs:List V}{ix:List (Option Nat)}{tc:TT}{te:TE}{σ:St}{H1:Hp}{Q:VK}(I:rR J xs H1)(hz:xs.length<=sizeLine){rest:St}(hst:cst ix σ=none::rest)(p:V->Bool)(F:V->V)
  (ht:∀H' x,Same H1 H'->x∈xs->∀k:Bool->Hp->Prop,k (p x) H'->tc (some x::rest) H' k)
  (he:∀H' x,Same H1 H'->x∈xs->p x=true->∀k:VK,k (F x) H'->te (some x::rest) H' k)
  (hQ:∀D,H1 D=none->Q (.ref D) (upd H1 D (.lst ((xs.filter p).map F)))):
  kE ix (ig 0) tc te σ Q J H1:=by
 constructor;intro D hD;refine⟨λi m σ' H'=>m=xs.length-i/\i<=xs.length/\(∃o,σ'=o::rest)/\H'=upd H1 D (.lst (((xs.take i).filter p).map F)),⟨xs.length,by simp,cj _,⟨none,hst⟩,by simp⟩,?_⟩;rintro i m σ' H' ⟨rfl,hi,⟨o,rfl⟩,rfl⟩;have g:Same H1 (upd H1 D (.lst (((xs.take i).filter p).map F))):=Same.new hD _;by_cases hlt:i<xs.length
 .refine .inr ⟨I.go i _ g hlt,λx H2 y=>?_⟩;obtain⟨rfl,hx⟩:=I.jM i _ x H2 g y;have hx:=hx hlt;have hm:x∈xs:=List.mem_of_getElem? hx;have et:xs.take (i+1)=xs.take i++[x]:=by
   rw[qU,hx];rfl
  show tc (some x::rest) _ _;refine ht _ x g hm _ ?_;cases hp:p x with
  |true=>
   rw[if_pos rfl];refine he _ x g hm hp _ ⟨_,aC,?_,xs.length-(i+1),⋯,rfl,hlt,⟨_,rfl⟩,?_⟩
   .have h1:(((xs.take i).filter p).map F).length<=i:=by
     rw[aB];exact fG (Jq _ _) (by rw[jO];omega)
    omega
   .rw[Xy,et,Jv,gO];simp[hp]
  |false=>
   rw[if_neg fW];refine⟨xs.length-(i+1),⋯,rfl,hlt,⟨_,rfl⟩,?_⟩;rw[et,Jv];simp[hp]
 .have e:i=xs.length:=⋯;subst e;refine .inl ⟨I.stop _ _ g (aJ _),?_⟩;rw[ni];exact hQ D hD
def DF{J:It}{xs:List V}{g:TG}{tb:TS}{D:Ends}{σ:St}{H:Hp}(I:rR J xs H)(Pv:Nat->St->Hp->Prop)(h0:Pv 0 σ H)(hsame:∀i σ' H',Pv i σ' H'->Same H H')
  (hs:∀i x σ' H',xs[i]?=some x->Pv i σ' H'->g x σ' H' λσ2 H2=>tb { D with nx:=Pv (i+1),ct:=Pv (i+1),bk:=D.nx } σ2 H2) (hd:∀σ' H',Pv xs.length σ' H'->D.nx σ' H'):
  ∃W:Nat->Nat->St->Hp->Prop,(∃m,W 0 m σ H)/\∀i m σ H,W i m σ H->
   (J.stop i H/\D.nx σ H)∨(J.go i H/\∃N:St->Hp->Prop,(∀σ' H',N σ' H'->∃m',m'<m/\W (i+1) m' σ' H')/\∀x H',J.jM i H x H'->g x σ H' λσ2 H2=>tb { D with nx:=N,ct:=N,bk:=D.nx } σ2 H2):=by
 refine⟨λi m σ' H'=>m=xs.length-i/\i<=xs.length/\Pv i σ' H',⟨xs.length,by simp,cj _,h0⟩,?_⟩;rintro i m σ' H' ⟨rfl,hi,p⟩;have gs:=hsame i σ' H' p;by_cases hlt:i<xs.length
 .refine .inr ⟨I.go i _ gs hlt,Pv (i+1),λσ2 H2 p'=>⟨xs.length-(i+1),⋯,rfl,hlt,p'⟩,λx H2 y=>?_⟩;obtain⟨rfl,hx⟩:=I.jM i _ x H2 gs y;exact hs i x σ' _ (hx hlt) p
 .have e:i=xs.length:=⋯;subst e;exact .inl ⟨I.stop _ _ gs (aJ _),hd σ' H' p⟩
structure qY(t:TS)(D:Ends)(σ:St)(H:Hp):Prop where
 go:t D σ H
def air(t:TS):TS:=λD σ H=>qY t D σ H
def uE{X:Cx}{st:Stmt}{t:TS}(h:PS X st t):PS X st (air t):=λpins s σ H D I q=>h pins s σ H D I q.go
theorem qY.by{t:TS}{D:Ends}{σ:St}{H:Hp}(R:St->Hp->Prop)(h:∀N:St->Hp->Prop,(∀σ' H',R σ' H'->N σ' H')->t { D with nx:=N } σ H)(q:∀σ' H',R σ' H'->D.nx σ' H'):qY t D σ H:=by
 constructor;exact h D.nx q
end L2
namespace HT
open PySem PyProof.Rows
section
variable {prog:Program} {w:World} {A:Around} {E:Value->Shared->Prop} {s:Shared}
def awj{t sl:Addr}{items:Array Value}{vl vu:Value}{lo hi:Option Int}{Q:Value->Shared->Prop}(ht:IsTup s.heap t items)(hs:s.heap.IsSliceOf sl vl vu .none)(pl:IsPart vl lo)(pu:IsPart vu hi)
  (hw:bf items.size 0 lo=0/\bf items.size items.size hi=items.size) (h:Q (.ref t) s):wpAny (model prog w) A (getItem (.ref t) (.ref sl)) Q E s:=by
 obtain⟨os,hos,hcs,hds⟩:=id hs;have hTs:s.TypeIs (.ref sl) "slice" := ⟨os,hos,hcs⟩;unfold getItem;try with_reducible refine wpAny_holding ?_
 first|refine wpAny_bind (wpAny_pure ?_)|skip
 refine wpAny_bind (wpAny_sequenceKey ht.typeIs ∅ ?_);refine wpAny_bind (wpAny_callSpecial?_slot (name:=Str.ofString "__getitem__") ht.typeIs zj
  (wpAny_call_entry zj ht.typeIs entry_tuple_getitem ?_ (args_tuple_getitem _ _)))
 show wpAny _ _ (Builtin.Tuple.tupleItemsOf (.ref t)>>=_) _ _ s;refine wpAny_bind (tupleItemsOf_ ht ?_);refine wpAny_bind (wpAny_typeOf hTs ?_);rw[if_pos ∅];refine wpAny_bind (abN hs pl pu ?_);have hyes:(((bf items.size 0 lo:Nat):Int)==0&&(1:Int)==1&&(bf items.size items.size hi-bf items.size 0 lo)==items.size)=true:=by
  rw[hw.1,hw.2];simp
 show wpAny _ _ (if(((bf items.size 0 lo:Nat):Int)==0&&(1:Int)==1&&(bf items.size items.size hi-bf items.size 0 lo)==items.size)=true then _ else _) _ _ s;rw[if_pos hyes];unfold Builtin.Tuple.tupleIsExact;refine wpAny_bind (wpAny_bind (wpAny_typeOf ht.typeIs (wpAny_pure ?_)));rw[if_pos ∅];exact wpAny_bind (wpAny_rule (wpAny_pure ⟨_,rfl,wpAny_pure h⟩))
end
end HT
namespace L2
open PySem PySem.Spec PyProof.Rows
section
variable {X:Cx}
def axr:oK X (λx lo hi H Q=>∃a xs,x = .ref a/\aA X.K H a xs/\(HT.bf xs.length 0 lo=0/\HT.bf xs.length xs.length hi=xs.length)/\Q (.ref a) H):=by
 intro pins s σ H x v vl vu lo hi sl Q I rx hs pl pu h;obtain⟨a,xs,rfl,hx,hw,q⟩:=h;cases rx;obtain⟨its,r,ht,hz⟩:=I.tuple hx;have hlen:its.toArray.size=xs.length:=by rw[fj];exact r.length.symm
 refine⟨"tuple",_,zj.lookup,ht.typeIs,?_⟩;exact HT.awj ht hs pl pu (by rw[hlen];exact hw) ⟨.ref a,H,I,rfl,q⟩
end
section
variable {X:Cx} (K:aF)
def oK.imp{r r':V->Option Int->Option Int->Hp->VK->Prop}(h:oK X r)(i:∀x lo hi H Q,r' x lo hi H Q->r x lo hi H Q):oK X r':=λpins s σ H x v vl vu lo hi sl Q I rx hs pl pu q=>h pins s σ H x v vl vu lo hi sl Q I rx hs pl pu (i _ _ _ _ _ q)
def atr(hK:X.K=K:=by rfl):cV X (binaryOp .Add) (Ib K):=by subst hK;exact v_add
def xix(hK:X.K=K:=by rfl):mK X (Gg K):=by subst hK;exact anM
def iD{k:Nat}(hr:dY k X.A)(hK:X.K=K:=by rfl):cV X (compareOp .Eq) (uo K id):=by subst hK;exact v_eq hr
def mO{k:Nat}(hr:dY k X.A)(hK:X.K=K:=by rfl):cV X (compareOp .NotEq) (uo K not):=by subst hK;exact awC hr
def auu(hK:X.K=K:=by rfl):kO X (.builtin "len") (λxs H Q=>∃x n,xs=[x]/\Rv K x H n/\Q (.int n) H):=by subst hK;exact awo
def G5(hc:X.calm=true)(hK:X.K=K:=by rfl):kO X (.builtin "sum") (λxs H Q=>∃(l:Addr) (ns:List Int),xs=[.ref l]/\au K H l (ns.map V.int)/\Q (.int ns.sum) H):=by subst hK;exact v_sum hc
def xlist(hK:X.K=K:=by rfl):kO X (.type "list") (λxs H Q=>∃p ys,xs=[.ref p]/\(au K H p ys∨aA K H p ys)/\∀l,H l=none->Q (.ref l) (upd H l (.lst ys))):=by subst hK;exact apr
def oZ(hK:X.K=K:=by rfl):kO X (.type "tuple") (λxs H Q=>∃p ys,xs=[.ref p]/\((au K H p ys/\∀l,H l=none->Q (.ref l) (upd H l (.tup ys)))∨(aA K H p ys/\Q (.ref p) H))):=by subst hK;exact ap9
def Yy(K:aF):V->Option Int->Option Int->Hp->VK->Prop:=λx lo hi H Q=>match x with
 |.ref a=>(∃xs,au K H a xs/\∀p,H p=none->Q (.ref p) (upd H p (.lst (jc xs lo hi))))∨
   (∃xs,aA K H a xs/\¬(HT.bf xs.length 0 lo=0/\HT.bf xs.length xs.length hi=xs.length)/\∀p,H p=none->Q (.ref p) (upd H p (.tup (jc xs lo hi))))∨
   (∃xs,aA K H a xs/\(HT.bf xs.length 0 lo=0/\HT.bf xs.length xs.length hi=xs.length)/\Q (.ref a) H)
 |_=>False
def rF(hK:X.K=K:=by rfl):oK X (Yy K):=by
 subst hK;refine(alm.or (ajM.or axr)).imp λx lo hi H Q h=>?_;unfold Yy at h;split at h
 .rcases h with⟨xs,h⟩|⟨xs,h⟩|⟨xs,h⟩
  .exact .inl ⟨_,xs,rfl,h⟩
  .exact .inr (.inl ⟨_,xs,rfl,h⟩)
  .exact .inr (.inr ⟨_,xs,rfl,h⟩)
 .exact h.elim
def gh{tg l:Expr}{tl:TE}(hl:PE X l tl)(hK:X.K=K:=by rfl):PI X tg l (adh K tl):=by subst hK;exact ahA hl
def xR{es:List Expr}{k:Nat}{t:uP}{n:Nat}{pos:Pos}(hc:X.calm=true)(h:yX X es t)(hK:X.K=K:=by rfl)
  (hn:(assignEach es X.env).length=n:=by rfl) (hst:(assignEach es X.env).findIdx? (·.1)=none:=by rfl):PG X (.Tuple es k pos) (Gk K n t):=by subst hK;exact avP hc h hn hst
def tE{o e:Expr}{to:TE}{te:TE}{apos cpos:Pos}(ho:PE X o to)(he:PE X e te)(hK:X.K=K:=by rfl)
  (hbase:attributeBase o "append" X.env (eval o X.env)=eval o X.env:=by rfl)
  (hfew:((backTo cpos (starEach [e] X.env)).all (λx=>!x.1)&&(backToKw cpos (keywordEach [] X.env)).all (λx=>x.1.isSome)
   && decide ([e].length+([]:List Keyword).length+(if([]:List Keyword).isEmpty then 0 else 1)<30))=true:=by rfl)
  (hline:(apos.endLine==cpos.line)=true:=by rfl) (hs:starEach [e] X.env=(false,eval e X.env)::starEach [] X.env:=by rfl):
  PE X (.Call (.Attribute o "append" apos) [e] [] cpos) (K9 K "list" abe to (tZ te Ua)):=by
 subst hK;exact Zj afS PySem.F.slot_list_append PySem.F.type_list_append afE ho (aN he aj hs) hbase hfew hline hs rfl
def avX{o e:Expr}{to:TE}{te:TE}{apos cpos:Pos}(ho:PE X o to)(he:PE X e te)(hK:X.K=K:=by rfl)
  (hbase:attributeBase o "extend" X.env (eval o X.env)=eval o X.env:=by rfl)
  (hfew:((backTo cpos (starEach [e] X.env)).all (λx=>!x.1)&&(backToKw cpos (keywordEach [] X.env)).all (λx=>x.1.isSome)
   && decide ([e].length+([]:List Keyword).length+(if([]:List Keyword).isEmpty then 0 else 1)<30))=true:=by rfl)
  (hline:(apos.endLine==cpos.line)=true:=by rfl) (hs:starEach [e] X.env=(false,eval e X.env)::starEach [] X.env:=by rfl):
  PE X (.Call (.Attribute o "extend" apos) [e] [] cpos) (K9 K "list" V9 to (tZ te Ua)):=by
 subst hK;exact Zj afS PySem.F.slot_list_extend PySem.F.type_list_extend apb ho (aN he aj hs) hbase hfew hline hs rfl
end
section
variable {X:Cx} {es:List Expr} {te:TE} {t:TA}
def bZ{c:Const}{j}{p:Pos}(h:PE X (.Constant c j p) te)(hr:PA X es t):PA X ((.Constant c j p)::es) (tZ te t):=aN h hr rfl
def ak{x:Str}{p:Pos}(h:PE X (.Name x p) te)(hr:PA X es t):PA X ((.Name x p)::es) (tZ te t):=aN h hr rfl
def xQ{as:List Expr}{p:Pos}(h:PE X (.List as p) te)(hr:PA X es t):PA X ((.List as p)::es) (tZ te t):=aN h hr rfl
def aaM{as:List Expr}{j}{p:Pos}(h:PE X (.Tuple as j p) te)(hr:PA X es t):PA X ((.Tuple as j p)::es) (tZ te t):=aN h hr rfl
def eX{a:Expr}{o:Operator}{b:Expr}{p:Pos}(h:PE X (.BinOp a o b p) te)(hr:PA X es t):PA X ((.BinOp a o b p)::es) (tZ te t):=aN h hr rfl
def Dr{o:UnaryOp}{a:Expr}{p:Pos}(h:PE X (.UnaryOp o a p) te)(hr:PA X es t):PA X ((.UnaryOp o a p)::es) (tZ te t):=aN h hr rfl
end
section
variable {X:Cx} {pins:List (Addr×Obj)} {σ:St} {H:Hp} {s:Shared}
end
structure ExI(K:aF)(C:Addr):Prop where
 ga:qM K (.ref C) "__getattribute__" = some (some (.builtin "BaseException.__getattribute__"))
 gt:qM K (.ref C) "__getattr__" = some none
 cl:qM K (.ref C) "__class__" = some (some (.builtin "object.__class__"))
 mb:wA K C (.type "BaseException")=some true
 mo:wA K C (.type "object")=some true
 is:(W.clsIn K C).isSome=true
section
variable {prog:Program} {w:World} {A:Around} {E:Value->Shared->Prop} {h:Heap} {g:Array GenState} {d:Drawn} {t:Nat} {os:OsState} {a C:Addr} {o:Obj} {K:aF}
end
def YV{K:aF}{h:Heap}{mg:Str->Option Value}{x:Str}{C:Addr}{newId inN Bn:String}{bmN:List Value}(X:K.In h)(G:h.Ns mainGlobals mg)(e:iy K mainGlobals x=some (some (.ref C)))
  (q:E3 K C [.type "ValueError",.type "Exception",.type "BaseException",.type "object"] newId=true) (Fn:ExcBaseFacts Bn newId inN bmN)
  (hBn:[Value.type "ValueError",.type "Exception",.type "BaseException",.type "object"].contains (.type Bn)=true):JM mg h x C:=by
 refine⟨_,newId,⟨yr X G e,?_⟩,Bn,inN,bmN,_,_,_,Fn,hBn,MG⟩;unfold E3 at q;split at q
 .rename_i dd cd sl ho
  split at q
  .rename_i C' bm k0 k1 k2 k3 n k5 hm hs
   simp only[ji,beq_iff_eq,Bool.not_eq_true']at q;obtain⟨⟨⟨⟨⟨rfl,rfl⟩,hdel⟩,ht⟩,hok⟩,hni⟩:=q;obtain⟨nm,bs,mro,ns,qn,hdc,sn,sub,ab,col,del⟩:=cd;dsimp only at hm hdel hok hni;subst hm;subst hdel;have hsl:sl=#[k0,k1,k2,k3,some (.builtin n),k5]:=by
    obtain⟨l⟩:=sl;simp only at hs;rw[hs]
   subst hsl;exact⟨bm,ns,nm,qn,bs,hdc,sn,sub,ab,col,dd,k0,k1,k2,k3,k5,_,X _ _ ho,.of_isNs (W.isNs_of_in X hok),W.nsMap_none_of_in X hok hni,W.tail_of_in X ht⟩
  .cases q
 .cases q
section
variable {X:Cx} {a:Expr} {ta:TE}
end
end L2
namespace L2
open PySem
theorem JD:∀ns:List Int,C6 (ns.map JY)=true
 |[]=>rfl
 |n::r=>by
  have:=JD r;simp[C6,Eo,this]
theorem JH:∀ns:List Int,yg (ns.map JY)<=1
 |[]=>by simp[yg]
 |n::r=>by
  have:=JH r;simp[yg,DC];omega
def Ww(ns:List Int):SeqAt.shaped (.list (ns.map .int))=true:=by
 have h1:=JD ns;have h2:=JH ns;simp only[SeqAt.shaped,Eo,DC,h1,PZ];exact decide_eq_true ⋯
def abU(ns:List Int):SeqAt.shaped (.tuple (ns.map .int))=true:=by
 have h1:=JD ns;have h2:=JH ns;simp only[SeqAt.shaped,Eo,DC,h1,PZ];exact decide_eq_true ⋯
def abh(ns ms:List Int):pD (.list (ns.map .int)) (.list (ms.map .int))=decide (ns=ms):=by
 rw[pD];exact W.ked_eqvAll ns ms
def aib(ns ms:List Int):pD (.tuple (ns.map .int)) (.tuple (ms.map .int))=decide (ns=ms):=by
 rw[pD];exact W.ked_eqvAll ns ms
def aeo{K:aF}{g:Bool->Bool}{H:Hp}{a b:Addr}{ns ms:List Int}{Q:VK}(ha:au K H a (ns.map V.int))(hb:au K H b (ms.map V.int))(q:Q (.bl (g (decide (ns=ms)))) H):uo K g (.ref a) (.ref b) H Q:=
 .inl ⟨_,_,.lst ha (lJ.ints ns),.lst hb (lJ.ints ms),Ww ns,Ww ms,by rw[abh];exact q⟩
def Hl{K:aF}{g:Bool->Bool}{H:Hp}{a b:Addr}{ns ms:List Int}{Q:VK}(ha:aA K H a (ns.map V.int))(hb:aA K H b (ms.map V.int))(q:Q (.bl (g (decide (ns=ms)))) H):uo K g (.ref a) (.ref b) H Q:=
 .inl ⟨_,_,.tup ha (lJ.ints ns),.tup hb (lJ.ints ms),abU ns,abU ms,by rw[aib];exact q⟩
end L2
set_option maxHeartbeats 4000000
namespace L2
open PySem PySem.Spec PyProof.Rows
def AW(lo:Int)(n:Nat):It:=⟨λi _=>i<n,λi H x H'=>H'=H/\x = .int (lo-i),λi _=>n<=i⟩
def wM{P:Program}{w:World}{K:aF}{tg:Expr}(it:Addr)(lo:Int)(n:Nat):Turn P w K tg (AW lo n) [it] it (λi h=>IsRangeIter h it (lo+(i:Nat)*(-1)) ((n:Int)-(i:Nat)) (-1)) where
 mem:=by simp
 obj:=λi h st b hb=>by
  have e:b=it:=by simpa using hb
  subst e;exact⟨_,st,λv z=>by
   have z':Data.fields _=Data.cell v:=z;cases z'⟩
 keep:=λi h h' st k=>k it (by simp) _ st
 item:=by
  intro X hP hw hK hc i pins s σ H E I hf st hg;subst hP hw hK;obtain⟨f0,f1,f2,f3,f4,f5⟩:=hf it (by simp);have W:=Walks.range (prog:=X.prog) (w:=X.w) (I.ok.hd hc) it lo (-1) n;refine W.item i s _ _ hg st λv h' tk hv st' kk=>?_;obtain⟨t,rfl⟩:=hv;have I1:Inv X pins σ H { s with heap:=h',toks:=tk }:=I.turned (λb o hb e=>kk b o (by simpa using hb) e) f0 f1 f3 f4 f5;refine⟨_,rfl,wk (s:={ s with heap:=h',toks:=tk }) (n:= "range_iterator") st' rfl rfl ∅ ⟨.int (lo-i),H,I1,⟨t,?_⟩,⟨rfl,rfl⟩,st',λb hb=>(hf b hb).1⟩⟩;rw[Int.mul_neg_one];rfl
 done:=by
  intro X hP hw hK hc i pins s σ H E I hf st hg;subst hP hw hK;obtain⟨f0,f1,f2,f3,f4,f5⟩:=hf it (by simp);exact wpAny_pyNext_range_end (I.ok.hd hc) st (by have:n<=i:=hg;omega) λh' eb=>⟨rfl,I.turned (t':=s.toks) (λb o hb e=>eb b o hb e) f0 f1 f3 f4 f5⟩
 self:=λ_ _ _ _ _ st h=>wpAny_pyIter_rangeiter st h
def rangeSize_down(a b:Int):Builtin.Range.rangeSize a b (-1)=if b<a then a-b else 0:=by
 unfold Builtin.Range.rangeSize;simp only[show ¬(-1:Int)>0 by decide,if_false,Dn,aeX];split<;>omega
def small_down{a b:Int}(ha:-(2^62)<=a)(ha':a<2^62)(hb:-(2^62)<=b)(hb':b<2^62):Builtin.Range.small a b (-1)=true:=by
 unfold Builtin.Range.small;rw[rangeSize_down];simp only[Builtin.Range.rangeFitsLong,ji,zp,decide_eq_true_eq,beq_iff_eq,show ¬(-1:Int)>0 by decide,if_false];split<;>omega
section
variable {X:Cx} {tg:Expr}
def apJ{pins:List (Addr×Obj)}{σ:St}{H:Hp}{s:Shared}{R:It->Hp->Prop}{E:Value->Shared->Prop}{lo hi:Int}{t u v:Tok}{tk:Nat}(I:Inv X pins σ H s)(h1:-(2^62)<=lo)(h2:lo<2^62)(h3:-(2^62)<=hi)(h4:hi<2^62)
  (q:R (AW lo (lo-hi).toNat) H):wpAny (model X.prog X.w) X.A (pyIter (.ref s.heap.objs.size)) (TY X pins σ tg R) E { s with heap:=s.heap.push { cls:= .type "range",data:= .fields #[.int lo t,.int hi u,.int (-1) v] },toks:=tk }:=by
 refine wpAny_pyIter_range (IsRange.new ..) (small_down h1 h2 h3 h4) ?_;have I1:Inv X pins σ H { s with heap:=s.heap.push { cls:= .type "range",data:= .fields #[.int lo t,.int hi u,.int (-1) v] },toks:=tk }:=I.kept λb o e=>Heap.get?_push_of_some _ e;refine⟨(s.heap.push { cls:= .type "range",data:= .fields #[.int lo t,.int hi u,.int (-1) v] }).objs.size,[(s.heap.push { cls:= .type "range",data:= .fields #[.int lo t,.int hi u,.int (-1) v] }).objs.size],_,_,H,rfl,
  I1.kept (t':=tk) λb o e=>Heap.get?_push_of_some _ e,wM _ lo (lo-hi).toNat,?_,λb hb=>?_,q⟩
 .have e1:lo+((0:Nat):Int)*(-1)=lo:=by simp
  have e2:(((lo-hi).toNat:Nat):Int)-((0:Nat):Int)=Builtin.Range.rangeSize lo hi (-1):=by rw[rangeSize_down];split<;>omega
  show IsRangeIter _ _ (lo+((0:Nat):Int)*(-1)) ((((lo-hi).toNat:Nat):Int)-((0:Nat):Int)) (-1);rw[e1,e2];exact Heap.get?_push_size _ rfl
 .have e:b=(s.heap.push { cls:= .type "range",data:= .fields #[.int lo t,.int hi u,.int (-1) v] }).objs.size:=by simpa using hb
  subst e;exact I1.sS (aJ _) (I1.hok.fresh (aJ _))
def ari(ta:TA):TI:=λσ H R=>ta σ H λvs H1=>∃i j:Int,vs=[.int i,.int j,.int (-1)]/\(-(2^62)<=i/\i<2^62/\-(2^62)<=j/\j<2^62)/\R (AW i (i-j).toNat) H1
def avF{a b c:Expr}{ta:TA}{p pos:Pos}(hg:Gl X "range")(hm:X.mg "range" = none)(ha:PA X [a,b,c] ta)(hs:starEach [a,b,c] X.env=(false,eval a X.env)::starEach [b,c] X.env:=by rfl)(hs2:(backTo pos (starEach [b,c] X.env)).any (·.1)=false:=by rfl):
  PI X tg (.Call (.Name "range" p) [a,b,c] [] pos) (ari ta):=by
 intro pins s σ H R I h;refine Call_ (oE I hg hm boot_range (rY (aU (ha pos pins s σ H _ I h) λus s1 ⟨vs,H1,I1,r1,q1⟩=>?_) hs hs2));obtain⟨i,j,e,⟨q1,q2,q3,q4⟩,q⟩:=q1;subst e;cases r1 with
 |cons r rr=>
  cases rr with
  |cons r' rr=>
   cases rr with
   |cons r'' rr=>
    cases rr;obtain⟨t,rfl⟩:=r;obtain⟨t',rfl⟩:=r';obtain⟨t'',rfl⟩:=r'';exact call_range_3 ∅ (apJ (tk:=s1.toks) I1 q1 q2 q3 q4 q) (.inl (acM ⋯))
end
def avw{lo:Int}{n:Nat}{g:TG}{tb:TS}{D:Ends}{σ:St}{H:Hp}(Pv:Nat->St->Hp->Prop)(h0:Pv 0 σ H)
  (hs:∀i σ H,i<n->Pv i σ H->g (.int (lo-i)) σ H λσ2 H2=>tb { D with nx:=Pv (i+1),ct:=Pv (i+1),bk:=D.nx } σ2 H2) (hd:∀σ H,Pv n σ H->D.nx σ H):
  ∃W:Nat->Nat->St->Hp->Prop,(∃m,W 0 m σ H)/\∀i m σ H,W i m σ H->
   ((AW lo n).stop i H/\D.nx σ H)∨((AW lo n).go i H/\∃N:St->Hp->Prop,(∀σ' H',N σ' H'->∃m',m'<m/\W (i+1) m' σ' H')/\∀x H',(AW lo n).jM i H x H'->g x σ H' λσ2 H2=>tb { D with nx:=N,ct:=N,bk:=D.nx } σ2 H2):=by
 refine⟨λi m σ H=>m=n-i/\i<=n/\Pv i σ H,⟨n,by simp,cj _,h0⟩,?_⟩;rintro i m σ H ⟨rfl,hi,p⟩;by_cases hlt:i<n
 .refine .inr ⟨hlt,Pv (i+1),λσ' H' p'=>⟨n-(i+1),⋯,rfl,hlt,p'⟩,λx H' y=>?_⟩;obtain⟨e,y⟩:=y;subst e y;exact hs i σ _ hlt p
 .have e:i=n:=⋯;subst e;exact .inl ⟨aJ _,hd σ H p⟩
section
variable {X:Cx}
end
def Nj{X:Cx}:cV X (binaryOp .FloorDiv) (rI (λ_ j=>j≠0/\j.natAbs.log2<9000) λi j=> .int (i.fdiv j)):=CT λ_ _ _ _ _ _ _ hc q=>floordiv_int hc.1 q (.inl (PyProof.noPylong_of_log2 hc.2))
section
variable {X:Cx}
end
section
variable {X:Cx}
def boot_any:bootBuiltins "any" = some (.builtin "any"):=by decide +kernel
def v_any(hc:X.calm=true):kO X (.builtin "any") (λxs H Q=>∃(l:Addr) (bs:List Bool),xs=[.ref l]/\au X.K H l (bs.map V.bl)/\Q (.bl (bs.any id)) H):=by
 intro pins s σ H xs us Q I r h;obtain⟨l,bs,rfl,hl,q⟩:=h;obtain⟨u,rfl,ru⟩:=r.one;cases ru;obtain⟨its,rv,pl,hz⟩:=I.list hl;have eb:=aaF rv;subst eb;have hl':=pl.isList;have hlt:l<s.heap.objs.size:=by obtain⟨_,e,_⟩:=hl';exact cQ e
 refine call_any_walk (wpAny_pyIter_list hl' ?_);refine⟨s.heap.objs.size,[s.heap.objs.size,l],[s.heap.objs.size],(bs.map Value.bool).toArray.size,_,_,λi=>(bs[i]?).getD false,rfl,Walks.list (A:=X.A.in1) (I.ok.hd hc) _ l (fD hlt) (bs.map Value.bool).toArray,
  ⟨⟨_,Heap.get?_push_size _ rfl,rfl,rfl⟩,hl'.push _⟩,λi v s' Q' E' hP hQ=>?_,λh' tk hk=>?_⟩
 .have hP':(bs.map Value.bool)[i]?=some v:=by simpa using hP
  rw[List.getElem?_map]at hP';cases e:bs[i]? with
  |none=>rw[e]at hP';cases hP'
  |some b=>
   rw[e]at hP';cases hP';dsimp only at hQ;rw[e]at hQ;exact wpAny_truthy_bool hQ
 .have e2:((eO (bs.map Value.bool).toArray.size).any λi=>(bs[i]?).getD false)=bs.any id:=by
   rw[fj,aB];rw[Bx,tQ,tQ];constructor
   .rintro⟨i,hi,e⟩;have hi':=iQ.mp hi;rw[List.getElem?_eq_getElem hi']at e;exact⟨_,xG hi',e⟩
   .rintro⟨x,hx,e⟩;obtain⟨i,hi,e'⟩:=jD.mp hx;exact⟨i,iQ.mpr hi,by rw[List.getElem?_eq_getElem hi,e'];exact e⟩
  have fin:EP X pins σ Q (.bool (bs.any id)) { s with heap:=h',toks:=tk }:=⟨.bl _,H,I.kept (axx hk),rfl,q⟩;first|(rw[e2];exact fin)|(simpa[e2]using fin)
def K2(K:aF)(hc:X.calm=true)(hK:X.K=K:=by rfl):kO X (.builtin "any") (λxs H Q=>∃(l:Addr) (bs:List Bool),xs=[.ref l]/\au K H l (bs.map V.bl)/\Q (.bl (bs.any id)) H):=by subst hK;exact v_any hc
end
def aix:typeLookup (.type "list_reverseiterator") "__len__" = pure none:=by rw[typeLookup_type,builtinLookup_eq_fast];kernel_rfl
def aqI:typeLookup (.type "list_reverseiterator") "__length_hint__" = pure (some (.builtin "list_reverseiterator.__length_hint__")):=by rw[typeLookup_type,builtinLookup_eq_fast];kernel_rfl
def Ue:bootBuiltins "reversed" = some (.type "reversed"):=by decide +kernel
section
variable {X:Cx} {pins:List (Addr×Obj)} {σ:St} {H:Hp} {s:Shared} {h':Heap}
def Inv.akM{p:Addr}{o:HO}(I:Inv X pins σ H s)(f:rZ X pins H p)(new:dB X.prog X.w (upd H p o) s.heap p o):Inv X pins σ (upd H p o) s:=by
 obtain⟨f0,f1,_,f3,f4,f5⟩:=f;refine I.step (g':=s.gens) (d':=s.drawn) (t':=s.toks) (h':=s.heap) (ch:=[p]) (λb hb=>?_) (λb o _ _ hc e _=>e) (λb o _ _ hc e _=>⟨o.slots,e⟩) (λb _ hc _ n=>?_)
  (λb o hc e=>⟨o,e⟩) (λb xs e=>?_) (λb xs _ e=>?_) (λb ps e=>⟨#[],?_⟩) (λm hm=>hm) (λb u e=>?_) I.bare
 .have e:b=p:=by simpa using hb
  subst e;exact⟨f3,f1,f4,f5⟩
 .rw[bK λz=>hc (by simp[z])];exact n
 .rw[bK (nZ e f0)];exact e
 .rw[bK (nZ e f0)];exact e
 .rw[bK (nZ e f0),e];simp
 .by_cases hb:b=p
  .subst hb;rw[aC]at e;cases e;exact new
  .rw[bK hb]at e;exact(I.hok b u e).stay (λc v _ q=>q) (λc q=>by rw[bK (nZ q f0)];exact q) λc xs q=>by rw[bK (nZ q f0)];exact q
end
def j5(n i:Nat):Int:=if i<n then((n-1-i:Nat):Int)else -1
def Jl(K:aF)(a:Addr)(n:Nat):It:=
 ⟨λi H=>∃xs x,au K H a xs/\i<n/\xs[n-1-i]?=some x,λi H x H'=>H'=H/\∀xs,au K H a xs->xs[n-1-i]?=some x,λi _=>n<=i⟩
def asr{P:Program}{w:World}{K:aF}{tg:Expr}(a it:Addr)(n:Nat):Turn P w K tg (Jl K a n) [it] it (λi h=>h.IsRevIter it a (j5 n i)) where
 mem:=by simp
 obj:=λi h st b hb=>by
  have e:b=it:=by simpa using hb
  subst e;obtain⟨o,e,c,d⟩:=st;exact⟨o,e,λv z=>by rw[d]at z;cases z⟩
 keep:=λi h h' st k=>st.at λo e=>k it (by simp) o e
 item:=by
  intro X hP hw hK hc i pins s σ H E I hf st hg;subst hP hw hK;obtain⟨xs,x,hq,hi,hx⟩:=hg;obtain⟨its,rv,p,hz⟩:=I.list hq;obtain⟨u,hu,ru⟩:=rv.get hx;obtain⟨f0,f1,f2,f3,f4,f5⟩:=hf it (by simp);have e:j5 n i=((n-1-i:Nat):Int):=if_pos hi;rw[e]at st;refine wpAny_pyNext_rev_item st p.isList (x:=u) (by simpa using hu) λh' st' sb=>?_;have e2:((n-1-i:Nat):Int)-1=j5 n (i+1):=by unfold j5;split<;>omega
  rw[e2]at st';have I1:Inv X pins σ H { s with heap:=h' }:=I.turned (t':=s.toks) (λb o hb e=>(sb.2 b hb).trans e) f0 f1 f3 f4 f5;obtain⟨o,e,c,d⟩:=id st';exact⟨u,rfl,wk (s:={ s with heap:=h' }) e c d ∅ ⟨x,H,I1,ru,⟨rfl,λys hy=>by rw[I.WC hy hq];exact hx⟩,st',λb hb=>(hf b hb).1⟩⟩
 done:=by
  intro X hP hw hK hc i pins s σ H E I hf st hg;subst hP hw hK;have hg:n<=i:=hg;obtain⟨f0,f1,f2,f3,f4,f5⟩:=hf it (by simp);have e:j5 n i=-1:=if_neg ⋯;rw[e]at st;exact wpAny_pyNext_rev_end (I.ok.hd hc) st λh' eb=>⟨rfl,I.turned (t':=s.toks) (λb o hb e=>eb b o hb e) f0 f1 f3 f4 f5⟩
 self:=λ_ _ _ _ _ st h=>wpAny_pyIter_revIter st h
section
variable {X:Cx}
def aqV(K:aF)(ta:TA):TI:=λσ H R=>ta σ H λvs H1=>∃a xs,vs=[.ref a]/\au K H1 a xs/\R (Jl K a xs.length) H1
def Io(K:aF){tg e1:Expr}{ta:TA}{p pos:Pos}(hg:Gl X "reversed")(hm:X.mg "reversed" = none)(ha:PA X [e1] ta)(hK:X.K=K:=by rfl)
  (hs:starEach [e1] X.env=[(false,eval e1 X.env)]:=by rfl):PI X tg (.Call (.Name "reversed" p) [e1] [] pos) (aqV K ta):=by
 subst hK;intro pins s σ H R I h;refine Call_ (oE I hg hm Ue (rY (aU (ha pos pins s σ H _ I h) λus s1 ⟨vs,H1,I1,r1,q1⟩=>?_) hs rfl));obtain⟨a,xs,e,hq,q⟩:=q1;subst e;cases r1 with
 |cons r rr=>
  cases rr;cases r;obtain⟨its,rv,p1,_⟩:=I1.list hq;have hl:=rv.length;refine call_reversed_list p1.isList ?_;have st:(s1.heap.push (revObj a ((its.toArray.size:Int)-1))).IsRevIter s1.heap.objs.size a (j5 xs.length 0):=⟨_,Heap.get?_push_size _ rfl,rfl,by
   show Data.fields #[.ref a,rawInt ((its.toArray.size:Int)-1)]=_;have e:(its.toArray.size:Int)-1=j5 xs.length 0:=by unfold j5;simp;split<;>omega
   rw[e]⟩
  have I2:Inv X pins σ H1 { s1 with heap:=s1.heap.push (revObj a ((its.toArray.size:Int)-1)) }:=I1.kept (t':=s1.toks) λb o e=>Heap.get?_push_of_some _ e;refine wpAny_pyIter_revIter (s:={ s1 with heap:=s1.heap.push (revObj a ((its.toArray.size:Int)-1)) }) st ⟨_,[s1.heap.objs.size],_,_,H1,rfl,I2,asr a _ _,st,λc hc=>?_,q⟩;have e:c=s1.heap.objs.size:=by simpa using hc
  subst e;exact I1.sS (aJ _) (I1.hok.fresh (aJ _))
def V1{K:aF}{a:Addr}{xs:List V}{H1:Hp}(h:au K H1 a xs):rR (Jl K a xs.length) xs.reverse H1:=by
 refine⟨λi H' g hi=>?_,λi H' x H2 g y=>⟨y.1,λhi=>?_⟩,λi H' g hi=>?_⟩
 .rw[gU]at hi;exact⟨xs,xs[xs.length-1-i]'⋯,g.seq h,hi,List.getElem?_eq_getElem ⋯⟩
 .rw[gU]at hi;rw[List.getElem?_reverse hi];exact y.2 xs (g.seq h)
 .rw[gU]at hi;exact hi
end
section
variable {prog:Program} {w:World} {A:Around} {E:Value->Shared->Prop} {s:Shared} {I:Addr} {fp wr:List Addr} {G:Array GenState->Array GenState->Prop} {n:Nat} {P:Nat->Value->Prop} {St:Nat->Shared->Prop} {R:Result->Shared->Prop}
def ah8(W:WalksS prog w A.in1 I fp wr G n P St)(hT:∀i s,St i s->s.TypeIs (.ref I) "list_reverseiterator")(S:Addr)(c0:Nat)(hst:St 0 s)(hSf:S∉fp)(hI:I∈fp)
  (hS:s.heap.get? S=some { cls:= .type "list",data:= .seq #[] c0 })
  (hR:∀s' acc' c',Moved (S::wr) G s s'->s'.heap.get? S=some { cls:= .type "list",dict:=none,data:= .seq acc' c',slots:=#[] }->ItemsOf P acc' n->R (.ok (.ret .none)) s') (hn:n<=sizeLine):
  wpAny (model prog w) A.in1 (Builtin.List.listExtendWith (.ref S) (.ref I) .none)
   (λfin s'=>match fin with | .done f=>R (.ok f) s' | .again c'=>c'.quiet=true/\codeAny (model prog w) A c' R s') (λe s'=>R (.error e) s') s:=by
 have hSI:S≠I:=λe=>hSf (e▸hI);have h1:Builtin.List.listSameRef (.ref S) (.ref I)=false:=by simp[Builtin.List.listSameRef,hSI]
 unfold Builtin.List.listExtendWith;refine wpAny_bind (wpAny_typeOf (hT 0 _ hst) ?_);rw[if_neg (by rw[h1];decide)];refine wpAny_bind (W.self 0 _ _ _ hst ?_);refine wpAny_bind (wpAny_holding ?_);unfold Builtin.List.listLengthHint;refine wpAny_bind (wpAny_specialOf (hT 0 _ hst) aix ?_);show wpAny _ A.in1 (specialOf (Value.ref I) (Str.ofString "__length_hint__")>>=_) _ _ _;refine wpAny_bind (wpAny_specialOf (hT 0 _ hst) aqI ?_)
 (generalize hid:("list_reverseiterator.__length_hint__" : String)=id0;(fail_if_success (clear hid id0));wp_delta;rw[show splitId id0=some ("list_reverseiterator","__length_hint__")from by subst hid;decide +kernel];subst hid)
 refine wpAny_bind (wpAny_isInstance (b:=true) (hT 0 _ hst) (by rw[isSubtype_type];kernel_rfl) ?_);refine wpAny_pure ?_;rw[if_neg ∅];exact wpAny_pure ⟨plainId_quiet acF _,codeAny_extend_loopS W hn _ hSf _ n 0 _ _ _ rfl (cj _) hst hS (ItemsOf.nil P) λs' acc' c' hm hS' hacc=>hR s' acc' c' hm hS' hacc⟩
def arv(W:WalksS prog w A.in1 I fp wr G n P St)(hT:∀i s,St i s->s.TypeIs (.ref I) "list_reverseiterator")(S:Addr)(hst:St 0 s)(hSf:S∉fp)(hI:I∈fp)
  (hS:s.heap.get? S=some { cls:= .type "list",data:= .seq #[] })
  (hR:∀s' acc' c',Moved (S::wr) G s s'->s'.heap.get? S=some { cls:= .type "list",dict:=none,data:= .seq acc' c',slots:=#[] }->ItemsOf P acc' n->R (.ok (.ret .none)) s') (hn:n<=sizeLine):
  wpAny (model prog w) A.in1 (Builtin.«list.__init__» ⟨[.ref S,.ref I],[]⟩)
   (λfin s'=>match fin with | .done f=>R (.ok f) s' | .again c'=>c'.quiet=true/\codeAny (model prog w) A c' R s') (λe s'=>R (.error e) s') s:=by
 show wpAny _ A.in1 (Builtin.List.listItems (.ref S)>>=λold=>Builtin.List.listUpdate (.ref S) (λ_=>#[])>>=λ_=>letGo old.toList.reverse>>=λ_=>Builtin.List.listExtendWith (.ref S) (.ref I) .none) _ _ s;refine wpAny_bind ?_;unfold Builtin.List.listItems;refine wpAny_bind (wpAny_seqItems hS rfl (wpAny_pure ?_));refine wpAny_bind (wpAny_updateSeq hS rfl ?_);have hS2:=Heap.get?_update_self (iJ (λ_=>(#[]:Array Value))) hS rfl;have oth:∀b o,b≠S->s.heap.get? b=some o->(s.heap.update S (iJ (λ_=>(#[]:Array Value)))).get? b=some o:=
  λb o hb e=>(Heap.get?_update_other _ _ (nO hb)).trans e
 refine wpAny_bind (wpAny_letGo ?_);refine ah8 W hT S _ (W.frame 0 s _ s.toks hst (aJ _) λb hb o e=>oth b o (λh=>hSf (h▸hb)) e) hSf hI hS2 (λs' acc' c' hm hS' hacc=>?_) hn;exact hR s' acc' c' (Moved.trans W.gtrans ((Moved.refl W.grefl).then_heap (aJ _) λb o hb e=>oth b o (λh=>hb (h▸bN)) e) hm) hS' hacc
def aok{Q:Value->Shared->Prop}(W:WalksS prog w A.in1.in1 I fp wr G n P St)(hT:∀i s,St i s->s.TypeIs (.ref I) "list_reverseiterator")(hst:St 0 s)(hfp:∀b∈fp,b<s.heap.objs.size)(hI:I∈fp)
  (hQ:∀s' acc' c',Moved (s.heap.objs.size::wr) G { s with heap:=s.heap.push { cls:= .type "list",data:= .seq #[] } } s'->
   s'.heap.get? s.heap.objs.size=some { cls:= .type "list",dict:=none,data:= .seq acc' c',slots:=#[] }->ItemsOf P acc' n->Q (.ref s.heap.objs.size) s') (hn:n<=sizeLine):
  wpAny (model prog w) A (call (.type "list") [.ref I]) Q E s:=by
 have hSf:s.heap.objs.size∉fp:=λhm=>nT _ (hfp _ hm);refine callType_codes (Q₁:=λobj s₁=>obj = .ref s.heap.objs.size/\s₁={ s with heap:=s.heap.push { cls:= .type "list",data:= .seq #[] } }) F.called_list (F.typeCall_list_1 _) F.entry_list_init
  (code_list_new _ ⟨rfl,rfl⟩) λobj s₁ h₁=>?_
 obtain⟨rfl,rfl⟩:=h₁;have hS:(s.heap.push { cls:= .type "list",data:= .seq #[] }).get? s.heap.objs.size=some { cls:= .type "list",data:= .seq #[] }:=Heap.get?_push_size _ rfl;refine⟨⟨_,hS,rfl⟩,F.args_list_init_2 _ _,arv W hT _ (W.frame 0 s _ s.toks hst (aJ _) λb _ o e=>Heap.get?_push_of_some _ e) hSf hI hS (λs' acc' c' hm hS' hacc=>?_) hn⟩;exact⟨rfl,hQ s' acc' c' hm hS' hacc⟩
end
section
variable {X:Cx}
def ahV(te:TA):TE:=λσ H Q=>te σ H λvs H1=>∃(l:Addr) (xs:List V),vs=[.ref l]/\H1 l=some (.lst xs)/\∀l',H1 l'=none->Q (.ref l') (upd H1 l' (.lst xs.reverse))
def aju{a:Expr}{ta:TA}{p p2 pos pos2:Pos}(hc:X.calm=true)(hg:Gl X "list")(hm:X.mg "list" = none)(hg2:Gl X "reversed")(hm2:X.mg "reversed" = none)(ha:PA X [a] ta)
  (hs2:starEach [a] X.env=[(false,eval a X.env)]:=by rfl)
  (hs:starEach [.Call (.Name "reversed" p2) [a] [] pos2] X.env=[(false,eval (.Call (.Name "reversed" p2) [a] [] pos2) X.env)]:=by rfl):
  PE X (.Call (.Name "list" p) [.Call (.Name "reversed" p2) [a] [] pos2] [] pos) (ahV ta):=by
 intro pins s σ H Q I h;refine wpAny_Call_Name_kw (oE I hg hm boot_list ?_ ∅ ∅);refine rY ?_ hs rfl;rw[hs];show wpAny _ _ (spliced ((false,eval (.Call (.Name "reversed" p2) [a] [] pos2) X.env)::backTo pos [])) _ _ s;refine O9 ?_;refine Call_ (oE I hg2 hm2 Ue (rY (aU (ha pos2 pins s σ H _ I h) λus s1 ⟨vs,H1,I1,r1,q1⟩=>?_) hs2 rfl));obtain⟨l,xs,e,hl,q⟩:=q1;subst e;cases r1 with
 |cons r rr=>
  cases rr;cases r;obtain⟨z,its,nn,rv,hlen,eo⟩:=I1.rN hl;have hil:s1.heap.IsList l its.toArray:=⟨_,eo,rfl,_,rfl⟩;refine call_reversed_list hil ?_;refine Pn ?_;have hln:l≠s1.heap.objs.size:=λe=>absurd (cQ eo) (by rw[e];exact nT _);have hh:=I1.ok.hd hc;have hle:its.toArray.size=xs.length:=by have:=rv.length;simp;omega
  have key:(s1.heap.push (revObj l ((its.toArray.size:Int)-1))).IsRevIter s1.heap.objs.size l ((its.toArray.size:Int)-1-((0:Nat):Int)):=⟨_,Heap.get?_push_size _ rfl,rfl,by simp[revObj]⟩;have W:=(Walks.listRev (prog:=X.prog) (w:=X.w) (A:=X.A.in1.in1) hh s1.heap.objs.size l hln its.toArray).toS;have hsz2:(s1.heap.push (revObj l ((its.toArray.size:Int)-1))).objs.size=s1.heap.objs.size+1:=by simp[Heap.push]
  refine aok (s:={ s1 with heap:=s1.heap.push (revObj l ((its.toArray.size:Int)-1)) }) W (λi s' st=>st.2.1.typeIs) ⟨cj _,key,hil.push _⟩ (λb hb=>?_) (by simp) (λs' acc' c' hm' hS' hacc=>?_) (by rw[hle];exact z)
  .have hb':b=s1.heap.objs.size∨b=l:=by simpa using hb
   have:=cQ eo;show b<(s1.heap.push (revObj l ((its.toArray.size:Int)-1))).objs.size;rcases hb' with z|z
   .rw[z,hsz2];exact vG _
   .rw[z,hsz2];exact Ag this
  .have I3:Inv X pins σ H1 { s1 with heap:=s1.heap.push (revObj l ((its.toArray.size:Int)-1)) }:=I1.kept (t':=s1.toks) λb o e=>Heap.get?_push_of_some _ e;obtain⟨f0,f1,f2,f3,f4,f5⟩:=I1.sS (H':=H1) (aJ _) I1.fresh;have hfree:H1 (s1.heap.push (revObj l ((its.toArray.size:Int)-1))).objs.size=none:=I3.hok.fresh (aJ _);have hfp:=I3.sS (H':=H1) (aJ _) hfree;have hv:Vals xs.reverse acc'.toList:=by
    have e:acc'.toList=its.reverse:=by
     obtain⟨h1,h2⟩:=hacc;refine List.ext_getElem? λj=>?_;have hs1:acc'.toList.length=its.length:=by simpa using h1
     by_cases hj:j<its.length
     .have a1:acc'[j]?=some (acc'[j]'(by simpa using(hs1▸hj:j<acc'.toList.length))):=Array.getElem?_eq_getElem _;have a2:=h2 j _ a1;rw[List.getElem?_reverse hj,Array.getElem?_toList,a1,<-a2];simp
     .rw[List.getElem?_eq_none ⋯,List.getElem?_eq_none (by rw[gU];omega)]
    rw[e];exact rv.reverse
   obtain⟨hp',g',d',t'',o'⟩:=s';have eg:g'=s1.gens:=hm'.gens;have ed:d'=s1.drawn:=hm'.drawn;have Ek:o'=s1.os:=hm'.os;subst eg ed Ek;have I5:=I3.turned (h':=hp') (it:=s1.heap.objs.size) (t':=t'') (λb o hb e=>hm'.heap b o (by
    have hlt:=cQ e;have:b≠(s1.heap.push (revObj l ((its.toArray.size:Int)-1))).objs.size:=fD hlt;simp only[bH,gR,or_false,not_or];exact⟨this,hb⟩) (Heap.get?_push_of_some _ e)) f0 f1 f3 f4 f5
   refine⟨.ref _,_,I5.akM (o:= .lst xs.reverse) hfp ?_,rfl,q _ hfree⟩;exact⟨by rw[gU];exact z,acc'.toList,c',hv,by simpa using hS'⟩
end
def ac8:Slot "reversed" "__init__" "object.__init__" :=
 .of (owner:= "object") (n:= "__init__") (by rw[typeLookup_type,builtinLookup_eq_fast];kernel_rfl) (by decide +kernel) (by decide +kernel) (by decide +kernel)
  (by first|exact .inl (by decide +kernel)|exact .inr (by decide +kernel)) (by rw[isSubtype_type];kernel_rfl)
def arb:TypeCalled "reversed" "reversed.__new__" "object.__init__" :=
 ⟨by decide +kernel,by decide +kernel,⟨_,_,PySem.F.mro_reversed⟩,afx,by decide +kernel,PySem.F.sub_reversed_self,ac8⟩
def Dl:Slot "reversed" "__next__" "reversed.__next__" :=
 .of (owner:= "reversed") (n:= "__next__") (by rw[typeLookup_type,builtinLookup_eq_fast];kernel_rfl) (by decide +kernel) (by decide +kernel) (by decide +kernel)
  (by first|exact .inl (by decide +kernel)|exact .inr (by decide +kernel)) (by rw[isSubtype_type];kernel_rfl)
def YH:entryFor table "reversed.__next__" = some Builtin.«reversed.__next__»:=entryFor_of_tree (by kernel_rfl)
def adk(a:Value):argsOk "reversed.__next__" ⟨[a],[]⟩:=by unfold argsOk;kernel_rfl
def ab4:Slot "reversed" "__iter__" "reversed.__iter__" :=
 .of (owner:= "reversed") (n:= "__iter__") (by rw[typeLookup_type,builtinLookup_eq_fast];kernel_rfl) (by decide +kernel) (by decide +kernel) (by decide +kernel)
  (by first|exact .inl (by decide +kernel)|exact .inr (by decide +kernel)) (by rw[isSubtype_type];kernel_rfl)
def akB:entryFor table "reversed.__iter__" = some Builtin.«dict_keyiterator.__iter__»:=entryFor_alias (id':= "dict_keyiterator.__iter__") (by kernel_rfl) rfl (by decide +kernel) (by kernel_rfl)
def ahe(a:Value):argsOk "reversed.__iter__" ⟨[a],[]⟩:=by unfold argsOk;kernel_rfl
def awK:typeLookup (.type "tuple") "__reversed__" = pure none:=by rw[typeLookup_type,builtinLookup_eq_fast];kernel_rfl
def ao0:isSubtype (.type "tuple") (.type "dict")=pure false:=by rw[isSubtype_type];kernel_rfl
def wU(l:Addr)(i:Int):Obj:={ cls:= .type "reversed",data:= .fields #[.ref l,rawInt i] }
def qL(h:Heap)(a l:Addr)(i:Int):Prop:=∃o,h.get? a=some o/\o.cls = .type "reversed" /\ o.data = .fields #[.ref l,rawInt i]
section
variable {prog:Program} {w:World} {A:Around} {E:Value->Shared->Prop} {s:Shared}
def qL.typeIs{a l:Addr}{i:Int}(x:qL s.heap a l i):s.TypeIs (.ref a) "reversed" := let⟨o,ho,hc,_⟩:=x;⟨o,ho,hc⟩
def qL.at{h h':Heap}{a l:Addr}{i:Int}(x:qL h a l i)(e:∀o,h.get? a=some o->h'.get? a=some o):qL h' a l i:=let⟨o,ho,r⟩:=x;⟨o,e _ ho,r⟩
def aow{l:Addr}{items:Array Value}{Q₁:Value->Shared->Prop}(hl:IsTup s.heap l items)(hz:(items.size:Int)<2^63)
  (h:Q₁ (.ref s.heap.objs.size) { s with heap:=s.heap.push (wU l ((items.size:Int)-1)),toks:=s.toks+1+1 }):
  codeAny (model prog w) A (.call (.builtin "reversed.__new__") ⟨[.type "reversed",.ref l],[]⟩) (wants Q₁ E) s:=by
 refine codeAny_of_tree ?_;show wpAny _ A.in1 (do checkBuiltinCall "reversed.__new__" ⟨[.type "reversed",.ref l],[]⟩;again (.builtin "reversed.__new__" ⟨[.type "reversed",.ref l],[]⟩)) _ _ s
 refine wpAny_bind (wpAny_of_eq (PySem.F.newCall_reversed_1 _) (wpAny_pure ⟨plainId_quiet WL _,codeAny_builtin PySem.F.entry_reversed_new ?_⟩));rw[yC WL _];unfold Builtin.«reversed.__new__»;refine wpAny_bind (wpAny_of_eq (newClass_reversed _) ?_);try dsimp only
 refine wpAny_bind (wpAny_of_eq (a:=()) (by first|rfl|kernel_rfl) ?_)
 refine wpAny_bind (wpAny_of_eq (a:=()) (by first|rfl|kernel_rfl) ?_)
 try dsimp only
 refine wpAny_bind (wpAny_specialOf hl.typeIs awK ?_);try dsimp only
 refine wpAny_bind ?_;refine wpAny_bind (wpAny_isInstance hl.typeIs ao0 ?_);rw[if_neg fW];refine wpAny_bind (wpAny_specialOf hl.typeIs YM.lookup ?_);dsimp only;rw[if_pos (by decide +kernel)];refine wpAny_pure ?_;rw[if_neg (by simp)];refine wpAny_bind (len_tuple hl hz ?_);refine wpAny_bind (wpAny_of_eq (a:=some (items.size:Int)) rfl ?_);dsimp only;refine wpAny_bind (show wpAny _ _ (newObj (.type "reversed") (.fields #[.ref l,rawInt ((items.size:Int)-1)])) _ _ _ from wpAny_newObj_type (wpAny_pure h))
def at5{l:Addr}{items:Array Value}{Q:Value->Shared->Prop}(hl:IsTup s.heap l items)(hz:(items.size:Int)<2^63)
  (h:Q (.ref s.heap.objs.size) { s with heap:=s.heap.push (wU l ((items.size:Int)-1)),toks:=s.toks+1+1 }):wpAny (model prog w) A (call (.type "reversed") [.ref l]) Q E s:=by
 refine callType_codes (Q₁:=λobj s₁=>obj = .ref s.heap.objs.size/\s₁={ s with heap:=s.heap.push (wU l ((items.size:Int)-1)),toks:=s.toks+1+1 }) arb (PySem.F.typeCall_reversed_1 _) PySem.F.entry_object_init (aow hl hz ⟨rfl,rfl⟩) ?_;rintro obj s₁ ⟨rfl,rfl⟩;have hT:KR { s with heap:=s.heap.push (wU l ((items.size:Int)-1)),toks:=s.toks+1+1 } (.ref s.heap.objs.size) "reversed" := ⟨_,Heap.get?_push_size _ rfl,rfl⟩;refine⟨hT,PySem.F.args_object_init_2 _ _,?_⟩;exact object_init_meets (T:= "reversed") ac8.lookup afx ∅ _ _ _ _ _ ⟨hT,rfl,h⟩
def ao2{it l:Addr}{i:Nat}{items:Array Value}{x:Value}{Q:Option Value->Shared->Prop}(hit:qL s.heap it l (i:Int))(hl:IsTup s.heap l items)(hx:items[i]?=some x)(hz:(items.size:Int)<2^63)
  (hQ:∀h',qL h' it l ((i:Int)-1)->xV it s.heap h'->Q (some x) { s with heap:=h',toks:=s.toks+1 }):wpAny (model prog w) A (pyNext (.ref it)) Q E s:=by
 obtain⟨o,ho,hc,hd⟩:=id hit;have hi:i<items.size:=(Array.getElem?_eq_some_iff.mp hx).1;unfold pyNext;refine wpAny_bind (wpAny_attempt (wpAny_callSpecial?_slot (name:=Str.ofString "__next__") hit.typeIs Dl
  (wpAny_call_entry Dl hit.typeIs YH ?_ (adk _))))
 unfold Builtin.«reversed.__next__»;refine wpAny_bind (wpAny_of_eq (a:=(Value.ref it,[])) rfl ?_);try dsimp only
 refine wpAny_bind (wpAny_field ho hd (x:= .ref l) rfl ?_);refine wpAny_bind (wpAny_field ho hd (x:=rawInt (i:Int)) rfl ?_);show wpAny _ _ (if(i:Int)<0 then _ else _) _ _ s;rw[if_neg ⋯];refine wpAny_bind (wpAny_specialOf hl.typeIs YM.lookup ?_);rw[if_neg (by simp)];refine wpAny_bind (wpAny_mkInt ?_);have hl':IsTup ({ s with toks:=s.toks+1 }:Shared).heap l items:=hl;refine wpAny_bind (wpAny_attempt (getItem_tuple (s:={ s with toks:=s.toks+1 }) hl' ⋯ ⋯ (j:=i) ?_ hx ?_))
 .unfold seqIndex?;simp;omega
 refine wpAny_bind (wpAny_field (s:={ s with toks:=s.toks+1 }) ho hd (x:=rawInt (i:Int)) rfl ?_);show wpAny _ _ (setField (.ref it) 1 (rawInt ((i:Int)-1))>>=_) _ _ _;refine wpAny_bind (wpAny_setField (s:={ s with toks:=s.toks+1 }) ho hd (by simp) ?_);first
 |refine wpAny_pure ⟨x,rfl,wpAny_pure (hQ _ ?_ (uD ..))⟩
 |refine wpAny_bind (wpAny_pure (wpAny_pure ⟨x,rfl,wpAny_pure (hQ _ ?_ (uD ..))⟩))
 exact⟨_,Heap.get?_update_self _ ho (Ef (rJ hd _)),(Lw ..).trans hc,by
  rw[rJ hd];simp⟩
def ap1{it l:Addr}{Q:Option Value->Shared->Prop}(hh:A.handled=none)(hit:qL s.heap it l (-1))
  (hQ:∀h',ae2 it s.heap h'->Q none { s with heap:=h' }):wpAny (model prog w) A (pyNext (.ref it)) Q E s:=by
 obtain⟨o,ho,hc,hd⟩:=id hit;unfold pyNext;refine wpAny_bind (wpAny_attempt (wpAny_callSpecial?_slot (name:=Str.ofString "__next__") hit.typeIs Dl
  (wpAny_call_entry Dl hit.typeIs YH ?_ (adk _))))
 unfold Builtin.«reversed.__next__»;refine wpAny_bind (wpAny_of_eq (a:=(Value.ref it,[])) rfl ?_);try dsimp only
 refine wpAny_bind (wpAny_field ho hd (x:= .ref l) rfl ?_);refine wpAny_bind (wpAny_field ho hd (x:=rawInt (-1)) rfl ?_);show wpAny _ _ (if(-1:Int)<0 then _ else _) _ _ s;rw[if_pos ∅];refine wpAny_bind (wpAny_rule ?_);refine wpAny_bind (wpAny_bind (wpAny_setField ho hd (by simp) ?_));have ho1:=Heap.get?_update_self (h:=s.heap) (a:=it) (RH λfs=>fs.setIfInBounds 1 (rawInt (-1))) ho (Ef (rJ hd _));have hd1:=rJ hd λfs=>fs.setIfInBounds 1 (rawInt (-1));refine wpAny_setField (s:={ s with heap:=s.heap.update it (RH λfs=>fs.setIfInBounds 1 (rawInt (-1))) }) ho1 hd1 (by simp) ?_;refine wpAny_bind ?_;unfold Builtin.SmallTypes.stopIteration;refine wpAny_bind ?_;simp only[newExc,newTuple];refine wpAny_bind (wpAny_newObj_type ?_ (by size_fits));refine wpAny_bind (m:=firstArgMember _ _) (wpAny_of_eq (a:=Value.none) (by first|rfl|(simp only[firstArgMember];rfl)) ?_)
 refine wpAny_newObj_type ?_ (by size_fits);simp only[raiseNew];refine wpAny_bind (wpAny_handled ?_);first|rw[show A.in1.handled=none from hh]|rw[hh]
 refine wpAny_bind (wpAny_pure (wpAny_throw ?_));refine wpAny_bind (wpAny_isInstance (T:= "StopIteration") (b:=true) ⟨_,Heap.get?_push_size _ rfl,rfl⟩ isSubtype_stop ?_);refine wpAny_pure (hQ _ ?_);exact((((uD s.heap it _).trans (uD _ it _)).extBut).push _).push _
def ae0{it l:Addr}{i:Int}{Q:Value->Shared->Prop}(hit:qL s.heap it l i)(h:Q (.ref it) s):wpAny (model prog w) A (pyIter (.ref it)) Q E s:=by
 refine wpAny_pyIter_slot hit.typeIs ab4 (wpAny_call_entry ab4 hit.typeIs akB ?_ (ahe _));show wpAny _ _ (ret (.ref it)) _ _ s;exact wpAny_pure ⟨_,rfl,"reversed",_,hit.typeIs,Dl.lookup,h⟩
end
def UC(K:aF)(a:Addr)(n:Nat):It:=
 ⟨λi H=>∃xs x,aA K H a xs/\i<n/\xs[n-1-i]?=some x,λi H x H'=>H'=H/\∀xs,aA K H a xs->xs[n-1-i]?=some x,λi _=>n<=i⟩
def aoh{P:Program}{w:World}{K:aF}{tg:Expr}(a it:Addr)(n:Nat):Turn P w K tg (UC K a n) [it] it (λi h=>qL h it a (j5 n i)) where
 mem:=by simp
 obj:=λi h st b hb=>by
  have e:b=it:=by simpa using hb
  subst e;obtain⟨o,e,c,d⟩:=st;exact⟨o,e,λv z=>by rw[d]at z;cases z⟩
 keep:=λi h h' st k=>st.at λo e=>k it (by simp) o e
 item:=by
  intro X hP hw hK hc i pins s σ H E I hf st hg;subst hP hw hK;obtain⟨xs,x,hq,hi,hx⟩:=hg;obtain⟨its,rv,p,hz⟩:=I.tuple hq;obtain⟨u,hu,ru⟩:=rv.get hx;obtain⟨f0,f1,f2,f3,f4,f5⟩:=hf it (by simp);have e:j5 n i=((n-1-i:Nat):Int):=if_pos hi;rw[e]at st;refine ao2 st p (x:=u) (by simpa using hu) (by have:=rv.length;rw[sizeLine_eq]at hz;simp;omega) λh' st' sb=>?_;have e2:((n-1-i:Nat):Int)-1=j5 n (i+1):=by unfold j5;split<;>omega
  rw[e2]at st';have I1:Inv X pins σ H { s with heap:=h',toks:=s.toks+1 }:=I.turned (t':=s.toks+1) (λb o hb e=>(sb.2 b hb).trans e) f0 f1 f3 f4 f5;obtain⟨o,e,c,d⟩:=id st';exact⟨u,rfl,wk (s:={ s with heap:=h',toks:=s.toks+1 }) e c d ∅ ⟨x,H,I1,ru,⟨rfl,λys hy=>by rw[I.ZC hy hq];exact hx⟩,st',λb hb=>(hf b hb).1⟩⟩
 done:=by
  intro X hP hw hK hc i pins s σ H E I hf st hg;subst hP hw hK;have hg:n<=i:=hg;obtain⟨f0,f1,f2,f3,f4,f5⟩:=hf it (by simp);have e:j5 n i=-1:=if_neg ⋯;rw[e]at st;exact ap1 (I.ok.hd hc) st λh' eb=>⟨rfl,I.turned (t':=s.toks) (λb o hb e=>eb b o hb e) f0 f1 f3 f4 f5⟩
 self:=λ_ _ _ _ _ st h=>ae0 st h
section
variable {X:Cx}
def auf(K:aF)(ta:TA):TI:=λσ H R=>ta σ H λvs H1=>∃a xs,vs=[.ref a]/\aA K H1 a xs/\R (UC K a xs.length) H1
def avf(K:aF){tg e1:Expr}{ta:TA}{p pos:Pos}(hg:Gl X "reversed")(hm:X.mg "reversed" = none)(ha:PA X [e1] ta)(hK:X.K=K:=by rfl)
  (hs:starEach [e1] X.env=[(false,eval e1 X.env)]:=by rfl):PI X tg (.Call (.Name "reversed" p) [e1] [] pos) (auf K ta):=by
 subst hK;intro pins s σ H R I h;refine Call_ (oE I hg hm Ue (rY (aU (ha pos pins s σ H _ I h) λus s1 ⟨vs,H1,I1,r1,q1⟩=>?_) hs rfl));obtain⟨a,xs,e,hq,q⟩:=q1;subst e;cases r1 with
 |cons r rr=>
  cases rr;cases r;obtain⟨its,rv,p1,hz⟩:=I1.tuple hq;have hl:=rv.length;refine at5 p1 (by rw[sizeLine_eq]at hz;simp;omega) ?_;have st:qL (s1.heap.push (wU a ((its.toArray.size:Int)-1))) s1.heap.objs.size a (j5 xs.length 0):=⟨_,Heap.get?_push_size _ rfl,rfl,by
   show Data.fields #[.ref a,rawInt ((its.toArray.size:Int)-1)]=_;have e:(its.toArray.size:Int)-1=j5 xs.length 0:=by unfold j5;simp;split<;>omega
   rw[e]⟩
  have I2:Inv X pins σ H1 { s1 with heap:=s1.heap.push (wU a ((its.toArray.size:Int)-1)),toks:=s1.toks+1+1 }:=I1.kept (t':=s1.toks+1+1) λb o e=>Heap.get?_push_of_some _ e;refine ae0 (s:={ s1 with heap:=s1.heap.push (wU a ((its.toArray.size:Int)-1)),toks:=s1.toks+1+1 }) st ⟨_,[s1.heap.objs.size],_,_,H1,rfl,I2,aoh a _ _,st,λc hc=>?_,q⟩;have e:c=s1.heap.objs.size:=by simpa using hc
  subst e;exact I1.sS (aJ _) (I1.hok.fresh (aJ _))
def agI{K:aF}{a:Addr}{xs:List V}{H1:Hp}(h:aA K H1 a xs):rR (UC K a xs.length) xs.reverse H1:=by
 refine⟨λi H' g hi=>?_,λi H' x H2 g y=>⟨y.1,λhi=>?_⟩,λi H' g hi=>?_⟩
 .rw[gU]at hi;exact⟨xs,xs[xs.length-1-i]'⋯,g.Ca h,hi,List.getElem?_eq_getElem ⋯⟩
 .rw[gU]at hi;rw[List.getElem?_reverse hi];exact y.2 xs (g.Ca h)
 .rw[gU]at hi;exact hi
end
def dY.hu{k:Nat}{A:Around}(r:dY k A):A.units+1<cLine:=by have:=r.un;omega
def xu(t:SetTable)(es:Array (Int×Value))(wanted:Nat):Array (Int×Value)×SetTable:=
 match t.relaid (es.toList.map (·.1)).toArray wanted with
 |some (t',order)=>if coversAll order es.size&&t'.fits (order.filterMap (es[·]?)).size then(order.filterMap (es[·]?),t')else(es,t.standIn es.size)
 |none=>(es,t.standIn es.size)
def alE(t:SetTable)(es:Array (Int×Value))(n:Nat):xu t es n=((relayAll t es n).1,(relayAll t es n).2.1):=by
 have e:(es.toList.map (·.1)).toArray=es.map (·.1):=by cases es;simp
 unfold xu relayAll;rw[e];cases t.relaid (es.map (·.1)) n with
 |none=>rfl
 |some p=>obtain⟨t',order⟩:=p;dsimp only;split<;>rfl
def oH(t:SetTable)(es:Array (Int×Value))(h:Int)(x:Value):Array (Int×Value)×SetTable:=
 match layNew t es h x with
 |(es1,t1,d,_)=>if(!d&&t1.tooFull)=true then xu t1 es1 (SetTable.grown es1.size)else(es1,t1)
def iu(led:Bool):List Int->Array (Int×Value)×SetTable
 |[]=>(#[],.fresh 0 0 led)
 |k::r=>match iu led r with|(es,t)=>oH t es (hashInt k) (.int k 0)
def keyV:Value->Int
 |.int k _=>k
 |_=>0
def A9:Value->Bool
 |.int _ _=>true
 |_=>false
def zv:Value->Value
 |.int k _=> .int k 0
 |v=>v
def ze(e:Int×Value):Int×Value:=(e.1,zv e.2)
def asT(t:SetTable)(es:Array (Int×Value))(n:Nat):xu t (es.map ze) n=((xu t es n).1.map ze,(xu t es n).2):=by
 have e:((es.map ze).toList.map (·.1)).toArray=(es.toList.map (·.1)).toArray:=by simp[ze,Function.comp_def]
 have e2:∀order:Array Nat,order.filterMap ((es.map ze)[·]?)=(order.filterMap (es[·]?)).map ze:=λorder=>by
  rw[Array.map_filterMap];congr 1
  funext i
  rw[Array.getElem?_map]
 unfold xu;rw[e,DX];cases t.relaid (es.toList.map (·.1)).toArray n with
 |none=>rfl
 |some p=>
  obtain⟨t',order⟩:=p;dsimp only;rw[e2,DX];split<;>rfl
def an3(es:Array (Int×Value))(p:Nat)(x:Int×Value):SetTable.insertAt (es.map ze) p (ze x)=(SetTable.insertAt es p x).map ze:=by
 simp[SetTable.insertAt]
def alh(t:SetTable)(es:Array (Int×Value))(h:Int)(x:Value):layNew t (es.map ze) h (zv x)=((layNew t es h x).1.map ze,(layNew t es h x).2):=by
 have e:=an3 es;unfold layNew;cases t.freeSlot h with
 |none=>dsimp only;rw[DX];simp[ze]
 |some q=>
  obtain⟨slot,d⟩:=q;dsimp only;have e1:∀p,SetTable.insertAt (es.map ze) p (h,zv x)=(SetTable.insertAt es p (h,x)).map ze:=λp=>e p (h,x);rw[e1,DX]
def aa2(t:SetTable)(es:Array (Int×Value))(h:Int)(x:Value):oH t (es.map ze) h (zv x)=((oH t es h x).1.map ze,(oH t es h x).2):=by
 unfold oH;rw[alh];obtain⟨es1,t1,d,g⟩:=layNew t es h x;dsimp only;rw[DX,asT];split<;>rfl
def u9(t:SetTable):Nat->Nat
 |0=>0
 |i+1=>t.place.getD i 0+1
def abz(led:Bool)(xs:List Int):Array (Int×Value)×SetTable->Bool
 |(es,t)=>t.fits xs.length&&t.plain&&t.led==led&&(es.toList.map λe=>keyV e.2).isPerm xs&&(es.toList.all λe=>A9 e.2&&e.1==hashInt (keyV e.2))&&(eO (xs.length+1)).all λi=>SetTable.below t.place (u9 t i)==i
def gW(led:Bool)(xs:List Int):Bool:=abz led xs (iu led xs)
def yH:Nat->List Int->List (List Int)
 |_,[]=>[[]]
 |n,x::r=>yH n r++match n with|0=>[]|n+1=>(yH n r).map (x :: ·)
def aq9(p:List Int)(r:Int):List Int:=List.zipWith (λa b=>a-r*b) (0::p) (p++[0])
def akK(xs:List Int):Bool:=(xs.foldr (λr p=>aq9 p r) [1]).all λc=>decide (c.natAbs<=6)
set_option maxRecDepth 100000 in
def alr:∀led,(yH 5 [6,5,4,3,2,1,0,-1,-2,-3,-4,-5,-6]).all (λxs=>(decide (xs.length=5)&&!akK xs)||gW led xs)=true:=by decide +kernel
theorem afr{α:Type}:∀(l:List α) (i:Nat) (h:i<l.length),(l[i]::l.eraseIdx i).Perm l
 |x::r,0,_=>by simp
 |x::r,i+1,h=>by
  have h':i<r.length:=by simpa using h
  simp only[List.getElem_cons_succ,List.eraseIdx_cons_succ];exact(List.Perm.swap ..).trans ((afr r i h').cons x)
theorem Zz{α:Type}(next:Nat->Nat):∀(f k:Nat) (l:List α) (out:Array α),f=l.length->(pickOrder.go next f k l out).toList.Perm (out.toList++l)
 |0,k,l,out,h=>by
  have e:l=[]:=rE h.symm;subst e;unfold pickOrder.go;rw[Aw]
 |f+1,k,l,out,h=>by
  have hp:0<l.length:=⋯;have hlt:next k%l.length<l.length:=Nt _ hp
  unfold pickOrder.go;rw[List.getElem?_eq_getElem hlt];dsimp only;refine(Zz next f (k+1) _ _ (by rw[List.length_eraseIdx_of_lt hlt];omega)).trans ?_
  rw[Array.toList_push,Ht];exact(afr _ _ hlt).append_left _
def asL{α:Type}(next:Nat->Nat)(xs:Array α):(pickOrder next xs).toList.Perm xs.toList:=by
 have:=Zz next xs.size 0 xs.toList #[] (by simp)
 simpa[pickOrder]using this
def zX:Slot "set_iterator" "__next__" "set_iterator.__next__" :=
 .of (owner:= "set_iterator") (n:= "__next__") (by rw[typeLookup_type,builtinLookup_eq_fast];kernel_rfl) (by decide +kernel) (by decide +kernel) (by decide +kernel)
  (by first|exact .inl (by decide +kernel)|exact .inr (by decide +kernel)) (by rw[isSubtype_type];kernel_rfl)
def afG:entryFor table "set_iterator.__next__" = some Builtin.«set_iterator.__next__»:=entryFor_of_tree (by kernel_rfl)
def VP(a:Value):argsOk "set_iterator.__next__" ⟨[a],[]⟩:=by unfold argsOk;kernel_rfl
def slot_set_iter:Slot "set" "__iter__" "set.__iter__" :=
 .of (owner:= "set") (n:= "__iter__") (by rw[typeLookup_type,builtinLookup_eq_fast];kernel_rfl) (by decide +kernel) (by decide +kernel) (by decide +kernel)
  (by first|exact .inl (by decide +kernel)|exact .inr (by decide +kernel)) (by rw[isSubtype_type];kernel_rfl)
def aqa:entryFor table "set.__iter__" = some Builtin.«frozenset.__iter__»:=entryFor_alias (id':= "frozenset.__iter__") (by kernel_rfl) rfl (by decide +kernel) (by kernel_rfl)
def awI(a:Value):argsOk "set.__iter__" ⟨[a],[]⟩:=by unfold argsOk;kernel_rfl
structure pC(h:Heap)(a:Addr)(es:Array (Int×Value))(ep:Nat)(t:SetTable):Prop where
 obj:h.get? a=some { cls:= .type "set",dict:=none,data:= .set es ep t }
 fits:t.fits es.size=true
def iw(w:World):Bool:=w.params.followText "set-order"
def kY(w:World)(a:Addr)(ep:Nat)(es:Array (Int×Value)):Array (Int×Value):=if iw w then pickOrder (w.params.setOrder a ep) es else es
def Ea(w:World)(a:Addr)(ep:Nat)(es:Array (Int×Value)):(kY w a ep es).toList.Perm es.toList:=by
 unfold kY;split
 .exact asL ..
 .exact .refl _
structure vX(w:World)(es:Array (Int×Value))(t:SetTable):Prop where
 led:iw w=false->t.led=true
 plain:t.plain=true
 at':∀i≤es.size,SetTable.below t.place (u9 t i)=i
def jN(w:World)(t:SetTable)(i:Nat):Nat:=if iw w then 0 else u9 t i
def yE(h:Heap)(w:World)(it a:Addr)(t:SetTable)(i n ep:Nat):Prop:=
 ∃o,h.get? it=some o/\o.cls = .type "set_iterator" /\ o.data = .fields #[rawInt (jN w t i),rawInt i,.ref a,rawInt n,rawInt ep]
def yE.typeIs{s:Shared}{w:World}{it a:Addr}{t:SetTable}{i n ep:Nat}(x:yE s.heap w it a t i n ep):s.TypeIs (.ref it) "set_iterator" :=
 let⟨o,ho,hc,_⟩:=x;⟨o,ho,hc⟩
section
variable {prog:Program} {w:World} {A:Around} {E:Value->Shared->Prop} {s:Shared}
def vq{a:Addr}{es:Array (Int×Value)}{ep:Nat}{t:SetTable}{Q:Array (Int×Value)×Nat×SetTable->Shared->Prop}(S:pC s.heap a es ep t)(h:Q (es,ep,t) s):wpAny (model prog w) A (setState a) Q E s:=
 wpAny_setState_of S.obj rfl S.fits h
def ajT{a:Addr}{es:Array (Int×Value)}{ep:Nat}{t:SetTable}{Q:Value->Shared->Prop}(S:pC s.heap a es ep t)(W:vX w es t)
  (hQ:∀o,o.cls = .type "set_iterator" -> o.data = .fields #[rawInt (jN w t 0),rawInt 0,.ref a,rawInt es.size,rawInt ep]->Q (.ref s.heap.objs.size) { s with heap:=s.heap.push o }):
  wpAny (model prog w) A (pyIter (.ref a)) Q E s:=by
 have hT:s.TypeIs (.ref a) "set" := ⟨_,S.obj,rfl⟩;refine wpAny_pyIter_slot hT slot_set_iter (wpAny_call_entry slot_set_iter hT aqa ?_ (awI _));unfold Builtin.«frozenset.__iter__»;refine wpAny_bind (m:=Builtin.Frozenset.slot0 "__iter__" _) (wpAny_of_eq (a:=a) (by rfl) ?_);refine wpAny_bind (wpAny_bind (wpAny_bind (vq S (wpAny_pure (wpAny_pure ?_)))));refine wpAny_bind ?_;unfold setDrawn;refine wpAny_bind (vq S ?_);unfold setsByText;dsimp only;refine wpAny_bind (wpAny_bind (wpAny_askSetting (wpAny_pure (wpAny_pure ?_))));have hd:(!(w.params.followText "set-order")&&(!t.plain&&decide (es.size>1)))=false:=by rw[W.plain];simp
 show wpAny _ _ (if(!(w.params.followText "set-order")&&(!t.plain&&decide (es.size>1)))=true then _ else _) _ _ s;rw[hd];refine wpAny_bind (wpAny_pure ?_);refine wpAny_bind (wpAny_bind (vq S (wpAny_pure ?_)));refine wpAny_bind (wpAny_newObj_type (wpAny_pure ⟨_,rfl,"set_iterator",_,⟨_,Heap.get?_push_size _ rfl,rfl⟩,zX.lookup,?_⟩));refine hQ _ rfl ?_;have e:jN w t 0=0:=by unfold jN u9;split<;>rfl
 rw[e];rfl
def Zv{a:Addr}{es:Array (Int×Value)}{ep:Nat}{t:SetTable}{i:Nat}{Q:Option (Value×Nat)->Shared->Prop}(S:pC s.heap a es ep t)(W:vX w es t)(hi:i<=es.size)
  (h:Q ((kY w a ep es)[i]?.map λe=>(e.2,jN w t (i+1))) s):wpAny (model prog w) A (setNext a (jN w t i) i ep) Q E s:=by
 unfold setNext setsByText;refine wpAny_bind (vq S ?_);dsimp only;refine wpAny_bind (wpAny_bind (wpAny_askSetting (wpAny_pure ?_)));show wpAny _ _ (if iw w=true then _ else _) _ _ s;cases hb:iw w with
 |true=>
  rw[if_pos rfl];simp only[bne_self_eq_false,E5,if_false];unfold setWalk setsByText;refine wpAny_bind (wpAny_bind (vq S ?_));dsimp only;refine wpAny_bind (wpAny_bind (wpAny_askSetting (wpAny_pure ?_)));show wpAny _ _ (if iw w=true then _ else _) _ _ s;rw[if_pos hb];refine wpAny_bind (wpAny_askSetting (wpAny_pure (wpAny_pure ?_)));have e1:jN w t i=jN w t (i+1):=by unfold jN;rw[hb];rfl
  have e2:kY w a ep es=pickOrder (w.params.setOrder a ep) es:=by unfold kY;rw[hb];rfl
  rw[e1];rw[e2]at h;exact h
 |false=>
  rw[if_neg ∅];have hl:=W.led hb;have hd:¬((!t.plain&&decide (es.size>1))=true):=by rw[W.plain];simp
  show wpAny _ _ (if(!t.plain&&decide (es.size>1))=true then _ else _) _ _ s;rw[if_neg hd];refine wpAny_bind ?_;show wpAny _ _ (if(!t.led&&!es.isEmpty)=true then _ else _) _ _ s;rw[if_neg (by rw[hl];simp)];refine wpAny_pure (wpAny_pure ?_);have e1:jN w t i=u9 t i:=by unfold jN;rw[hb];rfl
  have e2:jN w t (i+1)=u9 t (i+1):=by unfold jN;rw[hb];rfl
  have e3:kY w a ep es=es:=by unfold kY;rw[hb];rfl
  rw[e1,W.at' i hi];rw[e2,e3]at h;have hz:t.place.size=es.size:=by
   have:=S.fits;simp only[SetTable.fits,ji,beq_iff_eq]at this;exact this.1
  by_cases c:i<es.size
  .have c2:i<t.place.size:=⋯;rw[Array.getElem?_eq_getElem c,Array.getElem?_eq_getElem c2];rw[Array.getElem?_eq_getElem c]at h;have e4:u9 t (i+1)=t.place[i]+1:=by show t.place.getD i 0+1=_;simp[Array.getD,c2]
   rw[e4]at h;exact h
  .rw[Array.getElem?_eq_none ⋯]at h⊢;exact h
def next_item{it a:Addr}{es:Array (Int×Value)}{ep:Nat}{t:SetTable}{i:Nat}{e:Int×Value}{Q:Option Value->Shared->Prop}(S:pC s.heap a es ep t)(W:vX w es t)(hit:yE s.heap w it a t i es.size ep)(hlt:i<es.size)(hi:(kY w a ep es)[i]?=some e)
  (hQ:∀h',yE h' w it a t (i+1) es.size ep->xV it s.heap h'->Q (some e.2) { s with heap:=h' }):wpAny (model prog w) A (pyNext (.ref it)) Q E s:=by
 obtain⟨o,ho,hc,hd⟩:=id hit;unfold pyNext;refine wpAny_bind (wpAny_attempt (wpAny_callSpecial?_slot (name:=Str.ofString "__next__") hit.typeIs zX (wpAny_call_entry zX hit.typeIs afG ?_ (VP _))));unfold Builtin.«set_iterator.__next__»;refine wpAny_bind (m:=slotArgs "__next__" 0 _) (wpAny_of_eq (a:=(Value.ref it,[])) (by rfl) ?_);refine wpAny_bind (wpAny_fieldsOf ho hd ?_);show wpAny _ _ (setEntries a>>=_) _ _ s;refine wpAny_bind (wpAny_bind (vq S (wpAny_pure ?_)));dsimp only;rw[if_neg (by simp)];show wpAny _ _ (setNext a (yZ ((jN w t i:Nat):Int)) (yZ ((i:Nat):Int)) (yZ ((ep:Nat):Int))>>=_) _ _ s;simp only[fQ];refine wpAny_bind (Zv S W ⋯ ?_);rw[hi];show wpAny _ _ (setField (.ref it) 0 (rawInt (jN w t (i+1)))>>=_) _ _ s;refine wpAny_bind (wpAny_setField ho hd (by simp) ?_);have ho1:=Heap.get?_update_self (h:=s.heap) (RH (·.setIfInBounds 0 (rawInt (jN w t (i+1))))) ho (Ef (rJ hd _));refine wpAny_bind (wpAny_setField ho1 (rJ hd _) (by simp) ?_);refine wpAny_pure ⟨_,rfl,wpAny_pure (hQ _ ?_ ((uD ..).trans (uD ..)))⟩;refine⟨_,Heap.get?_update_self _ ho1 (Ef (rJ (rJ hd _) _)),((Lw ..).trans (Lw ..)).trans hc,?_⟩;rw[rJ (rJ hd _)];simp[rawInt]
def next_end{it a:Addr}{es:Array (Int×Value)}{ep:Nat}{t:SetTable}{Q:Option Value->Shared->Prop}(hh:A.handled=none)(S:pC s.heap a es ep t)(W:vX w es t)(hit:yE s.heap w it a t es.size es.size ep)
  (hQ:∀h',ae2 it s.heap h'->Q none { s with heap:=h' }):wpAny (model prog w) A (pyNext (.ref it)) Q E s:=by
 obtain⟨o,ho,hc,hd⟩:=id hit;unfold pyNext;refine wpAny_bind (wpAny_attempt (wpAny_callSpecial?_slot (name:=Str.ofString "__next__") hit.typeIs zX (wpAny_call_entry zX hit.typeIs afG ?_ (VP _))));unfold Builtin.«set_iterator.__next__»;refine wpAny_bind (m:=slotArgs "__next__" 0 _) (wpAny_of_eq (a:=(Value.ref it,[])) (by rfl) ?_);refine wpAny_bind (wpAny_fieldsOf ho hd ?_);show wpAny _ _ (setEntries a>>=_) _ _ s;refine wpAny_bind (wpAny_bind (vq S (wpAny_pure ?_)));dsimp only;rw[if_neg (by simp)];show wpAny _ _ (setNext a (yZ ((jN w t es.size:Nat):Int)) (yZ ((es.size:Nat):Int)) (yZ ((ep:Nat):Int))>>=_) _ _ s;simp only[fQ];refine wpAny_bind (Zv S W (aJ _) ?_);have hl:(kY w a ep es).size=es.size:=by simpa using(Ea w a ep es).length_eq
 rw[Array.getElem?_eq_none ⋯];show wpAny _ _ (setField (.ref it) 2 .none>>=_) _ _ s;refine wpAny_bind (wpAny_setField ho hd (by simp) ?_);refine wpAny_bind ?_;simp only[newExc,newTuple];refine wpAny_bind (wpAny_newObj_type ?_ (by size_fits));refine wpAny_bind (m:=firstArgMember _ _) (wpAny_of_eq (a:=Value.none) (by first|rfl|(simp only[firstArgMember];rfl)) ?_)
 refine wpAny_newObj_type ?_ (by size_fits);simp only[raiseNew];refine wpAny_bind (wpAny_handled ?_);rw[show A.in1.handled=none from hh];refine wpAny_bind (wpAny_pure (wpAny_throw ?_));refine wpAny_bind (wpAny_isInstance (T:= "StopIteration") (b:=true) ⟨_,Heap.get?_push_size _ rfl,rfl⟩ isSubtype_stop ?_);exact wpAny_pure (hQ _ (((uD ..).extBut.push _).push _))
end
def Zo:Slot "set_iterator" "__iter__" "set_iterator.__iter__" :=
 .of (owner:= "set_iterator") (n:= "__iter__") (by rw[typeLookup_type,builtinLookup_eq_fast];kernel_rfl) (by decide +kernel) (by decide +kernel) (by decide +kernel)
  (by first|exact .inl (by decide +kernel)|exact .inr (by decide +kernel)) (by rw[isSubtype_type];kernel_rfl)
def akd:entryFor table "set_iterator.__iter__" = some Builtin.«dict_keyiterator.__iter__»:=entryFor_alias (id':= "dict_keyiterator.__iter__") (by kernel_rfl) rfl (by decide +kernel) (by kernel_rfl)
def amM(a:Value):argsOk "set_iterator.__iter__" ⟨[a],[]⟩:=by unfold argsOk;kernel_rfl
def asR{prog:Program}{w:World}{A:Around}(hh:A.handled=none)(I a:Addr)(hne:a≠I){es:Array (Int×Value)}{ep:Nat}{t:SetTable}(W:vX w es t):
  Walks prog w A I [I,a] [I] es.size (λi v=>(kY w a ep es)[i]?.map (·.2)=some v) (λi h=>yE h w I a t i es.size ep/\pC h a es ep t) where
 sub:=λb hb=>by simp at hb;simp[hb]
 frame:=λi h h' st hk=>by
  obtain⟨⟨o,ho,hr⟩,S⟩:=st;exact⟨⟨o,hk I (by simp) o ho,hr⟩,⟨hk a (by simp) _ S.obj,S.fits⟩⟩
 item:=λi s Q E hi st hQ=>by
  have hl:(kY w a ep es).size=es.size:=by simpa using(Ea w a ep es).length_eq
  have hi':i<(kY w a ep es).size:=⋯;have e:(kY w a ep es)[i]?=some (kY w a ep es)[i]:=Array.getElem?_eq_getElem hi';refine next_item st.2 W st.1 hi e λh' hit' hs'=>?_;exact hQ _ h' s.toks (by rw[e];rfl) ⟨hit',⟨hs'.extBut a _ hne st.2.obj,st.2.fits⟩⟩ λb o hb e=>hs'.extBut b o (λh=>hb (by simp[h])) e
 done:=λs Q E st hQ=>next_end hh st.2 W st.1 λh' he'=>hQ h' s.toks λb o hb e=>he' b o (λh=>hb (by simp[h])) e
 self:=λi s Q E st hQ=>by
  refine wpAny_pyIter_slot st.1.typeIs Zo (wpAny_call_entry Zo st.1.typeIs akd ?_ (amM _));show wpAny _ _ (ret (.ref I)) _ _ s;exact wpAny_pure ⟨_,rfl,"set_iterator",_,st.1.typeIs,zX.lookup,hQ⟩
def asG:typeLookup (.type "set") "__len__" = pure (some (.builtin "set.__len__")):=by rw[typeLookup_type,builtinLookup_eq_fast];kernel_rfl
section
variable {prog:Program} {w:World} {A:Around} {E:Value->Shared->Prop} {s:Shared}
def awg{a:Addr}{es:Array (Int×Value)}{ep:Nat}{t:SetTable}{Q:List Value->Shared->Prop}(hh:A.handled=none)(S:pC s.heap a es ep t)(W:vX w es t)(hz:es.size<scanBound)
  (hQ:∀(vs:List Value) (h':Heap) (tk:Nat),vs=(kY w a ep es).toList.map (·.2)->(∀b o,s.heap.get? b=some o->h'.get? b=some o)->Q vs { s with heap:=h',toks:=tk }):
  wpAny (model prog w) A (collect (.ref a)) Q E s:=by
 have hS:(s.heap.push (seqObj "list" #[] 0)).get? s.heap.objs.size=some (seqObj "list" #[] 0):=Heap.get?_push_size _ rfl;have S1:pC (s.heap.push (seqObj "list" #[] 0)) a es ep t:=⟨Heap.get?_push_of_some _ S.obj,S.fits⟩;have hlt:a<s.heap.objs.size:=cQ S.obj;unfold collect;refine wpAny_bind (wpAny_runValue (codeAny_builtin entry_proto_collect' ?_));show wpAny _ _ (do again (.builtin "list.__iadd__" ⟨[<-newList [],.ref a],[]⟩)) _ _ s
 refine wpAny_bind (wpAny_newList (wpAny_pure ⟨Code.quiet_builtin _ (by decide +kernel),codeAny_builtin entry_list_iadd' ?_⟩));show wpAny _ _ (Builtin.List.listExtendWith (.ref s.heap.objs.size) (.ref a) (.ref s.heap.objs.size)) _ _ { s with heap:=s.heap.push (seqObj "list" #[] 0) };unfold Builtin.List.listExtendWith;refine wpAny_bind (wpAny_typeOf (T:= "set") ⟨_,S1.obj,rfl⟩ ?_);have h1:Builtin.List.listSameRef (.ref s.heap.objs.size) (.ref a)=false:=by
  have:s.heap.objs.size≠a:=yV hlt;simp[Builtin.List.listSameRef,this]
 rw[if_neg (by rw[h1];decide)];refine wpAny_bind (ajT (s:={ s with heap:=s.heap.push (seqObj "list" #[] 0) }) S1 W λo oc od=>?_);refine wpAny_bind (wpAny_holding ?_);have S2:pC ((s.heap.push (seqObj "list" #[] 0)).push o) a es ep t:=⟨Heap.get?_push_of_some _ S1.obj,S.fits⟩;unfold Builtin.List.listLengthHint;refine wpAny_bind (wpAny_specialOf (T:= "set") ⟨_,S2.obj,rfl⟩ asG ?_)
 (generalize hid:("set.__len__" : String)=id0;(fail_if_success (clear hid id0));wp_delta;rw[show splitId id0=some ("set","__len__")from by subst hid;decide +kernel];subst hid)
 refine wpAny_bind (wpAny_isInstance (b:=true) (T:= "set") ⟨_,S2.obj,rfl⟩ (by rw[isSubtype_type];kernel_rfl) ?_);rw[if_neg ∅];refine wpAny_ite_split (λ_=>?_) (λhab=>absurd (by decide +kernel) hab);refine wpAny_bind (wpAny_typeOf (T:= "set") ⟨_,S2.obj,rfl⟩ ?_);refine wpAny_pure ?_;dsimp only;refine wpAny_ite_split (λ_=>?_) (λhab=>absurd (by decide +kernel) hab);refine wpAny_bind (wpAny_rule ?_);unfold Builtin.List.listTouch;have hz2:(s.heap.push (seqObj "list" #[] 0)).objs.size=s.heap.objs.size+1:=by simp[Heap.push]
 have hS2:((s.heap.push (seqObj "list" #[] 0)).push o).get? s.heap.objs.size=some (seqObj "list" #[] 0):=Heap.get?_push_of_some _ hS;refine wpAny_bind (wpAny_bind (listUpdate_at hS2 rfl ?_ (cj _) (by show 1<=_;exact Nat.succ_le_succ (cj _))));obtain⟨c1,hc1⟩:∃c,(((s.heap.push (seqObj "list" #[] 0)).push o).update s.heap.objs.size (iJ λx=>x.push Value.none)).get? s.heap.objs.size=some (seqObj "list" (#[].push Value.none) c):=⟨_,get?_update_seq hS2 _⟩;refine listUpdate_at hc1 rfl ?_ (by show 1<=_;rw[sizeLine_eq];decide) (by show 0<=_;exact cj _);obtain⟨c2,hc2⟩:∃c,((((s.heap.push (seqObj "list" #[] 0)).push o).update s.heap.objs.size (iJ λx=>x.push Value.none)).update s.heap.objs.size (iJ λx=>x.pop)).get? s.heap.objs.size=some (seqObj "list" #[] c):=⟨_,get?_update_seq hc1 _⟩;have keep:∀b q,b≠s.heap.objs.size->((s.heap.push (seqObj "list" #[] 0)).push o).get? b=some q->((((s.heap.push (seqObj "list" #[] 0)).push o).update s.heap.objs.size (iJ λx=>x.push Value.none)).update s.heap.objs.size (iJ λx=>x.pop)).get? b=some q:=
  λb q hb e=>(Heap.get?_update_other _ _ (nO hb)).trans ((Heap.get?_update_other _ _ (nO hb)).trans e)
 have hne:a≠(s.heap.push (seqObj "list" #[] 0)).objs.size:=by rw[hz2];exact fD (Ag hlt)
 have Wk:=(asR (prog:=prog) (w:=w) (A:=A.in1) (by simpa using hh) (s.heap.push (seqObj "list" #[] 0)).objs.size a hne (ep:=ep) W).toS;refine wpAny_pure ⟨plainId_quiet acF _,codeAny_extend_loopS Wk (by have:scanBound=4096:=rfl;rw[sizeLine_eq];omega) s.heap.objs.size (by
  simp only[bH,gR,or_false,not_or];exact⟨by rw[hz2];exact fD (vG _),yV hlt⟩) _ _ 0 _ #[] c2 rfl (cj _) ⟨⟨o,?_,oc,od⟩,⟨keep a _ (fD hlt) S2.obj,S.fits⟩⟩ hc2 (ItemsOf.nil _) λs' acc' c' hm hS' hacc=>?_⟩
 .exact keep _ o (by rw[hz2];exact yV (vG _)) (Heap.get?_push_size _ (Ef od))
 .show wpAny _ _ (load s.heap.objs.size>>=_) _ _ s';refine wpAny_bind (wpAny_load hS' ?_);obtain⟨hp',g',d',tk',o'⟩:=s';have eg:g'=s.gens:=hm.gens;have ed:d'=s.drawn:=hm.drawn;have Ek:o'=s.os:=hm.os;subst eg ed Ek;refine wpAny_pure (hQ _ hp' tk' ?_ λb q e=>?_)
  .obtain⟨z1,z2⟩:=hacc;have hl:(kY w a ep es).toList.length=es.size:=by simpa using(Ea w a ep es).length_eq
   have z3:acc'.toList.length=es.size:=by simpa using z1
   refine List.ext_getElem? λj=>?_;by_cases hj:j<es.size
   .have a1:acc'[j]?=some (acc'[j]'(by simpa using(z3▸hj:j<acc'.toList.length))):=Array.getElem?_eq_getElem _;have a2:=z2 j _ a1;rw[Array.getElem?_toList,a1,<-a2,List.getElem?_map,Array.getElem?_toList]
   .rw[List.getElem?_eq_none ⋯,List.getElem?_eq_none (by rw[aB];omega)]
  .have hb:=cQ e;refine hm.heap b q ?_ (keep b q (fD hb) (Heap.get?_push_of_some _ (Heap.get?_push_of_some _ e)));simp only[bH,gR,or_false,not_or];exact⟨fD hb,by rw[hz2];exact fD (Ag hb)⟩
theorem Wr:∀{vs:List Value} {ns:List Int},IntsAre vs ns->(∀v∈vs,∃k t,v = .int k t)/\ns=vs.map λv=>match v with | .int k _=>k|_=>0
 |_,_,.nil=>⟨λv hv=>by simp at hv,rfl⟩
 |_,_,.cons n t h=>by
  obtain⟨h1,h2⟩:=Wr h;refine⟨λv hv=>?_,by rw[h2];rfl⟩;rcases bH.mp hv with e|hv
  .exact⟨n,t,e⟩
  .exact h1 v hv
theorem abr:∀{vs:List Value},(∀v∈vs,∃k t,v = .int k t)->IntsAre vs (vs.map λv=>match v with | .int k _=>k|_=>0)
 |[],_=> .nil
 |v::vs,h=>by
  obtain⟨k,t,e⟩:=h v (bN ..);subst e;exact .cons k t (abr λu hu=>h u (cO _ hu))
def akk{vs us:List Value}{ns:List Int}(h:IntsAre vs ns)(p:us.Perm vs):∃ns',IntsAre us ns'/\ns'.Perm ns:=by
 obtain⟨h1,h2⟩:=Wr h;exact⟨_,abr λv hv=>h1 v (p.mem_iff.mp hv),by rw[h2];exact p.map _⟩
def ahF{a:Addr}{es:Array (Int×Value)}{ep:Nat}{t:SetTable}{ns:List Int}{Q:Value->Shared->Prop}(hh:A.handled=none)(S:pC s.heap a es ep t)(W:vX w es t)(hz:es.size<64)
  (hI:IntsAre (es.toList.map (·.2)) ns)
  (hQ:∀(D:Addr) (vs:List Value) (ns':List Int) (c tk:Nat) (h1 h':Heap),D=h1.objs.size->(∀b o,s.heap.get? b=some o->h1.get? b=some o)->(∀b o,h1.get? b=some o->h'.get? b=some o)->h'.get? D=some (seqObj "list" vs.toArray c)->IntsAre vs ns'->ns'.Perm ns->ns'.Pairwise (·<=·)->
   Q (.ref D) { s with heap:=h',toks:=tk }):
  wpAny (model prog w) A (call (.builtin "sorted") [.ref a]) Q E s:=by
 refine aeR kind_sorted plain_sorted entry_sorted (args_sorted1 _) ?_;unfold Builtin.«sorted»;refine wpAny_bind (m:=checkCount "sorted" 1 1 _) (wpAny_pure ?_);refine wpAny_bind (awg (by simpa using hh) S W (by have:scanBound=4096:=rfl;omega) λvs h1 tk1 ev hk=>?_);have hp:∃Qk,IntsAre vs Qk/\Qk.Perm ns:=by rw[ev];exact akk hI ((Ea w a ep es).map _)
 obtain⟨Qk,hI1,hp1⟩:=hp;have hvl:vs.length=es.size:=by
  rw[ev,aB];simpa using(Ea w a ep es).length_eq
 refine wpAny_bind (wpAny_newList ?_ (by rw[sizeLine_eq];omega));have hoL:(h1.push (seqObj "list" vs.toArray 0)).get? h1.objs.size=some (seqObj "list" vs.toArray 0):=Heap.get?_push_size _ rfl;refine wpAny_bind (wpAny_holding (wpAny_call_entry slot_list_sort ⟨_,hoL,rfl⟩ entry_list_sort (list_sort_tree hoL hI1 ⋯ λout ns' a1 a2 a3=>⟨_,rfl,?_⟩) (args_list_sort _)));obtain⟨e,he⟩:=sortedHeap_at (out:=out) hoL;refine wpAny_pure ⟨_,rfl,hQ _ out.toList ns' e tk1 h1 _ rfl hk (λb o q=>?_) (by simpa using he) a1 (a2.trans hp1) a3⟩;have hb:=cQ q;rw[sortedHeap_old (fD hb) (by rw[size_push'];exact Ag hb)];exact Heap.get?_push_of_some _ q
end
section
variable {prog:Program} {w:World} {A:Around} {E:Value->Shared->Prop} {s:Shared}
def atP{a:Addr}{es:Array (Int×Value)}{ep:Nat}{t:SetTable}{k:Int}{tok:Tok}{Q:Bool->Shared->Prop}(S:pC s.heap a es ep t)(hel:ElemsOf (intKind prog w) es.toList)(hb:es.size+1<scanBound)(hn:∀e∈es.toList,Value.isInt k e.2=false)
  (h:∀h' ep',xV a s.heap h'->h'.get? a=some { cls:= .type "set",dict:=none,data:= .set (oH t es (hashInt k) (.int k tok)).1 ep' (oH t es (hashInt k) (.int k tok)).2 }->Q true { s with heap:=h' }):
  wpAny (model prog w) A (setAddHashed a (.int k tok) (hashInt k)) Q E s:=by
 have hkey:(intKind prog w).is k (.int k tok)=true:=by simp[intKind,Value.isInt]
 have hsc:(Value.int k tok).scannable=true:=rfl;unfold setAddHashed setAddHashedIn;refine wpAny_holding (wpAny_bind (vq S ?_));dsimp only;rw[byScan_of hsc ⋯ hel];simp only[↓reduceIte];unfold setAddByScan;refine wpAny_bind ?_;refine wpAny_bind (wpAny_rule ?_);refine wpAny_bind (wpAny_setScan_of (knd:=intKind prog w) hkey S.obj rfl S.fits hel ?_);have hr:List.findIdx? (λe=>(intKind prog w).is k e.2) es.toList=none:=List.findIdx?_eq_none_iff.mpr λe he=>hn e he;rw[hr];dsimp only;have hgw:∀(b:Bool) {s₁:Shared} {Q':Unit->Shared->Prop},Q' () s₁->wpAny (model prog w) A (match b with|true=>rule "set.scan.the-table-gave-way" | false=>pure ()) Q' E s₁:=
  λb s₁ Q' hq=>by cases b<;>first|exact wpAny_pure hq|exact wpAny_rule hq
 have hperm:=layNew_perm t es (hashInt k) (.int k tok);have hgo:∀L:Array (Int×Value)×SetTable×Bool×Bool,layNew t es (hashInt k) (.int k tok)=L->L.1.size<scanBound:=λL e=>by
  subst e;have:=hperm.length_eq;simp at this;omega
 unfold oH at h;generalize hL:layNew t es (hashInt k) (.int k tok)=L at h⊢;have hsz:=hgo L hL;obtain⟨es1,t1,d,gave⟩:=L;dsimp only at h hsz⊢;rw[alE]at h;refine wpAny_bind (hgw _ ?_);have tail:wpAny (model prog w) A (do
   storeSet a es1 t1
   if(!d&&t1.tooFull)=true then do
     (match(relayAll t1 es1 (SetTable.grown es1.size)).2.2 with|true=>rule "set.scan.the-table-gave-way" | false=>pure ())
     storeSet a (relayAll t1 es1 (SetTable.grown es1.size)).1 (relayAll t1 es1 (SetTable.grown es1.size)).2.1
     pure (some true)
    else pure (some true)) (λr s'=>wpAny (model prog w) A (match r with|some added=>pure added|none=>setAddHashedIn a (.int k tok) (hashInt k) 99999) Q E s') E s:=by
  refine wpAny_bind (wpAny_storeSet_of S.obj rfl ?_ (fits_of_scanBound hsz));have hg:(s.heap.update a (yO es1 t1)).get? a=some { cls:= .type "set",dict:=none,data:= .set es1 (ep+1) t1 }:=by
   have:=Heap.get?_update_self (yO es1 t1) S.obj (by rw[putSet_of es1 t1 rfl];rfl);rw[putSet_of es1 t1 rfl]at this;exact this
  have sb:=uD s.heap a (yO es1 t1);by_cases c:(!d&&t1.tooFull)=true
  .rw[if_pos c];rw[if_pos c]at h;refine wpAny_bind (hgw _ ?_);have hp:=relayAll_perm t1 es1 (SetTable.grown es1.size);have hl:=hp.length_eq;generalize relayAll t1 es1 (SetTable.grown es1.size)=R at h hl⊢;obtain⟨es2,t2,g2⟩:=R;dsimp only at h hl⊢;refine wpAny_bind (wpAny_storeSet_of hg rfl ?_ (fits_of_scanBound (by simp at hl;omega)));have hg2:((s.heap.update a (yO es1 t1)).update a (yO es2 t2)).get? a=some { cls:= .type "set",dict:=none,data:= .set es2 (ep+1+1) t2 }:=by
    have:=Heap.get?_update_self (yO es2 t2) hg (by rw[putSet_of es2 t2 rfl];rfl);rw[putSet_of es2 t2 rfl]at this;exact this
   exact wpAny_pure (wpAny_pure (h _ _ (sb.trans (uD _ a _)) hg2))
  .rw[if_neg c];rw[if_neg c]at h;exact wpAny_pure (wpAny_pure (h _ _ sb hg))
 split
 .refine wpAny_bind ?_;rw[hashByValue_scannable 8 hsc];refine wpAny_pure ?_;first|exact tail|(simp only[↓reduceIte];exact tail)
 .refine wpAny_bind (wpAny_pure ?_);first|exact tail|(simp only[↓reduceIte];exact tail)
structure uZ(h:Heap)(a:Addr)(led:Bool)(xs:List Int):Prop where
 ex:∃es ep,h.get? a=some { cls:= .type "set",dict:=none,data:= .set es ep (iu led xs).2 }/\es.map ze=(iu led xs).1
def acV{led:Bool}{xs:List Int}(h:gW led xs=true):(iu led xs).2.fits xs.length=true/\(iu led xs).2.plain=true/\(iu led xs).2.led=led/\((iu led xs).1.toList.map λe=>keyV e.2).Perm xs/\
  (∀e∈(iu led xs).1.toList,A9 e.2=true/\e.1=hashInt (keyV e.2))/\∀i≤xs.length,SetTable.below (iu led xs).2.place (u9 (iu led xs).2 i)=i:=by
 unfold gW at h;unfold abz at h;simp only[ji,beq_iff_eq,lK,iQ]at h;obtain⟨⟨⟨⟨⟨h1,h2⟩,h3⟩,h4⟩,h5⟩,h6⟩:=h;exact⟨h1,h2,h3,aae.mp h4,λe he=>h5 e he,λi hi=>h6 i ⋯⟩
def au3{v:Value}(h:A9 v=true):∃t,v = .int (keyV v) t:=by
 cases v<;>simp_all [A9,keyV]
def Uu(v:Value):A9 (zv v)=A9 v/\keyV (zv v)=keyV v:=by cases v<;>exact⟨rfl,rfl⟩
def uZ.parts{h:Heap}{a:Addr}{led:Bool}{xs:List Int}(S:uZ h a led xs)(g:gW led xs=true):
  ∃es ep,pC h a es ep (iu led xs).2/\es.map ze=(iu led xs).1/\es.size=xs.length/\(es.toList.map λe=>keyV e.2).Perm xs/\∀e∈es.toList,(∃t,e.2 = .int (keyV e.2) t)/\e.1=hashInt (keyV e.2):=by
 obtain⟨es,ep,ho,hz⟩:=S.ex;obtain⟨g1,g2,g3,g4,g5,g6⟩:=acV g;have e1:(iu led xs).1.toList=es.toList.map ze:=by rw[<-hz];simp
 have p:(es.toList.map λe=>keyV e.2).Perm xs:=by
  rw[e1,cH]at g4;rw[show(λe:Int×Value=>keyV e.2)=((λe=>keyV e.2)∘ze)from funext λe=>(Uu e.2).2.symm];exact g4
 have sz:es.size=xs.length:=by have:=p.length_eq;simpa using this
 refine⟨es,ep,⟨ho,by rw[sz];exact g1⟩,hz,sz,p,λe he=>?_⟩;have:=g5 (ze e) (by rw[e1];exact jr he);rw[show(ze e).2=zv e.2 from rfl,show(ze e).1=e.1 from rfl,(Uu e.2).1,(Uu e.2).2]at this;exact⟨au3 this.1,this.2⟩
def amN{a:Addr}{led:Bool}{xs:List Int}{k:Int}{tok:Tok}{Q:Bool->Shared->Prop}(S:uZ s.heap a led xs)(g:gW led xs=true)(hk:k∉xs)(hl:xs.length<64)
  (h:∀h',xV a s.heap h'->uZ h' a led (k::xs)->Q true { s with heap:=h' }):wpAny (model prog w) A (setAddHashed a (.int k tok) (hashInt k)) Q E s:=by
 obtain⟨es,ep,S1,hz,sz,p,he⟩:=S.parts g;have hB:scanBound=4096:=rfl;refine atP S1 (λe h'=>?_) ⋯ (λe h'=>?_) λh' ep' sb hg=>?_
 .obtain⟨⟨t,e1⟩,e2⟩:=he e h';exact⟨⟨keyV e.2,by rw[e1];simp[intKind,Value.isInt,keyV],e2⟩,by rw[e1];rfl⟩
 .obtain⟨⟨t,e1⟩,e2⟩:=he e h';cases c:Value.isInt k e.2 with
  |false=>rfl
  |true=>
   obtain⟨t',e3⟩:=Value.isInt_shape c;have:keyV e.2=k:=by rw[e3];rfl
   exact absurd (p.mem_iff.mp (cB.mpr ⟨e,h',this⟩)) hk
 .refine h h' sb ⟨(oH (iu led xs).2 es (hashInt k) (.int k tok)).1,ep',?_,?_⟩
  .have e2:(iu led (k::xs)).2=(oH (iu led xs).2 es (hashInt k) (.int k tok)).2:=by
    show(oH (iu led xs).2 (iu led xs).1 (hashInt k) (zv (.int k tok))).2=_;rw[<-hz,aa2]
   rw[e2];exact hg
  .show _=(oH (iu led xs).2 (iu led xs).1 (hashInt k) (zv (.int k tok))).1;rw[<-hz,aa2]
def awG{R:Result->Shared->Prop}{I:Addr}{fp wr:List Addr}{G:Array GenState->Array GenState->Prop}{n:Nat}{P:Nat->Value->Prop}{St:Nat->Shared->Prop}
  (W:WalksS prog w A.in1 I fp wr G n P St) (a:Addr) (hSf:a∉fp) (xs:List Int) (led:Bool) (hn:n=xs.length) (hval:∀i v,P i v->∃k t,xs[i]?=some k/\v = .int k t) (hd:xs.Nodup) (hl:xs.length<64)
  (hg:∀i≤xs.length,gW led (xs.take i).reverse=true):
  ∀(k i:Nat) (s:Shared),n-i=k->i<=n->St i s->uZ s.heap a led (xs.take i).reverse->
   (∀s',Moved (a::wr) G s s'->uZ s'.heap a led xs.reverse->R (.ok (.ret .none)) s')->
   codeAny (model prog w) A (.builtin "set.update.loop" ⟨[.ref a,.ref I],[]⟩) R s:=by
 have hSw:a∉wr:=λh=>hSf (W.sub _ h);have hsub:∀b∈wr,b∈a::wr:=λb hb=>cO _ hb;intro k;induction k with
 |zero=>
  intro i s hk hi hst hS hR;have hin:i=n:=⋯;subst hin;refine codeAny_builtin Vf ?_;rw[yC Ov _];show wpAny _ A.in1 (pyNext (.ref I)>>=_) _ _ s;refine wpAny_bind (W.done s _ _ hst λs' hm=>?_);show wpAny _ A.in1 (ret Value.none) _ _ s';refine wpAny_pure (hR s' (hm.mono hsub) ?_);obtain⟨es,ep,ho,hz⟩:=hS.ex;rw[hn,ni]at ho hz;exact⟨es,ep,hm.heap a _ hSw ho,hz⟩
 |succ k ih=>
  intro i s hk hi hst hS hR;have hlt:i<n:=⋯;refine codeAny_builtin Vf ?_;rw[yC Ov _];show wpAny _ A.in1 (pyNext (.ref I)>>=_) _ _ s;refine wpAny_bind (W.item i s _ _ hlt hst λv s' hP hst' hm=>?_);obtain⟨x,t,hx,rfl⟩:=hval i v hP;have hS':uZ s'.heap a led (xs.take i).reverse:=by
   obtain⟨es,ep,ho,hz⟩:=hS.ex;exact⟨es,ep,hm.heap a _ hSw ho,hz⟩
  have hlx:i<xs.length:=⋯;have ex:xs[i]=x:=by rw[List.getElem?_eq_getElem hlx]at hx;exact pF hx
  have et:(xs.take (i+1)).reverse=x::(xs.take i).reverse:=by
   rw[afg hlx,List.reverse_append,ex];rfl
  have hnot:x∉(xs.take i).reverse:=by
   rw[jC];intro hm';have hd':=hd;rw[<-DN (i+1) xs,afg hlx,ex]at hd';have:=(RM.mp (RM.mp hd').1).2.2 x hm' x (dj.mpr rfl);exact this rfl
  show wpAny _ A.in1 (holding [Value.int x t] (setAdd a (.int x t))>>=_) _ _ s';refine wpAny_bind (wpAny_holding ?_);unfold setAdd;refine wpAny_holding ?_;refine wpAny_bind ((intKind prog w).pyHash (k:=x) (by simp[intKind,Value.isInt]) ?_);refine amN (s:={ s' with toks:=s'.toks+1 }) hS' (hg i ⋯) hnot (by simp;omega) λh' hsb hS2=>?_;rw[<-et]at hS2;refine wpAny_pure ⟨plainId_quiet Ov _,ih (i+1) _ ⋯ hlt (W.frame _ s' _ _ hst' (Gq _) λb hb o e=>?_) hS2 λs'' hm'' hS''=>?_⟩
  .rw[hsb.2 b (λh:b=a=>hSf (by rw[<-h];exact hb))];exact e
  .refine hR s'' (Moved.trans W.gtrans ((hm.mono hsub).then_heap (Gq _) λb o hb e=>?_) hm'') hS'';rw[hsb.2 b (λh:b=a=>hb (by rw[h];exact bN))];exact e
def ah7{x:Value}{Q₁:Value->Shared->Prop}
  (h:Q₁ (.ref s.heap.objs.size) { s with heap:=s.heap.push { cls:= .type "set",dict:=none,data:= .set #[] 0 (.fresh 0 0 (!iw w)) } }):
  codeAny (model prog w) A (.call (.builtin "set.__new__") ⟨[.type "set",x],[]⟩) (wants Q₁ E) s:=by
 refine codeAny_of_tree ?_;refine wpAny_bind (m:=checkBuiltinCall "set.__new__" ⟨[.type "set",x],[]⟩) (wpAny_of_eq (F.newCall_set_1 x) (wpAny_pure ⟨plainId_quiet Vz _,codeAny_builtin F.entry_set_new ?_⟩));rw[yC Vz _];unfold Builtin.«set.__new__» Builtin.Frozenset.newClass;have hsub:=sub_set_self;obtain⟨hp,g,d,tk,os⟩:=s;dsimp only
 wp_walk
 refine wpAny_askSetting (wpAny_pure ?_);dsimp only;simp only[newObj];refine wpAny_bind (wpAny_alloc (wpAny_pure ?_));exact wpAny_pure h
set_option maxRecDepth 100000 in
set_option maxHeartbeats 3200000 in
def ajQ{x:Value}{Q:Value->Shared->Prop}
  (h:wpAny (model prog w) A.in1.in1 (Builtin.«set.__init__» ⟨[.ref s.heap.objs.size,x],[]⟩)
   (λfin s'=>match fin with | .done f=>wants (λr s₂=>r = .none/\Q (.ref s.heap.objs.size) s₂) E (.ok f) s' | .again c'=>c'.quiet=true/\codeAny (model prog w) A.in1 c' (wants (λr s₂=>r = .none/\Q (.ref s.heap.objs.size) s₂) E) s')
   (λe s'=>wants (λr s₂=>r = .none/\Q (.ref s.heap.objs.size) s₂) E (.error e) s') { s with heap:=s.heap.push { cls:= .type "set",dict:=none,data:= .set #[] 0 (.fresh 0 0 (!iw w)) } }):
  wpAny (model prog w) A (call (.type "set") [x]) Q E s:=by
 obtain⟨c,tl,hmro⟩:=vm.mro;have hmade:=vm.made;have hsub:=vm.sub;refine wpAny_call (codeAny_of_tree ?_);show wpAny _ _ (callAny (.type "set") _) _ _ _;refine wpAny_pure ⟨Code.quiet_builtin _ (by decide +kernel),codeAny_builtin F.entry_type_call ?_⟩;rw[Around.under_plain (weight_type_call_type "set" [x] []) rfl];have h1:=vm.notType;have h2:=vm.canCreate;have hct:=F.typeCall_set_1 x
 repeat (any_goals (first|assumption|wp_step))
 refine codeAny_mono (ah7 (x:=x) (E:=E) (Q₁:=λobj s₁=>obj = .ref s.heap.objs.size/\s₁={ s with heap:=s.heap.push { cls:= .type "set",dict:=none,data:= .set #[] 0 (.fresh 0 0 (!iw w)) } }) ⟨rfl,rfl⟩) λr s₁ hr=>?_;cases r with
 |error e=>exact hr
 |ok fl=>
  cases fl with
  |ret obj=>
   obtain⟨rfl,rfl⟩:=hr;have hT:KR { s with heap:=s.heap.push { cls:= .type "set",dict:=none,data:= .set #[] 0 (.fresh 0 0 (!iw w)) } } (.ref s.heap.objs.size) "set" := ⟨_,Heap.get?_push_size _ rfl,rfl⟩;have hli:=vm.init.lookup;have hbi:=vm.init.bind (.ref s.heap.objs.size)
   repeat (any_goals (first|assumption|wp_step))
   refine codeAny_mono (codeAny_call_builtin (R:=wants (λr s₂=>r = .none/\Q (.ref s.heap.objs.size) s₂) E) vm.init.plain F.entry_set_init (check_set_init_1 hT h)) λr₂ s₂ hr₂=>?_;cases r₂ with
   |error e=>exact hr₂
   |ok fl₂=>
    cases fl₂ with
    |ret r=>
     obtain⟨rfl,hq⟩:=hr₂
     repeat (any_goals (first|assumption|wp_step))
    |_=>exact hr₂.elim
  |_=>exact hr.elim
set_option maxRecDepth 100000 in
set_option maxHeartbeats 3200000 in
def ajl{l:Addr}{its:Array Value}{xs:List Int}{Q:Value->Shared->Prop}(hh:A.handled=none)(hl:s.heap.IsList l its)(hi:IntsAre its.toList xs)(hd:xs.Nodup)(h64:xs.length<64)
  (hg:∀i≤xs.length,gW (!iw w) (xs.take i).reverse=true)
  (h:∀h' tk,uZ h' s.heap.objs.size (!iw w) xs.reverse->(∀b o,b<s.heap.objs.size->s.heap.get? b=some o->h'.get? b=some o)->Q (.ref s.heap.objs.size) { s with heap:=h',toks:=tk }):
  wpAny (model prog w) A (call (.type "set") [.ref l]) Q E s:=by
 refine ajQ ?_;obtain⟨ol,hol,hcl,nl,hdl⟩:=hl;obtain⟨ocls,odict,odata,oslots⟩:=ol;simp only at hcl hdl;subst hcl;subst hdl;have hS:(s.heap.push { cls:= .type "set",dict:=none,data:= .set #[] 0 (.fresh 0 0 (!iw w)) }).get? s.heap.objs.size=some { cls:= .type "set",dict:=none,data:= .set #[] 0 (.fresh 0 0 (!iw w)) }:=Heap.get?_push_size _ rfl;have hol':(s.heap.push { cls:= .type "set",dict:=none,data:= .set #[] 0 (.fresh 0 0 (!iw w)) }).get? l=some { cls:= .type "list",dict:=odict,data:= .seq its nl,slots:=oslots }:=Heap.get?_push_of_some _ hol;have hl1:(s.heap.push { cls:= .type "set",dict:=none,data:= .set #[] 0 (.fresh 0 0 (!iw w)) }).IsList l its:=⟨_,hol',rfl,nl,rfl⟩;have hsls:=F.sub_list_set;have hslf:=F.sub_list_frozenset;have hne:(Value.type "list" == Value.type "dict")=false:=∅;have hlen:=IntsAre.length hi;have hT:KR { s with heap:=s.heap.push { cls:= .type "set",dict:=none,data:= .set #[] 0 (.fresh 0 0 (!iw w)) } } (.ref s.heap.objs.size) "set" := ⟨_,hS,rfl⟩;unfold Builtin.«set.__init__» noKeywords Builtin.Frozenset.updateFrom;generalize hPI:pyIter=PI
 wp_walk
 subst hPI;refine wpAny_pyIter_list hl1 ?_;refine wpAny_bind (wpAny_runValue ?_);have hlS:l<s.heap.objs.size:=cQ hol;have hh3:A.in1.in1.in1.handled=none:=by simp[hh]
 have hneI:l≠(s.heap.push { cls:= .type "set",dict:=none,data:= .set #[] 0 (.fresh 0 0 (!iw w)) }).objs.size:=by
  rw[RL];exact fD (Ag hlS)
 have hSf:s.heap.objs.size∉[(s.heap.push { cls:= .type "set",dict:=none,data:= .set #[] 0 (.fresh 0 0 (!iw w)) }).objs.size,l]:=by
  rw[RL];simp only[bH,gR,or_false,not_or];exact⟨fD (vG _),yV hlS⟩
 have hval:∀(i:Nat) (v:Value),its[i]?=some v->∃k t,xs[i]?=some k/\v = .int k t:=λi v hv=>by
  obtain⟨t,e⟩:=atq hi i v (by rw[Array.getElem?_toList];exact hv);have hlt:i<xs.length:=by
   have:=(Array.getElem?_eq_some_iff.mp hv).1;simp at hlen;omega
  exact⟨_,t,by rw[List.getD_eq_getElem?_getD,List.getElem?_eq_getElem hlt];rfl,e⟩
 refine awG ((Walks.list hh3 _ l hneI its).toS) s.heap.objs.size hSf xs (!iw w) (by simp at hlen;omega) hval hd h64 hg _ 0 _ rfl (cj _) ⟨⟨_,Heap.get?_push_size _ rfl,rfl,rfl⟩,(hl1.push _)⟩ ⟨#[],0,Heap.get?_push_of_some _ hS,by simp[iu]⟩ λs' hm hS'=>?_;obtain⟨h',g',d',tk',os'⟩:=s';have eg:g'=s.gens:=hm.gens;have ed:d'=s.drawn:=hm.drawn;have eo:os'=s.os:=hm.os;subst eg;subst ed;subst eo;show wpAny _ _ _ _ _ _;refine wpAny_pure ?_;show wpAny _ _ (ret Value.none) _ _ _;refine wpAny_pure ⟨rfl,h h' tk' hS' λb o hb e=>?_⟩;have hb1:b≠s.heap.objs.size:=fD hb;have hb2:b≠(s.heap.push { cls:= .type "set",dict:=none,data:= .set #[] 0 (.fresh 0 0 (!iw w)) }).objs.size:=by
  rw[RL];exact fD (Ag hb)
 exact hm.heap b o (by simp only[bH,gR,or_false,not_or];exact⟨hb1,hb2⟩) (Heap.get?_push_of_some _ (Heap.get?_push_of_some _ e))
end
def aki:bootBuiltins "set" = some (.type "set"):=by decide +kernel
def akn:bootBuiltins "sorted" = some (.builtin "sorted"):=by decide +kernel
section
variable {X:Cx}
def amb(te:TA):TE:=λσ H Q=>te σ H λvs H1=>∃(l:Addr) (ns:List Int),vs=[.ref l]/\H1 l=some (.lst (ns.map V.int))/\ns.Nodup/\ns.length<64/\(∀led,∀i≤ns.length,gW led (ns.take i).reverse=true)/\
 ∀(l':Addr) (ns':List Int),ns'.Perm ns->ns'.Pairwise (·<=·)->H1 l'=none->Q (.ref l') (upd H1 l' (.lst (ns'.map V.int)))
theorem W4:∀{vs:List Value} {ns:List Int},IntsAre vs ns->Vals (ns.map V.int) vs
 |_,_,.nil=> .nil
 |_,_,.cons n t h=> .cons ⟨t,rfl⟩ (W4 h)
def apK{a:Expr}{ta:TA}{p p2 pos pos2:Pos}(hc:X.calm=true)(hg:Gl X "sorted")(hm:X.mg "sorted" = none)(hg2:Gl X "set")(hm2:X.mg "set" = none)(ha:PA X [a] ta)
  (hs2:starEach [a] X.env=[(false,eval a X.env)]:=by rfl)
  (hs:starEach [.Call (.Name "set" p2) [a] [] pos2] X.env=[(false,eval (.Call (.Name "set" p2) [a] [] pos2) X.env)]:=by rfl):
  PE X (.Call (.Name "sorted" p) [.Call (.Name "set" p2) [a] [] pos2] [] pos) (amb ta):=by
 intro pins s σ H Q I h;refine wpAny_Call_Name_kw (oE I hg hm akn ?_ ∅ ∅);refine aaq ?_ hs rfl;rw[hs];show wpAny _ _ (spliced ((false,eval (.Call (.Name "set" p2) [a] [] pos2) X.env)::backTo pos [])) _ _ s;refine O9 ?_;refine Call_ (oE I hg2 hm2 aki (rY (aU (ha pos2 pins s σ H _ I h) λus s1 ⟨vs,H1,I1,r1,q1⟩=>?_) hs2 rfl));obtain⟨l,ns,e,hl,hnd,h64,hgd,q⟩:=q1;subst e;cases r1 with
 |cons r rr=>
  cases rr;cases r;obtain⟨z,its,nn,rv,hlen,eo⟩:=I1.rN hl;have hil:s1.heap.IsList l its.toArray:=⟨_,eo,rfl,_,rfl⟩;have hh:=I1.ok.hd hc;have hi:IntsAre its.toArray.toList ns:=by simpa using intsAre_of rv
  refine ajl hh hil hi hnd h64 (hgd _) λh2 tk2 S2 Qi=>?_;refine Pn ?_;have hg:=hgd (!iw X.w) ns.length (aJ _);rw[ni]at hg;obtain⟨g1,g2,g3,g4,g5,g6⟩:=acV hg;obtain⟨es,ep,S3,hz3,sz3,p3,he3⟩:=S2.parts hg;have sz4:es.size=ns.length:=by rw[sz3,gU]
  have W:vX X.w es (iu (!iw X.w) ns.reverse).2:=⟨λb=>by rw[g3,b];rfl,g2,λi hi=>g6 i (by rw[gU];omega)⟩;have I2:Inv X pins σ H1 { s1 with heap:=h2,toks:=tk2 }:=I1.kept (t':=tk2) λb o e=>Qi b o (cQ e) e;have hI:IntsAre (es.toList.map (·.2)) (es.toList.map λe=>keyV e.2):=by
   have:∀l:List (Int×Value),(∀e∈l,∃t,e.2 = .int (keyV e.2) t)->IntsAre (l.map (·.2)) (l.map λe=>keyV e.2):=by
    intro l;induction l with
    |nil=>intro _;exact .nil
    |cons e r ih=>
     intro hl;obtain⟨t,e1⟩:=hl e (bN ..);rw[cD,cD,e1];exact .cons _ t (ih λx hx=>hl x (cO _ hx))
   exact this _ λe he=>(he3 e he).1
  refine ahF (s:={ s1 with heap:=h2,toks:=tk2 }) hh S3 W ⋯ hI λD vs ns' c tk h1 h' eD k1 k2 Ek hI' hp' ho'=>?_;subst eD;have I3:Inv X pins σ H1 { s1 with heap:=h1,toks:=tk }:=I2.kept (t':=tk) k1;have hp:ns'.Perm ns:=hp'.trans (p3.trans (List.reverse_perm ns));have hz:(ns'.map V.int).length<=sizeLine:=by rw[aB,hp.length_eq,sizeLine_eq];omega
  exact⟨.ref _,_,I3.laid (t':=tk) k2 (aJ _) (show dB X.prog X.w _ h' _ (.lst (ns'.map V.int))from⟨hz,vs,c,W4 hI',Ek⟩),rfl,q _ ns' hp ho' (I3.hok.fresh (aJ _))⟩
end
def runK{α:Type}(lt:Nat->Nat->Bool):W.KasT α->α
 |.ret a=>a
 |.ask i j k=>runK lt (k (lt i j))
def Ck{α:Type}(n:Nat)(lt:Nat->Nat->Bool):W.KasT α->Bool
 |.ret _=>true
 |.ask i j k=>decide (i<n)&&decide (j<n)&&Ck n lt (k (lt i j))
theorem ac2{α:Type}{n:Nat}{lt:Nat->Nat->Bool}{cmp:Nat->Nat->(Bool->Shared->Prop)->Shared->Prop}{Q:α->Shared->Prop}{s:Shared}(hc:∀i j (C:Bool->Shared->Prop),i<n->j<n->C (lt i j) s->cmp i j C s):
  ∀t:W.KasT α,Ck n lt t=true->Q (runK lt t) s->t.kasWp cmp Q s
 |.ret a,_,h=>h
 |.ask i j k,ho,h=>by
  unfold Ck at ho;simp only[ji,decide_eq_true_eq]at ho;exact hc i j _ ho.1.1 ho.1.2 (ac2 hc (k (lt i j)) ho.2 h)
def J7(n:Nat):Nat->List (List Nat)
 |0=>[[]]
 |m+1=>(J7 n m).flatMap λl=>(eO n).map (· :: l)
theorem Vl{n:Nat}:∀{r:List Nat},(∀x∈r,x<n)->r∈J7 n r.length
 |[],_=>dj.mpr rfl
 |x::r,h=>List.mem_flatMap.mpr ⟨r,Vl λy hy=>h y (cO _ hy),cB.mpr ⟨x,iQ.mpr (h x (bN ..)),rfl⟩⟩
def sU(r:List Nat)(i j:Nat):Bool:=decide (r.getD i 0<r.getD j 0)
def YB(n:Nat)(r:List Nat):Bool:=!decide r.Nodup||(Ck n (sU r) (Ac n)&&(runK (sU r) (Ac n)).toList.isPerm (eO n)&&decide ((runK (sU r) (Ac n)).toList.map (λi=>r.getD i 0)=eO n))
set_option maxRecDepth 100000 in
def aiC:∀n<5,2<=n->(J7 n n).all (YB n)=true:=by decide +kernel
def mF(xs:List Int):List Nat:=xs.map λx=>(xs.filter λy=>decide (y<x)).length
theorem abY:∀(l:List Int) {x y:Int},x<y->(l.filter λz=>decide (z<x)).length<=(l.filter λz=>decide (z<y)).length
 |[],_,_,_=>aJ _
 |z::l,x,y,h=>by
  have ih:=abY l h;rw[wJ,wJ];by_cases c:z<x
  .rw[if_pos (decide_eq_true c),if_pos (decide_eq_true ⋯),fB,fB];omega
  .rw[if_neg (by simpa using c)];split
   .rw[fB];omega
   .exact ih
theorem Rb:∀(l:List Int) {x y:Int},x<y->x∈l->(l.filter λz=>decide (z<x)).length<(l.filter λz=>decide (z<y)).length
 |z::l,x,y,h,hx=>by
  rw[wJ,wJ];rcases bH.mp hx with e|hx
  .subst e;have:=abY l h;rw[if_neg (by simp),if_pos (decide_eq_true h),fB];omega
  .have ih:=Rb l h hx;by_cases c:z<x
   .rw[if_pos (decide_eq_true c),if_pos (decide_eq_true ⋯),fB,fB];omega
   .rw[if_neg (by simpa using c)];split
    .rw[fB];omega
    .exact ih
def UN{xs:List Int}{x y:Int}(hx:x∈xs)(hy:y∈xs):(xs.filter λz=>decide (z<x)).length<(xs.filter λz=>decide (z<y)).length↔x<y:=by
 constructor
 .intro h;by_cases c:x<y
  .exact c
  .by_cases e:x=y
   .subst e;omega
   .have:=Rb xs (show y<x by omega) hy;omega
 .exactλh=>Rb xs h hx
def aaY{xs:List Int}{i:Nat}(h:i<xs.length):(mF xs).getD i 0=(xs.filter λz=>decide (z<xs.getD i 0)).length:=by
 unfold mF;rw[List.getD_eq_getElem?_getD,List.getElem?_map,List.getElem?_eq_getElem h,List.getD_eq_getElem?_getD,List.getElem?_eq_getElem h];rfl
def ab5{xs:List Int}{i j:Nat}(hi:i<xs.length)(hj:j<xs.length):sU (mF xs) i j=decide (xs.getD i 0<xs.getD j 0):=by
 unfold sU;rw[aaY hi,aaY hj];have mi:xs.getD i 0∈xs:=by rw[List.getD_eq_getElem?_getD,List.getElem?_eq_getElem hi];exact xG hi
 have mj:xs.getD j 0∈xs:=by rw[List.getD_eq_getElem?_getD,List.getElem?_eq_getElem hj];exact xG hj
 exact decide_eq_decide.mpr (UN mi mj)
def avc{xs:List Int}(hd:xs.Nodup)(h2:2<=xs.length)(h4:xs.length<5):∃π:Array Nat,π=runK (sU (mF xs)) (Ac xs.length)/\Ck xs.length (sU (mF xs)) (Ac xs.length)=true/\π.toList.Perm (eO xs.length)/\
  (π.toList.map λi=>xs.getD i 0).Pairwise (· < ·):=by
 have hl:(mF xs).length=xs.length:=by unfold mF;rw[aB]
 have hm:mF xs∈J7 xs.length xs.length:=by
  have:=Vl (n:=xs.length) (r:=mF xs) λr hr=>by
   obtain⟨x,hx,rfl⟩:=cB.mp hr;have h1:(xs.filter λy=>decide (y<x)).length<xs.length:=by
    rcases qb (xs.filter λy=>decide (y<x)).length xs.length with c|c
    .exact c
    .have:=List.length_filter_eq_length_iff.mp (Nat.le_antisymm (Jq ..) c) x hx;simp at this
   exact h1
  rwa [hl]at this
 have hn:(mF xs).Nodup:=by
  unfold mF;refine yJ.mpr (afR (λ{a b} ha hb hab e=>?_) hd);have:=UN ha hb;have:=UN hb ha;omega
 have hg:=lK.mp (aiC xs.length h4 h2) _ hm;unfold YB at hg;simp only[hn,decide_true,Bool.not_true,Z0,ji,decide_eq_true_eq]at hg;obtain⟨⟨g1,g2⟩,g3⟩:=hg;have hp:=aae.mp g2;refine⟨_,rfl,g1,hp,?_⟩;have h3:((runK (sU (mF xs)) (Ac xs.length)).toList.map λi=>(mF xs).getD i 0).Pairwise (· < ·):=by rw[g3];exact List.pairwise_lt_range
 refine yJ.mpr (afR (λ{a b} ha hb hab=>?_) (yJ.mp h3));have ha':=iQ.mp (hp.mem_iff.mp ha);have hb':=iQ.mp (hp.mem_iff.mp hb);have:=ab5 ha' hb';unfold sU at this;rw[decide_eq_true hab]at this;exact of_decide_eq_true this.symm
def xT(h:Heap)(v:Value)(p:Int×Int):Prop:=∃a o n t u,v = .ref a/\h.get? a=some o/\o.cls = .type "tuple" /\ o.data = .seq #[.int p.1 t,.int p.2 u] n
def xT.keep{h h':Heap}{v:Value}{p:Int×Int}(k:∀b o,h.get? b=some o->o.cls = .type "tuple" -> h'.get? b=some o):xT h v p->xT h' v p:=λ⟨a,o,n,t,u,e,ho,hc,hd⟩=>⟨a,o,n,t,u,e,k a o ho hc,hc,hd⟩
inductive iT(h:Heap):List Value->List (Int×Int)->Prop
 |nil:iT h [] []
 |cons {v:Value} {p:Int×Int} {vs:List Value} {ps:List (Int×Int)}:xT h v p->iT h vs ps->iT h (v::vs) (p::ps)
theorem iT.keep{h h':Heap}(k:∀b o,h.get? b=some o->o.cls = .type "tuple" -> h'.get? b=some o):∀{vs:List Value} {ps:List (Int×Int)},iT h vs ps->iT h' vs ps
 |_,_,.nil=> .nil
 |_,_,.cons a r=> .cons (a.keep k) (r.keep k)
theorem iT.len{h:Heap}:∀{vs:List Value} {ps:List (Int×Int)},iT h vs ps->vs.length=ps.length
 |_,_,.nil=>rfl
 |_,_,.cons _ r=>congrArg (· + 1) r.len
theorem iT.get{h:Heap}:∀{vs:List Value} {ps:List (Int×Int)} {i:Nat},iT h vs ps->i<ps.length->xT h (vs.getD i Value.none) (ps.getD i (0,0))
 |_,_,0,.cons a _,_=>a
 |_,_,i+1,.cons _ r,h=>by simpa using iT.get (i:=i) r (by simpa using h)
theorem iT.tups{h:Heap}:∀{vs:List Value} {ps:List (Int×Int)},iT h vs ps->∃fs,W.KatTups h vs fs/\fs.length=ps.length/\∀v∈fs,∃k t,v=Value.int k t
 |_,_,.nil=>⟨[],.nil,rfl,λv hv=>absurd hv gR⟩
 |_,_,.cons ⟨a,o,n,t,u,e,ho,hc,hd⟩ r=>by
  obtain⟨fs,h1,h2,h3⟩:=r.tups;subst e;exact⟨_::fs,.cons ho hc hd rfl h1,congrArg (· + 1) h2,λv hv=>by
   rcases bH.mp hv with rfl|hv
   .exact⟨_,_,rfl⟩
   .exact h3 v hv⟩
section
variable {prog:Program} {w:World} {A:Around} {E:Value->Shared->Prop} {s:Shared}
def anA{v u:Value}{p q:Int×Int}{C:Bool->Shared->Prop}(hv:xT s.heap v p)(hu:xT s.heap u q)(hpq:p.1=q.1->p.2=q.2)(h:C (decide (p.1<q.1)) s):
  wpAny (model prog w) A (keyLt' (tuples' true) v u) C E s:=by
 obtain⟨a,o,n,t,t2,rfl,ho,hc,hd⟩:=hv;obtain⟨a',o',n',t',t2',rfl,ho',hc',hd'⟩:=hu;refine W.kat_lt ho hd ho' hd' ?_;show W.KatLex prog w A true _ C [(Value.int p.1 t,Value.int q.1 t'),(Value.int p.2 t2,Value.int q.2 t2')] 0 s;refine W.kat_cons (wpAny_eqBool_int ?_);by_cases c:p.1=q.1
 .rw[show(p.1==q.1)=true by simpa using c];refine W.kat_yes (W.kat_cons (wpAny_eqBool_int ?_));rw[show(p.2==q.2)=true by simpa using hpq c];refine W.kat_yes (W.kat_nil ?_);rw[decide_eq_false ⋯]at h;exact h
 .rw[show(p.1==q.1)=false by simpa using c];exact W.kat_no (oneLt_int h)
def atk{a:Addr}{vs:List Value}{ps:List (Int×Int)}{n:Nat}{P:PySem.Fin->Shared->Prop}(ho:s.heap.get? a=some (seqObj "list" vs.toArray n))(hp:iT s.heap vs ps)(hd:(ps.map (·.1)).Nodup)(h4:ps.length<5)
  (h:∀π:List Nat,π.Perm (eO ps.length)->(π.map λi=>(ps.getD i (0,0)).1).Pairwise (· < ·)->P (.done (.ret .none)) { s with heap:=sortedHeap s.heap a vs (π.map λi=>vs.getD i Value.none).toArray }):
  wpAny (model prog w) A (Builtin.«list.sort» ⟨[.ref a],[]⟩) P E s:=by
 have hl:=hp.len;have ha:a<s.heap.objs.size:=cQ ho;rw[list_sort_plain];refine wpAny_bind (listItems_at ho rfl ?_);refine wpAny_bind (listUpdate_at ho rfl ?_ (by rw[fj,sizeLine_eq];omega) (cj _));obtain⟨e1,ho1⟩:∃e1,(s.heap.update a (iJ λ_=>(#[]:Array Value))).get? a=some (seqObj "list" #[] e1):=⟨_,get?_update_seq ho λ_=>#[]⟩;refine wpAny_bind (seqEpoch_at ho1 rfl ?_);refine wpAny_bind (wpAny_newTuple ?_ (by show vs.length<=_;rw[sizeLine_eq];omega));refine wpAny_bind (wpAny_newList ?_ (cj _));refine wpAny_holding ?_;have ho6:(((s.heap.update a (iJ λ_=>#[])).push (seqObj "tuple" vs.toArray 0)).push (seqObj "list" #[] 0)).get? a=some (seqObj "list" #[] e1):=Heap.get?_push_of_some _ (Heap.get?_push_of_some _ ho1);show wpAny (model prog w) A _ P E { s with heap:=((s.heap.update a (iJ λ_=>(#[]:Array Value))).push (seqObj "tuple" vs.toArray 0)).push (seqObj "list" #[] 0) };dsimp only;by_cases h2:vs.toArray.size<2
 .rw[if_pos h2,if_pos h2];refine wpAny_bind (wpAny_pure ?_);rw[StateT.run_pure];refine wpAny_bind (wpAny_pure ?_);dsimp only;have hz:vs.length<2:=by simpa using h2
  have e0:(arrOf (SortSt.mk' general' (vs.toArray.zip vs.toArray) #[] 7 none)).map (·.2)=((eO ps.length).map λi=>vs.getD i Value.none).toArray:=by
   show(vs.toArray.zip vs.toArray).map (·.2)=_;rw[<-hl]
   match vs,hz with
   |[],_=>simp
   |[v],_=>simp[eO,List.range.loop]
  rw[e0];refine wpAny_bind (seqEpoch_at ho6 rfl ?_);refine wpAny_bind (listUpdate_at ho6 rfl ?_ (cj _) (by rw[fj,aB,oO,sizeLine_eq];omega));simp only[bne_self_eq_false,E5,if_false];refine wpAny_pure (h _ (.refl _) ?_);rw[<-hl]
  match vs,hz with
  |[],_=>exact .nil
  |[v],_=>exact .cons (λ_ h=>absurd h gR) .nil
 .rw[if_neg h2,if_neg h2];have hz:2<=vs.length:=by simpa using h2
  have hps:iT (((s.heap.update a (iJ λ_=>(#[]:Array Value))).push (seqObj "tuple" vs.toArray 0)).push (seqObj "list" #[] 0)) vs ps:=hp.keep λb o e c=>by
   have hb:a≠b:=λz=>by
    subst z;rw[e]at ho;cases ho;have c':Value.type "list" = Value.type "tuple" := c;exact absurd c' ∅
   exact Heap.get?_push_of_some _ (Heap.get?_push_of_some _ ((Heap.get?_update_other _ _ hb).trans e))
  obtain⟨fs,t1,t2,t3⟩:=hps.tups;refine wpAny_bind (W.kat_kind (T:= .type "int") t1 ⋯ (λv hv=>?_) rfl ?_)
  .obtain⟨k,t,rfl⟩:=t3 v hv;exact W.Looks.of_pure rfl
  have eb:(Value.type "int" != Value.type "tuple")=true:=∅;rw[eb];obtain⟨π,eπ,hok,hpm,hpw⟩:=avc (xs:=ps.map (·.1)) hd (by rw[aB];omega) (by rw[aB];omega);rw[aB]at eπ hok hpm;refine wpAny_bind (wpAny_mono (W.kat_run (κ:=tuples' true) (ks:=vs) (Q:=λst' s'=>s'={ s with heap:=((s.heap.update a (iJ λ_=>(#[]:Array Value))).push (seqObj "tuple" vs.toArray 0)).push (seqObj "list" #[] 0) }/\arrOf st'=π.map (W.kas_item (vs.toArray.zip vs.toArray))/\failedOf st'=none)
   (G:=λp s'=>p=π/\s'={ s with heap:=((s.heap.update a (iJ λ_=>(#[]:Array Value))).push (seqObj "tuple" vs.toArray 0)).push (seqObj "list" #[] 0) }) rfl hz ⋯ (λp' st' s' a1 a2 a3 a4=>⟨a4.2,by rw[a2,a4.1],a3⟩) ?_) ?_ λ_ _ e=>e)
  .rw[hl];refine ac2 (n:=ps.length) (lt:=sU (mF (ps.map (·.1)))) (λi j C hi hj hC=>?_) _ hok ⟨eπ.symm,rfl⟩;unfold W.kas_ask;have gi:(ps.map (·.1)).getD i 0=(ps.getD i (0,0)).1:=by rw[List.getD_eq_getElem?_getD,List.getElem?_map,List.getD_eq_getElem?_getD,List.getElem?_eq_getElem hi];rfl
   have gj:(ps.map (·.1)).getD j 0=(ps.getD j (0,0)).1:=by rw[List.getD_eq_getElem?_getD,List.getElem?_map,List.getD_eq_getElem?_getD,List.getElem?_eq_getElem hj];rfl
   refine anA (hps.get hi) (hps.get hj) (λe=>?_) ?_
   .have hij:i=j:=by
     rw[<-gi,<-gj]at e;rw[List.getD_eq_getElem?_getD,List.getElem?_eq_getElem (by rw[aB];exact hi),List.getD_eq_getElem?_getD,List.getElem?_eq_getElem (by rw[aB];exact hj)]at e;have abT:=List.pairwise_iff_getElem.mp hd;rcases Nat.lt_trichotomy i j with z|z|z
     .exact absurd e (abT i j (by rw[aB];exact hi) (by rw[aB];exact hj) z)
     .exact z
     .exact absurd e.symm (abT j i (by rw[aB];exact hj) (by rw[aB];exact hi) z)
    rw[hij]
   .rw[ab5 (by rw[aB];exact hi) (by rw[aB];exact hj),gi,gj]at hC;exact hC
  rintro⟨⟨⟩,st'⟩ s' ⟨rfl,har,hf⟩;dsimp only;have hout:=W.kat_snds rfl har;rw[hout];refine wpAny_bind (seqEpoch_at ho6 rfl ?_);refine wpAny_bind (listUpdate_at ho6 rfl ?_ (cj _) (by rw[fj,aB,hpm.length_eq,oO,sizeLine_eq];omega));rw[hf];simp only[bne_self_eq_false,E5,if_false];refine wpAny_pure (h π.toList hpm ?_);have e2:(π.toList.map λi=>(ps.map (·.1)).getD i 0)=π.toList.map λi=>(ps.getD i (0,0)).1:=m7 λi hi=>by
   have:=iQ.mp (hpm.mem_iff.mp hi);rw[List.getD_eq_getElem?_getD,List.getElem?_map,List.getD_eq_getElem?_getD,List.getElem?_eq_getElem this];rfl
  rw[<-e2];exact hpw
def aou{l:Addr}{vs:List Value}{ps:List (Int×Int)}{Q:Value->Shared->Prop}(hl:s.heap.IsList l vs.toArray)(hp:iT s.heap vs ps)(hd:(ps.map (·.1)).Nodup)(h4:ps.length<5)
  (h:∀π:List Nat,π.Perm (eO ps.length)->(π.map λi=>(ps.getD i (0,0)).1).Pairwise (· < ·)->Q (.ref (s.heap.objs.size+1)) { s with heap:=sortedAll s.heap vs (π.map λi=>vs.getD i Value.none).toArray }):
  wpAny (model prog w) A (call (.builtin "sorted") [.ref l]) Q E s:=by
 have hlen:=hp.len;refine aeR kind_sorted plain_sorted entry_sorted (args_sorted1 _) ?_;unfold Builtin.«sorted»;refine wpAny_bind (m:=checkCount "sorted" 1 1 _) (wpAny_pure ?_);refine wpAny_bind (collect_list hl ?_ (by rw[sizeLine_eq];omega));refine wpAny_bind (wpAny_newList ?_ (by rw[sizeLine_eq];omega));have hsz:((s.heap.push (seqObj "list" #[] 0)).update s.heap.objs.size (iJ (·++vs.toArray))).objs.size=s.heap.objs.size+1:=by
  rw[Heap.size_update,size_push']
 have hoL:(((s.heap.push (seqObj "list" #[] 0)).update s.heap.objs.size (iJ (·++vs.toArray))).push (seqObj "list" vs.toArray 0)).get? (s.heap.objs.size+1)=some (seqObj "list" vs.toArray 0):=by
  rw[<-hsz];exact Heap.get?_push_size _ rfl
 show wpAny _ _ _ _ _ { s with heap:=((s.heap.push (seqObj "list" #[] 0)).update s.heap.objs.size (iJ (·++vs.toArray))).push (seqObj "list" vs.toArray 0) };rw[hsz];refine wpAny_bind (wpAny_holding (wpAny_call_entry slot_list_sort ⟨_,hoL,rfl⟩ entry_list_sort (atk hoL (hp.keep λb o e _=>?_) hd h4 λπ a1 a2=>⟨_,rfl,?_⟩) (args_list_sort _)))
 .have hb:=cQ e;exact Heap.get?_push_of_some _ ((Heap.get?_update_other _ _ (nO (fD hb))).trans (Heap.get?_push_of_some _ e))
 .exact wpAny_pure ⟨_,rfl,h π a1 a2⟩
end
section
variable {X:Cx}
inductive oW(H:Hp):List V->List (Int×Int)->Prop
 |nil:oW H [] []
 |cons {t:Addr} {p:Int×Int} {xs:List V} {ps:List (Int×Int)}:H t=some (.tup [.int p.1,.int p.2])->oW H xs ps->oW H (.ref t::xs) (p::ps)
theorem oW.len{H:Hp}:∀{xs:List V} {ps:List (Int×Int)},oW H xs ps->xs.length=ps.length
 |_,_,.nil=>rfl
 |_,_,.cons _ r=>congrArg (· + 1) r.len
def Vm:kO X (.builtin "sorted") (λvs H Q=>∃(l:Addr) (xs:List V) (ps:List (Int×Int)),vs=[.ref l]/\H l=some (.lst xs)/\oW H xs ps/\(ps.map (·.1)).Nodup/\ps.length<5/\
  ∀(l':Addr) (π:List Nat),π.Perm (eO ps.length)->(π.map λi=>(ps.getD i (0,0)).1).Pairwise (· < ·)->H l'=none->Q (.ref l') (upd H l' (.lst (π.map λi=>xs.getD i V.non)))):=by
 intro pins s σ H vs us Q I r h;obtain⟨l,xs,ps,rfl,hl,hp,hd,h4,q⟩:=h;obtain⟨u,rfl,ru⟩:=r.one;cases ru;obtain⟨z,its,nn,rv,hlen,eo⟩:=I.rN hl;have hil:s.heap.IsList l its.toArray:=⟨_,eo,rfl,_,rfl⟩;have hps:∀{xs:List V} {ps:List (Int×Int)} {its:List Value},oW H xs ps->Vals xs its->iT s.heap its ps:=by
  intro xs ps its hp;induction hp generalizing its with
  |nil=>intro rv;cases rv;exact .nil
  |cons ht _ ih=>
   intro rv;cases rv with
   |cons r rr=>
    cases r;obtain⟨awR,Qh,⟨o,e,c,n,d⟩,_⟩:=I.tuple (aA.of ht);refine .cons ?_ (ih rr);cases Qh with
    |cons r1 MH=>
     obtain⟨t1,rfl⟩:=r1;cases MH with
     |cons r2 Rt=>
      obtain⟨t2,rfl⟩:=r2;cases Rt;exact⟨_,o,n,t1,t2,rfl,e,c,d⟩
 refine aou hil (hps hp rv) hd h4 λπ a1 a2=>?_;obtain⟨e,he⟩:=sortedAll_at s.heap its (π.map λi=>its.getD i Value.none).toArray;have hlx:=hp.len;have hli:=rv.length;have hin:∀i∈π,i<ps.length:=λi hi=>iQ.mp (a1.mem_iff.mp hi);have hv:Vals (π.map λi=>xs.getD i V.non) (π.map λi=>its.getD i Value.none):=by
  clear he e a1 a2;induction π with
  |nil=>exact .nil
  |cons i π ih=>
   have hi:=hin i (bN ..);have ex:xs[i]?=some (xs.getD i V.non):=by rw[List.getD_eq_getElem?_getD,List.getElem?_eq_getElem ⋯];rfl
   obtain⟨u,hu,ru⟩:=rv.get ex;refine .cons ?_ (ih λj hj=>hin j (cO _ hj));have eu:its.getD i Value.none=u:=by rw[List.getD_eq_getElem?_getD,hu];rfl
   show RelV (xs.getD i V.non) (its.getD i Value.none);rw[eu];exact ru
 have hz:(π.map λi=>xs.getD i V.non).length<=sizeLine:=by rw[aB,a1.length_eq,oO,sizeLine_eq];omega
 exact⟨.ref _,_,I.laid (t':=s.toks) (λb o e=>sortedAll_old e) (Gq _) (show dB X.prog X.w _ _ _ (.lst (π.map λi=>xs.getD i V.non))from⟨hz,_,e,hv,he⟩),rfl,q _ π a1 a2 (I.hok.fresh (Gq _))⟩
def ae8:bootBuiltins "sorted" = some (.builtin "sorted"):=by decide +kernel
end
section
variable {X:Cx} {pins:List (Addr×Obj)} {σ:St} {H:Hp} {s:Shared}
def Inv.swap{a:Addr}{u u':HO}(I:Inv X pins σ H s)(e:H a=some u)(h1:∀xs,u≠ .tup xs)(h2:∀x,u≠ .own x)(h3:∀ps,u≠ .rW ps)(hx:∀o v,X.H₀ a≠some (.dw o v))(new:dB X.prog X.w (upd H a u') s.heap a u'):Inv X pins σ (upd H a u') s:=by
 have Fx:∀b,H b=none->(upd H a u') b=none:=λb n=>by rw[bK λz=>by rw[z,e]at n;cases n];exact n
 have aaE:∀b xs,H b=some (.tup xs)->(upd H a u') b=some (.tup xs):=λb xs q=>by rw[bK λz=>by rw[z,e]at q;cases q;exact h1 _ rfl];exact q
 refine⟨I.ok,I.os,I.bare,⟨I.base.keep,I.base.slot,λb o q n hb=>Fx b (I.base.free b o q n hb),I.base.there,λb xs q=>aaE b xs (I.base.tups b xs q),λb o v q=>?_,λb ps q=>?_⟩,I.loc,I.cell,Fx _ I.free,λx c q=>Fx _ (I.pG x c q),λp hp=>?_,λb v q=>?_,I.len⟩
 .rw[bK λz=>hx o v (by rw[<-z];exact q)];exact I.base.lH b o v q
 .obtain⟨more,q'⟩:=I.base.nW b ps q;exact⟨more,by rw[bK λz=>by rw[z,e]at q';cases q';exact h3 _ rfl];exact q'⟩
 .obtain⟨p1,p2,p3⟩:=I.pin p hp;exact⟨p1,Fx _ p2,p3⟩
 .by_cases z:b=a
  .subst z;rw[aC]at q;cases q;exact new
  .rw[bK z]at q;exact(I.hok b v q).stay (λ_ _ _ r=>r) (λc r=>by rw[bK λz=>by rw[z,e]at r;cases r;exact h2 _ rfl];exact r) aaE
def dB.amI{P:Program}{w:World}{H':Hp}{h:Heap}{a:Addr}{kvs:List (Key×V)}(x:dB P w H h a (.dK kvs)):dB P w H' h a (.dK kvs):=x
def tFz(t:TE):TE:=λσ H Q=>∃(a:Addr) (kvs:List (Key×V)),H a=some (.dK kvs)/\∀o,t σ (upd H a (.dw o (.dK kvs))) λv H2=>H2 a=some (.dw o (.dK kvs))/\Q v (upd H2 a (.dK kvs))
def Ru{e:Expr}{t:TE}(h:PE X e t):PE X e (tFz t):=by
 intro pins s σ H Q I q;obtain⟨a,kvs,hA,q⟩:=q;obtain⟨z,y,vs,rel,o,es,ep,ho,rest⟩:=(show dB X.prog X.w H s.heap a (.dK kvs)from I.hok a _ hA);have nf:∀o v,X.H₀ a≠some (.dw o v):=λo v c=>by
  have:=I.base.lH a o v c;rw[hA]at this;cases this
 have I1:Inv X pins σ (upd H a (.dw o (.dK kvs))) s:=I.swap hA (λ_ c=>by cases c) (λ_ c=>by cases c) (λ_ c=>by cases c) nf ⟨ho,z,y,vs,rel,o,es,ep,ho,rest⟩;refine wpAny_mono (h pins s σ _ _ I1 (q o)) (λu s' hs=>?_) λ_ _ x=>x;obtain⟨v,H2,I2,r,hf,q2⟩:=hs;obtain⟨_,o2⟩:=(show dB X.prog X.w H2 s'.heap a (.dw o (.dK kvs))from I2.hok a _ hf);exact⟨v,_,I2.swap hf (λ_ c=>by cases c) (λ_ c=>by cases c) (λ_ c=>by cases c) nf (dB.amI o2),r,q2⟩
def Tp(a:Addr)(o:Obj)(kvs:List (Key×V)):It:=
 ⟨λi H=>H a=some (.dw o (.dK kvs))/\i<kvs.length,λi H x H'=>H'=H/\(kvs[i]?.map λkv=>kV kv.1)=some x,λi H=>H a=some (.dw o (.dK kvs))/\kvs.length<=i⟩
def am3{P:Program}{w:World}{k:Key}{v:Value}(h:(eE P w).is k v=true):RelV (kV k) v:=by
 rcases qX h with⟨i,t,rfl,rfl⟩|⟨x,t,rfl,rfl⟩
 .exact⟨t,rfl⟩
 .exact⟨t,rfl⟩
theorem YS:∀{kvs:List (Key×V)} {vs:List (Key×Value)} {i:Nat} {p:Key×V} {q:Key×Value},KV kvs vs->kvs[i]?=some p->vs[i]?=some q->p.1=q.1
 |_,_,0,_,_,.cons r _,h1,h2=>by cases h1;cases h2;exact r.1
 |_,_,i+1,_,_,.cons _ r,h1,h2=>YS (i:=i) r (by simpa using h1) (by simpa using h2)
def awp{P:Program}{w:World}{K:aF}{tg:Expr}(a it:Addr)(o:Obj)(kvs:List (Key×V)){es:Array DictEntry}{ep:Nat}(hd:o.data = .dict es ep):Turn P w K tg (Tp a o kvs) [it] it (λi h=>i<=kvs.length/\h.IsKeyIter it a i kvs.length ep) where
 mem:=by simp
 obj:=λi h st b hb=>by
  have e:b=it:=by simpa using hb
  subst e;obtain⟨_,o,e,c,d⟩:=st;exact⟨o,e,λv z=>by rw[d]at z;cases z⟩
 keep:=λi h h' st k=>by
  obtain⟨hi,o,e,c,d⟩:=st;exact⟨hi,o,k it (by simp) o e,c,d⟩
 item:=by
  intro X hP hw hK hc i pins s σ H E I hf st hg;subst hP hw hK;obtain⟨hA,hi⟩:=hg;obtain⟨ho,z,y,vs,rel,o',es',ep',ho',hex,hd',hk,hp,hn⟩:=(show dB X.prog X.w H s.heap a (.dw o (.dK kvs))from I.hok a _ hA);rw[ho]at ho';cases ho';rw[hd]at hd';cases hd';have hl:kvs.length=vs.length:=rel.length;obtain⟨f0,f1,f2,f3,f4,f5⟩:=hf it (by simp);have hx:vs[i]?=some (vs[i]'⋯):=List.getElem?_eq_getElem _;have hkx:kvs[i]?=some kvs[i]:=List.getElem?_eq_getElem hi;obtain⟨_,stI⟩:=st;rw[hl]at stI;refine wpAny_pyNext_dict_item (knd:=eE X.prog X.w) stI ⟨o,es,ho,hex,hd,hk,hp,hn⟩ hx λkey h' hkey st' sb=>?_;have I1:Inv X pins σ H { s with heap:=h' }:=I.turned (t':=s.toks) (λb o hb e=>(sb.2 b hb).trans e) f0 f1 f3 f4 f5;obtain⟨oo,e,c,d⟩:=id st';have ek:kvs[i].1=(vs[i]'⋯).1:=YS rel hkx hx;exact⟨key,rfl,wk (s:={ s with heap:=h' }) e c d ∅ ⟨kV kvs[i].1,H,I1,by rw[ek];exact am3 hkey,⟨rfl,by rw[hkx];rfl⟩,⟨hi,by rw[hl];exact st'⟩,λb hb=>(hf b hb).1⟩⟩
 done:=by
  intro X hP hw hK hc i pins s σ H E I hf st hg;subst hP hw hK;obtain⟨hA,hi⟩:=hg;obtain⟨ho,z,y,vs,rel,o',es',ep',ho',hex,hd',hk,hp,hn⟩:=(show dB X.prog X.w H s.heap a (.dw o (.dK kvs))from I.hok a _ hA);rw[ho]at ho';cases ho';rw[hd]at hd';cases hd';have hl:kvs.length=vs.length:=rel.length;obtain⟨f0,f1,f2,f3,f4,f5⟩:=hf it (by simp);obtain⟨_,stI⟩:=st;rw[hl]at stI;exact wpAny_pyNext_dict_end (knd:=eE X.prog X.w) (I.ok.hd hc) stI ⟨o,es,ho,hex,hd,hk,hp,hn⟩ (List.getElem?_eq_none ⋯) λh' eb=>⟨rfl,I.turned (t':=s.toks) (λb o hb e=>eb b o hb e) f0 f1 f3 f4 f5⟩
 self:=λ_ _ _ _ _ st h=>wpAny_pyIter_keyiter st.2 h
def agy(tl:TE):TI:=λσ H R=>tl σ H λx H1=>∃(a:Addr) (o:Obj) (kvs:List (Key×V)),x = .ref a/\H1 a=some (.dw o (.dK kvs))/\R (Tp a o kvs) H1
def PX{tg l:Expr}{tl:TE}(hl:PE X l tl):PI X tg l (agy tl):=by
 intro pins s σ H R I h;refine wpAny_mono (hl pins s σ H _ I h) (λu s1 hs=>?_) λ_ _ x=>x;obtain⟨v,H1,I1,r,a,o,kvs,rfl,hA,q⟩:=hs;cases r;obtain⟨ho,z,y,vs,rel,o',es,ep,ho',hex,hd,hk,hp,hn⟩:=(show dB X.prog X.w H1 s1.heap a (.dw o (.dK kvs))from I1.hok a _ hA);rw[ho]at ho';cases ho';have hlen:kvs.length=vs.length:=rel.length;refine wpAny_pyIter_dict (knd:=eE X.prog X.w) y ⟨o,es,ho,hex,hd,hk,hp,hn⟩ ?_;have I2:Inv X pins σ H1 { s1 with heap:=s1.heap.push { cls:= .type "dict_keyiterator",data:= .fields #[.ref a,.int 0 0,.int vs.length 0,.int ep 0] } }:=I1.kept (t':=s1.toks) λb o e=>Heap.get?_push_of_some _ e;refine⟨_,[s1.heap.objs.size],_,_,H1,rfl,I2,awp a _ o kvs hd,⟨cj _,_,Heap.get?_push_size _ rfl,rfl,by rw[hlen];rfl⟩,λc hc=>?_,q⟩;have e:c=s1.heap.objs.size:=by simpa using hc
 subst e;exact I1.sS (aJ _) (I1.hok.fresh (aJ _))
def N6{a:Addr}{o:Obj}{kvs:List (Key×V)}{H1:Hp}(h:H1 a=some (.dw o (.dK kvs))):rR (Tp a o kvs) (kvs.map λkv=>kV kv.1) H1:=by
 refine⟨λi H' g hi=>?_,λi H' x H2 g y=>⟨y.1,λhi=>?_⟩,λi H' g hi=>?_⟩
 .rw[aB]at hi;exact⟨g _ _ h,hi⟩
 .rw[List.getElem?_map];exact y.2
 .rw[aB]at hi;exact⟨g _ _ h,hi⟩
end
def ajK:typeLookup (.type "list") "keys" = pure none:=am_miss_of_fast (by kernel_rfl)
def aal:entryFor table "dict.update.loop" = some Builtin.«dict.update.loop»:=entryFor_of_tree (by kernel_rfl)
def Ie:plainId "dict.update.loop" = true:=by decide +kernel
section
variable {prog:Program} {w:World} {A:Around} {E:Value->Shared->Prop} {s:Shared}
def at8{a:Addr}{xs:Array Value}{k:Nat}{sl:Array (Option Value)}{Q:Option Value->Shared->Prop}(hx:s.heap.get? a=some { cls:= .type "list",dict:=none,data:= .seq xs k,slots:=sl })(hA:A.handled=none)
  (h:∀h' tk,(∀b o,s.heap.get? b=some o->h'.get? b=some o)->Q none { s with heap:=h',toks:=tk }):wpAny (model prog w) A (getAttr? (.ref a) "keys") Q E s:=by
 obtain⟨hp,g,d,tk,os⟩:=s;have hT:∀tk',(⟨hp,g,d,tk',os⟩:Shared).TypeIs (.ref a) "list" := λ_=>⟨_,hx,rfl⟩;have f1:=sub_AttributeError;have f3:=Uh.lookup;have f4:=Uh.bind (.ref a);have f5:=am_list_getattr_none;unfold getAttr? getAttrBy? getAttrBy
 repeat (any_goals (first|assumption|exact hT _|((with_reducible show wpAny _ _ (call (Value.builtin "list.__getattribute__") _ _) _ _ _);refine call_meets Uh (hT _) am_entry_list_getattribute (F.args_list_getattribute_2 _ _) (meets_getattribute_miss_list a xs k sl "keys" _ ajK (by decide +kernel)) ⟨hx,hA,λh' tk' e hx'=>?_⟩)|wp_step))
 obtain⟨t',u',he⟩:=hx'.there;show wpAny _ _ (getattributeRaised _ _ _ _ _ _ _) _ _ _;unfold getattributeRaised
 repeat (any_goals (first|assumption|wp_step))
 exact h _ _ hx'.keeps
def Im(h:Heap)(its:Array Value)(M:List (Value×Value)):Prop:=its.size=M.length/\∀i,i<M.length->∃t o n,its[i]?=some (.ref t)/\h.get? t=some o/\o.cls = .type "tuple" /\ o.data = .seq #[(M.getD i (.none,.none)).1,(M.getD i (.none,.none)).2] n
theorem Carries.at{M:List (Value×Value)}:∀{rs:List (Key×Value)},Carries (eE prog w) M rs->∀i,i<M.length->∃k,rs[i]?=some (k,(M.getD i (.none,.none)).2)/\(eE prog w).is k (M.getD i (.none,.none)).1=true:=by
 induction M with
 |nil=>intro rs _ i hi;exact absurd hi (jP _)
 |cons x M ih=>
  intro rs h i hi;cases rs with
  |nil=>exact h.elim
  |cons r rs=>
   obtain⟨h1,h2,h3⟩:=h;cases i with
   |zero=>exact⟨r.1,by rw[List.getElem?_cons_zero,List.getD_cons_zero,h2],h1⟩
   |succ i=>exact ih h3 i (by rw[fB]at hi;omega)
def avI(rs:List (Key×Value))(acc:List (Key×Value))(x:Key×Value):merged acc (rs++[x])=stored (merged acc rs) x.1 x.2:=by
 unfold merged;rw[List.foldl_append];rfl
theorem Yi:∀(rs acc:List (Key×Value)),(merged acc rs).length<=acc.length+rs.length
 |[],acc=>aJ _
 |x::rs,acc=>by
  have h1:=Yi rs (stored acc x.1 x.2);have h2:(stored acc x.1 x.2).length<=acc.length+1:=by
   unfold stored;split
   .rw[aB];omega
   .rw[fO];exact aJ _
  show(merged (stored acc x.1 x.2) rs).length<=_;rw[fB];omega
def akC{R:Result->Shared->Prop}{I l d:Addr}{its:Array Value}{M:List (Value×Value)}{rs:List (Key×Value)}(hh:A.in1.handled=none)(hne:l≠I)(hdI:d≠I)(hdl:d≠l)(hc:Carries (eE prog w) M rs)(hl:M.length<=1000):
  ∀(k i:Nat) (tk:Tok) (s:Shared),M.length-i=k->i<=M.length->Im s.heap its M->s.heap.IsListIter I l i->s.heap.IsList l its->s.heap.DictOf (eE prog w) d (merged [] (rs.take i))->
   (∀h' tk',(∀b o,b≠d->b≠I->s.heap.get? b=some o->h'.get? b=some o)->h'.DictOf (eE prog w) d (merged [] rs)->R (.ok (.ret .none)) { s with heap:=h',toks:=tk' })->
   codeAny (model prog w) A (.builtin "dict.update.loop" ⟨[.ref d,.ref I,.int (i:Int) tk,.none],[]⟩) R s:=by
 intro k;have W:=Walks.list (prog:=prog) (w:=w) (A:=A.in1) hh I l hne its;have lr:rs.length=M.length:=hc.length;induction k with
 |zero=>
  intro i tk s hk hi hp hit hls hd hR;have hin:i=M.length:=⋯;have hsz:=hp.1;refine codeAny_builtin aal ?_;rw[yC Ie _];show wpAny _ A.in1 (pyNext (.ref I)>>=_) _ _ s;refine wpAny_bind (W.done s _ _ (by rw[hsz,<-hin];exact⟨hit,hls⟩) λh' tk' hm=>?_);show wpAny _ A.in1 (Builtin.Dict.addKeywords d []>>=_) _ _ _;rw[hin,<-lr,ni]at hd;refine wpAny_bind (wpAny_pure (wpAny_pure (hR h' tk' (λb o _ hb e=>hm b o (λz=>hb (dj.mp z)) e) ?_)));obtain⟨o,es,ep,ho,r⟩:=hd;exact⟨o,es,ep,hm d o (λz=>hdI (dj.mp z)) ho,r⟩
 |succ k ih=>
  intro i tk s hk hi hp hit hls hd hR;have hlt:i<M.length:=⋯;have hsz:=hp.1;refine codeAny_builtin aal ?_;rw[yC Ie _];show wpAny _ A.in1 (pyNext (.ref I)>>=_) _ _ s;refine wpAny_bind (W.item i s _ _ ⋯ ⟨hit,hls⟩ λv h' tk' hP hst hm=>?_);obtain⟨t,ot,n,e1,e2,e3,e4⟩:=hp.2 i hlt;rw[e1]at hP;cases hP;obtain⟨kk,er,hkk⟩:=Carries.at hc i hlt;have hkeep:∀b o,b≠I->s.heap.get? b=some o->h'.get? b=some o:=λb o hb e=>hm b o (λz=>hb (dj.mp z)) e;have nI:∀(t':Addr) (o':Obj),s.heap.get? t'=some o'->o'.cls = .type "tuple" -> t'≠I:=λt' o' q1 q2 z=>by
   obtain⟨o,ho,hc',_⟩:=hit;rw[<-z,q1]at ho;cases ho;rw[q2]at hc';injection hc' with z;exact absurd z ∅
  have nD:∀(t':Addr) (o':Obj),s.heap.get? t'=some o'->o'.cls = .type "tuple" -> t'≠d:=λt' o' q1 q2 z=>by
   obtain⟨o,es,ep,ho,hE,r⟩:=hd;rw[<-z,q1]at ho;cases ho;have hE1:=hE.1;rw[q2]at hE1;injection hE1 with z;exact absurd z ∅
  have ht:=hkeep t _ (nI t _ e2 e3) e2;have hd':h'.DictOf (eE prog w) d (merged [] (rs.take i)):=by
   obtain⟨o,es,ep,ho,r⟩:=hd;exact⟨o,es,ep,hkeep d o hdI ho,r⟩
  refine wpAny_bind (wpAny_holding (wpAny_bind (wpAny_tryCatch ?_)));unfold Builtin.Dict.pairItems;refine wpAny_bind (wpAny_typeOf (T:= "tuple") ⟨_,ht,e3⟩ ?_);rw[if_pos ∅];refine wpAny_bind (wpAny_seqItems ht e4 (wpAny_pure ?_));show wpAny _ _ (holding [(M.getD i (.none,.none)).1,(M.getD i (.none,.none)).2] (dictSet d (M.getD i (.none,.none)).1 (M.getD i (.none,.none)).2)) _ _ _;have lm:(merged [] (rs.take i)).length<=sizeLine:=by
   have h1:=Yi (rs.take i) [];rw[jO,OB]at h1;rw[sizeLine_eq];omega
  refine wpAny_holding (wpAny_dictSet_pairs hkk hd' (λh2 hd2 hs2=>?_) lm);have et:rs.take (i+1)=rs.take i++[(kk,(M.getD i (.none,.none)).2)]:=by rw[qU,er];rfl
  rw[<-avI (rs.take i) [] (kk,(M.getD i (.none,.none)).2),<-et]at hd2;have hk2:∀b o,b≠d->h'.get? b=some o->h2.get? b=some o:=λb o hb e=>(hs2.2 b hb).trans e;have hp2:Im h2 its M:=⟨hsz,λj hj=>by
   obtain⟨t',o',n',q1,q2,q3,q4⟩:=hp.2 j hj;exact⟨t',o',n',q1,hk2 _ _ (nD _ _ q2 q3) (hkeep _ _ (nI _ _ q2 q3) q2),q3,q4⟩⟩
  refine wpAny_pure ⟨plainId_quiet Ie _,?_⟩;refine ih (i+1) 0 _ ⋯ hlt hp2 (hst.1.at λo e=>hk2 _ _ hdI.symm e) (hst.2.at λo e=>hk2 _ _ hdl.symm e) hd2 λh3 tk3 hk3 Mu=>?_;exact hR h3 tk3 (λb o h1 h2' e=>hk3 b o h1 h2' (hk2 b o h1 (hkeep b o h2' e))) Mu
set_option maxRecDepth 100000 in
def auY{l:Addr}{its:Array Value}{n:Nat}{M:List (Value×Value)}{rs:List (Key×Value)}{Q:Value->Shared->Prop}(hh:A.handled=none)(ho:s.heap.get? l=some { cls:= .type "list",data:= .seq its n })(hp:Im s.heap its M)
  (hc:Carries (eE prog w) M rs) (hM:M.length<=1000)
  (h:∀h' tk,(∀b o,b<s.heap.objs.size->s.heap.get? b=some o->h'.get? b=some o)->h'.DictOf (eE prog w) s.heap.objs.size (merged [] rs)->Q (.ref s.heap.objs.size) { s with heap:=h',toks:=tk }):
  wpAny (model prog w) A (call (.type "dict") [.ref l]) Q E s:=by
 refine callType_codes (Q₁:=λobj s₁=>obj = .ref s.heap.objs.size/\s₁={ s with heap:=s.heap.push { cls:= .type "dict",data:= .dict #[] } }) F.kt_called_dict (F.kt_typeCall_dict_1 _) F.entry_dict_init (kt_code_dict_new _ ⟨rfl,rfl⟩) ?_;rintro obj s₁ ⟨rfl,rfl⟩;have hnew:(s.heap.push { cls:= .type "dict",data:= .dict #[] }).DictOf (eE prog w) s.heap.objs.size []:=acf s.heap;have hl1:(s.heap.push { cls:= .type "dict",data:= .dict #[] }).get? l=some { cls:= .type "list",data:= .seq its n }:=Heap.get?_push_of_some _ ho;refine⟨hnew.typeIs,F.args_dict_init_2 _ _,?_⟩;unfold Builtin.«dict.__init__»;refine wpAny_bind ?_;unfold Builtin.Dict.selfAndRest;refine wpAny_bind (wpAny_notOrdered_dict hnew.typeIs ?_);show wpAny _ _ (pure (s.heap.objs.size,[Value.ref l])) _ _ _;refine wpAny_pure ?_;show wpAny _ _ (Builtin.Dict.updateFrom "dict.__init__" s.heap.objs.size (.ref l) [] .none) _ _ _;unfold Builtin.Dict.updateFrom;refine wpAny_bind (wpAny_typeOf (T:= "list") ⟨_,hl1,rfl⟩ ?_);rw[if_pos ∅];refine wpAny_bind (at8 (k:=n) (sl:=#[]) (xs:=its) hl1 (by simp[hh]) λh' tk hk=>?_);show wpAny _ _ (rule _>>=_) _ _ _;refine wpAny_bind (wpAny_rule ?_);have hl2:=hk _ _ hl1;have hd2:h'.DictOf (eE prog w) s.heap.objs.size []:=by
  obtain⟨o,es,ep,ho,r⟩:=hnew;exact⟨o,es,ep,hk _ _ ho,r⟩
 have hdI:s.heap.objs.size<h'.objs.size:=by
  obtain⟨o,es,ep,ho,r⟩:=hd2;exact cQ ho
 have hlS:l<s.heap.objs.size:=cQ ho;have hL2:h'.IsList l its:=⟨_,hl2,rfl,n,rfl⟩;refine wpAny_bind (wpAny_pyIter_list hL2 (wpAny_pure ⟨plainId_quiet Ie _,?_⟩));refine akC (I:=h'.objs.size) (l:=l) (its:=its) (M:=M) (rs:=rs) (by simp[hh]) (fD (Bl hlS hdI)) (fD hdI) (yV hlS) hc hM _ 0 0 _ rfl (cj _) ⟨hp.1,λi hi=>?_⟩ ⟨_,Heap.get?_push_size _ rfl,rfl,rfl⟩ (hL2.push _) (hd2.push _) λh3 tk3 hk3 Mu=>?_
 .obtain⟨t,o,m,q1,q2,q3,q4⟩:=hp.2 i hi;exact⟨t,o,m,q1,Heap.get?_push_of_some _ (hk _ _ (Heap.get?_push_of_some _ q2)),q3,q4⟩
 .refine⟨rfl,h h3 tk3 (λb o hb e=>?_) Mu⟩;exact hk3 b o (fD hb) (fD (Bl hb hdI)) (Heap.get?_push_of_some _ (hk _ _ (Heap.get?_push_of_some _ e)))
end
def arV:bootBuiltins "dict" = some (.type "dict"):=by decide +kernel
theorem iT.dp{h:Heap}:∀{vs:List Value} {ps:List (Int×Int)},iT h vs ps->∃M:List (Value×Value),Im h vs.toArray M/\VV ((ps.map λp=>((.inl p.1:Key),V.int p.2)).map λkv=>(kV kv.1,kv.2)) M
 |_,_,.nil=>⟨[],⟨rfl,λi hi=>absurd hi (jP _)⟩,.nil⟩
 |_,_,.cons a r=>by
  obtain⟨M,⟨h1,h2⟩,h3⟩:=iT.dp r;obtain⟨t,o,n,t1,t2,rfl,e,c,d⟩:=a;refine⟨(.int _ t1,.int _ t2)::M,⟨by simpa using h1,λi hi=>?_⟩,.cons ⟨⟨t1,rfl⟩,⟨t2,rfl⟩⟩ h3⟩;cases i with
  |zero=>exact⟨t,o,n,by simp,e,c,d⟩
  |succ i=>
   obtain⟨t',o',n',q1,q2⟩:=h2 i (by rw[fB]at hi;omega);exact⟨t',o',n',by simpa using q1,q2⟩
section
variable {X:Cx}
def oW.at{pins:List (Addr×Obj)}{σ:St}{H:Hp}{s:Shared}(I:Inv X pins σ H s):∀{xs:List V} {ps:List (Int×Int)} {its:List Value},oW H xs ps->Vals xs its->iT s.heap its ps:=by
 intro xs ps its hp;induction hp generalizing its with
 |nil=>intro rv;cases rv;exact .nil
 |cons ht _ ih=>
  intro rv;cases rv with
  |cons r rr=>
   cases r;obtain⟨awR,Qh,⟨o,e,c,n,d⟩,_⟩:=I.tuple (aA.of ht);refine .cons ?_ (ih rr);cases Qh with
   |cons r1 MH=>
    obtain⟨t1,rfl⟩:=r1;cases MH with
    |cons r2 Rt=>
     obtain⟨t2,rfl⟩:=r2;cases Rt;exact⟨_,o,n,t1,t2,rfl,e,c,d⟩
def awO(te:TA):TE:=λσ H Q=>te σ H λvs H1=>∃(l:Addr) (xs:List V) (ps:List (Int×Int)),vs=[.ref l]/\H1 l=some (.lst xs)/\oW H1 xs ps/\(ps.map (·.1)).Nodup/\ps.length<=1000/\
 ∀d,H1 d=none->Q (.ref d) (upd H1 d (.dK (ps.map λp=>(.inl p.1,.int p.2))))
def aso{a:Expr}{ta:TA}{p pos:Pos}(hc:X.calm=true)(hg:Gl X "dict")(hm:X.mg "dict" = none)(ha:PA X [a] ta)
  (hs2:starEach [a] X.env=[(false,eval a X.env)]:=by rfl):PE X (.Call (.Name "dict" p) [a] [] pos) (awO ta):=by
 intro pins s σ H Q I h;refine Call_ (oE I hg hm arV (rY (aU (ha pos pins s σ H _ I h) λus s1 ⟨vs,H1,I1,r1,q1⟩=>?_) hs2 rfl));obtain⟨l,xs,ps,e,hl,hp,hnd,hz,q⟩:=q1;subst e;cases r1 with
 |cons r rr=>
  cases rr;cases r;obtain⟨z,its,nn,rv,hlen,eo⟩:=I1.rN hl;have hh:=I1.ok.hd hc;obtain⟨M,hM,hV⟩:=(oW.at I1 hp rv).dp;obtain⟨rs,hC,LK⟩:=K7 (P:=X.prog) (w:=X.w) hV;have lr:=hC.length;have lk:rs.length=ps.length:=by rw[<-LK.length,aB]
  have hnr:(rs.map (·.1)).Nodup:=by
   have:∀{kvs:List (Key×V)} {vs:List (Key×Value)},KV kvs vs->vs.map (·.1)=kvs.map (·.1):=by
    intro kvs vs h;induction h with
    |nil=>rfl
    |cons a _ ih=>rw[cD,cD,ih,a.1]
   rw[this LK,cH];have e:(ps.map ((λx:Key×V=>x.1)∘λp:Int×Int=>((.inl p.1:Key),V.int p.2)))=(ps.map (·.1)).map (λk:Int=>(.inl k:Key)):=by rw[cH];rfl
   rw[e];exact anl _ (λa b h z=>h (by cases z;rfl)) hnd
  refine auY hh eo hM hC ⋯ λh2 tk2 Qi dd=>?_;rw[merged_nil_of_nodup rs hnr]at dd;refine⟨.ref _,_,I1.laid (t':=tk2) (λb o e=>Qi b o (cQ e) e) (aJ _) (SW (by rw[aB,sizeLine_eq];omega) (beq_eq_false_iff_ne.mpr (nO (fD I1.big))) LK dd),rfl,q _ (I1.hok.fresh (aJ _))⟩
end
def uO(led:Bool)(n:Nat):Bool:=gW led [(n:Int)+5]&&gW led [-((n:Int)+5)]&&[1, 2, 3, 4].all λc=>gW led [(n:Int)+5, c]&&gW led [c, -((n:Int)+5)]
def gf0:∀led, (uT 0 199).all (uO led)=true:=by decide +kernel
def gf1:∀led, (uT 199 199).all (uO led)=true:=by decide +kernel
def gf2:∀led, (uT 398 199).all (uO led)=true:=by decide +kernel
def gf3:∀led, (uT 597 199).all (uO led)=true:=by decide +kernel
def gf4:∀led, (uT 796 199).all (uO led)=true:=by decide +kernel
def as5(led:Bool){n:Nat}(hn:n<995):uO led n=true:=by
 have k:∀s, (uT s 199).all (uO led)=true->s<=n->n<s+199->uO led n=true:=λs h a b=>lK.mp h n (List.mem_range'_1.mpr ⟨a, b⟩);rcases qb n 199 with h|h
 .exact k _ (gf0 led) (cj _) ⋯
 rcases qb n 398 with h1|h1
 .exact k _ (gf1 led) h ⋯
 rcases qb n 597 with h2|h2
 .exact k _ (gf2 led) h1 ⋯
 rcases qb n 796 with h3|h3
 .exact k _ (gf3 led) h2 ⋯
 exact k _ (gf4 led) h3 ⋯
end L2
namespace Rm
def tk(b n:Int):Int:=if b=0 then n else n%b
def bw(n:Int):tk 0 n=n:=if_pos rfl
def jJ{b:Int}(h:b≠0)(n:Int):tk b n=n%b:=if_neg h
def gJ(b n:Int):tk b (tk b n)=tk b n:=by
 unfold tk;split
 .rfl
 .exact nq _ (nM b)
def jQ(b x y:Int):tk b (tk b x+y)=tk b (x+y):=by
 unfold tk;split
 .rfl
 .exact Int.emod_add_emod ..
def yF(b x y:Int):tk b (x+tk b y)=tk b (x+y):=by
 rw[oh,jQ,oh]
def dR(b x y:Int):tk b (x*tk b y)=tk b (x*y):=by
 unfold tk;split
 .rfl
 .rw[m9,nq _ (nM b),<-m9]
def jE(b x y:Int):tk b (tk b x*y)=tk b (x*y):=by
 rw[bR,dR,bR]
def jA{b x x' y y':Int}(h:tk b x=tk b x')(h':tk b y=tk b y'):tk b (x+y)=tk b (x'+y'):=by
 rw[<-jQ,<-yF,h,h',yF,jQ]
def S(rule:List Int)(f:Nat->Int)(n:Nat):Nat->Int
 |0=>0
 |m+1=>S rule f n m+rule.getD m 0*f (n-1-m)
theorem KH{rule:List Int}{f g:Nat->Int}{n:Nat}:∀{m:Nat},(∀k,k<m->f (n-1-k)=g (n-1-k))->S rule f n m=S rule g n m
 |0,_=>rfl
 |m+1,h=>by
  unfold S;rw[KH λk hk=>h k ⋯,h m ⋯]
theorem getD_map{f:Int->Int}(h0:f 0=0):∀(l:List Int) (k:Nat),(l.map f).getD k 0=f (l.getD k 0)
 |[],k=>by simp[h0]
 |x::r,0=>by simp
 |x::r,k+1=>by
  have:=getD_map h0 r k;simpa using this
def row(b:Int)(rule starts:List Int):Nat->List Int
 |0=>[]
 |n+1=>row b rule starts n++[if n<starts.length then starts.getD n 0 else tk b (S rule (λi=>(row b rule starts n).getD i 0) n rule.length)]
theorem jY(b:Int)(rule starts:List Int):∀n,(row b rule starts n).length=n
 |0=>rfl
 |n+1=>by simp[row,jY b rule starts n]
def at_(b:Int)(rule starts:List Int)(n:Nat):Int:=(row b rule starts (n+1)).getD n 0
theorem zH(b:Int)(rule starts:List Int):∀{n i:Nat},i<n->(row b rule starts n).getD i 0=at_ b rule starts i
 |n+1,i,h=>by
  by_cases e:i=n
  .subst e;rfl
  .have hi:i<n:=⋯;have hl:=jY b rule starts n;have:=zH b rule starts (n:=n) (i:=i) hi;rw[<-this];show(row b rule starts n++_).getD i 0=_;rw[List.getD_eq_getElem?_getD,List.getElem?_append_left ⋯,<-List.getD_eq_getElem?_getD]
def JR(b:Int)(rule starts:List Int)(n:Nat):at_ b rule starts n=if n<starts.length then starts.getD n 0 else tk b (S rule (λi=>(row b rule starts n).getD i 0) n rule.length):=by
 unfold at_;have hl:=jY b rule starts n;show(row b rule starts n++_).getD n 0=_;rw[List.getD_eq_getElem?_getD,List.getElem?_append_right ⋯,hl];simp
def wK{b:Int}{rule starts:List Int}{n:Nat}(h:n<starts.length):at_ b rule starts n=starts.getD n 0:=by
 rw[JR,if_pos h]
def NT{b:Int}{rule starts:List Int}{n:Nat}(hl:rule.length=starts.length)(h:starts.length<=n):at_ b rule starts n=tk b (S rule (at_ b rule starts) n rule.length):=by
 rw[JR,if_neg ⋯];congr 1;refine KH λk hk=>zH b rule starts ⋯
theorem aas(b:Int)(rule starts:List Int):∀n,row b rule starts n=(eO n).map (at_ b rule starts)
 |0=>rfl
 |n+1=>by
  rw[Ls,gO,<-aas b rule starts n];show _++[_]=_++[at_ b rule starts n];rw[JR]
def aq2(b:Int)(rule starts:List Int)(n:Nat):row b rule starts (n+1)=row b rule starts n++[at_ b rule starts n]:=by
 rw[JR];rfl
def at9{b:Int}{rule starts:List Int}(hl:rule.length=starts.length){g:Nat->Int}(h1:∀i,i<starts.length->g i=starts.getD i 0)
  (h2:∀i,starts.length<=i->g i=tk b (S rule g i rule.length)):∀n,at_ b rule starts n=g n:=by
 intro n;induction n using sX with
 |ind n ih=>
  by_cases h:n<starts.length
  .rw[wK h,h1 n h]
  .rw[NT hl ⋯,h2 n ⋯];congr 1;exact KH λk hk=>ih _ ⋯
theorem aaW{b:Int}{rule starts:List Int}:∀{n:Nat},n<=starts.length->row b rule starts n=starts.take n
 |0,_=>by simp[row]
 |n+1,h=>by
  rw[aq2,aaW ⋯,wK ⋯,qU,List.getD_eq_getElem?_getD,List.getElem?_eq_getElem ⋯];rfl
def Bd(n:Nat)(x:Int):Prop:=x.natAbs<2^n
def Bd.mono{m n:Nat}{x:Int}(h:Bd m x)(hmn:m<=n):Bd n x:=jt h (wO ∅ hmn)
def Bd.mul{m n:Nat}{x y:Int}(h:Bd m x)(h':Bd n y):Bd (m+n) (x*y):=by
 unfold Bd at *;rw[pA,Nat.pow_add];exact Nat.mul_lt_mul'' h h'
def Bd.add{n:Nat}{x y:Int}(h:Bd n x)(h':Bd n y):Bd (n+1) (x+y):=by
 unfold Bd at *;have:=Int.natAbs_add_le x y;rw[Bj];omega
def Bd.zero(n:Nat):Bd n 0:=Nat.pow_pos ∅
def Bd.of{n:Nat}{x:Int}(h1:-(2^n)<x)(h2:x<2^n):Bd n x:=by
 unfold Bd;have e:((2^n:Nat):Int)=(2:Int)^n:=by simp
 omega
def Bd.emod{n:Nat}{x b:Int}(hb:0<b)(h:Bd n b):Bd n (x%b):=by
 unfold Bd at *;have:=rG x (show b≠0 by omega);have:=sV x hb;omega
theorem Bd.S{rule:List Int}{f:Nat->Int}{n a c:Nat}(hr:∀k,Bd a (rule.getD k 0)):∀m:Nat,(∀k,k<m->Bd c (f (n-1-k)))->Bd (a+c+m) (Rm.S rule f n m)
 |0,_=>Bd.zero _
 |m+1,h=>by
  unfold Rm.S;refine Bd.add (n:=a+c+m) (Bd.S hr m λk hk=>h k ⋯) (((hr m).mul (h m ⋯)).mono ⋯)
def au7(l:List Int)(k:Nat):l.getD k 0=0∨l.getD k 0∈l:=by
 by_cases h:k<l.length
 .right;rw[List.getD_eq_getElem?_getD,List.getElem?_eq_getElem h];exact xG h
 .left;rw[List.getD_eq_getElem?_getD,List.getElem?_eq_none ⋯];rfl
theorem Bd.getD{l:List Int}{n:Nat}(h:∀x∈l,Bd n x)(k:Nat):Bd n (l.getD k 0):=by
 rcases au7 l k with e|e
 .rw[e];exact .zero n
 .exact h _ e
def pY{b x:Int}{n:Nat}(hb:0<=b)(hb':Bd n b)(h:Bd n x):Bd n (tk b x):=by
 unfold tk;split
 .exact h
 .exact Bd.emod ⋯ hb'
def abp{b:Int}{rule starts:List Int}{a c:Nat}(hl:rule.length=starts.length)(hb:0<=b)(hb':Bd c b)(hr:∀x∈rule,Bd a x)(hs:∀x∈starts,Bd c x):
  ∀n,Bd (c+n*(a+rule.length)) (at_ b rule starts n):=by
 intro n;induction n using sX with
 |ind n ih=>
  by_cases h:n<starts.length
  .rw[wK h];exact(Bd.getD hs n).mono ⋯
  .rw[NT hl ⋯];by_cases h0:rule.length=0
   .rw[h0];exact pY hb (hb'.mono ⋯) (.zero _)
   .have hn:0<n:=⋯;have q:=Bd.S (rule:=rule) (f:=at_ b rule starts) (n:=n) (a:=a) (c:=c+(n-1)*(a+rule.length)) (λk=>Bd.getD hr k) rule.length λk hk=>by
     refine(ih (n-1-k) ⋯).mono ?_;have:(n-1-k)*(a+rule.length)<=(n-1)*(a+rule.length):=qG _ ⋯;omega
    have e:n*(a+rule.length)=(n-1)*(a+rule.length)+(a+rule.length):=by
     obtain⟨m,rfl⟩:∃m,n=m+1:=⟨n-1,⋯⟩;rw[fX,um]
    exact pY hb (hb'.mono ⋯) (q.mono ⋯)
end Rm
namespace Om
def n6:List Nat:=[2,3,5,7,11,13,17,19,23,29,31,37,41,43,47,53,59,61,67,71,73,79,83,89,97,101,103,107,109,113,127,131,137,139,149,151,157,163,167,173,179,181,191,193,197,199,211,223,227,229,233,239,241,251,257,263,269,271,277,281,283,293,307,311,313,317,331,337,347,349,353,359,367,373,379,383,389,397,401,409,419,421,431,433,439,443,449,457,461,463,467,479,487,491,499,503,509,521,523,541,547,557,563,569,571,577,587,593,599,601,607,613,617,619,631,641,643,647,653,659,661,673,677,683,691,701,709,719,727,733,739,743,751,757,761,769,773,787,797,809,811,821,823,827,829,839,853,857,859,863,877,881,883,887,907,911,919,929,937,941,947,953,967,971,977,983,991,997]
def Kg(p:Nat):Nat->Bool
 |0=>true
 |a+1=>(Ft a 0||Ft ((Nat.pow a (p-1))%p) 1)&&Kg p a
set_option maxRecDepth 100000 in
def an4:(n6.all λp=>Kg p p)=true:=by decide +kernel
theorem Vj{p:Nat}:∀{n:Nat},Kg p n=true->∀a,a<n->a≠0->a^(p-1)%p=1
 |n+1,h,a,ha,h0=>by
  unfold Kg at h;rw[ji]at h;by_cases e:a=n
  .subst e;have h1:=h.1;rw[zp]at h1;rcases h1 with h1|h1
   .exact absurd (M4 h1) h0
   .exact M4 h1
  .exact Vj h.2 a ⋯ h0
def af9{p a:Nat}(hp:p∈n6)(h0:a≠0)(h:a<p):a^(p-1)%p=1:=
 Vj (lK.mp an4 p hp) a h h0
def Di{p a:Int}{P:Nat}(hP:p=(P:Int))(hp:P∈n6)(h0:0<a)(h:a<p):a^(P-1)%p=1:=by
 obtain⟨n,rfl⟩:∃n:Nat,a=(n:Int):=⟨a.toNat,⋯⟩;subst hP;have:=af9 hp (a:=n) ⋯ ⋯;have e:((n:Int)^(P-1))=((n^(P-1):Nat):Int):=by simp
 rw[e,<-Cv,this];rfl
def mod_mul{x y x' y' p:Int}(h:x%p=x'%p)(h':y%p=y'%p):(x*y)%p=(x'*y')%p:=by
 rw[m9,h,h',<-m9]
theorem U6{x x' p:Int}(h:x%p=x'%p):∀n:Nat,(x^n)%p=(x'^n)%p
 |0=>by simp
 |n+1=>by rw[jd,jd];exact mod_mul (U6 h n) h
def Keeps(p a:Int)(e:Nat)(power square:Int)(left:Nat):Prop:=(power*square^left)%p=(a^e)%p
def ajs(p a:Int)(e:Nat):Keeps p a e 1 a e:=by unfold Keeps;rw[iz]
theorem Rr(x:Int):∀n:Nat,(x*x)^n=x^(2*n)
 |0=>by simp
 |n+1=>by
  rw[jd,Rr x n,show 2*(n+1)=2*n+1+1 by omega,jd,jd,bV]
def awv{p a:Int}{e:Nat}{power square:Int}{left:Nat}(h:Keeps p a e power square left)(ho:left%2=1):Keeps p a e (power*square%p) (square*square%p) (left/2):=by
 unfold Keeps at *;have h1:(power*square%p)%p=(power*square)%p:=nq _ (nM p);have h2:=U6 (p:=p) (x:=square*square%p) (x':=square*square) (nq _ (nM p)) (left/2);rw[mod_mul h1 h2,<-h,Rr,bV];have e2:left=2*(left/2)+1:=⋯
 conv=>rhs;rw[e2,jd]
 rw[bR square]
def ank{p a:Int}{e:Nat}{power square:Int}{left:Nat}(h:Keeps p a e power square left)(ho:¬left%2=1):Keeps p a e power (square*square%p) (left/2):=by
 unfold Keeps at *;have h2:=U6 (p:=p) (x:=square*square%p) (x':=square*square) (nq _ (nM p)) (left/2);rw[mod_mul rfl h2,<-h,Rr];have e2:left=2*(left/2):=⋯
 conv=>rhs;rw[e2]
def aoA{p a:Int}{e:Nat}{power square:Int}(h:Keeps p a e power square 0):power%p=a^e%p:=by
 unfold Keeps at h
 rwa [qT,jh]at h
end Om
namespace Pm
open Rm
def sm:Nat->(Nat->Int)->Int
 |0,_=>0
 |n+1,f=>sm n f+f n
theorem aQ{f g:Nat->Int}:∀{n:Nat},(∀k,k<n->f k=g k)->sm n f=sm n g
 |0,_=>rfl
 |n+1,h=>by rw[sm,sm,aQ λk hk=>h k ⋯,h n ⋯]
theorem uY:∀n:Nat,sm n (λ_=>0)=0
 |0=>rfl
 |n+1=>by rw[sm,uY n];rfl
def jj{f:Nat->Int}{n:Nat}(h:∀k,k<n->f k=0):sm n f=0:=by rw[aQ h,uY]
theorem oV(f:Nat->Int):∀n:Nat,sm (n+1) f=f 0+sm n (λi=>f (i+1))
 |0=>by simp[sm]
 |n+1=>by
  rw[sm,oV f n,sm,EW]
theorem iU(f g:Nat->Int):∀n:Nat,sm n (λk=>f k+g k)=sm n f+sm n g
 |0=>rfl
 |n+1=>by rw[sm,sm,sm,iU f g n];omega
theorem dJ(c:Int)(f:Nat->Int):∀n:Nat,sm n (λk=>c*f k)=c*sm n f
 |0=>by simp[sm]
 |n+1=>by rw[sm,sm,dJ c f n,jl]
theorem mQ{f:Nat->Int}{m:Nat}:∀{n:Nat},m<=n->(∀k,m<=k->k<n->f k=0)->sm n f=sm m f
 |0,h,_=>by rw[show m=0 by omega]
 |n+1,h,h0=>by
  by_cases e:m=n+1
  .rw[e]
  .rw[sm,mQ (n:=n) ⋯ (λk h1 h2=>h0 k h1 ⋯),h0 n ⋯ ⋯,dz]
def tk0(b:Int):tk b 0=0:=by unfold tk;split<;>simp
theorem iR{b:Int}{f g:Nat->Int}:∀{n:Nat},(∀k,k<n->tk b (f k)=tk b (g k))->tk b (sm n f)=tk b (sm n g)
 |0,_=>rfl
 |n+1,h=>by
  rw[sm,sm];exact jA (iR λk hk=>h k ⋯) (h n ⋯)
theorem Xk(f:Nat->Int):∀n:Nat,((eO n).map f).sum=sm n f
 |0=>rfl
 |n+1=>by rw[Ls,gO,DW,Xk f n];simp[sm]
def cv:(Nat->Int)->(Nat->Int)->Nat->Int
 |f,g,0=>f 0*g 0
 |f,g,k+1=>f 0*g (k+1)+cv (λi=>f (i+1)) g k
theorem fU:∀(f g:Nat->Int) (k:Nat),cv f g k=sm (k+1) (λj=>f j*g (k-j))
 |f,g,0=>by simp[cv,sm]
 |f,g,k+1=>by
  rw[cv,fU _ g k,oV (λj=>f j*g (k+1-j))];refine congrArg (_ + ·) (aQ λj hj=>?_);rw[show k+1-(j+1)=k-j by omega]
theorem MX:∀(f g:Nat->Int) (k:Nat),cv f g (k+1)=cv f (λi=>g (i+1)) k+f (k+1)*g 0
 |f,g,0=>rfl
 |f,g,k+1=>by
  rw[cv,MX (λi=>f (i+1)) g k,cv,EW]
theorem jo:∀(f g:Nat->Int) (k:Nat),cv f g k=cv g f k
 |f,g,0=>bR _ _
 |f,g,k+1=>by
  rw[cv,MX,jo (λi=>f (i+1)) g k,oh,bR]
def pK{f f' g g':Nat->Int}{k:Nat}(h:∀i,i<=k->f i=f' i)(h':∀i,i<=k->g i=g' i):cv f g k=cv f' g' k:=by
 rw[fU,fU];exact aQ λj hj=>by rw[h j ⋯,h' _ ⋯]
def iH{b:Int}{f f' g g':Nat->Int}{k:Nat}(h:∀i,i<=k->tk b (f i)=tk b (f' i))(h':∀i,i<=k->tk b (g i)=tk b (g' i)):tk b (cv f g k)=tk b (cv f' g' k):=by
 rw[fU,fU];exact iR λj hj=>by rw[<-jE,<-dR,h j ⋯,h' _ ⋯,dR,jE]
def m5(f f' g:Nat->Int)(k:Nat):cv (λi=>f i+f' i) g k=cv f g k+cv f' g k:=by
 rw[fU,fU,fU,<-iU];exact aQ λj _=>tH ..
def Qj(f g g':Nat->Int)(k:Nat):cv f (λi=>g i+g' i) k=cv f g k+cv f g' k:=by
 rw[jo,m5,jo,jo g']
def nj(c:Int)(f g:Nat->Int)(k:Nat):cv (λi=>c*f i) g k=c*cv f g k:=by
 rw[fU,fU,<-dJ];exact aQ λj _=>bV ..
theorem gH:∀(f g h:Nat->Int) (k:Nat),cv (cv f g) h k=cv f (cv g h) k
 |f,g,h,0=>by simp[cv,bV]
 |f,g,h,k+1=>by
  have e:(λi=>cv f g (i+1))=λi=>f 0*(λi=>g (i+1)) i+cv (λi=>f (i+1)) g i:=rfl;rw[cv,e,m5 (λi=>f 0*(λi=>g (i+1)) i),nj,gH (λi=>f (i+1)) g h k,cv,cv,cv];rw[jl,bV];omega
def jX{f g:Nat->Int}{k:Nat}(h:∀i,i<=k->f i=0∨g (k-i)=0):cv f g k=0:=by
 rw[fU];exact jj λj hj=>by rcases h j ⋯ with e|e<;>rw[e]<;>simp
def co(p:List Int)(k:Nat):Int:=p.getD k 0
def fV(k:Nat):co [] k=0:=by simp[co]
def fK(x:Int)(r:List Int):co (x::r) 0=x:=by simp[co]
def jq(x:Int)(r:List Int)(k:Nat):co (x::r) (k+1)=co r k:=by simp[co]
def aX{p:List Int}{k:Nat}(h:p.length<=k):co p k=0:=by
 rw[co,List.getD_eq_getElem?_getD,List.getElem?_eq_none h];rfl
def jy{p:List Int}{k:Nat}(h:k<p.length):co p k=p[k]:=by
 rw[co,List.getD_eq_getElem?_getD,List.getElem?_eq_getElem h];rfl
def xM{p:List Int}{k:Nat}(h:k<p.length):co p k∈p:=by rw[jy h];exact xG h
def aP(n:Nat)(f:Nat->Int):List Int:=(eO n).map f
def cu(n:Nat)(f:Nat->Int):(aP n f).length=n:=by simp[aP]
def dD(n:Nat)(f:Nat->Int)(k:Nat):co (aP n f) k=if k<n then f k else 0:=by
 by_cases h:k<n
 .rw[if_pos h,co,aP,List.getD_eq_getElem?_getD,List.getElem?_map,List.getElem?_range h];rfl
 .rw[if_neg h,aX (by rw[cu];omega)]
def Tc(n:Nat)(f:Nat->Int):aP (n+1) f=aP n f++[f n]:=by
 rw[aP,Ls,gO];rfl
def QZ(p:List Int):aP p.length (co p)=p:=by
 apply Yk (by rw[cu]);intro i h1 h2;simp only[aP,List.getElem_map,List.getElem_range];exact jy h2
def rA{p q:List Int}(hl:p.length=q.length)(h:∀k,co p k=co q k):p=q:=by
 rw[<-QZ p,<-QZ q,hl];exact m7 λk _=>h k
def Ay(p:List Int)(i:Nat)(x:Int)(k:Nat)(hi:i<p.length):co (p.set i x) k=if k=i then x else co p k:=by
 unfold co;rw[List.getD_eq_getElem?_getD,List.getElem?_set,List.getD_eq_getElem?_getD];by_cases e:i=k
 .subst e;simp[hi]
 .rw[if_neg e,if_neg (λz=>e z.symm)]
def lY{f:Int->Int}(h:f 0=0)(p:List Int)(k:Nat):co (p.map f) k=f (co p k):=getD_map h p k
def oG(p q:List Int)(k:Nat):co (p++q) k=if k<p.length then co p k else co q (k-p.length):=by
 unfold co;by_cases h:k<p.length
 .rw[if_pos h,List.getD_eq_getElem?_getD,List.getElem?_append_left h,<-List.getD_eq_getElem?_getD]
 .rw[if_neg h,List.getD_eq_getElem?_getD,List.getElem?_append_right ⋯,<-List.getD_eq_getElem?_getD]
def trim:List Int->List Int
 |[]=>[]
 |x::r=>if x=0/\trim r=[]then[]else x::trim r
theorem ou:∀(p:List Int) (k:Nat),co (trim p) k=co p k
 |[],k=>rfl
 |x::r,k=>by
  rw[trim];have ih:=ou r;by_cases h:x=0/\trim r=[]
  .rw[if_pos h];rw[h.2]at ih;cases k with
   |zero=>rw[fV,fK,h.1]
   |succ k=>rw[jq,<-ih k,fV,fV]
  .rw[if_neg h];cases k with
   |zero=>rw[fK,fK]
   |succ k=>rw[jq,jq,ih k]
def Gf{p:List Int}:trim p=[]↔∀k,co p k=0:=by
 constructor
 .intro h k;rw[<-ou,h,fV]
 .intro h;induction p with
  |nil=>rfl
  |cons x r ih=>
   rw[trim,if_pos ⟨by have:=h 0;rwa [fK]at this,ih λk=>by have:=h (k+1);rwa [jq]at this⟩]
theorem zN:∀{p q:List Int},(∀k,co p k=co q k)->trim p=trim q
 |[],q,h=>by rw[show trim q=[]from Gf.mpr λk=>by rw[<-h k,fV]];rfl
 |x::r,[],h=>by rw[show trim (x::r)=[]from Gf.mpr λk=>by rw[h k,fV]];rfl
 |x::r,y::s,h=>by
  have e1:=h 0;rw[fK,fK]at e1;have e2:trim r=trim s:=zN λk=>by have:=h (k+1);rwa [jq,jq]at this
  rw[trim,trim,e1,e2]
def Wc(p:List Int):trim (trim p)=trim p:=zN (ou p)
theorem vB:∀p:List Int,(trim p).length<=p.length
 |[]=>aJ _
 |x::r=>by
  have:=vB r;rw[trim];split
  .simp
  .simp;omega
theorem OV:∀{p:List Int} {n:Nat},(∀k,n<=k->co p k=0)->(trim p).length<=n
 |[],n,_=>cj _
 |x::r,0,h=>by rw[Gf.mpr λk=>h k (cj _)];exact aJ 0
 |x::r,n+1,h=>by
  have:=OV (p:=r) (n:=n) λk hk=>by have:=h (k+1) ⋯;rwa [jq]at this
  rw[trim];split
  .simp
  .simp;omega
def acr(p:List Int):trim (p++[0])=trim p:=zN λk=>by
 rw[oG];by_cases h:k<p.length
 .rw[if_pos h]
 .rw[if_neg h,aX (p:=p) ⋯];cases k-p.length with
  |zero=>rfl
  |succ j=>rw[jq,fV]
theorem Uy:∀(p:List Int) {x:Int},x≠0->trim (p++[x])=p++[x]
 |[],x,h=>by simp[trim,h]
 |y::r,x,h=>by
  show trim (y::(r++[x]))=_;rw[trim,Uy r h,if_neg (by simp)];rfl
def Nk{p:List Int}{x:Int}(h:x∈trim p):x∈p:=by
 induction p with
 |nil=>exact h
 |cons y r ih=>
  rw[trim]at h;split at h
  .cases h
  .rcases bH.mp h with rfl|h
   .exact bN
   .exact cO _ (ih h)
structure Py(b:Int)(p:List Int):Prop where
 tr:trim p=p
 nu:∀x∈p,tk b x=x
theorem Py.co{b:Int}{p:List Int}(h:Py b p)(k:Nat):tk b (co p k)=co p k:=by
 by_cases hk:k<p.length
 .exact h.nu _ (xM hk)
 .rw[aX ⋯,tk0]
def Py.ext{b:Int}{p q:List Int}(h:Py b p)(h':Py b q)(e:∀k,tk b (Pm.co p k)=tk b (Pm.co q k)):p=q:=by
 rw[<-h.tr,<-h'.tr];exact zN λk=>by rw[<-h.co k,<-h'.co k];exact e k
def Py.of{b:Int}{p:List Int}(h:∀x∈p,tk b x=x):Py b (trim p):=⟨Wc p,λx hx=>h x (Nk hx)⟩
def Py.nil(b:Int):Py b []:=⟨rfl,λ_ h=>nomatch h⟩
def vM{n:Nat}{f:Nat->Int}{x:Int}(h:x∈aP n f):∃k,k<n/\x=f k:=by
 obtain⟨k,hk,e⟩:=cB.mp h;exact⟨k,iQ.mp hk,e.symm⟩
theorem Py.aP(b:Int)(n:Nat)(f:Nat->Int):Py b (trim (Pm.aP n λk=>tk b (f k))):=Py.of λx hx=>by
 obtain⟨k,_,rfl⟩:=vM hx;exact gJ ..
def add(b:Int)(p q:List Int):List Int:=trim (aP (max p.length q.length) λk=>tk b (co p k+co q k))
def mul(b:Int)(p q:List Int):List Int:=trim (aP (p.length+q.length) λk=>tk b (cv (co p) (co q) k))
def J6(b:Int)(p q:List Int):Py b (add b p q):=Py.aP ..
def qu(b:Int)(p q:List Int):Py b (mul b p q):=Py.aP ..
def xY(b:Int)(p q:List Int)(k:Nat):co (add b p q) k=tk b (co p k+co q k):=by
 rw[add,ou,dD];split
 .rfl
 .rw[aX (p:=p) ⋯,aX (p:=q) ⋯,dz,tk0]
def kI(b:Int)(p q:List Int)(k:Nat):co (mul b p q) k=tk b (cv (co p) (co q) k):=by
 rw[mul,ou,dD];split
 .rfl
 .rw[jX,tk0];intro i hi;by_cases h:i<p.length
  .exact .inr (aX ⋯)
  .exact .inl (aX ⋯)
theorem add_comm(b:Int)(p q:List Int):add b p q=add b q p:=(J6 ..).ext (J6 ..) λk=>by rw[xY,xY,oh]
def mul_comm(b:Int)(p q:List Int):mul b p q=mul b q p:=(qu ..).ext (qu ..) λk=>by rw[kI,kI,jo]
def mul_one{b:Int}{p:List Int}(h:Py b p):mul b p [1]=p:=(qu ..).ext h λk=>by
 rw[kI,gJ];congr 1;rw[jo,fU,mQ (m:=1) ⋯ λj h1 _=>by
  rw[show co [1] j=0 from aX (by simpa using h1),fZ]]
 simp[sm,fK]
def nil_add{b:Int}{p:List Int}(h:Py b p):add b [] p=p:=(J6 ..).ext h λk=>by
 rw[xY,fV,iG,gJ]
def W(f g:Nat->Int)(i k c:Nat):Int:=sm i (λj=>if j<=c then f j*g (c-j)else 0)+(if i<=c/\c-i<k then f i*g (c-i)else 0)
def akI(f g:Nat->Int)(c:Nat):W f g 0 0 c=0:=by simp[W,sm]
def ai4{f g:Nat->Int}{i k c:Nat}:W f g i (k+1) c=W f g i k c+(if c=i+k then f i*g k else 0):=by
 unfold W;by_cases h:c=i+k
 .rw[if_pos h,if_pos ⋯,if_neg ⋯,show c-i=k by omega];omega
 .rw[if_neg h];by_cases h2:i<=c/\c-i<k
  .rw[if_pos h2,if_pos ⋯];omega
  .rw[if_neg h2,if_neg ⋯];omega
def awL{f g:Nat->Int}{i n c:Nat}(hg:∀k,n<=k->g k=0):W f g i n c=W f g (i+1) 0 c:=by
 unfold W;rw[sm,if_neg (show ¬(i+1<=c/\c-(i+1)<0)by omega)];by_cases h:i<=c
 .rw[if_pos h];by_cases h2:c-i<n
  .rw[if_pos ⟨h,h2⟩];omega
  .rw[if_neg ⋯,hg _ ⋯,aV];omega
 .rw[if_neg ⋯,if_neg h];omega
def Rq{f g:Nat->Int}{m c:Nat}(hf:∀k,m<=k->f k=0):W f g m 0 c=cv f g c:=by
 unfold W;rw[if_neg ⋯,dz,fU];by_cases h:m<=c+1
 .rw[mQ (n:=c+1) h λk h1 _=>by rw[hf k h1,fZ]];exact aQ λj hj=>if_pos ⋯
 .rw[mQ (m:=c+1) (n:=m) ⋯ λk h1 _=>if_neg ⋯];exact aQ λj hj=>if_pos ⋯
end Pm
namespace Pm
open Rm
theorem CD(F:Nat->Nat->Int)(m:Nat):∀n:Nat,sm m (λk=>sm n (λj=>F k j))=sm n (λj=>sm m (λk=>F k j))
 |0=>by simp only[sm];exact uY m
 |n+1=>by
  simp only[sm];rw[iU,CD F m n]
theorem zf(rule:List Int)(f:Nat->Int)(n:Nat):∀m:Nat,S rule f n m=sm m (λk=>co rule k*f (n-1-k))
 |0=>rfl
 |m+1=>by rw[S,sm,zf rule f n m];rfl
def ks(p:List Int)(a:Nat->Int)(n:Nat):Int:=sm p.length (λk=>co p k*a (n+k))
def alW{b:Int}{rule p:List Int}{a:Nat->Int}(ha:∀n,rule.length<=n->tk b (a n)=tk b (S rule a n rule.length)){n:Nat}(hn:rule.length<=n):
  tk b (ks p a n)=tk b (S rule (ks p a) n rule.length):=by
 have e1:tk b (ks p a n)=tk b (sm p.length (λk=>co p k*sm rule.length (λj=>co rule j*a (n+k-1-j)))):=by
  refine iR λk _=>?_;rw[<-dR,ha (n+k) ⋯,dR,zf]
 rw[e1,zf];congr 1;have e2:(λk=>co p k*sm rule.length (λj=>co rule j*a (n+k-1-j)))=λk=>sm rule.length (λj=>co rule j*(co p k*a (n+k-1-j))):=by
  funext k
  rw[<-dJ];exact aQ λj _=>gk ..
 rw[e2,CD];refine aQ λj hj=>?_;rw[dJ];congr 1;refine aQ λk _=>?_;rw[show n-1-j+k=n+k-1-j by omega]
def Oq{b:Int}{rule p:List Int}{a:Nat->Int}(ha:∀n,rule.length<=n->tk b (a n)=tk b (S rule a n rule.length))(h0:∀n,n<rule.length->tk b (ks p a n)=0):
  ∀n,tk b (ks p a n)=0:=by
 intro n;induction n using sX with
 |ind n ih=>
  by_cases h:n<rule.length
  .exact h0 n h
  .rw[alW ha ⋯,zf];have:tk b (sm rule.length λk=>co rule k*ks p a (n-1-k))=tk b (sm rule.length λ_=>0):=iR λk hk=>by
    rw[<-dR,ih (n-1-k) ⋯,aV]
   rw[this,uY,tk0]
def aR(b:Int)(c:List Int):List Int:=aP c.length (λk=>tk b (0-co c (c.length-1-k)))++[1]
def ju(b:Int)(p:List Int):List Int:=aP (p.length-1) (λk=>tk b (0-co p (p.length-1-1-k)))
def j6(b:Int)(c:List Int):(aR b c).length=c.length+1:=by simp[aR,cu]
def afk(b x:Int):tk b (0-tk b (0-x))=tk b x:=by
 have h:tk b (tk b (0-x)+(0-tk b (0-x)))=tk b ((0-x)+(0-tk b (0-x))):=jQ ..;have e1:tk b (0-x)+(0-tk b (0-x))=0:=⋯;rw[e1]at h;have h2:tk b (tk b (0-tk b (0-x))+(0-x))=tk b 0:=by rw[jQ,oh];exact h.symm
 have h3:tk b (tk b (0-tk b (0-x)))=tk b x:=by
  have:=jA h2 (rfl:tk b x=tk b x);rw[show tk b (0-tk b (0-x))+(0-x)+x=tk b (0-tk b (0-x))by omega,iG]at this;exact this
 rwa [gJ]at h3
def abm{b:Int}{rule starts:List Int}(hl:rule.length=starts.length):∀n,rule.length<=n->tk b (at_ b rule starts n)=tk b (S rule (at_ b rule starts) n rule.length):=λn hn=>by
 rw[NT hl ⋯,gJ]
theorem Bg{f:Nat->Int}{c:Nat}:∀n:Nat,(∀k,k<n->Bd c (f k))->Bd (c+n) (sm n f)
 |0,_=>Bd.zero _
 |n+1,h=>by
  rw[sm];exact Bd.add (n:=c+n) (Bg n λk hk=>h k ⋯) ((h n ⋯).mono ⋯)
def jK{p:List Int}{u:Nat}(h:∀x∈p,Bd u x)(k:Nat):Bd u (co p k):=Bd.getD h k
def anS{p q:List Int}{u v:Nat}(h:∀x∈p,Bd u x)(h':∀x∈q,Bd v x)(k:Nat):Bd (u+v+p.length) (cv (co p) (co q) k):=by
 rw[<-Rq (m:=p.length) λj hj=>aX hj,W,if_neg ⋯,dz];refine Bg _ λj _=>?_;split
 .exact(jK h j).mul (jK h' _)
 .exact Bd.zero _
def al8{b:Int}{p q:List Int}{u v:Nat}(hb:0<=b)(hb1:b<1000)(hu:10<=u)(h:∀x∈p,Bd u x)(h':∀x∈q,Bd v x):∀x∈mul b p q,Bd (u+v+p.length) x:=by
 intro x hx;obtain⟨k,_,rfl⟩:=vM (Nk hx);refine pY hb ?_ (anS h h' k);exact(Bd.of (n:=10) ⋯ ⋯).mono ⋯
def SJ{b:Int}{c:List Int}{u:Nat}(hb:0<=b)(hb1:b<1000)(hu:10<=u)(h:∀x∈c,Bd u x):∀x∈aR b c,Bd u x:=by
 intro x hx;rcases fM.mp hx with hx|hx
 .obtain⟨k,_,rfl⟩:=vM hx;refine pY hb ((Bd.of (n:=10) ⋯ ⋯).mono ⋯) ?_;have:=jK h (c.length-1-k);unfold Bd at this⊢;rw[sG,CN];exact this
 .rw[dj.mp hx];exact(Bd.of (n:=10) ∅ ∅).mono hu
end Pm
namespace Pm
open Rm
theorem mZ(x:Int)(j:Nat):∀n:Nat,sm n (λi=>if i=j then x else 0)=if j<n then x else 0
 |0=>by simp[sm]
 |n+1=>by
  rw[sm,mZ x j n];by_cases h:n=j
  .rw[if_pos h,if_neg ⋯,if_pos ⋯];omega
  .rw[if_neg h];by_cases h2:j<n
   .rw[if_pos h2,if_pos ⋯];omega
   .rw[if_neg h2,if_neg ⋯];omega
def mU{b x y:Int}:tk b (x-y)=0↔tk b x=tk b y:=by
 constructor
 .intro h;have:=jA (b:=b) (x:=x-y) (x':=0) (y:=y) (y':=y) (by rw[h,tk0]) rfl
  rwa [show x-y+y=x by omega,iG]at this
 .intro h;have:=jA (b:=b) (x:=x) (x':=y) (y:=-y) (y':=-y) h rfl;rw[show x + -y=x-y by omega,show y + -y=0 by omega,tk0]at this;exact this
def Ci(f:Int)(s:Nat)(g:Nat->Int)(k:Nat):cv (λi=>if i=s then f else 0) g k=if s<=k then f*g (k-s)else 0:=by
 rw[fU];have e:sm (k+1) (λj=>(if j=s then f else 0)*g (k-j))=sm (k+1) (λj=>if j=s then f*g (k-s)else 0):=aQ λj _=>by
  by_cases h:j=s
  .rw[if_pos h,if_pos h,h]
  .rw[if_neg h,if_neg h,fZ]
 rw[e,mZ];by_cases h:s<=k
 .rw[if_pos h,if_pos ⋯]
 .rw[if_neg h,if_neg ⋯]
structure Mon(m:List Int):Prop where
 pos:0<m.length
 one:co m (m.length-1)=1
structure Div(b:Int)(p m q r:List Int):Prop where
 qy:Py b q
 ry:Py b r
 short:r.length<m.length
 eq:∀k,tk b (cv (co q) (co m) k+co r k)=tk b (co p k)
def Div.uniq{b:Int}{p m q r q' r':List Int}(hm:Mon m)(h:Div b p m q r)(h':Div b p m q' r'):q=q'/\r=r':=by
 have hp:=hm.pos;have e1:∀k,tk b (cv (λi=>co q i-co q' i) (co m) k+(co r k-co r' k))=0:=by
  intro k;have e2:cv (λi=>co q i-co q' i) (co m) k=cv (co q) (co m) k-cv (co q') (co m) k:=by
   have:=m5 (co q) (λi=>-1*co q' i) (co m) k;rw[nj]at this;have e3:(λi=>co q i + -1*co q' i)=λi=>co q i-co q' i:=by funext i;omega
   rw[e3]at this;omega
  rw[e2,show cv (co q) (co m) k-cv (co q') (co m) k+(co r k-co r' k)=(cv (co q) (co m) k+co r k)-(cv (co q') (co m) k+co r' k)by omega,mU,h.eq,h'.eq]
 have e4:∀d j,q.length+q'.length<=j+d->tk b (co q j-co q' j)=0:=by
  intro d;induction d with
  |zero=>intro j hj;rw[aX ⋯,aX ⋯];exact tk0 b
  |succ d ih=>
   intro j hj;have e5:=e1 (j+(m.length-1));have hs:=h.short;have hs':=h'.short;rw[aX (p:=r) ⋯,aX (p:=r') ⋯,Dc,dz,fU]at e5;rw[<-e5];have e6:tk b (sm (j+(m.length-1)+1) λi=>(co q i-co q' i)*co m (j+(m.length-1)-i))=tk b (sm (j+(m.length-1)+1) λi=>if i=j then co q j-co q' j else 0):=iR λi hi=>by
    by_cases c:i=j
    .rw[if_pos c,c,show j+(m.length-1)-j=m.length-1 by omega,hm.one,jh]
    .rw[if_neg c];by_cases c2:i<j
     .rw[aX (p:=m) ⋯,aV]
     .rw[<-jE,ih i ⋯,fZ]
   rw[e6,mZ,if_pos ⋯]
 have eq:q=q':=h.qy.ext h'.qy λk=>mU.mp (e4 (q.length+q'.length) k ⋯);refine⟨eq,h.ry.ext h'.ry λk=>?_⟩;have e7:=e1 k;rw[eq]at e7;have e8:(λi=>co q' i-co q' i)=λ_=>0:=by funext i;omega
 rw[e8,jX (λ_ _=> .inl rfl),iG]at e7;exact mU.mp e7
def Div.back{b:Int}{p m q r:List Int}(hp:Py b p)(h:Div b p m q r):add b (mul b q m) r=p:=(J6 ..).ext hp λk=>by
 rw[xY,kI,gJ,jQ];exact h.eq k
structure qF(b:Int)(p m:List Int)(s:Nat)(o l:List Int):Prop where
 eq:∀k,tk b (cv (co o) (co m) k+co l k)=tk b (co p k)
 zero:∀k,s+(m.length-1)<=k->co l k=0
 low:∀k,k<s->co o k=0
 ol:o.length=p.length-(m.length-1)
 ll:l.length=p.length
 on:∀k,tk b (co o k)=co o k
 ln:∀k,tk b (co l k)=co l k
def qF.start{b:Int}{p m:List Int}(hp:∀k,tk b (co p k)=co p k):qF b p m (p.length-(m.length-1)) (aP (p.length-(m.length-1)) λ_=>0) p:=by
 have z:∀k,co (aP (p.length-(m.length-1)) λ_=>0) k=0:=λk=>by rw[dD];split<;>rfl
 exact⟨λk=>by rw[jX λi _=> .inl (z i),iG],λk hk=>aX ⋯,λk _=>z k,cu _ _,rfl,λk=>by rw[z,tk0],hp⟩
def lf(b f:Int)(s t:Nat)(l m:List Int)(k:Nat):Int:=if s<=k/\k<s+t then tk b (co l k-f*co m (k-s))else co l k
def alF(b f:Int)(s:Nat)(l m:List Int)(k:Nat):lf b f s 0 l m k=co l k:=if_neg ⋯
def awV(b f:Int)(s t:Nat)(l m:List Int)(k:Nat):lf b f s (t+1) l m k=if k=s+t then tk b (lf b f s t l m k-f*co m t)else lf b f s t l m k:=by
 unfold lf;by_cases h:k=s+t
 .rw[if_pos h,if_pos ⋯,if_neg ⋯,show k-s=t by omega]
 .rw[if_neg h];by_cases h2:s<=k/\k<s+t
  .rw[if_pos h2,if_pos ⋯]
  .rw[if_neg h2,if_neg ⋯]
def ag0{b f:Int}{s:Nat}{l m:List Int}(hl:∀k,tk b (co l k)=co l k)(k:Nat):lf b f s m.length l m k=tk b (co l k-(if s<=k then f*co m (k-s)else 0)):=by
 unfold lf;by_cases h:s<=k
 .rw[if_pos h];by_cases h2:k<s+m.length
  .rw[if_pos ⟨h,h2⟩]
  .rw[if_neg ⋯,aX (p:=m) ⋯,aV,Dc,hl]
 .rw[if_neg ⋯,if_neg h,Dc,hl]
def qF.step{b:Int}{p m o l l':List Int}{s:Nat}(hm:Mon m)(h:qF b p m (s+1) o l)(hs:s<p.length-(m.length-1))(hl:l'.length=l.length)(e:∀k,co l' k=lf b (co l (s+(m.length-1))) s m.length l m k):
  qF b p m s (o.set s (co l (s+(m.length-1)))) l':=by
 have hp:=hm.pos;have ho:=h.ol;have eo:co (o.set s (co l (s+(m.length-1))))=λk=>co o k+(if k=s then co l (s+(m.length-1))else 0):=by
  funext k
  rw[Ay _ _ _ _ ⋯];by_cases c:k=s
  .rw[if_pos c,if_pos c,c,h.low s ⋯,iG]
  .rw[if_neg c,if_neg c,dz]
 have el:∀k,co l' k=tk b (co l k-(if s<=k then co l (s+(m.length-1))*co m (k-s)else 0)):=λk=>by rw[e,ag0 h.ln]
 refine⟨λk=>?_,λk hk=>?_,λk hk=>?_,by rw[oJ,ho],by rw[hl,h.ll],λk=>?_,λk=>by rw[el,gJ]⟩
 .rw[eo,m5 (co o),Ci,el,yF,<-h.eq k];congr 1;omega
 .rw[el,if_pos ⋯];by_cases c:k=s+(m.length-1)
  .rw[c,show s+(m.length-1)-s=m.length-1 by omega,hm.one,jh,afl,tk0]
  .rw[h.zero k ⋯,aX (p:=m) ⋯,aV,Dc,tk0]
 .rw[eo];simp only;rw[h.low k ⋯,if_neg ⋯,dz]
 .rw[Ay _ _ _ _ ⋯];split
  .exact h.ln _
  .exact h.on _
def qF.stop{b:Int}{p m o l:List Int}(hm:Mon m)(h:qF b p m 0 o l):Div b p m (trim o) (trim l):=by
 have hp:=hm.pos;have y:∀{x:List Int},(∀k,tk b (co x k)=co x k)->Py b (trim x):=λhx=>Py.of λz hz=>by
  obtain⟨k,hk,e⟩:=jD.mp hz;rw[<-e,<-jy hk];exact hx k
 refine⟨y h.on,y h.ln,?_,λk=>?_⟩
 .have:=OV (p:=l) (n:=m.length-1) λk hk=>h.zero k ⋯;omega
 .rw[ou,<-h.eq k];congr 2;exact pK (λi _=>ou _ _) (λ_ _=>rfl)
end Pm
namespace Pm
open Rm
theorem aej(g:Nat->Int)(j:Nat):∀m:Nat,sm (j+m) (λk=>if j<=k then g (k-j)else 0)=sm m g
 |0=>by
  rw[RB];exact jj λk hk=>if_neg ⋯
 |m+1=>by
  rw[<-aeQ,sm,sm,aej g j m,if_pos ⋯,D8]
def vA(p:List Int)(a:Nat->Int)(n:Nat){N:Nat}(h:p.length<=N):sm N (λk=>co p k*a (n+k))=ks p a n:=
 mQ h λk h1 _=>by rw[aX h1,fZ]
def acU{b:Int}{p q:List Int}{a:Nat->Int}(h:∀k,tk b (co p k)=tk b (co q k))(n:Nat):tk b (ks p a n)=tk b (ks q a n):=by
 rw[<-vA p a n (aco p.length q.length),<-vA q a n (adC p.length q.length)];exact iR λk _=>by rw[<-jE,h k,jE]
def auv{b:Int}(p q:List Int)(a:Nat->Int)(n:Nat):tk b (ks (add b p q) a n)=tk b (ks p a n+ks q a n):=by
 have hl:(add b p q).length<=max p.length q.length:=by
  have:=vB (aP (max p.length q.length) λk=>tk b (co p k+co q k))
  rwa [cu]at this
 rw[<-vA _ a n hl,<-vA p a n (aco p.length q.length),<-vA q a n (adC p.length q.length),<-iU];exact iR λk _=>by rw[xY,jE,tH]
def Y6{b:Int}(p q:List Int)(a:Nat->Int)(n:Nat):tk b (ks (mul b p q) a n)=tk b (ks p (ks q a) n):=by
 have hl:(mul b p q).length<=p.length+q.length:=by
  have:=vB (aP (p.length+q.length) λk=>tk b (cv (co p) (co q) k))
  rwa [cu]at this
 rw[<-vA _ a n hl];have e1:tk b (sm (p.length+q.length) λk=>co (mul b p q) k*a (n+k))=tk b (sm (p.length+q.length) λk=>sm p.length λj=>co p j*(if j<=k then co q (k-j)*a (n+k)else 0)):=iR λk _=>by
  rw[kI,jE,<-Rq (m:=p.length) λj hj=>aX hj,W,if_neg ⋯,dz,bR,<-dJ];congr 1;refine aQ λj _=>?_;by_cases h:j<=k
  .rw[if_pos h,if_pos h,bR,bV]
  .rw[if_neg h,if_neg h,aV,aV]
 rw[e1,CD];congr 1;refine aQ λj hj=>?_;rw[dJ];congr 1;have e2:(λk=>if j<=k then co q (k-j)*a (n+k)else 0)=λk=>if j<=k then(λi=>co q i*a (n+j+i)) (k-j)else 0:=by
  funext k
  by_cases h:j<=k
  .rw[if_pos h,if_pos h];show _=co q (k-j)*a (n+j+(k-j));rw[show n+j+(k-j)=n+k by omega]
  .rw[if_neg h,if_neg h]
 rw[e2,show p.length+q.length=j+(p.length-j+q.length)by omega];refine(aej (λi=>co q i*a (n+j+i)) j _).trans ?_;exact vA q a (n+j) ⋯
def alR{b:Int}{p:List Int}{a:Nat->Int}(h:∀n,tk b (a n)=0)(n:Nat):tk b (ks p a n)=0:=by
 have:tk b (ks p a n)=tk b (sm p.length λ_=>0):=iR λk _=>by rw[<-dR,h,aV]
 rw[this,uY,tk0]
def Kp(b:Int)(p:List Int)(a:Nat->Int):Prop:=∀n,tk b (ks p a n)=0
def Kp.ado{b:Int}{q:List Int}{a:Nat->Int}(h:Kp b q a)(p:List Int):Kp b (mul b p q) a:=λn=>by rw[Y6];exact alR h n
def Kp.av9{b:Int}{q:List Int}{a:Nat->Int}(h:Kp b q a)(p:List Int):Kp b (mul b q p) a:=by rw[mul_comm];exact h.ado p
def Kp.congr{b:Int}{p q:List Int}{a:Nat->Int}(e:∀k,tk b (co p k)=tk b (co q k))(h:Kp b p a):Kp b q a:=λn=>by rw[<-acU e];exact h n
theorem Kp.aR{b:Int}{rule:List Int}{a:Nat->Int}(ha:∀n,rule.length<=n->tk b (a n)=tk b (S rule a n rule.length)):Kp b (aR b rule) a:=λn=>by
 unfold ks;rw[j6,sm];have e1:co (Pm.aR b rule) rule.length=1:=by
  rw[Pm.aR,oG,cu,if_neg ⋯,pU];rfl
 have e2:tk b (sm rule.length λk=>co (Pm.aR b rule) k*a (n+k))=tk b (sm rule.length λk=>-1*(co rule (rule.length-1-k)*a (n+k))):=iR λk hk=>by
  rw[Pm.aR,oG,cu,if_pos hk,dD,if_pos hk,jE,sG,jf,yK]
 have e3:S rule a (n+rule.length) rule.length=sm rule.length λk=>co rule (rule.length-1-k)*a (n+k):=by
  rw[zf];have rev:∀(m:Nat) (f:Nat->Int),sm m f=sm m λk=>f (m-1-k):=by
   intro m;induction m with
   |zero=>intro f;rfl
   |succ m ih=>
    intro f;rw[oV,sm,ih λi=>f (i+1),oh];have:m+1-1-m=0:=⋯;rw[this];congr 1;exact aQ λk hk=>by rw[show m-1-k+1=m+1-1-k by omega]
  rw[rev];exact aQ λk hk=>by rw[show n+rule.length-1-(rule.length-1-k)=n+k by omega]
 rw[e1,iz,<-jQ,e2,jQ,dJ,<-e3,<-yF,ha (n+rule.length) ⋯,yF,yK,Int.add_left_neg,tk0]
def Div.kp{b:Int}{p m q r:List Int}{a:Nat->Int}(h:Div b p m q r)(hm:Kp b m a):Kp b p a↔Kp b r a:=by
 have e:∀n,tk b (ks p a n)=tk b (ks r a n):=λn=>by
  have e1:∀k,tk b (co (Pm.add b (mul b q m) r) k)=tk b (co p k):=λk=>by rw[xY,kI,gJ,jQ];exact h.eq k
  rw[<-acU e1,auv,<-jQ,hm.ado q n,iG]
 exact⟨λz n=>by rw[<-e];exact z n,λz n=>by rw[e];exact z n⟩
def dO(b:Int)(p q x:List Int):Prop:=∃u v,∀k,tk b (co x k)=tk b (cv (co u) (co p) k+cv (co v) (co q) k)
def aw2(p q:List Int)(k:Nat):co (add 0 p q) k=co p k+co q k:=by rw[xY,bw]
def Hh(p q:List Int)(k:Nat):co (mul 0 p q) k=cv (co p) (co q) k:=by rw[kI,bw]
def dO.left(b:Int)(p q:List Int):dO b p q p:=⟨[1],[],λk=>by
 rw[jX (f:=co []) λi _=> .inl (fV _),dz,fU,mQ (m:=1) ⋯ λj h1 _=>by rw[show co [1] j=0 from aX (by simpa using h1),fZ]];simp[sm,fK]⟩
def dO.swap{b:Int}{p q x:List Int}(h:dO b p q x):dO b q p x:=by
 obtain⟨u,v,e⟩:=h;exact⟨v,u,λk=>by rw[e,oh]⟩
def dO.trans{b:Int}{p q g s x:List Int}(hg:dO b p q g)(hs:dO b p q s)(h:dO b g s x):dO b p q x:=by
 obtain⟨a,c,eg⟩:=hg;obtain⟨a',c',es⟩:=hs;obtain⟨u,v,e⟩:=h;refine⟨add 0 (mul 0 u a) (mul 0 v a'),add 0 (mul 0 u c) (mul 0 v c'),λk=>?_⟩;have e1:tk b (cv (co u) (co g) k)=tk b (cv (co u) (λi=>cv (co a) (co p) i+cv (co c) (co q) i) k):=iH (λ_ _=>rfl) λi _=>eg i;have e2:tk b (cv (co v) (co s) k)=tk b (cv (co v) (λi=>cv (co a') (co p) i+cv (co c') (co q) i) k):=iH (λ_ _=>rfl) λi _=>es i;rw[e,jA e1 e2];congr 1;have f1:∀y z:List Int,co (add 0 (mul 0 u y) (mul 0 v z))=λi=>cv (co u) (co y) i+cv (co v) (co z) i:=λy z=>by
  funext i;rw[aw2,Hh,Hh]
 rw[f1,f1,m5 (cv (co u) (co a)),m5 (cv (co u) (co c)),Qj,Qj,gH,gH,gH,gH];omega
def Div.in1{b:Int}{p m q r:List Int}(h:Div b p m q r):dO b m r p:=by
 refine⟨q,[1],λk=>?_⟩;obtain⟨u,v,e⟩:=dO.left b r [];rw[<-h.eq k];have:cv (co [1]) (co r) k=co r k:=by
  rw[fU,mQ (m:=1) ⋯ λj h1 _=>by rw[show co [1] j=0 from aX (by simpa using h1),fZ]];simp[sm,fK]
 rw[this]
def Div.in2{b:Int}{p m q r:List Int}(h:Div b p m q r):dO b p m r:=by
 refine⟨[1],q.map (-1 * ·),λk=>?_⟩;have e1:cv (co [1]) (co p) k=co p k:=by
  rw[fU,mQ (m:=1) ⋯ λj h1 _=>by rw[show co [1] j=0 from aX (by simpa using h1),fZ]];simp[sm,fK]
 have e2:co (q.map (-1 * ·))=λi=>-1*co q i:=by funext i;rw[lY (by simp)]
 rw[e1,e2,nj];have:=jA (h.eq k) (rfl:tk b (-1*cv (co q) (co m) k)=tk b (-1*cv (co q) (co m) k));rw[<-this];congr 1;omega
structure Gcd(b:Int)(p q g:List Int):Prop where
 py:Py b g
 mon:Mon g
 sum:dO b p q g
 one:dO b g [] p
 two:dO b g [] q
def dO.dv{b:Int}{g p:List Int}(h:dO b g [] p):∃u,∀k,tk b (co p k)=tk b (cv (co u) (co g) k):=by
 obtain⟨u,v,e⟩:=h;exact⟨u,λk=>by rw[e,jX (g:=co []) λi _=> .inr (fV _),dz]⟩
end Pm
namespace Pm
open Rm
def Rg{p:List Int}(h:p≠[]):p=p.dropLast++[co p (p.length-1)]:=by
 have hp:0<p.length:=vP.mpr h
 conv=>lhs;rw[<-List.dropLast_concat_getLast h]
 congr 2;rw[jy ⋯,List.getLast_eq_getElem]
def uX{p:List Int}(h:p≠[])(h0:co p (p.length-1)≠0):trim p=p:=by
 have e:=Rg h;rw[e,Uy _ h0]
def uc{p:List Int}(h:p≠[])(ht:trim p=p):co p (p.length-1)≠0:=by
 intro z;have e:=Rg h;rw[z]at e;have e2:trim p=trim p.dropLast:=by
  conv=>lhs;rw[e]
  exact acr _
 have:=vB p.dropLast;rw[<-e2,ht,wC]at this;have hp:0<p.length:=vP.mpr h;omega
structure vQ(b:Int)(p m:List Int):Prop where
 py:Py b m
 len:m.length=p.length
 mon:p≠[]->Mon m
 to:∃c,∀k,tk b (co m k)=tk b (c*co p k)
 of:∃c,∀k,tk b (co p k)=tk b (c*co m k)
def dO.scale{b:Int}{p m:List Int}(h:∃c,∀k,tk b (co m k)=tk b (c*co p k))(q:List Int):dO b p q m:=by
 obtain⟨c,e⟩:=h;refine⟨[c],[],λk=>?_⟩;rw[jX (f:=co []) λi _=> .inl (fV _),dz,e,fU,mQ (m:=1) ⋯ λj h1 _=>by rw[show co [c] j=0 from aX (by simpa using h1),fZ]];simp[sm,fK]
theorem vQ.nil(b:Int):vQ b [] []:=⟨Py.nil b,rfl,λh=>absurd rfl h,⟨0,λk=>by rw[fV,fZ]⟩,⟨0,λk=>by rw[fV,fZ]⟩⟩
def sY(P:Nat)(p:List Int):List Int:=p.map λx=>x*(co p (p.length-1))^(P-2)%(P:Int)
structure uf(b:Int)(p q g s:List Int):Prop where
 gy:Py b g
 sy:Py b s
 gm:g≠[]->Mon g
 sm_:s≠[]->Mon s
 some:s=[]->g≠[]
 gi:dO b p q g
 si:dO b p q s
 pi:dO b g s p
 qi:dO b g s q
def uf.start{b:Int}{p q g s:List Int}(hg:vQ b p g)(hs:vQ b q s)(h:q=[]->p≠[]):uf b p q g s:=by
 have lg:=hg.len;have ls:=hs.len;have pn:g≠[]->p≠[]:=λz e=>z (rE (by rw[lg,e];rfl));have qn:s≠[]->q≠[]:=λz e=>z (rE (by rw[ls,e];rfl));refine⟨hg.py,hs.py,λz=>hg.mon (pn z),λz=>hs.mon (qn z),λz e=>?_,dO.scale hg.to q,(dO.scale hs.to p).swap,dO.scale hg.of s,(dO.scale hs.of g).swap⟩;have q0:q=[]:=rE (by rw[<-ls,z];rfl);exact h q0 (rE (by rw[<-lg,e];rfl))
def uf.step{b:Int}{p q g s o l m:List Int}(h:uf b p q g s)(hs:s≠[])(d:Div b g s o l)(hm:vQ b l m):uf b p q s m:=by
 have lm:=hm.len;have ln:m≠[]->l≠[]:=λz e=>z (rE (by rw[lm,e];rfl));have li:dO b p q l:=h.gi.trans h.si d.in2;have gs:dO b s m g:=(dO.left b s m).trans (dO.scale hm.of s).swap d.in1;refine⟨h.sy,hm.py,h.sm_,λz=>hm.mon (ln z),λ_=>hs,h.si,li.trans li (dO.scale hm.to l),?_,?_⟩
 .exact gs.trans (dO.left b s m) h.pi
 .exact gs.trans (dO.left b s m) h.qi
def uf.stop{b:Int}{p q g s:List Int}(h:uf b p q g s)(hs:s=[]):Gcd b p q g:=by
 subst hs;exact⟨h.gy,h.gm (h.some rfl),h.gi,h.pi,h.qi⟩
end Pm
namespace Pm
open Rm
def alP{p:List Int}{k:Nat}(h:co p k≠0):k<p.length:=by
 by_cases c:k<p.length
 .exact c
 .exact absurd (aX ⋯) h
def adb{b:Int}(hb:tk b 1=1){p q:List Int}(hp:Mon p)(hq:Mon q):Mon (mul b p q)/\(mul b p q).length=p.length+q.length-1:=by
 have h1:=hp.pos;have h2:=hq.pos;have e:co (mul b p q) (p.length+q.length-2)=1:=by
  rw[kI,fU];have:sm (p.length+q.length-2+1) (λj=>co p j*co q (p.length+q.length-2-j))=sm (p.length+q.length-2+1) (λj=>if j=p.length-1 then 1 else 0):=aQ λj hj=>by
   by_cases c:j=p.length-1
   .rw[if_pos c,c,hp.one,show p.length+q.length-2-(p.length-1)=q.length-1 by omega,hq.one];rfl
   .rw[if_neg c];by_cases c2:j<p.length-1
    .rw[aX (p:=q) ⋯,aV]
    .rw[aX (p:=p) ⋯,fZ]
  rw[this,mZ,if_pos ⋯,hb]
 have l1:=alP (p:=mul b p q) (k:=p.length+q.length-2) (by rw[e];decide);have l2:(mul b p q).length<=p.length+q.length-1:=by
  refine OV λk hk=>?_;rw[dD];split
  .rw[jX λi hi=>?_,tk0];by_cases c:i<p.length
   .exact .inr (aX ⋯)
   .exact .inl (aX ⋯)
  .rfl
 have l3:(mul b p q).length=p.length+q.length-1:=⋯;exact⟨⟨⋯,by rw[l3,show p.length+q.length-1-1=p.length+q.length-2 by omega];exact e⟩,l3⟩
def yS(b:Int)(c:List Int):Mon (aR b c):=⟨by rw[j6];omega,by
 rw[j6,aR,oG,cu,if_neg ⋯,show c.length+1-1-c.length=0 by omega];rfl⟩
def qW(b:Int)(p:List Int):(ju b p).length=p.length-1:=by rw[ju,cu]
def Qm{b:Int}{w:List Int}(hw:∀k,tk b (co w k)=co w k)(hm:Mon w):aR b (ju b w)=w:=by
 have hp:=hm.pos;refine rA (by rw[j6,qW];omega) λk=>?_;rw[aR,oG,cu,qW];by_cases h:k<w.length-1
 .rw[if_pos h,dD,if_pos h,ju,dD,if_pos ⋯,afk,show w.length-1-1-(w.length-1-1-k)=k by omega,hw]
 .rw[if_neg h];by_cases c:k=w.length-1
  .rw[c,pU,hm.one];rfl
  .rw[aX (p:=w) ⋯,aX];simp;omega
def auX{b:Int}{rule:List Int}{a:Nat->Int}(n:Nat):tk b (ks (aR b rule) a n)=tk b (a (n+rule.length)-S rule a (n+rule.length) rule.length):=by
 unfold ks;rw[j6,sm];have e1:co (aR b rule) rule.length=1:=by
  rw[aR,oG,cu,if_neg ⋯,pU];rfl
 have e2:tk b (sm rule.length λk=>co (aR b rule) k*a (n+k))=tk b (sm rule.length λk=>-1*(co rule (rule.length-1-k)*a (n+k))):=iR λk hk=>by
  rw[aR,oG,cu,if_pos hk,dD,if_pos hk,jE,sG,jf,yK]
 have e3:S rule a (n+rule.length) rule.length=sm rule.length λk=>co rule (rule.length-1-k)*a (n+k):=by
  rw[zf];have rev:∀(m:Nat) (f:Nat->Int),sm m f=sm m λk=>f (m-1-k):=by
   intro m;induction m with
   |zero=>intro f;rfl
   |succ m ih=>
    intro f;rw[oV,sm,ih λi=>f (i+1),oh];have:m+1-1-m=0:=⋯;rw[this];congr 1;exact aQ λk hk=>by rw[show m-1-k+1=m+1-1-k by omega]
  rw[rev];exact aQ λk hk=>by rw[show n+rule.length-1-(rule.length-1-k)=n+k by omega]
 rw[e1,iz,<-jQ,e2,jQ,dJ,<-e3];congr 1;omega
def Kp.rec{b:Int}{rule:List Int}{a:Nat->Int}(h:Kp b (Pm.aR b rule) a):∀n,rule.length<=n->tk b (a n)=tk b (S rule a n rule.length):=λn hn=>by
 have:=h (n-rule.length);rw[auX,show n-rule.length+rule.length=n by omega]at this;exact mU.mp this
def aq0{b:Int}{w:List Int}{a:Nat->Int}(hw:∀k,tk b (co w k)=co w k)(hm:Mon w)(hk:Kp b w a)(ha:∀n,tk b (a n)=a n){starts:List Int}(hl:starts.length=w.length-1)(hs:∀i,i<starts.length->starts.getD i 0=a i)(n:Nat):
  at_ b (ju b w) starts n=a n:=by
 have lr:=qW b w;rw[<-Qm hw hm]at hk;refine at9 ⋯ (g:=a) (λi hi=>(hs i hi).symm) (λi hi=>?_) n;rw[<-ha i];exact hk.rec i ⋯
end Pm
namespace Dm
open Pm
def sg(m:Nat):Int:=if m%2=0 then 1 else -1
def AF(m:Nat):sg (m+1)=-sg m:=by
 unfold sg;by_cases h:m%2=0
 .rw[if_pos h,if_neg ⋯]
 .rw[if_neg h,if_pos ⋯];rfl
def Gh(m n:Nat):sg (m+n)=sg m*sg n:=by
 induction n with
 |zero=>simp[sg]
 |succ n ih=>rw[<-aeQ,AF,AF,ih,uh]
def PL(m:Nat):sg m*sg m=1:=by
 unfold sg;split<;>rfl
def sk(c k:Nat):Nat:=if k<c then k else k+1
def agW(c k:Nat):sk c k≠c:=by unfold sk;split<;>omega
def det:Nat->(Nat->Nat->Int)->Int
 |0,_=>1
 |n+1,f=>sm (n+1) λc=>sg (n+c)*f n c*det n λi k=>f i (sk c k)
theorem jx:∀{n:Nat} {f g:Nat->Nat->Int},(∀i k,i<n->k<n->f i k=g i k)->det n f=det n g
 |0,_,_,_=>rfl
 |n+1,f,g,h=>by
  unfold det;refine aQ λc hc=>?_;rw[h n c ⋯ hc,jx λi k hi hk=>h i (sk c k) ⋯ (by unfold sk;split<;>omega)]
def cJ(f:Nat->Nat->Int)(j:Nat)(u:Nat->Int):Nat->Nat->Int:=λi k=>if k=j then u i else f i k
def fu(f:Nat->Nat->Int)(j:Nat)(u:Nat->Int):Nat->Nat->Int:=λi k=>if i=j then u k else f i k
def nH(f:Nat->Nat->Int)(j:Nat)(u:Nat->Int)(i:Nat):cJ f j u i j=u i:=if_pos rfl
def nU{f:Nat->Nat->Int}{j k:Nat}{u:Nat->Int}{i:Nat}(h:k≠j):cJ f j u i k=f i k:=if_neg h
def auO{c j:Nat}(h:c≠j):∃j',sk c j'=j/\(∀k,sk c k=j->k=j'):=by
 refine⟨if j<c then j else j-1,?_,λk hk=>?_⟩
 .unfold sk;split<;>(try split)<;>omega
 .unfold sk at hk;split at hk<;>split<;>omega
def agv{n c j:Nat}(f:Nat->Nat->Int)(u:Nat->Int)(h:c≠j)(hc:c<n+1)(hj:j<n+1):∃j',j'<n/\∀u,(λi k=>cJ f j u i (sk c k))=cJ (λi k=>f i (sk c k)) j' u:=by
 obtain⟨j',e1,e2⟩:=auO h;refine⟨j',?_,λu=>?_⟩
 .unfold sk at e1;split at e1<;>omega
 .funext i k
  unfold cJ;by_cases z:k=j'
  .rw[if_pos z,if_pos (by rw[z,e1])]
  .rw[if_neg z,if_neg λw=>z (e2 k w)]
theorem uV:∀{n:Nat} (f:Nat->Nat->Int) {j:Nat} (_:j<n) (a:Int) (u v:Nat->Int),det n (cJ f j λi=>a*u i+v i)=a*det n (cJ f j u)+det n (cJ f j v)
 |0,_,_,h,_,_,_=>absurd h (jP _)
 |n+1,f,j,hj,a,u,v=>by
  unfold det;rw[<-dJ,<-iU];refine aQ λc hc=>?_;by_cases e:c=j
  .subst e;have m:∀w,(λi k=>cJ f c w i (sk c k))=λi k=>f i (sk c k):=λw=>by funext i k;exact nU (agW c k)
   rw[m,m,m,nH,nH,nH];rw[jl,tH];congr 1;rw[show sg (n+c)*(a*u n)=a*(sg (n+c)*u n)from gk ..,bV a]
  .obtain⟨j',hj',m⟩:=agv f u e hc hj;rw[m,m,m,uV _ hj',nU e,nU e,nU e,jl];congr 1;exact gk ..
theorem Ip:∀{n:Nat} {f:Nat->Nat->Int} {j:Nat},j+1<n->(∀i,i<n->f i j=f i (j+1))->det n f=0
 |0,_,_,h,_=>absurd h (jP _)
 |n+1,f,j,hj,h=>by
  unfold det;have e:sm (n+1) (λc=>sg (n+c)*f n c*det n λi k=>f i (sk c k))=sm (n+1) (λc=>(if c=j then sg (n+j)*f n j*det n (λi k=>f i (sk j k))else 0)+(if c=j+1 then -(sg (n+j)*f n j*det n (λi k=>f i (sk j k)))else 0)):=aQ λc hc=>by
   by_cases e1:c=j
   .rw[if_pos e1,if_neg ⋯,e1,dz]
   .by_cases e2:c=j+1
    .rw[if_neg e1,if_pos e2,e2,iG,<-h n ⋯,show n+(j+1)=n+j+1 by omega,AF];have:det n (λi k=>f i (sk (j+1) k))=det n (λi k=>f i (sk j k)):=jx λi k hi hk=>by
      by_cases z:k=j
      .subst z;rw[show sk (k+1) k=k by unfold sk;rw[if_pos ⋯],show sk k k=k+1 by unfold sk;rw[if_neg ⋯],h i ⋯]
      .rw[show sk (j+1) k=sk j k by unfold sk;split<;>split<;>omega]
     rw[this,jf,jf]
    .rw[if_neg e1,if_neg e2,dz];have:det n (λi k=>f i (sk c k))=0:=by
      by_cases z:j+1<c
      .exact Ip (j:=j) ⋯ λi hi=>by rw[show sk c j=j by unfold sk;rw[if_pos ⋯],show sk c (j+1)=j+1 by unfold sk;rw[if_pos ⋯]];exact h i ⋯
      .exact Ip (j:=j-1) ⋯ λi hi=>by rw[show sk c (j-1)=j by unfold sk;rw[if_neg ⋯];omega,show sk c (j-1+1)=j+1 by unfold sk;rw[if_neg ⋯];omega];exact h i ⋯
     rw[this,aV]
  rw[e,iU];have s1:∀(x:Int) (t N:Nat),t<N->sm N (λc=>if c=t then x else 0)=x:=λx t N ht=>by rw[mZ,if_pos ht]
  rw[s1 _ _ _ ⋯,s1 _ _ _ hj];omega
def sw(j i:Nat):Nat:=if i=j then j+1 else if i=j+1 then j else i
def A8(f:Nat->Nat->Int)(j:Nat):cJ f j (λi=>f i j)=f:=by
 funext i k;unfold cJ;split
 .rename_i h;rw[h]
 .rfl
def akD{n:Nat}(f:Nat->Nat->Int){j:Nat}(hj:j+1<n):det n (λi k=>f i (sw j k))=-det n f:=by
 let D:=λ(x y:Nat->Int)=>det n (cJ (cJ f j x) (j+1) y)
 have z:∀x,D x x=0:=λx=>Ip hj λi _=>by
  rw[nU ⋯,nH,nH]
 have l2:∀x y y',D x (λi=>1*y i+y' i)=1*D x y+D x y':=λx y y'=>uV _ hj 1 y y';have cm:∀x y,cJ (cJ f j x) (j+1) y=cJ (cJ f (j+1) y) j x:=λx y=>by
  funext i k;unfold cJ;split<;>(try split)<;>first|rfl|omega
 have l1:∀x x' y,D (λi=>1*x i+x' i) y=1*D x y+D x' y:=λx x' y=>by
  show det n _=1*det n _+det n _;rw[cm,cm,cm];exact uV _ ⋯ 1 x x'
 have a:=z λi=>1*f i j+f i (j+1);rw[l1,l2,l2,z,z]at a;have e1:D (λi=>f i j) (λi=>f i (j+1))=det n f:=by
  show det n _=_;rw[A8 f j,A8]
 have e2:D (λi=>f i (j+1)) (λi=>f i j)=det n (λi k=>f i (sw j k)):=jx λi k _ _=>by
  unfold cJ sw;by_cases c1:k=j+1
  .rw[if_pos c1,if_neg ⋯,if_pos c1]
  .rw[if_neg c1];by_cases c2:k=j
   .rw[if_pos c2,if_pos c2]
   .rw[if_neg c2,if_neg c2,if_neg c1]
 rw[e1,e2]at a;omega
def mv(h m k:Nat):Nat:=if k<h then k else if k<m then k+1 else if k=m then h else k
def Zb{h m:Nat}(hm:h<m)(k:Nat):mv h m k=sw h (mv (h+1) m k):=by
 unfold mv sw
 repeat' split
 all_goals omega
theorem Ul{n:Nat}:∀(d:Nat) (f:Nat->Nat->Int) {h m:Nat},m=h+d->m<n->det n (λi k=>f i (mv h m k))=sg d*det n f
 |0,f,h,m,e,hm=>by
  have:det n (λi k=>f i (mv h m k))=det n f:=jx λi k _ _=>by
   rw[show mv h m k=k by unfold mv;split<;>(try split)<;>(try split)<;>omega]
  rw[this];simp[sg]
 |d+1,f,h,m,e,hm=>by
  have e1:(λi k=>f i (mv h m k))=λi k=>(λi k=>f i (sw h k)) i (mv (h+1) m k):=by
   funext i k;rw[Zb ⋯]
  rw[e1,Ul d (λi k=>f i (sw h k)) ⋯ hm,akD f ⋯,AF,uh,jf]
def tY{n:Nat}{f:Nat->Nat->Int}{a b:Nat}(hab:a<b)(hb:b<n)(h:∀i,i<n->f i a=f i b):det n f=0:=by
 have e:=Ul (n:=n) (b-1-a) f (h:=a) (m:=b-1) ⋯ ⋯;have z:det n (λi k=>f i (mv a (b-1) k))=0:=Ip (j:=b-1) ⋯ λi hi=>by
  rw[show mv a (b-1) (b-1)=a by unfold mv;rw[if_neg ⋯,if_neg ⋯,if_pos rfl],show mv a (b-1) (b-1+1)=b by unfold mv;rw[if_neg ⋯,if_neg ⋯,if_neg ⋯];omega];exact h i hi
 rw[z]at e;have s:=PL (b-1-a);have:sg (b-1-a)*(sg (b-1-a)*det n f)=det n f:=by rw[<-bV,s,iz]
 rw[<-e,aV]at this;exact this.symm
theorem C4:∀{n:Nat} (f:Nat->Nat->Int) {j:Nat} (_:j<n) (a:Int) (u v:Nat->Int),det n (fu f j λi=>a*u i+v i)=a*det n (fu f j u)+det n (fu f j v)
 |0,_,_,h,_,_,_=>absurd h (jP _)
 |n+1,f,j,hj,a,u,v=>by
  unfold det;rw[<-dJ,<-iU];refine aQ λc hc=>?_;by_cases e:j=n
  .subst e;have m:∀w,det j (λi k=>fu f j w i (sk c k))=det j (λi k=>f i (sk c k)):=λw=>jx λi k hi _=>if_neg ⋯;rw[m,m,m];show sg (j+c)*(if j=j then _ else _)*_=a*(sg (j+c)*(if j=j then _ else _)*_)+sg (j+c)*(if j=j then _ else _)*_;rw[if_pos rfl,if_pos rfl,if_pos rfl,jl,tH];congr 1;rw[show sg (j+c)*(a*u c)=a*(sg (j+c)*u c)from gk ..,bV a]
  .have m:∀w:Nat->Int,(λi k=>fu f j w i (sk c k))=fu (λi k=>f i (sk c k)) j λk=>w (sk c k):=λw=>by funext i k;rfl
   have r:∀w:Nat->Int,fu f j w n c=f n c:=λw=>if_neg (λz=>e z.symm);rw[m,m,m,r,r,r,C4 (λi k=>f i (sk c k)) ⋯ a (λk=>u (sk c k)) (λk=>v (sk c k)),jl];congr 1;exact gk ..
theorem tri(T:Nat->Nat->Int):∀N:Nat,sm (N+1) (λc=>sm N (λc'=>T c c'))=sm (N+1) (λb=>sm b (λa=>T b a+T a (b-1)))
 |0=>by simp[sm]
 |N+1=>by
  have ih:=tri T N;rw[sm,show(λc=>sm (N+1) λc'=>T c c')=λc=>sm N (λc'=>T c c')+T c N from rfl,iU,ih]
  conv=>rhs;rw[sm]
  rw[iU,fX];have e:(λc'=>T (N+1) c')=T (N+1):=rfl;rw[e];omega
def ahL{a b:Nat}(h:a<b)(k:Nat):sk b (sk a k)=sk a (sk (b-1) k):=by
 unfold sk
 repeat' split
 all_goals omega
theorem Lr:∀{n:Nat} {f:Nat->Nat->Int} {j:Nat},j+1<n->(∀k,k<n->f j k=f (j+1) k)->det n f=0
 |0,_,_,h,_=>absurd h (jP _)
 |1,_,_,h,_=>absurd h ⋯
 |n+2,f,j,hj,h=>by
  by_cases e:j=n
  .subst e;have e1:det (j+2) f=sm (j+1+1) λc=>sm (j+1) λc'=>sg (j+1+c)*f (j+1) c*(sg (j+c')*f j (sk c c')*det j λi k=>f i (sk c (sk c' k))):=by
    show sm (j+1+1) _=_;refine aQ λc _=>?_;rw[show det (j+1) (λi k=>f i (sk c k))=sm (j+1) λc'=>sg (j+c')*f j (sk c c')*det j λi k=>f i (sk c (sk c' k))from rfl,<-dJ]
   rw[e1,tri];refine jj λb hb=>jj λa ha=>?_;have f1:sk b a=a:=by unfold sk;rw[if_pos ha]
   have f2:sk a (b-1)=b:=by unfold sk;rw[if_neg ⋯];omega
   have f3:(λi k=>f i (sk b (sk a k)))=λi k=>f i (sk a (sk (b-1) k)):=by funext i k;rw[ahL ha]
   rw[f1,f2,f3,<-h b ⋯,<-h a ⋯];have s1:sg (j+1+b)*sg (j+a)=-(sg (j+1+a)*sg (j+(b-1))):=by
    rw[<-Gh,<-Gh,<-AF];unfold sg;rw[show(j+1+b+(j+a))%2=(j+1+a+(j+(b-1))+1)%2 by omega]
   generalize det j (λi k=>f i (sk a (sk (b-1) k)))=M;have t1:sg (j+1+b)*f j b*(sg (j+a)*f j a*M)=(sg (j+1+b)*sg (j+a))*(f j b*f j a*M):=by
    simp only[bV,gk]
   have t2:sg (j+1+a)*f j a*(sg (j+(b-1))*f j b*M)=(sg (j+1+a)*sg (j+(b-1)))*(f j b*f j a*M):=by
    simp only[bV,gk]
   rw[t1,t2,s1,jf];omega
  .unfold det;refine jj λc hc=>?_;rw[Lr (n:=n+1) (j:=j) ⋯ λk hk=>h (sk c k) (by unfold sk;split<;>omega),aV]
def Jo(f:Nat->Nat->Int)(j:Nat):fu f j (f j)=f:=by
 funext i k;unfold fu;split
 .rename_i h;rw[h]
 .rfl
def asq{n:Nat}(f:Nat->Nat->Int){j:Nat}(hj:j+1<n):det n (λi k=>f (sw j i) k)=-det n f:=by
 let D:=λ(x y:Nat->Int)=>det n (fu (fu f j x) (j+1) y)
 have z:∀x,D x x=0:=λx=>Lr hj λk _=>by
  show(if j=j+1 then x k else if j=j then x k else f j k)=(if j+1=j+1 then x k else _);rw[if_neg ⋯,if_pos rfl,if_pos rfl]
 have l2:∀x y y',D x (λi=>1*y i+y' i)=1*D x y+D x y':=λx y y'=>C4 _ hj 1 y y';have cm:∀x y,fu (fu f j x) (j+1) y=fu (fu f (j+1) y) j x:=λx y=>by
  funext i k;unfold fu;split<;>(try split)<;>first|rfl|omega
 have l1:∀x x' y,D (λi=>1*x i+x' i) y=1*D x y+D x' y:=λx x' y=>by
  show det n _=1*det n _+det n _;rw[cm,cm,cm];exact C4 _ ⋯ 1 x x'
 have a:=z λi=>1*f j i+f (j+1) i;rw[l1,l2,l2,z,z]at a;have e1:D (λi=>f j i) (λi=>f (j+1) i)=det n f:=by
  show det n _=_;rw[Jo f j,Jo]
 have e2:D (λi=>f (j+1) i) (λi=>f j i)=det n (λi k=>f (sw j i) k):=jx λi k _ _=>by
  unfold fu sw;by_cases c1:i=j+1
  .rw[if_pos c1,if_neg ⋯,if_pos c1]
  .rw[if_neg c1];by_cases c2:i=j
   .rw[if_pos c2,if_pos c2]
   .rw[if_neg c2,if_neg c2,if_neg c1]
 rw[e1,e2]at a;omega
theorem OG{n:Nat}:∀(d:Nat) (f:Nat->Nat->Int) {h m:Nat},m=h+d->m<n->det n (λi k=>f (mv h m i) k)=sg d*det n f
 |0,f,h,m,e,hm=>by
  have:det n (λi k=>f (mv h m i) k)=det n f:=jx λi k _ _=>by
   rw[show mv h m i=i by unfold mv;split<;>(try split)<;>(try split)<;>omega]
  rw[this];simp[sg]
 |d+1,f,h,m,e,hm=>by
  have e1:(λi k=>f (mv h m i) k)=λi k=>(λi k=>f (sw h i) k) (mv (h+1) m i) k:=by
   funext i k;rw[Zb ⋯]
  rw[e1,OG d (λi k=>f (sw h i) k) ⋯ hm,asq f ⋯,AF,uh,jf]
def aaV{n:Nat}{f:Nat->Nat->Int}{a b:Nat}(hab:a<b)(hb:b<n)(h:∀k,k<n->f a k=f b k):det n f=0:=by
 have e:=OG (n:=n) (b-1-a) f (h:=a) (m:=b-1) ⋯ ⋯;have z:det n (λi k=>f (mv a (b-1) i) k)=0:=Lr (j:=b-1) ⋯ λk hk=>by
  rw[show mv a (b-1) (b-1)=a by unfold mv;rw[if_neg ⋯,if_neg ⋯,if_pos rfl],show mv a (b-1) (b-1+1)=b by unfold mv;rw[if_neg ⋯,if_neg ⋯,if_neg ⋯];omega];exact h k hk
 rw[z]at e;have s:=PL (b-1-a);have:sg (b-1-a)*(sg (b-1-a)*det n f)=det n f:=by rw[<-bV,s,iz]
 rw[<-e,aV]at this;exact this.symm
def axl(n:Nat)(f:Nat->Nat->Int):det (n+1) f=sm (n+1) λc=>sg c*f 0 c*det n λi k=>f (i+1) (sk c k):=by
 have e:=OG (n:=n+1) n f (h:=0) (m:=n) ⋯ ⋯;have e1:det (n+1) (λi k=>f (mv 0 n i) k)=sg n*sm (n+1) λc=>sg c*f 0 c*det n λi k=>f (i+1) (sk c k):=by
  rw[<-dJ];show sm (n+1) _=_;refine aQ λc _=>?_;have m:det n (λi k=>f (mv 0 n i) (sk c k))=det n λi k=>f (i+1) (sk c k):=jx λi k hi _=>by
   rw[show mv 0 n i=i+1 by unfold mv;rw[if_neg ⋯,if_pos hi]]
  have z0:mv 0 n n=0:=by unfold mv;rw[if_neg ⋯,if_neg ⋯,if_pos rfl]
  show sg (n+c)*f (mv 0 n n) c*det n (λi k=>f (mv 0 n i) (sk c k))=_;rw[m,z0,Gh];simp only[bV]
 have s:=PL n;have:sg n*(sg n*det (n+1) f)=det (n+1) f:=by rw[<-bV,s,iz]
 rw[<-e,e1,<-bV,s,iz]at this;exact this.symm
def abO{n:Nat}(f:Nat->Nat->Int){a b:Nat}(hab:a<b)(hb:b<n):det n (fu (fu f a (f b)) b λk=>-1*f a k+0)=det n f:=by
 let D:=λ(x y:Nat->Int)=>det n (fu (fu f a x) b y)
 have z:∀x,D x x=0:=λx=>aaV hab hb λk _=>by
  show(if a=b then x k else if a=a then x k else f a k)=(if b=b then x k else _);rw[if_neg ⋯,if_pos rfl,if_pos rfl]
 have l2:∀(c:Int) x y y',D x (λi=>c*y i+y' i)=c*D x y+D x y':=λc x y y'=>C4 _ hb c y y';have cm:∀x y,fu (fu f a x) b y=fu (fu f b y) a x:=λx y=>by
  funext i k;unfold fu;split<;>(try split)<;>first|rfl|omega
 have l1:∀x x' y,D (λi=>1*x i+x' i) y=1*D x y+D x' y:=λx x' y=>by
  show det n _=1*det n _+det n _;rw[cm,cm,cm];exact C4 _ ⋯ 1 x x'
 have q:=z λi=>1*f a i+f b i;rw[l1,l2,l2,z,z]at q;have e1:D (f a) (f b)=det n f:=by
  show det n _=_;rw[Jo f a,Jo]
 have e3:D (f b) (λk=>-1*f a k+0)=-1*D (f b) (f a)+D (f b) (λ_=>0):=l2 (-1) (f b) (f a) (λ_=>0);have e4:D (f b) (λ_=>0)=0:=by
  have:=l2 0 (f b) (λ_=>0) (λ_=>0);have e5:=l2 (-1) (f b) (λ_=>0) (λ_=>0);simp only[aV,dz]at e5;omega
 show D (f b) (λk=>-1*f a k+0)=_;rw[e3,e4];have e6:D (λi=>f a i) (λi=>f b i)=det n f:=e1;have e7:D (λi=>f b i) (λi=>f a i)=D (f b) (f a):=rfl;rw[e6,e7]at q;omega
end Dm
namespace Dm
open Pm
def Ep{n:Nat}(f:Nat->Nat->Int){j:Nat}(hj:j<n):det n (cJ f j λ_=>0)=0:=by
 have e:=uV f hj (-1) (λ_=>0) (λ_=>0);simp only[aV,dz]at e;omega
theorem Bs{n:Nat}(f:Nat->Nat->Int){j:Nat}(hj:j<n)(x:Nat->Int)(u:Nat->Nat->Int):∀m:Nat,det n (cJ f j λi=>sm m λh=>x h*u h i)=sm m λh=>x h*det n (cJ f j (u h))
 |0=>Ep f hj
 |m+1=>by
  rw[sm,<-Bs f hj x u m];have e:=uV f hj (x m) (u m) (λi=>sm m λh=>x h*u h i);rw[oh,<-e];congr 2
  funext i
  rw[sm,oh]
def aqd{n:Nat}{f:Nat->Nat->Int}{x:Nat->Int}(h:∀i,i<n->sm n (λk=>f i k*x k)=0){j:Nat}(hj:j<n):x j*det n f=0:=by
 have e1:det n (cJ f j λi=>sm n λk=>x k*f i k)=0:=by
  rw[<-Ep f hj];refine jx λi k hi _=>?_;unfold cJ;split
  .rw[<-h i hi];exact aQ λk _=>bR ..
  .rfl
 rw[Bs f hj x (λk i=>f i k)]at e1;have e2:sm n (λk=>x k*det n (cJ f j λi=>f i k))=sm n (λk=>if k=j then x j*det n f else 0):=aQ λk hk=>by
  by_cases c:k=j
  .rw[if_pos c,c,A8]
  .rw[if_neg c];have z:det n (cJ f j λi=>f i k)=0:=by
    rcases E9 c with l|l
    .exact tY l hj λi _=>by rw[nH,nU ⋯]
    .exact tY l hk λi _=>by rw[nH,nU ⋯]
   rw[z,aV]
 rw[e2,mZ,if_pos hj]at e1;exact e1
def Bk(A:Nat->Nat->Int)(hd:Nat->Nat):Nat->Nat->Int:=λi h=>A i (hd h)
def dt(A:Nat->Nat->Int)(hd:Nat->Nat)(r:Nat):Int:=det r (Bk A hd)
def cr(A:Nat->Nat->Int)(hd:Nat->Nat)(r h k:Nat):Int:=det r (cJ (Bk A hd) h λi=>A i k)
def bd(A:Nat->Nat->Int)(hd:Nat->Nat)(r i k:Nat):Int:=det (r+1) λi' k'=>A (if i'=r then i else i') (if k'=r then k else hd k')
def ud(A:Nat->Nat->Int)(hd:Nat->Nat)(r i k:Nat):bd A hd r i k=A i k*dt A hd r-sm r λh=>A i (hd h)*cr A hd r h k:=by
 unfold bd;rw[det,sm];have e1:sg (r+r)*A (if r=r then i else r) (if r=r then k else hd r)*det r (λi' k'=>A (if i'=r then i else i') (if sk r k'=r then k else hd (sk r k')))=A i k*dt A hd r:=by
  rw[if_pos rfl,if_pos rfl,show sg (r+r)=1 by unfold sg;rw[if_pos ⋯],iz];congr 1;exact jx λi' k' hi hk=>by
   rw[if_neg ⋯,show sk r k'=k' by unfold sk;rw[if_pos hk],if_neg ⋯];rfl
 rw[e1];have e2:sm r (λc=>sg (r+c)*A (if r=r then i else r) (if c=r then k else hd c)*det r (λi' k'=>A (if i'=r then i else i') (if sk c k'=r then k else hd (sk c k'))))=sm r λh=>-1*(A i (hd h)*cr A hd r h k):=aQ λc hc=>by
  rw[if_pos rfl,if_neg ⋯];have m:det r (λi' k'=>A (if i'=r then i else i') (if sk c k'=r then k else hd (sk c k')))=sg (r-1-c)*cr A hd r c k:=by
   rw[cr,<-Ul (n:=r) (r-1-c) (cJ (Bk A hd) c λi=>A i k) (h:=c) (m:=r-1) ⋯ ⋯];refine jx λi' k' hi hk=>?_;rw[if_neg ⋯];unfold sk mv cJ Bk;by_cases c1:k'<c
   .rw[if_pos c1,if_pos c1,if_neg ⋯,if_neg ⋯]
   .rw[if_neg c1,if_neg c1];by_cases c2:k'<r-1
    .rw[if_pos c2,if_neg ⋯,if_neg ⋯]
    .rw[if_neg c2,if_pos (show k'+1=r by omega),if_pos (show k'=r-1 by omega),if_pos rfl]
  rw[m];have s:sg (r+c)*sg (r-1-c)=-1:=by
   rw[<-Gh];unfold sg;rw[if_neg ⋯]
  have t:sg (r+c)*A i (hd c)*(sg (r-1-c)*cr A hd r c k)=(sg (r+c)*sg (r-1-c))*(A i (hd c)*cr A hd r c k):=by simp only[bV,gk]
  rw[t,s]
 rw[e2,dJ];omega
def Rp{A:Nat->Nat->Int}{hd:Nat->Nat}{r i:Nat}(k:Nat)(h:i<r):bd A hd r i k=0:=aaV h (vG r) λk' _=>by
 rw[if_neg ⋯,if_pos rfl]
def WB{A:Nat->Nat->Int}{hd:Nat->Nat}{r i:Nat}(k:Nat)(h:i<r):sm r (λh=>A i (hd h)*cr A hd r h k)=A i k*dt A hd r:=by
 have:=ud A hd r i k;rw[Rp k h]at this;omega
def Uz(A:Nat->Nat->Int)(hd:Nat->Nat)(r i k:Nat):sm r (λh=>A i (hd h)*cr A hd r h k)=A i k*dt A hd r-bd A hd r i k:=by
 have:=ud A hd r i k;omega
def more(hd:Nat->Nat)(r c:Nat):Nat->Nat:=λh=>if h=r then c else hd h
def Fl(A:Nat->Nat->Int)(hd:Nat->Nat)(r c:Nat):dt A (more hd r c) (r+1)=bd A hd r r c:=jx λi k _ _=>by
 unfold Bk more;by_cases h:i=r
 .rw[if_pos h,h]
 .rw[if_neg h]
def XD(A:Nat->Nat->Int)(hd:Nat->Nat)(r c k:Nat):cr A (more hd r c) (r+1) r k=bd A hd r r k:=jx λi k' _ _=>by
 unfold cJ Bk more;by_cases h:i=r
 .rw[if_pos h,h];by_cases h2:k'=r
  .rw[if_pos h2,if_pos h2]
  .rw[if_neg h2,if_neg h2,if_neg h2]
 .rw[if_neg h];by_cases h2:k'=r
  .rw[if_pos h2,if_pos h2]
  .rw[if_neg h2,if_neg h2,if_neg h2]
def adD(A:Nat->Nat->Int)(hd:Nat->Nat)(r c i k:Nat):
  sm r (λh=>A i (hd h)*(bd A hd r r c*cr A hd r h k-cr A hd r h c*bd A hd r r k))+A i c*(dt A hd r*bd A hd r r k)=bd A hd r r c*(A i k*dt A hd r-bd A hd r i k)+bd A hd r r k*bd A hd r i c:=by
 have e1:sm r (λh=>A i (hd h)*(bd A hd r r c*cr A hd r h k-cr A hd r h c*bd A hd r r k))=bd A hd r r c*sm r (λh=>A i (hd h)*cr A hd r h k) + -(bd A hd r r k)*sm r (λh=>A i (hd h)*cr A hd r h c):=by
  rw[<-dJ,<-dJ,<-iU];refine aQ λh _=>?_;rw[iI,jf,gk,<-bV (A i (hd h)),bR (A i (hd h)*cr A hd r h c)];omega
 rw[e1,Uz,Uz,iI (-bd A hd r r k),jf,jf];have e2:A i c*(dt A hd r*bd A hd r r k)=bd A hd r r k*(A i c*dt A hd r):=by simp only[bV,gk,bR]
 rw[e2];omega
def af5{A:Nat->Nat->Int}{hd:Nat->Nat}{r c:Nat}(hp:bd A hd r r c≠0){h:Nat}(hh:h<r)(k:Nat):dt A hd r*cr A (more hd r c) (r+1) h k=bd A hd r r c*cr A hd r h k-cr A hd r h c*bd A hd r r k:=by
 let x:=λh=>dt A hd r*cr A (more hd r c) (r+1) h k-(if h=r then dt A hd r*bd A hd r r k else bd A hd r r c*cr A hd r h k-cr A hd r h c*bd A hd r r k)
 have key:=aqd (n:=r+1) (f:=Bk A (more hd r c)) (x:=x) (λi hi=>?_) (j:=h) ⋯
 .have e:det (r+1) (Bk A (more hd r c))=bd A hd r r c:=Fl A hd r c;rw[e]at key;rcases lF.mp key with z|z
  .have z':dt A hd r*cr A (more hd r c) (r+1) h k-(if h=r then dt A hd r*bd A hd r r k else bd A hd r r c*cr A hd r h k-cr A hd r h c*bd A hd r r k)=0:=z;rw[if_neg ⋯]at z';omega
  .exact absurd z hp
 .have e1:sm (r+1) (λh=>Bk A (more hd r c) i h*x h)=dt A hd r*sm (r+1) (λh=>A i (more hd r c h)*cr A (more hd r c) (r+1) h k) + -1*sm (r+1) (λh=>A i (more hd r c h)*(if h=r then dt A hd r*bd A hd r r k else bd A hd r r c*cr A hd r h k-cr A hd r h c*bd A hd r r k)):=by
   rw[<-dJ,<-dJ,<-iU];refine aQ λh _=>?_;show A i (more hd r c h)*(dt A hd r*cr A (more hd r c) (r+1) h k-_)=_;rw[iI,gk];omega
  rw[e1,WB k hi,Fl,sm,if_pos rfl,show more hd r c r=c from if_pos rfl];have e2:sm r (λh=>A i (more hd r c h)*(if h=r then dt A hd r*bd A hd r r k else bd A hd r r c*cr A hd r h k-cr A hd r h c*bd A hd r r k))=sm r (λh=>A i (hd h)*(bd A hd r r c*cr A hd r h k-cr A hd r h c*bd A hd r r k)):=aQ λh hh=>by
   rw[if_neg ⋯,show more hd r c h=hd h from if_neg ⋯]
  rw[e2,adD];have e3:dt A hd r*(A i k*bd A hd r r c)=bd A hd r r c*(A i k*dt A hd r):=by simp only[bV,gk,bR]
  rw[e3,iI];have e4:bd A hd r r c*bd A hd r i k=bd A hd r r k*bd A hd r i c:=by
   by_cases z:i<r
   .rw[Rp k z,Rp c z,aV,aV]
   .rw[show i=r by omega,bR]
  rw[e4];omega
def avZ{A:Nat->Nat->Int}{hd:Nat->Nat}{r c:Nat}(hp:bd A hd r r c≠0)(i k:Nat):dt A hd r*bd A (more hd r c) (r+1) i k=bd A hd r r c*bd A hd r i k-bd A hd r i c*bd A hd r r k:=by
 rw[ud A (more hd r c) (r+1),Fl,iI,<-dJ,sm,XD,show more hd r c r=c from if_pos rfl];have e2:sm r (λh=>dt A hd r*(A i (more hd r c h)*cr A (more hd r c) (r+1) h k))=sm r (λh=>A i (hd h)*(bd A hd r r c*cr A hd r h k-cr A hd r h c*bd A hd r r k)):=aQ λh hh=>by
  rw[gk,af5 hp hh,show more hd r c h=hd h from if_neg ⋯]
 have e5:=adD A hd r c i k;rw[e2,show dt A hd r*(A i c*bd A hd r r k)=A i c*(dt A hd r*bd A hd r r k)from gk ..,e5,iI];have e3:dt A hd r*(A i k*bd A hd r r c)=bd A hd r r c*(A i k*dt A hd r):=by simp only[bV,gk,bR]
 rw[e3,bR (bd A hd r i c)];omega
def En(A:Nat->Nat->Int)(hd:Nat->Nat)(r i k:Nat):Int:=if i<r then cr A hd r i k else bd A hd r i k
def awx(A:Nat->Nat->Int)(hd:Nat->Nat)(i k:Nat):En A hd 0 i k=A i k:=by
 unfold En;rw[if_neg ⋯,ud];simp[sm,dt,det]
def DQ{A:Nat->Nat->Int}{hd:Nat->Nat}{r c:Nat}(hp:En A hd r r c≠0){i:Nat}(hi:i≠r)(k:Nat):dt A hd r*En A (more hd r c) (r+1) i k=En A hd r r c*En A hd r i k-En A hd r i c*En A hd r r k:=by
 have er:∀k,En A hd r r k=bd A hd r r k:=λk=>if_neg ⋯;rw[er]at hp⊢;rw[er];unfold En;by_cases h:i<r
 .rw[if_pos ⋯,if_pos h,if_pos h];exact af5 hp h k
 .rw[if_neg ⋯,if_neg h,if_neg h];exact avZ hp i k
def aaJ(A:Nat->Nat->Int)(hd:Nat->Nat)(r c k:Nat):En A (more hd r c) (r+1) r k=En A hd r r k:=by
 unfold En;rw[if_pos ⋯,if_neg ⋯];exact XD A hd r c k
def Tj(A:Nat->Nat->Int)(hd:Nat->Nat)(r c:Nat):dt A (more hd r c) (r+1)=En A hd r r c:=by
 rw[Fl];exact(if_neg ⋯).symm
def MJ(A:Nat->Nat->Int)(hd:Nat->Nat):dt A hd 0=1:=rfl
def anw{A:Nat->Nat->Int}{hd:Nat->Nat}{r i h:Nat}(hh:h<r):En A hd r i (hd h)=if i=h then dt A hd r else 0:=by
 unfold En;by_cases c:i<r
 .rw[if_pos c];by_cases e:i=h
  .rw[if_pos e,e];show det r (cJ (Bk A hd) h λi=>Bk A hd i h)=_;rw[A8];rfl
  .rw[if_neg e];show det r (cJ (Bk A hd) i λi'=>A i' (hd h))=0;rcases E9 e with l|l
   .exact tY l hh λi' _=>by rw[nH,nU ⋯];rfl
   .exact tY l c λi' _=>by rw[nH,nU ⋯];rfl
 .rw[if_neg c,if_neg ⋯];exact tY (a:=h) (b:=r) hh (vG r) λi' _=>by rw[if_neg (show ¬h=r by omega),if_pos (show r=r from rfl)]
def aak(A:Nat->Nat->Int)(hd:Nat->Nat)(r i k:Nat):A i k*dt A hd r=sm r (λh=>A i (hd h)*En A hd r h k)+(if i<r then 0 else En A hd r i k):=by
 have e:sm r (λh=>A i (hd h)*En A hd r h k)=sm r (λh=>A i (hd h)*cr A hd r h k):=aQ λh hh=>by
  unfold En;rw[if_pos hh]
 rw[e];by_cases c:i<r
 .rw[if_pos c,WB k c,dz]
 .rw[if_neg c,Uz];unfold En;rw[if_neg c];omega
def atN{A:Nat->Nat->Int}{hd:Nat->Nat}{n r c:Nat}{p:Int}(hc:c<n)(hn:∀h,h<r->hd h<n/\hd h≠c)(hz:∀i,r<=i->i<n->∃e,En A hd r i c=p*e):∃e,dt A hd r*det n A=p*e:=by
 have hz':∀i,i<n->∃e,(if i<r then 0 else En A hd r i c)=p*e:=λi hi=>by
  by_cases z:i<r
  .exact⟨0,by rw[if_pos z,aV]⟩
  .obtain⟨e,he⟩:=hz i ⋯ hi;exact⟨e,by rw[if_neg z,he]⟩
 let y:=λi=>if h:i<n then X7 (hz' i h)else 0
 have hy:∀i,i<n->(if i<r then 0 else En A hd r i c)=p*y i:=λi hi=>by
  show _=p*(if h:i<n then X7 (hz' i h)else 0);rw[dif_pos hi];exact Classical.choose_spec (hz' i hi)
 refine⟨det n (cJ A c y),?_⟩;have e1:dt A hd r*det n A=det n (cJ A c λi=>dt A hd r*A i c+0):=by
  have:=uV A hc (dt A hd r) (λi=>A i c) (λ_=>0);rw[A8,Ep A hc,dz]at this;exact this.symm
 have e2:det n (cJ A c λi=>dt A hd r*A i c+0)=det n (cJ A c λi=>p*y i+sm r λh=>En A hd r h c*A i (hd h)):=jx λi k hi _=>by
  unfold cJ;split
  .have:=aak A hd r i c;rw[hy i hi]at this;have e3:sm r (λh=>A i (hd h)*En A hd r h c)=sm r (λh=>En A hd r h c*A i (hd h)):=aQ λh _=>bR ..;rw[e3]at this;show dt A hd r*A i c+0=p*y i+sm r λh=>En A hd r h c*A i (hd h);rw[bR (dt A hd r),this];omega
  .rfl
 rw[e1,e2,uV A hc p y,Bs A hc (λh=>En A hd r h c) (λh i=>A i (hd h))];have e4:sm r (λh=>En A hd r h c*det n (cJ A c λi=>A i (hd h)))=0:=jj λh hh=>by
  obtain⟨h1,h2⟩:=hn h hh;have z:det n (cJ A c λi=>A i (hd h))=0:=by
   rcases E9 h2 with l|l
   .exact tY l hc λi _=>by rw[nH,nU ⋯]
   .exact tY l h1 λi _=>by rw[nH,nU ⋯]
  rw[z,aV]
 rw[e4,dz]
end Dm
namespace Dm
open Pm Rm
def Dom(b:Int):Prop:=∀x y,tk b x≠0->tk b (x*y)=0->tk b y=0
def Dom.zero:Dom 0:=λx y hx h=>by
 rw[bw]at *;rcases lF.mp h with z|z
 .exact absurd z hx
 .exact z
def Dom.prime{P:Nat}(hP:P∈Om.n6)(h2:2<=P):Dom (P:Int):=λx y hx h=>by
 have vZ:(P:Int)≠0:=⋯;have jm:∀n,tk (P:Int) n=n%(P:Int):=λn=>jJ vZ n;rw[jm]at *;have r0:=rG x vZ;have r1:=sV x (show(0:Int)<P by omega);have hinv:((x%P)^(P-2)*(x%P))%(P:Int)=1:=by
  rw[<-jd,show(P-2).succ=P-1 by omega];exact Om.Di rfl hP ⋯ r1
 have e1:((x%P)^(P-2)*(x*y))%(P:Int)=0:=by rw[m9,h,aV];exact Nm _
 have e2:((x%P)^(P-2)*(x*y))%(P:Int)=y%(P:Int):=by
  have e3:((x%P)^(P-2)*x)%(P:Int)=1:=by rw[m9,<-hinv,m9 ((x%P)^(P-2)) (x%P),nq _ (nM _)]
  rw[<-bV,m9,e3,iz,nq _ (nM _)]
 rw[<-e2,e1]
def tU{b x:Int}:tk b x=0↔∃e,x=b*e:=by
 unfold tk;split
 .rename_i h
  constructor
  .intro z;exact⟨0,by rw[z,aV]⟩
  .rintro⟨e,he⟩;rw[he,h,fZ]
 .constructor
  .intro z;exact⟨x/b,(Int.mul_ediv_cancel' (C8 z)).symm⟩
  .rintro⟨e,he⟩;rw[he];exact Int.mul_emod_right b e
def turn(A:Nat->Nat->Int)(a c:Nat):Nat->Nat->Int:=fu (fu A a (A c)) c λk=>-1*A a k+0
inductive uy(n:Nat)(A0:Nat->Nat->Int):(Nat->Nat->Int)->Prop
 |refl:uy n A0 A0
 |step {A:Nat->Nat->Int} {a c:Nat}:uy n A0 A->a<c->c<n->uy n A0 (turn A a c)
theorem uy.det{n:Nat}{A0 A:Nat->Nat->Int}(h:uy n A0 A):Dm.det n A=Dm.det n A0:=by
 induction h with
 |refl=>rfl
 |step _ h1 h2 ih=>rw[<-ih];exact abO _ h1 h2
def vY{A:Nat->Nat->Int}{a c i:Nat}(h1:i≠a)(h2:i≠c)(k:Nat):turn A a c i k=A i k:=by
 unfold turn fu;rw[if_neg h2,if_neg h1]
def DG{A:Nat->Nat->Int}{a c:Nat}(h:a≠c)(k:Nat):turn A a c a k=A c k:=by
 unfold turn fu;rw[if_neg h,if_pos rfl]
def wM(A:Nat->Nat->Int)(a c k:Nat):turn A a c c k=-A a k:=by
 unfold turn fu;rw[if_pos rfl];show -1*A a k+0=-A a k;omega
def EB{A:Nat->Nat->Int}{hd:Nat->Nat}{r a c:Nat}(ha:r<=a)(hc:r<=c):dt (turn A a c) hd r=dt A hd r:=jx λi k hi _=>vY ⋯ ⋯ _
def abg{A:Nat->Nat->Int}{hd:Nat->Nat}{r a c:Nat}(ha:r<=a)(hc:r<=c)(h k:Nat):cr (turn A a c) hd r h k=cr A hd r h k:=jx λi k' hi _=>by
 show(if k'=h then turn A a c i k else turn A a c i (hd k'))=if k'=h then A i k else A i (hd k');rw[vY ⋯ ⋯,vY ⋯ ⋯]
def BF{A:Nat->Nat->Int}{hd:Nat->Nat}{r a c:Nat}(ha:r<=a)(hac:a<c)(i k:Nat):En (turn A a c) hd r i k=if i=a then En A hd r c k else if i=c then -En A hd r a k else En A hd r i k:=by
 have hc:r<=c:=⋯;unfold En;by_cases h:i<r
 .rw[if_pos h,if_neg ⋯,if_neg ⋯,if_pos h];exact abg ha hc i k
 .rw[if_neg h,ud,EB ha hc];have e:∀j,sm r (λh=>turn A a c j (hd h)*cr (turn A a c) hd r h k)=sm r (λh=>turn A a c j (hd h)*cr A hd r h k):=λj=>aQ λh _=>by rw[abg ha hc]
  rw[e];by_cases h1:i=a
  .rw[if_pos h1,if_neg ⋯,ud,h1,DG ⋯];congr 1;exact aQ λh _=>by rw[DG ⋯]
  .rw[if_neg h1];by_cases h2:i=c
   .rw[if_pos h2,if_neg ⋯,ud,h2,wM];have:sm r (λh=>turn A a c c (hd h)*cr A hd r h k)=-1*sm r (λh=>A a (hd h)*cr A hd r h k):=by
     rw[<-dJ];exact aQ λh _=>by rw[wM,jf];omega
    rw[this,jf];omega
   .rw[if_neg h2,if_neg h,ud,vY h1 h2];congr 1;exact aQ λh _=>by rw[vY h1 h2]
def ln(L:List (List Int))(i:Nat):List Int:=L.getD i []
structure dH(b:Int)(n W u:Nat)(A0:Nat->Nat->Int)(c:Nat)(A:Nat->Nat->Int)(hd:Nat->Nat)(r:Nat)(L:List (List Int))(last:Int):Prop where
 sw:uy n A0 A
 len:L.length=n
 wd:∀i,i<n->(ln L i).length=W
 en:∀i k,i<n->k<W->co (ln L i) k=tk b (En A hd r i k)
 la:last=tk b (dt A hd r)
 nz:tk b (dt A hd r)≠0
 rn:r<=n
 hc:∀h,h<r->hd h<c
 up:∀h h',h<h'->h'<r->hd h<hd h'
 zero:∀k,k<c->(∀h,h<r->hd h≠k)->∀i,r<=i->i<n->tk b (En A hd r i k)=0
 full:c<=n->(r=c/\∀h,h<r->hd h=h)∨tk b (det n A)=0
 ux:∀i k,Bd u (A i k)
 ge:∀h,h<r->∀k,k<hd h->(∀h',h'<r->hd h'≠k)->tk b (En A hd r h k)=0
def dH.start{b:Int}{W u:Nat}{L:List (List Int)}(hb:tk b 1=1)(hw:∀i,i<L.length->(ln L i).length=W)(hn:∀i k,tk b (co (ln L i) k)=co (ln L i) k)(hu:∀i k,Bd u (co (ln L i) k)):
  dH b L.length W u (λi k=>co (ln L i) k) 0 (λi k=>co (ln L i) k) (λ_=>0) 0 L 1:=
 ⟨.refl,rfl,hw,λi k _ _=>by rw[awx,hn],by rw[MJ,hb],by rw[MJ,hb];decide,cj _,λh hh=>absurd hh (jP _),λ_ _ _ h=>absurd h (jP _),λk hk=>absurd hk (jP _),λ_=> .inl ⟨rfl,λh hh=>absurd hh (jP _)⟩,hu,λh hh=>absurd hh (jP _)⟩
def dH.skip{b:Int}{n W u:Nat}{A0:Nat->Nat->Int}{c:Nat}{A:Nat->Nat->Int}{hd:Nat->Nat}{r:Nat}{L:List (List Int)}{last:Int}(h:dH b n W u A0 c A hd r L last)(hD:Dom b)(m8:c<W)
  (hz:∀i,r<=i->i<n->co (ln L i) c=0):dH b n W u A0 (c+1) A hd r L last:=by
 have hz':∀i,r<=i->i<n->tk b (En A hd r i c)=0:=λi h1 h2=>by rw[<-h.en i c h2 m8];exact hz i h1 h2
 refine⟨h.sw,h.len,h.wd,h.en,h.la,h.nz,h.rn,λk hk=>by have:=h.hc k hk;omega,h.up,λk hk hn i h1 h2=>?_,λhcn=> .inr ?_,h.ux,h.ge⟩
 .by_cases e:k=c
  .rw[e];exact hz' i h1 h2
  .exact h.zero k ⋯ hn i h1 h2
 .obtain⟨e,he⟩:=atN (A:=A) (hd:=hd) (n:=n) (r:=r) (c:=c) (p:=b) ⋯ (λk hk=>by have:=h.hc k hk;omega) λi h1 h2=>tU.mp (hz' i h1 h2);exact hD _ _ h.nz (tU.mpr ⟨e,he⟩)
def dH.bring{b:Int}{n W u:Nat}{A0:Nat->Nat->Int}{c:Nat}{A:Nat->Nat->Int}{hd:Nat->Nat}{r:Nat}{L L':List (List Int)}{last:Int}(h:dH b n W u A0 c A hd r L last){a:Nat}(hra:r<a)(han:a<n)
  (hl:L'.length=n) (e1:ln L' r=ln L a) (e2:ln L' a=(ln L r).map λx=>tk b (0-x)) (e3:∀i,i≠r->i≠a->ln L' i=ln L i):dH b n W u A0 c (turn A r a) hd r L' last:=by
 have hrn:r<n:=⋯;refine⟨.step h.sw hra han,hl,λi hi=>?_,λi k hi hk=>?_,by rw[EB (aJ _) ⋯];exact h.la,by rw[EB (aJ _) ⋯];exact h.nz,h.rn,h.hc,h.up,λk hk hn i h1 h2=>?_,λhcn=>?_,λi k=>?_,λj hj k hk hn=>by rw[BF (aJ _) hra,if_neg ⋯,if_neg ⋯];exact h.ge j hj k hk hn⟩
 .by_cases c1:i=r
  .rw[c1,e1];exact h.wd a han
  .by_cases c2:i=a
   .rw[c2,e2,aB];exact h.wd r hrn
   .rw[e3 i c1 c2];exact h.wd i hi
 .rw[BF (aJ _) hra];by_cases c1:i=r
  .rw[if_pos c1,c1,e1];exact h.en a k han hk
  .rw[if_neg c1];by_cases c2:i=a
   .rw[if_pos c2,c2,e2,lY (by simp[tk0]),h.en r k hrn hk];rw[show 0-tk b (En A hd r r k)=-1*tk b (En A hd r r k)by omega,dR];congr 1;omega
   .rw[if_neg c2,e3 i c1 c2];exact h.en i k hi hk
 .rw[BF (aJ _) hra];by_cases c1:i=r
  .rw[if_pos c1];exact h.zero k hk hn a ⋯ han
  .rw[if_neg c1];by_cases c2:i=a
   .rw[if_pos c2];have:=h.zero k hk hn r (aJ _) hrn;rw[<-yK,<-dR,this,aV];exact tk0 b
   .rw[if_neg c2];exact h.zero k hk hn i h1 h2
 .have e:det n (turn A r a)=det n A:=abO A hra han;rw[e];exact h.full hcn
 .by_cases c2:i=a
  .rw[c2,wM];have:=h.ux r k;unfold Bd at this⊢;rw[CN];exact this
  .by_cases c1:i=r
   .rw[c1,DG ⋯];exact h.ux a k
   .rw[vY c1 c2];exact h.ux i k
def dH.free{b:Int}{n W u:Nat}{A0:Nat->Nat->Int}{c:Nat}{A:Nat->Nat->Int}{hd:Nat->Nat}{r:Nat}{L L':List (List Int)}{last:Int}(h:dH b n W u A0 c A hd r L last)(hD:Dom b)(m8:c<W)(hrn:r<n)
  (hp:co (ln L r) c≠0) (hl:L'.length=n) (e1:ln L' r=ln L r) (e2:∀i,i<n->i≠r->(ln L' i).length=W/\∀k,k<W->co (ln L' i) k=tk b (co (ln L' i) k)/\tk b (last*co (ln L' i) k)=tk b (co (ln L r) c*co (ln L i) k-co (ln L i) c*co (ln L r) k)):
  dH b n W u A0 (c+1) A (more hd r c) (r+1) L' (co (ln L r) c):=by
 have hpe:tk b (En A hd r r c)≠0:=by rw[<-h.en r c hrn m8];exact hp
 have hpi:En A hd r r c≠0:=λz=>hpe (by rw[z];exact tk0 b);have hen:∀i k,i<n->k<W->co (ln L' i) k=tk b (En A (more hd r c) (r+1) i k):=λi k hi hk=>by
  by_cases c1:i=r
  .rw[c1,e1,aaJ];exact h.en r k hrn hk
  .obtain⟨_,q⟩:=e2 i hi c1;obtain⟨q1,q2⟩:=q k hk;have s:=DQ hpi c1 k;have e3:tk b (dt A hd r*co (ln L' i) k)=tk b (dt A hd r*En A (more hd r c) (r+1) i k):=by
    rw[s,<-jE,<-h.la,q2,h.en r c hrn m8,h.en i k hi hk,h.en i c hi m8,h.en r k hrn hk];have t1:tk b (tk b (En A hd r r c)*tk b (En A hd r i k))=tk b (En A hd r r c*En A hd r i k):=by rw[jE,dR]
    have t2:tk b (-1*(tk b (En A hd r i c)*tk b (En A hd r r k)))=tk b (-1*(En A hd r i c*En A hd r r k)):=by rw[<-dR,jE,dR b (En A hd r i c),dR]
    have:=jA t1 t2;rw[show tk b (En A hd r r c)*tk b (En A hd r i k)-tk b (En A hd r i c)*tk b (En A hd r r k)=tk b (En A hd r r c)*tk b (En A hd r i k) + -1*(tk b (En A hd r i c)*tk b (En A hd r r k))by omega,this];congr 1;omega
   have e4:tk b (dt A hd r*(co (ln L' i) k-En A (more hd r c) (r+1) i k))=0:=by
    rw[iI];exact mU.mpr e3
   have e5:=mU.mp (hD _ _ h.nz e4);rw[q1];exact e5
 refine⟨h.sw,hl,λi hi=>?_,hen,?_,?_,⋯,λk hk=>?_,λk k' h1 h2=>?_,λk hk hn i h1 h2=>?_,λhcn=>?_,h.ux,λj hj k hk hn=>?_⟩
 .by_cases c1:i=r
  .rw[c1,e1];exact h.wd r hrn
  .exact(e2 i hi c1).1
 .rw[Tj];exact h.en r c hrn m8
 .rw[Tj];exact hpe
 .unfold more;split
  .omega
  .have:=h.hc k ⋯;omega
 .unfold more;rw[if_neg ⋯];split
  .exact h.hc k ⋯
  .exact h.up k k' h1 ⋯
 ·-- columns without a head stay nought
  by_cases e:k=c
  .exact absurd (show more hd r c r=k by unfold more;rw[if_pos rfl,e]) (hn r ⋯)
  .have hn':∀h',h'<r->hd h'≠k:=λh' hh=>by
    have:=hn h' ⋯;unfold more at this
    rwa [if_neg ⋯]at this
   have z1:=h.zero k ⋯ hn' i ⋯ h2;have z2:=h.zero k ⋯ hn' r (aJ _) hrn;have s:=DQ hpi (show i≠r by omega) k;refine hD _ _ h.nz ?_;rw[s];refine mU.mpr ?_;rw[<-dR,z1,aV,<-dR b (En A hd r i c),z2,aV]
 .rcases h.full ⋯ with⟨f1,f2⟩|f
  .refine .inl ⟨⋯,λk hk=>?_⟩;unfold more;split
   .omega
   .exact f2 k ⋯
  .exact .inr f
 ·-- ahead of a line's head there is nothing but heads
  have hn':∀h',h'<r->hd h'≠k:=λh' hh=>by
   have:=hn h' ⋯;unfold more at this
   rwa [if_neg ⋯]at this
  have hkc:k<c:=by
   unfold more at hk;split at hk
   .exact hk
   .have:=h.hc j ⋯;omega
  have z2:=h.zero k hkc hn' r (aJ _) hrn;by_cases e:j=r
  .rw[e,aaJ];exact z2
  .have hk':k<hd j:=by unfold more at hk;rwa [if_neg e]at hk
   have z1:=h.ge j ⋯ k hk' hn';have s:=DQ hpi e k;refine hD _ _ h.nz ?_;rw[s];refine mU.mpr ?_;rw[<-dR,z1,aV,<-dR b (En A hd r j c),z2,aV]
theorem Am{u:Nat}:∀{n:Nat} {f:Nat->Nat->Int},(∀i k,i<n->k<n->Bd u (f i k))->Bd (n*(u+n)+1) (det n f)
 |0,_,_=>by
  show Bd (0*(u+0)+1) 1;rw[Mr];exact Bd.of ∅ ∅
 |n+1,f,h=>by
  unfold det;have e:Bd (u+(n*(u+n)+1)+(n+1)) (sm (n+1) λc=>sg (n+c)*f n c*det n λi k=>f i (sk c k)):=Bg _ λc hc=>by
   have b1:=h n c ⋯ hc;have b2:=Am (u:=u) (n:=n) (f:=λi k=>f i (sk c k)) λi k hi hk=>h i (sk c k) ⋯ (by unfold sk;split<;>omega);have b3:=b1.mul b2;unfold Bd at b3⊢;rw[bV,pA];have:(sg (n+c)).natAbs=1:=by unfold sg;split<;>rfl
   rw[this,vW];exact b3
  refine e.mono ?_;have:(n+1)*(u+(n+1))=n*(u+n)+n+u+(n+1):=by
   rw[um,show u+(n+1)=u+n+1 by omega,Bo n (u+n) 1];omega
  omega
def dH.bdE{b:Int}{n W u:Nat}{A0:Nat->Nat->Int}{c:Nat}{A:Nat->Nat->Int}{hd:Nat->Nat}{r:Nat}{L:List (List Int)}{last:Int}(h:dH b n W u A0 c A hd r L last)(i k:Nat):Bd ((r+1)*(u+(r+1))+1) (En A hd r i k):=by
 unfold En;split
 .refine(Am (u:=u) λi' k' _ _=>?_).mono ?_
  .unfold cJ Bk;split<;>exact h.ux _ _
  .have:r*(u+r)<=(r+1)*(u+(r+1)):=gM ⋯ ⋯;omega
 .exact Am (u:=u) λi' k' _ _=>h.ux _ _
end Dm
namespace Dm
open Rm Pm
def wg{b x:Int}(h:tk b x=0):tk b (-x)=0:=by
 have:=dR b (-1) x;rw[h,aV,tk0]at this;rw[show -x=-1*x by omega,<-this]
def Ed{b x:Int}(y:Int)(h:tk b x=0):tk b (y*x)=0:=by rw[<-dR,h,aV,tk0]
def axq{b x y:Int}(h:tk b x=0)(h':tk b y=0):tk b (x+y)=0:=by rw[<-jQ,h,iG,h']
def W3{b x y:Int}(h:tk b x=0)(h':tk b y=0):tk b (x-y)=0:=by rw[Qq];exact axq h (wg h')
def Xd(f:Nat->Int)(n:Nat):sm n (λk=>-f k)=-sm n f:=by
 have e:(λk=>-f k)=λk=>-1*f k:=funext λk=>⋯;rw[e,dJ];omega
def adH(f g:Nat->Int)(n:Nat):sm n (λk=>f k-g k)=sm n f-sm n g:=by
 have e:(λk=>f k-g k)=λk=>f k + -g k:=funext λk=>⋯;rw[e,iU,Xd];omega
def Vu{b:Int}{f:Nat->Int}{n:Nat}(h:∀k,k<n->tk b (f k)=0):tk b (sm n f)=0:=by
 have:=iR (b:=b) (f:=f) (g:=λ_=>0) (n:=n) λk hk=>by rw[h k hk,tk0]
 rw[this,uY,tk0]
def Rel(b:Int)(n m:Nat)(A:Nat->Nat->Int)(x:Nat->Int):Prop:=∀i,i<n->tk b (sm m λk=>A i k*x k)=0
def aa7(A:Nat->Nat->Int)(x:Nat->Int)(i m:Nat):sm m (λk=>-A i k*x k)=-sm m λk=>A i k*x k:=by
 rw[<-Xd];exact aQ λk _=>jf ..
theorem Rel.turn{b:Int}{n m:Nat}{A:Nat->Nat->Int}{x:Nat->Int}{a c:Nat}(hac:a<c)(hc:c<n):Rel b n m A x↔Rel b n m (turn A a c) x:=by
 have ha:a<n:=⋯;constructor
 .intro h i hi;by_cases c1:i=c
  .rw[c1,aQ (g:=λk=>-A a k*x k) λk _=>by rw[wM],aa7];exact wg (h a ha)
  .by_cases c2:i=a
   .rw[c2,aQ (g:=λk=>A c k*x k) λk _=>by rw[DG ⋯]];exact h c hc
   .rw[aQ (g:=λk=>A i k*x k) λk _=>by rw[vY c2 c1]];exact h i hi
 .intro h i hi;by_cases c1:i=c
  .have:=h a ha;rw[aQ (g:=λk=>A c k*x k) λk _=>by rw[DG ⋯]]at this;rw[c1];exact this
  .by_cases c2:i=a
   .have:=h c hc;rw[aQ (g:=λk=>-A a k*x k) λk _=>by rw[wM],aa7]at this;rw[c2];have:=wg this
    rwa [Dn]at this
   .have:=h i hi;rw[aQ (g:=λk=>A i k*x k) λk _=>by rw[vY c2 c1]]at this;exact this
def uy.rel{b:Int}{n m:Nat}{A0 A:Nat->Nat->Int}{x:Nat->Int}(h:uy n A0 A):Rel b n m A0 x↔Rel b n m A x:=by
 induction h with
 |refl=>exact Iff.rfl
 |step _ h1 h2 ih=>exact ih.trans (Rel.turn h1 h2)
theorem Xb{b:Int}:∀{n:Nat} {f g:Nat->Nat->Int},(∀i k,i<n->k<n->tk b (f i k)=tk b (g i k))->tk b (det n f)=tk b (det n g)
 |0,_,_,_=>rfl
 |n+1,f,g,h=>by
  unfold det;refine iR λc hc=>?_;have e1:tk b (det n λi k=>f i (sk c k))=tk b (det n λi k=>g i (sk c k)):=Xb λi k hi hk=>h i _ ⋯ (by unfold sk;split<;>omega);rw[<-dR,e1,dR,bV,<-dR,<-jE b (f n c),h n c ⋯ hc,jE,dR,bV]
def Rel.en{b:Int}{n m:Nat}{A:Nat->Nat->Int}{x:Nat->Int}(hx:Rel b n m A x)(hd:Nat->Nat){r:Nat}(hr:r<=n):Rel b n m (En A hd r) x:=by
 have low:∀i,i<r->tk b (sm m λk=>cr A hd r i k*x k)=0:=λi hi=>by
  have e:=Bs (n:=r) (Bk A hd) hi x (λk i'=>A i' k) m;have e2:sm m (λk=>cr A hd r i k*x k)=sm m λk=>x k*det r (cJ (Bk A hd) i λi'=>A i' k):=aQ λk _=>bR ..;rw[e2,<-e,Xb (g:=cJ (Bk A hd) i λ_=>0) (λi' k' hi' _=>?_),Ep _ hi,tk0];unfold cJ;split
  .have:=hx i' ⋯;rw[tk0,<-this];exact congrArg (tk b) (aQ λk _=>bR ..)
  .rfl
 intro i hi;by_cases c:i<r
 .rw[aQ (g:=λk=>cr A hd r i k*x k) λk _=>by unfold En;rw[if_pos c]];exact low i c
 .have e:sm m (λk=>En A hd r i k*x k)=dt A hd r*sm m (λk=>A i k*x k)-sm r λh=>A i (hd h)*sm m λk=>cr A hd r h k*x k:=by
   rw[<-dJ];have e2:sm r (λh=>A i (hd h)*sm m λk=>cr A hd r h k*x k)=sm m λk=>sm r λh=>A i (hd h)*(cr A hd r h k*x k):=by
    rw[CD];exact aQ λh _=>(dJ ..).symm
   rw[e2,<-adH];refine aQ λk _=>?_;unfold En;rw[if_neg c,ud,yj];congr 1
   .rw[bR (A i k),bV]
   .rw[bR,<-dJ];exact aQ λh _=>by rw[bR,bV]
  rw[e];exact W3 (Ed _ (hx i hi)) (Vu λh hh=>Ed _ (low h hh))
def tu(b:Int)(n m:Nat)(A:Nat->Nat->Int):Prop:=∀x,Rel b n m A x->∀k,k<m->tk b (x k)=0
def Ui{A:Nat->Nat->Int}{hd:Nat->Nat}{r m k:Nat}{b:Int}{n:Nat}(hm:∀h,h<r->hd h<m)(hk:k<m)(hz:∀i,r<=i->i<n->tk b (En A hd r i k)=0):
  Rel b n m A λj=>sm r (λh=>if j=hd h then En A hd r h k else 0)-if j=k then dt A hd r else 0:=λi hi=>by
 have e:sm m (λj=>A i j*(sm r (λh=>if j=hd h then En A hd r h k else 0)-if j=k then dt A hd r else 0))=sm r (λh=>A i (hd h)*En A hd r h k)-A i k*dt A hd r:=by
  rw[aQ (g:=λj=>sm r (λh=>if j=hd h then A i (hd h)*En A hd r h k else 0)-if j=k then A i k*dt A hd r else 0) λj _=>?_,adH,mZ,if_pos hk,CD]
  .congr 1;exact aQ λh hh=>by rw[mZ,if_pos (hm h hh)]
  .rw[iI,<-dJ];congr 1
   .refine aQ λh _=>?_;by_cases c:j=hd h
    .rw[if_pos c,if_pos c,c]
    .rw[if_neg c,if_neg c,aV]
   .by_cases c:j=k
    .rw[if_pos c,if_pos c,c]
    .rw[if_neg c,if_neg c,aV]
 rw[e];have q:=aak A hd r i k;by_cases c:i<r
 .rw[if_pos c,dz]at q;rw[q,afl,tk0]
 .rw[if_neg c]at q;rw[q,show sm r (λh=>A i (hd h)*En A hd r h k)-(sm r (λh=>A i (hd h)*En A hd r h k)+En A hd r i k)=-En A hd r i k by omega];exact wg (hz i ⋯ hi)
def dH.apM{b:Int}{n W u m:Nat}{A0 A:Nat->Nat->Int}{hd:Nat->Nat}{r:Nat}{L:List (List Int)}{last:Int}(h:dH b n W u A0 m A hd r L last):∀j,j<r->j<=hd j:=λj=>by
 induction j with
 |zero=>intro _;exact cj _
 |succ j ih=>
  intro hj;have:=ih ⋯;have:=h.up j (j+1) ⋯ hj;omega
def dH.arI{b:Int}{n W u m:Nat}{A0 A:Nat->Nat->Int}{hd:Nat->Nat}{r:Nat}{L:List (List Int)}{last:Int}(h:dH b n W u A0 m A hd r L last)(Qa:∀k,k<m->∃j,j<r/\hd j=k):r=m/\∀k,k<m->hd k=k:=by
 have ge:=h.apM;have all:∀k,k<m->k<r/\hd k=k:=λk=>by
  induction k using sX with
  |ind k ih=>
   intro hk;obtain⟨j,hj,e⟩:=Qa k hk;have g:=ge j hj;by_cases c:j=k
   .rw[<-c];exact⟨hj,by rw[e,c]⟩
   .have:=(ih j ⋯ ⋯).2;omega
 refine⟨?_,λk hk=>(all k hk).2⟩;by_cases c:r<=m
 .by_cases c2:r=m
  .exact c2
  .have:=(all r ⋯).1;omega
 .have:=h.hc m ⋯;have:=ge m ⋯;omega
def dH.aiw{b:Int}{n W u m:Nat}{A0 A:Nat->Nat->Int}{hd:Nat->Nat}{r:Nat}{L:List (List Int)}{last:Int}(h:dH b n W u A0 m A hd r L last)(hI:tu b n m A0):r=m/\∀k,k<m->hd k=k:=by
 refine h.arI λk hk=>?_;by_cases c:∃j,j<r/\hd j=k
 .exact c
 .exfalso
  have hn:∀j,j<r->hd j≠k:=λj hj e=>c ⟨j,hj,e⟩;have R:=Ui (A:=A) (hd:=hd) (r:=r) (m:=m) (k:=k) (b:=b) (n:=n) h.hc hk (h.zero k hk hn);have z:=hI _ (h.sw.rel.mpr R) k hk;rw[if_pos rfl,jj (λj hj=>by rw[if_neg (λe=>hn j hj e.symm)]),sG]at z;have:=wg z;rw[Dn]at this;exact h.nz this
def gZ(b:Int)(n m:Nat)(A:Nat->Nat->Int)(x:Nat->Int)(bot:Int):Prop:=∀i,i<n->tk b (sm m λk=>A i k*x k)=tk b (bot*A i m)
def gZ.rel{b:Int}{n m:Nat}{A:Nat->Nat->Int}{x:Nat->Int}{bot:Int}:gZ b n m A x bot↔Rel b n (m+1) A λk=>if k=m then -bot else x k:=by
 have e:∀i,sm (m+1) (λk=>A i k*if k=m then -bot else x k)=sm m (λk=>A i k*x k)-bot*A i m:=λi=>by
  rw[sm,if_pos rfl,aQ (g:=λk=>A i k*x k) λk hk=>by rw[if_neg ⋯],uh,bR bot];omega
 constructor
 .intro h i hi;show tk b (sm (m+1) λk=>A i k*if k=m then -bot else x k)=0;rw[e];exact mU.mpr (h i hi)
 .intro h i hi;have q:tk b (sm (m+1) λk=>A i k*if k=m then -bot else x k)=0:=h i hi;rw[e]at q;exact mU.mp q
def dH.sums{b:Int}{n W u m:Nat}{A0 A:Nat->Nat->Int}{hd:Nat->Nat}{r:Nat}{L:List (List Int)}{last:Int}(h:dH b n W u A0 m A hd r L last){x:Nat->Int}{bot:Int}(hx:gZ b n m A0 x bot):gZ b n m (En A hd r) x bot:=
 gZ.rel.mpr ((h.sw.rel.mp (gZ.rel.mp hx)).en hd h.rn)
def dH.auo{b:Int}{n W u m:Nat}{A0 A:Nat->Nat->Int}{hd:Nat->Nat}{r:Nat}{L:List (List Int)}{last:Int}(h:dH b n W u A0 m A hd r L last){x:Nat->Int}{bot:Int}(hD:Dom b)(hb:tk b bot≠0)(hx:gZ b n m A0 x bot):
  ∀i,r<=i->i<n->tk b (En A hd r i m)=0:=λi h1 h2=>by
 have q:=h.sums hx i h2;refine hD bot _ hb ?_;rw[<-q];refine Vu λk hk=>?_;rw[bR];refine Ed _ ?_;by_cases c:∃j,j<r/\hd j=k
 .obtain⟨j,hj,e⟩:=c;rw[<-e,anw hj,if_neg ⋯,tk0]
 .exact h.zero k hk (λj hj e=>c ⟨j,hj,e⟩) i h1 h2
def qD(b:Int)(L:List (List Int))(ws:List Int):List (List Int):=(eO L.length).map λi=>(ln L i++[co ws i]).map (tk b)
def wj(b:Int)(L:List (List Int))(ws:List Int):(qD b L ws).length=L.length:=by rw[qD,aB,oO]
def B6{b:Int}{L:List (List Int)}{ws:List Int}{i:Nat}(hi:i<L.length):ln (qD b L ws) i=(ln L i++[co ws i]).map (tk b):=by
 show(qD b L ws).getD i []=_;rw[qD,List.getD_eq_getElem?_getD,List.getElem?_map,List.getElem?_range hi];rfl
def aug(b:Int)(L:List (List Int))(ws:List Int):Nat->Nat->Int:=λi k=>co (ln (qD b L ws) i) k
def avt{b:Int}{L:List (List Int)}{ws:List Int}{i k m:Nat}(hi:i<L.length)(hm:(ln L i).length=m)(hk:k<m):aug b L ws i k=tk b (co (ln L i) k):=by
 unfold aug;rw[B6 hi,lY (tk0 b),oG,if_pos ⋯]
def ahw{b:Int}{L:List (List Int)}{ws:List Int}{i m:Nat}(hi:i<L.length)(hm:(ln L i).length=m):aug b L ws i m=tk b (co ws i):=by
 unfold aug;rw[B6 hi,lY (tk0 b),oG,if_neg ⋯,hm,pU,fK]
def amg{b:Int}{L:List (List Int)}{ws:List Int}(i k:Nat):tk b (aug b L ws i k)=aug b L ws i k:=by
 unfold aug;by_cases hi:i<L.length
 .rw[B6 hi,lY (tk0 b),gJ]
 .have e:ln (qD b L ws) i=[]:=by
   unfold ln;rw[List.getD_eq_getElem?_getD,List.getElem?_eq_none (by rw[wj];omega)];rfl
  rw[e,fV,tk0]
def pJ(E:Nat->Int)(hd:Nat->Nat)(wide i:Nat):List Int:=aP wide λk=>sm i λh=>if k=hd h then E h else 0
def Ai(E:Nat->Int)(hd:Nat->Nat)(wide i:Nat):(pJ E hd wide i).length=wide:=cu ..
def aqo(E:Nat->Int)(hd:Nat->Nat)(wide:Nat):pJ E hd wide 0=aP wide λ_=>0:=rfl
def am1{E:Nat->Int}{hd:Nat->Nat}{wide i:Nat}(hi:hd i<wide)(hu:∀h,h<i->hd h≠hd i):(pJ E hd wide i).set (hd i) (E i)=pJ E hd wide (i+1):=by
 refine rA (by rw[oJ,Ai,Ai]) λk=>?_;rw[Ay _ _ _ _ (by rw[Ai];exact hi),pJ,pJ,dD,dD];by_cases hk:k<wide
 .rw[if_pos hk,if_pos hk,sm];by_cases c:k=hd i
  .rw[if_pos c,if_pos c,c,jj λh hh=>if_neg λe=>hu h hh e.symm,iG]
  .rw[if_neg c,if_neg c,dz]
 .rw[if_neg hk,if_neg hk,if_neg ⋯]
end Dm
namespace Pm
open Rm
def Fs(f:Nat->Int)(n:Nat):Prop:=∀k,n<=k->f k=0
theorem Fs.co(p:List Int):Fs (co p) p.length:=λ_ h=>aX h
def Fs.mono{f:Nat->Int}{m n:Nat}(h:Fs f m)(hmn:m<=n):Fs f n:=λk hk=>h k ⋯
def Fs.add{f g:Nat->Int}{n:Nat}(h:Fs f n)(h':Fs g n):Fs (λk=>f k+g k) n:=λk hk=>by show f k+g k=0;rw[h k hk,h' k hk];rfl
def Fs.mul{f:Nat->Int}{n:Nat}(c:Int)(h:Fs f n):Fs (λk=>c*f k) n:=λk hk=>by show c*f k=0;rw[h k hk,aV]
theorem Fs.cv{f g:Nat->Int}{m n:Nat}(h:Fs f m)(h':Fs g n):Fs (Pm.cv f g) (m+n):=λk hk=>jX λi _=>by
 by_cases c:m<=i
 .exact .inl (h i c)
 .exact .inr (h' _ ⋯)
def Jy{b x:Int}(y:Int)(h:tk b x=0):tk b (y*x)=0:=by rw[<-dR,h,aV,tk0]
def Kd{b:Int}{m:List Int}(hm:Mon m){f:Nat->Int}{n:Nat}(hf:Fs f n)(h:∀k,m.length-1<=k->tk b (cv f (co m) k)=0):∀k,tk b (f k)=0:=by
 have q:∀d j,n<=j+d->tk b (f j)=0:=λd=>by
  induction d with
  |zero=>intro j hj;rw[hf j hj,tk0]
  |succ d ih=>
   intro j hj;have e:=h (j+(m.length-1)) ⋯;rw[fU]at e;have e2:tk b (sm (j+(m.length-1)+1) λi=>f i*co m (j+(m.length-1)-i))=tk b (sm (j+(m.length-1)+1) λi=>if i=j then f j else 0):=iR λi hi=>by
    by_cases c:i=j
    .rw[if_pos c,c,D8,hm.one,jh]
    .rw[if_neg c,tk0];by_cases d2:i<j
     .rw[aX (by have:=hm.pos;omega),aV,tk0]
     .rw[bR];exact Jy _ (ih i ⋯)
   rw[e2,mZ,if_pos ⋯]at e;exact e
 exactλk=>q n k ⋯
def Dv(b:Int)(m:List Int)(f:Nat->Int):Prop:=∃s n,Fs s n/\∀k,tk b (f k)=tk b (cv s (co m) k)
def Dv.congr{b:Int}{m:List Int}{f g:Nat->Int}(e:∀k,tk b (f k)=tk b (g k))(h:Dv b m f):Dv b m g:=by
 obtain⟨s,n,hs,h⟩:=h;exact⟨s,n,hs,λk=>by rw[<-e,h]⟩
def Dv.zero(b:Int)(m:List Int):Dv b m λ_=>0:=⟨λ_=>0,0,λ_ _=>rfl,λk=>by rw[jX λi _=> .inl rfl]⟩
theorem Dv.add{b:Int}{m:List Int}{f g:Nat->Int}(h:Dv b m f)(h':Dv b m g):Dv b m λk=>f k+g k:=by
 obtain⟨s,n,hs,h⟩:=h;obtain⟨s',n',hs',h'⟩:=h';exact⟨λk=>s k+s' k,n+n',(hs.mono ⋯).add (hs'.mono ⋯),λk=>by rw[m5];exact jA (h k) (h' k)⟩
def Dv.smul{b:Int}{m:List Int}{f:Nat->Int}(c:Int)(h:Dv b m f):Dv b m λk=>c*f k:=by
 obtain⟨s,n,hs,h⟩:=h;exact⟨λk=>c*s k,n,hs.mul c,λk=>by rw[nj,<-dR,h,dR]⟩
def Dv.sub{b:Int}{m:List Int}{f g:Nat->Int}(h:Dv b m f)(h':Dv b m g):Dv b m λk=>f k-g k:=
 (h.add (h'.smul (-1))).congr λk=>by rw[show f k + -1*g k=f k-g k by omega]
def Dv.mul{b:Int}{m:List Int}{f g:Nat->Int}{n:Nat}(hg:Fs g n)(h:Dv b m f):Dv b m (cv g f):=by
 obtain⟨s,n',hs,h⟩:=h;exact⟨cv g s,n+n',hg.cv hs,λk=>by rw[gH];exact iH (λi _=>rfl) λi _=>h i⟩
def Dv.self{b:Int}{m:List Int}{g:Nat->Int}{n:Nat}(hg:Fs g n):Dv b m (cv g (co m)):=⟨g,n,hg,λ_=>rfl⟩
def Dv.short{b:Int}{m:List Int}(hm:Mon m){f:Nat->Int}(hf:Fs f (m.length-1))(h:Dv b m f):∀k,tk b (f k)=0:=by
 obtain⟨s,n,hs,h⟩:=h;have z:=Kd (b:=b) hm hs λk hk=>by rw[<-h,hf k hk,tk0]
 intro k;rw[h,<-tk0 b,<-jX (f:=λ_=>(0:Int)) (g:=co m) (k:=k) λi _=> .inl rfl];exact iH (λi _=>by rw[z,tk0]) λi _=>rfl
def tp(P:List Int)(a:Nat->Int)(k:Nat):Int:=sm (P.length-1-k) λi=>co P (k+1+i)*a i
def Bc(P:List Int)(a:Nat->Int):Fs (tp P a) (P.length-1):=λk hk=>by unfold tp;rw[show P.length-1-k=0 by omega];rfl
def acP{b:Int}{P:List Int}{a a':Nat->Int}(h:∀n,tk b (a n)=tk b (a' n))(k:Nat):tk b (tp P a k)=tk b (tp P a' k):=iR λi _=>by rw[<-dR,h,dR]
def ai1(P:List Int)(c:Int)(a a':Nat->Int)(k:Nat):tp P (λn=>c*a n+a' n) k=c*tp P a k+tp P a' k:=by
 unfold tp;rw[<-dJ,<-iU];refine aQ λi _=>?_;rw[jl,gk]
def aue{b:Int}{P:List Int}(hP:0<P.length){a:Nat->Int}(h0:tk b (ks P a 0)=0)(k:Nat):tk b (if k=0 then 0 else tp P a (k-1))=tk b (tp P (λn=>a (n+1)) k+a 0*co P k):=by
 by_cases c:k=0
 .rw[if_pos c,c,tk0,<-h0];refine congrArg (tk b) ?_;unfold ks tp;obtain⟨N,hN⟩:∃N,P.length=N+1:=⟨P.length-1,⋯⟩;rw[hN,oV,fX,tV,oh,bR (co P 0)];congr 1;exact aQ λi _=>by rw[Hi,Hi,ad8 1 i]
 .rw[if_neg c];by_cases d:k<P.length
  .refine congrArg (tk b) ?_;unfold tp;rw[show P.length-1-(k-1)=(P.length-1-k)+1 by omega,oV,oh];congr 1
   .exact aQ λi _=>by rw[show k-1+1+(i+1)=k+1+i by omega]
   .rw[show k-1+1+0=k by omega,bR]
  .rw[Bc P a (k-1) ⋯,Bc P _ k ⋯,aX ⋯,aV];rfl
def XG(x:Int)(q:List Int)(f:Nat->Int)(k:Nat):cv (co (x::q)) f k=x*f k+(if k=0 then 0 else cv (co q) f (k-1)):=by
 cases k with
 |zero=>rw[cv,fK,if_pos rfl,dz]
 |succ k=>
  rw[cv,fK,if_neg ⋯,fX];congr 1
def ajv(q f:Nat->Int)(k:Nat):(if k=0 then 0 else cv q f (k-1))=cv q (λi=>if i=0 then 0 else f (i-1)) k:=by
 cases k with
 |zero=>rw[if_pos rfl,cv,if_pos rfl,aV]
 |succ k=>rw[if_neg ⋯,fX,MX,if_pos rfl,aV,dz];rfl
def aoT(x:Int)(q:List Int)(a:Nat->Int)(n:Nat):ks (x::q) a n=x*a n+ks q (λn=>a (n+1)) n:=by
 unfold ks;rw[fB,oV,fK,RB];congr 1
theorem MR{b:Int}{P:List Int}(hP:0<P.length):∀(q:List Int) {a:Nat->Int},Kp b P a->Dv b P λk=>cv (co q) (tp P a) k-tp P (ks q a) k
 |[],a,_=>(Dv.zero b P).congr λk=>by
  rw[jX λi _=> .inl (fV i)];have:tp P (ks [] a) k=0:=jj λi _=>by show co P (k+1+i)*0=0;exact aV _
  rw[this];rfl
 |x::q,a,h=>by
  have h1:Kp b P λn=>a (n+1):=λn=>by
   have e:ks P (λn=>a (n+1)) n=ks P a (n+1):=aQ λk _=>by show _*a (n+k+1)=_*a (n+1+k);rw[show n+k+1=n+1+k by omega]
   rw[e];exact h (n+1)
  have ih:=MR hP q h1;have d:=Dv.self (b:=b) (m:=P) ((Fs.co q).mul (a 0));refine(ih.add d).congr λk=>?_;have e1:tk b (if k=0 then 0 else cv (co q) (tp P a) (k-1))=tk b (cv (co q) (tp P λn=>a (n+1)) k+a 0*cv (co q) (co P) k):=by
   rw[ajv,<-nj,iH (λi _=>rfl) λi _=>aue hP (h 0) i,Qj];congr 2;rw[jo,nj,nj,jo]
  have e2:tp P (ks (x::q) a) k=x*tp P a k+tp P (ks q λn=>a (n+1)) k:=by
   rw[<-ai1];unfold tp;exact aQ λi _=>by rw[aoT]
  rw[XG,e2,nj];have e3:=jA e1 (rfl:tk b (-(tp P (ks q λn=>a (n+1)) k))=_);rw[show x*tp P a k+(if k=0 then 0 else cv (co q) (tp P a) (k-1))-(x*tp P a k+tp P (ks q λn=>a (n+1)) k)=(if k=0 then 0 else cv (co q) (tp P a) (k-1)) + -(tp P (ks q λn=>a (n+1)) k)by omega,e3];refine congrArg (tk b) ?_;omega
def adA{b:Int}{P:List Int}(hm:Mon P){e:Nat->Int}(h:∀k,tk b (tp P e k)=0):∀n,n<P.length-1->tk b (e n)=0:=λn=>by
 induction n using sX with
 |ind n ih=>
  intro hn;have q:=h (P.length-1-1-n);unfold tp at q;rw[show P.length-1-(P.length-1-1-n)=n+1 by omega,sm]at q;have z:tk b (sm n λi=>co P (P.length-1-1-n+1+i)*e i)=0:=by
   have:=iR (b:=b) (n:=n) (f:=λi=>co P (P.length-1-1-n+1+i)*e i) (g:=λ_=>0) λi hi=>by rw[tk0];exact Jy _ (ih i hi ⋯)
   rw[this,uY,tk0]
  rw[<-jQ,z,iG,show P.length-1-1-n+1+n=P.length-1 by omega,hm.one,iz]at q;exact q
def avk{b:Int}{rule:List Int}{a:Nat->Int}(ha:∀n,rule.length<=n->tk b (a n)=tk b (S rule a n rule.length))(q:List Int):
  Kp b q a↔Dv b (aR b rule) (cv (co q) (tp (aR b rule) a)):=by
 have hm:=yS b rule;have hK:Kp b (aR b rule) a:=Kp.aR ha;have A:=MR hm.pos q hK;constructor
 .intro h;have z:Dv b (aR b rule) (tp (aR b rule) (ks q a)):=(Dv.zero b _).congr λk=>by
   have:=acP (b:=b) (P:=aR b rule) (a:=ks q a) (a':=λ_=>0) (λn=>by rw[h n,tk0]) k;rw[this];exact(congrArg (tk b) (show tp (aR b rule) (λ_=>0) k=0 from jj λi _=>aV _)).symm
  exact(A.add z).congr λk=>by rw[af2]
 .intro h;have z:Dv b (aR b rule) (tp (aR b rule) (ks q a)):=(h.sub A).congr λk=>by
   rw[show cv (co q) (tp (aR b rule) a) k-(cv (co q) (tp (aR b rule) a) k-tp (aR b rule) (ks q a) k)=tp (aR b rule) (ks q a) k by omega]
  have n0:=adA hm (z.short hm (Bc _ _));rw[j6,fX]at n0;exact Oq ha n0
structure LQ(b:Int)(p:List Int)(t:Nat->Int)(g:List Int):Prop where
 mon:Mon g
 one:Dv b g (co p)
 two:Dv b g t
 sum:∃(N:Int) (u v:Nat->Int) (n:Nat),tk b N≠0/\Fs u n/\Fs v n/\∀k,tk b (N*co g k)=tk b (cv u (co p) k+cv v t k)
def YD{b:Int}{m:List Int}(hm:Mon m){p:List Int}(hp:∀k,tk b (co p k)=co p k):∃q r,Div b p m q r:=by
 have go:∀d,d<=p.length-(m.length-1)->∃o l,qF b p m (p.length-(m.length-1)-d) o l:=λd=>by
  induction d with
  |zero=>intro _;exact⟨_,_,qF.start hp⟩
  |succ d ih=>
   intro hd;obtain⟨o,l,I⟩:=ih ⋯;obtain⟨s,hs⟩:∃s,p.length-(m.length-1)-d=s+1:=⟨p.length-(m.length-1)-d-1,⋯⟩;rw[hs]at I;refine⟨o.set s (co l (s+(m.length-1))),aP l.length λk=>lf b (co l (s+(m.length-1))) s m.length l m k,?_⟩;rw[show p.length-(m.length-1)-(d+1)=s by omega];refine I.step hm ⋯ (cu ..) λk=>?_;rw[dD];by_cases c:k<l.length
   .rw[if_pos c]
   .rw[if_neg c];have hl:=I.ll;have hmp:=hm.pos;unfold lf;rw[if_neg ⋯,aX ⋯]
 obtain⟨o,l,I⟩:=go _ (aJ _);rw[pU]at I;exact⟨_,_,I.stop hm⟩
def aoJ{b:Int}(hD:∀x y,tk b x≠0->tk b (x*y)=0->tk b y=0){L:List Int}(hL:Mon L){N:Int}(hN:tk b N≠0){f:Nat->Int}{n:Nat}(hf:Fs f n)(h:Dv b L λk=>N*f k):Dv b L f:=by
 obtain⟨o,r,D⟩:=YD (b:=b) hL (p:=aP n λk=>tk b (f k)) λk=>by
  rw[dD];split
  .exact gJ ..
  .exact tk0 b
 have ef:∀k,tk b (co (aP n λk=>tk b (f k)) k)=tk b (f k):=λk=>by
  rw[dD];by_cases c:k<n
  .rw[if_pos c,gJ]
  .rw[if_neg c,hf k ⋯]
 have e:∀k,tk b (f k)=tk b (cv (co o) (co L) k+co r k):=λk=>by rw[D.eq,ef]
 have z:Dv b L λk=>N*co r k:=(h.sub ((Dv.self (b:=b) (m:=L) (Fs.co o)).smul N)).congr λk=>by
  rw[show N*f k-N*cv (co o) (co L) k=N*(f k-cv (co o) (co L) k)by rw[iI],<-dR,<-dR b N (co r k)];congr 2;have:=e k;have q:=jA this (rfl:tk b (-cv (co o) (co L) k)=_);rw[show f k-cv (co o) (co L) k=f k + -cv (co o) (co L) k by omega,q];exact congrArg (tk b) ⋯
 have hr:Fs (λk=>N*co r k) (L.length-1):=((Fs.co r).mono (by have:=D.short;omega)).mul N;have z0:=z.short hL hr;refine⟨co o,o.length,Fs.co o,λk=>?_⟩;rw[e,<-yF,hD N _ hN (z0 k),dz]
def LQ.keeps{b:Int}(hD:∀x y,tk b x≠0->tk b (x*y)=0->tk b y=0){rule:List Int}{a:Nat->Int}(ha:∀n,rule.length<=n->tk b (a n)=tk b (S rule a n rule.length)){g L:List Int}(h:LQ b (aR b rule) (tp (aR b rule) a) g)(hL:Mon L)
  (hP:∀k,tk b (co (aR b rule) k)=tk b (cv (co L) (co g) k)) (q:List Int):Kp b q a↔Dv b L (co q):=by
 rw[avk ha q];generalize aR b rule=P at h hP;obtain⟨t,nt,ht,hT⟩:=h.two;obtain⟨N,u,v,n,hN,hu,hv,hs⟩:=h.sum;generalize tp P a=T at h hT hs;have bez:∀k,tk b ((if k=0 then N else 0)-(cv u (co L) k+cv v t k))=0:=by
  refine Kd (b:=b) h.mon (n:=1+(n+L.length)+(n+nt)) (λk hk=>?_) λk _=>?_
  .show(if k=0 then N else 0)-(cv u (co L) k+cv v t k)=0;rw[if_neg ⋯,hu.cv (Fs.co L) k ⋯,hv.cv ht k ⋯];rfl
  .have e:cv (λk=>(if k=0 then N else 0)-(cv u (co L) k+cv v t k)) (co g) k=N*co g k + -1*(cv u (cv (co L) (co g)) k+cv v (cv t (co g)) k):=by
    rw[<-gH,<-gH,<-m5,<-nj];have e2:N*co g k=cv (λk=>if k=0 then N else 0) (co g) k:=by rw[Ci,if_pos (cj _),tV]
    rw[e2,<-m5];refine pK (λi _=>?_) λi _=>rfl;omega
   rw[e,<-jQ,hs,jQ];have e3:tk b (cv u (co P) k+cv v T k)=tk b (cv u (cv (co L) (co g)) k+cv v (cv t (co g)) k):=jA (iH (λi _=>rfl) λi _=>hP i) (iH (λi _=>rfl) λi _=>hT i);have e4:=jA e3 (rfl:tk b (-1*(cv u (cv (co L) (co g)) k+cv v (cv t (co g)) k))=_);rw[e4,show ∀x:Int,x + -1*x=0 fromλx=>⋯,tk0]
 constructor
 .rintro⟨s,ns,hs',e⟩;have qt:∀k,tk b (cv (co q) t k-cv s (co L) k)=0:=by
   refine Kd (b:=b) h.mon (n:=(q.length+nt)+(ns+L.length)) (λk hk=>?_) λk _=>?_
   .show cv (co q) t k-cv s (co L) k=0;rw[(Fs.co q).cv ht k ⋯,hs'.cv (Fs.co L) k ⋯];rfl
   .have e1:cv (λk=>cv (co q) t k-cv s (co L) k) (co g) k=cv (co q) (cv t (co g)) k + -1*cv s (cv (co L) (co g)) k:=by
     rw[<-gH,<-gH,<-nj,<-m5];exact pK (λi _=>⋯) λi _=>rfl
    have e2:tk b (cv (co q) (cv t (co g)) k)=tk b (cv s (cv (co L) (co g)) k):=by
     rw[<-iH (λi _=>rfl) (λi _=>hT i),e,iH (λi _=>rfl) λi _=>hP i]
    have e3:=jA e2 (rfl:tk b (-1*cv s (cv (co L) (co g)) k)=_);rw[e1,e3,show ∀x:Int,x + -1*x=0 fromλx=>⋯,tk0]
  refine aoJ hD hL hN (Fs.co q) ?_;refine⟨λk=>cv (co q) u k+cv v s k,(q.length+n)+(n+ns),((((Fs.co q).cv hu)).mono ⋯).add ((hv.cv hs').mono ⋯),λk=>?_⟩;have e1:tk b (N*co q k)=tk b (cv (λk=>cv u (co L) k+cv v t k) (co q) k):=by
   have e2:N*co q k=cv (λk=>if k=0 then N else 0) (co q) k:=by rw[Ci,if_pos (cj _),tV]
   rw[e2];exact iH (λi _=>mU.mp (bez i)) λi _=>rfl
  rw[e1,m5,m5];refine jA ?_ ?_
  .exact congrArg (tk b) ((jo ..).trans (gH ..).symm)
  .rw[gH,gH];refine iH (λi _=>rfl) λi _=>?_;rw[jo];exact mU.mp (qt i)
 .rintro⟨s,ns,hs',e⟩;refine⟨cv s t,ns+nt,hs'.cv ht,λk=>?_⟩;rw[iH (λi _=>e i) (λi _=>hT i),iH (f:=cv s t) (λi _=>rfl) (λi _=>hP i)];refine congrArg (tk b) ?_;rw[gH,gH];refine pK (λi _=>rfl) λi _=>?_;rw[<-gH,<-gH];exact pK (λj _=>jo ..) λj _=>rfl
end Pm
namespace Om
def cA(p:Nat):Prop:=2<=p/\∀d,d∣p->d=1∨d=p
def cA.cop{p x:Nat}(h:cA p)(hx:¬p∣x):Nat.Coprime p x:=by
 rcases h.2 _ (Oh p x)with e|e
 .exact e
 .exact absurd (e▸Pb p x) hx
def cA.dvd{p x y:Nat}(h:cA p)(hd:p∣x*y):p∣x∨p∣y:=by
 by_cases c:p∣x
 .exact .inl c
 .exact .inr ((h.cop c).dvd_of_dvd_mul_left hd)
def ch:Nat->Nat->Nat
 |_,0=>1
 |0,_+1=>0
 |n+1,k+1=>ch n k+ch n (k+1)
def BP(n:Nat):ch n 0=1:=by cases n<;>rfl
theorem zY:∀(n k:Nat),n<k->ch n k=0
 |0,k+1,_=>rfl
 |n+1,k+1,h=>by rw[ch,zY n k ⋯,zY n (k+1) ⋯]
theorem abD:∀n,ch n n=1
 |0=>rfl
 |n+1=>by rw[ch,abD n,zY n (n+1) ⋯]
theorem Fq:∀n k:Nat,(k+1)*ch (n+1) (k+1)=(n+1)*ch n k
 |0,0=>rfl
 |0,k+1=>by
  have e:ch (0+1) (k+1+1)=ch 0 (k+1)+ch 0 (k+1+1):=rfl;rw[e,zY 0 (k+1) ⋯,zY 0 (k+1+1) ⋯];simp
 |n+1,0=>by
  have:=Fq n 0;have e:ch (n+1+1) (0+1)=ch (n+1) 0+ch (n+1) (0+1):=rfl;simp only[BP]at e⊢;rw[e];rw[BP]at this;omega
 |n+1,k+1=>by
  have h1:=Fq n k;have h2:=Fq n (k+1);rw[ch,Bo];have e1:(k+1+1)*ch (n+1) (k+1)=(n+1)*ch n k+ch (n+1) (k+1):=by rw[um,h1]
  rw[e1,h2];have e2:ch (n+1) (k+1)=ch n k+ch n (k+1):=rfl;rw[e2,um (n+1),Bo];omega
def cA.dch{p k:Nat}(h:cA p)(h0:0<k)(hk:k<p):p∣ch p k:=by
 obtain⟨n,rfl⟩:∃n,p=n+1:=⟨p-1,by have:=h.1;omega⟩;obtain⟨j,rfl⟩:∃j,k=j+1:=⟨k-1,⋯⟩;have e:=Fq n j;rcases h.dvd (x:=j+1) (y:=Om.ch (n+1) (j+1)) (by rw[e];exact Wq ..)with d|d
 .exact absurd (rD ⋯ d) ⋯
 .exact d
def sN(f:Nat->Nat):Nat->Nat
 |0=>0
 |n+1=>sN f n+f n
theorem afb{f g:Nat->Nat}:∀{n:Nat},(∀k,k<n->f k=g k)->sN f n=sN g n
 |0,_=>rfl
 |n+1,h=>by rw[sN,sN,afb λk hk=>h k ⋯,h n ⋯]
theorem abd(f g:Nat->Nat):∀n,sN (λk=>f k+g k) n=sN f n+sN g n
 |0=>rfl
 |n+1=>by rw[sN,sN,sN,abd f g n];omega
theorem XR(c:Nat)(f:Nat->Nat):∀n,sN (λk=>c*f k) n=c*sN f n
 |0=>rfl
 |n+1=>by rw[sN,sN,XR c f n,Bo]
theorem GK(f:Nat->Nat):∀n,sN f (n+1)=f 0+sN (λk=>f (k+1)) n
 |0=>by rw[sN,sN,sN];omega
 |n+1=>by rw[sN,GK f n,sN];omega
theorem Yt{p:Nat}{f:Nat->Nat}:∀{n:Nat},(∀k,k<n->p∣f k)->p∣sN f n
 |0,_=>Nat.dvd_zero _
 |n+1,h=>Nat.dvd_add (Yt λk hk=>h k ⋯) (h n ⋯)
theorem ZQ(a:Nat):∀n,(a+1)^n=sN (λk=>ch n k*a^k) (n+1)
 |0=>by simp[sN,ch]
 |n+1=>by
  rw[Bj,ZQ a n,GK (λk=>ch (n+1) k*a^k) (n+1)];have e1:sN (λk=>ch (n+1) (k+1)*a^(k+1)) (n+1)=sN (λk=>a*(ch n k*a^k)) (n+1)+sN (λk=>ch n (k+1)*a^(k+1)) (n+1):=by
   rw[<-abd];refine afb λk _=>?_;rw[ch,D5,Bj];congr 1;rw[uM a,Nat.mul_assoc]
  have e2:sN (λk=>ch n k*a^k) (n+1)=1+sN (λk=>ch n (k+1)*a^(k+1)) (n+1):=by
   have e3:sN (λk=>ch n k*a^k) (n+1+1)=sN (λk=>ch n k*a^k) (n+1):=by rw[sN,zY n (n+1) ⋯,Mr,RB]
   rw[<-e3,GK];rw[BP,PK]
  rw[e1,XR,BP,PK,Bo,Es,uM];omega
theorem cA.pow{p:Nat}(h:cA p):∀a:Nat,a^p%p=a%p
 |0=>by rw[Nat.zero_pow (by have:=h.1;omega)]
 |a+1=>by
  obtain⟨n,rfl⟩:∃n,p=n+1:=⟨p-1,by have:=h.1;omega⟩;have e:(a+1)^(n+1)=1+sN (λk=>ch (n+1) (k+1)*a^(k+1)) n+a^(n+1):=by
   rw[ZQ,sN,GK,BP,PK,abD,vW,vW]
  obtain⟨c,hc⟩:(n+1)∣sN (λk=>ch (n+1) (k+1)*a^(k+1)) n:=Yt λk hk=>CJ (h.dch ⋯ ⋯) (Wq ..);rw[e,hc,show 1+(n+1)*c+a^(n+1)=(a^(n+1)+1)+(n+1)*c by omega,aat,Nat.add_mod,cA.pow h a,<-Nat.add_mod]
def cA.ajA{p a:Nat}(h:cA p)(h0:a≠0)(ha:a<p):a^(p-1)%p=1:=by
 have hp:=h.1;have e:=h.pow a;obtain⟨n,rfl⟩:∃n,p=n+1:=⟨p-1,⋯⟩;rw[fX];have one:1<=a^n:=Nat.pow_pos ⋯;have d:(n+1)∣a*(a^n-1):=by
  have e2:a*(a^n-1)=a^(n+1)-a:=by rw[Nat.mul_sub,Es,Bj,uM]
  rw[e2];exact Wm (Nat.sub_mod_eq_zero_of_mod_eq e)
 rcases h.dvd d with d|⟨c,hc⟩
 .exact absurd (rD ⋯ d) ⋯
 .rw[show a^n=1+(n+1)*c by omega,aat];exact Nat.mod_eq_of_lt ⋯
end Om
namespace Pm
open Rm
def Kf(f:Nat->Int)(n:Nat)(a:Nat->Int):Prop:=∀m,sm n (λk=>f k*a (m+k))=0
def Kf.less{f:Nat->Int}{n m:Nat}{a:Nat->Int}(h:Kf f m a)(hf:Fs f n)(hm:n<=m):Kf f n a:=λi=>by
 rw[<-mQ (n:=m) hm λk h1 _=>by rw[hf k h1,fZ]];exact h i
def Kf.lin{f g:Nat->Int}{n:Nat}{a:Nat->Int}(c d:Int)(h:Kf f n a)(h':Kf g n a):Kf (λk=>c*f k+d*g k) n a:=λi=>by
 have e:sm n (λk=>(c*f k+d*g k)*a (i+k))=c*sm n (λk=>f k*a (i+k))+d*sm n (λk=>g k*a (i+k)):=by
  rw[<-dJ,<-dJ,<-iU];exact aQ λk _=>by rw[tH,bV,bV]
 rw[e,h i,h' i];simp
def Kf.shift{f:Nat->Int}{n:Nat}{a:Nat->Int}(s:Nat)(h:Kf f n a):Kf (λk=>if s<=k then f (k-s)else 0) (s+n) a:=λi=>by
 have e:∀s,sm (s+n) (λk=>(if s<=k then f (k-s)else 0)*a (i+k))=sm n (λk=>f k*a (i+s+k)):=λs=>by
  induction s generalizing i with
  |zero=>rw[Hi];exact aQ λk _=>by rw[if_pos (cj _)];rfl
  |succ s ih=>
   rw[show s+1+n=(s+n)+1 by omega,oV,if_neg ⋯,fZ,iG];rw[show i+(s+1)=(i+1)+s by omega,<-ih (i+1)];refine aQ λk _=>?_;rw[show i+(k+1)=i+1+k by omega];by_cases c:s<=k
   .rw[if_pos c,if_pos ⋯,show k+1-(s+1)=k-s by omega]
   .rw[if_neg c,if_neg ⋯]
 rw[e];exact h _
def Kf.div{f:Nat->Int}{n:Nat}{a:Nat->Int}{c:Int}(hc:c≠0)(h:Kf (λk=>c*f k) n a):Kf f n a:=λi=>by
 have e:=h i;rw[show(λk=>c*f k*a (i+k))=λk=>c*(f k*a (i+k))from funext λk=>bV ..,dJ]at e;exact(lF.mp e).resolve_left hc
def Kf.of{p:List Int}{a:Nat->Int}(h:Kp 0 p a):Kf (co p) p.length a:=λi=>by
 have:=h i;rw[bw]at this;exact this
def ajx:∀n:Nat,2<=n->∃p,Om.cA p/\p∣n:=λn=>by
 induction n using sX with
 |ind n ih=>
  intro hn;by_cases h:∀d,d∣n->d=1∨d=n
  .exact⟨n,⟨hn,h⟩,ZK n⟩
  .obtain⟨d,hd⟩:=BZ.mp h;obtain⟨hd,hn1⟩:=Oc.mp hd;have h0:d≠0:=λe=>by rw[e]at hd;have:=Nat.eq_zero_of_zero_dvd hd;omega
   have hl:=rD ⋯ hd;have h1:d≠1:=λe=>hn1 (.inl e);have h2:d≠n:=λe=>hn1 (.inr e);obtain⟨p,hp,hq⟩:=ih d ⋯ ⋯;exact⟨p,hp,CJ hq hd⟩
def least_of{Q:Nat->Prop}(h:∃n,Q n):∃n,Q n/\∀m,Q m->n<=m:=by
 obtain⟨n,hn⟩:=h;induction n using sX with
 |ind n ih=>
  by_cases c:∃m,m<n/\Q m
  .obtain⟨m,h1,h2⟩:=c;exact ih m h1 h2
  .exact⟨n,hn,λm hm=>by
    by_cases d:m<n
    .exact absurd ⟨m,d,hm⟩ c
    .omega⟩
def Ej{p:Nat}{x:Int}:(p:Int)∣x↔p∣x.natAbs:=Ox
def Gd{p:Nat}(hp:Om.cA p){x y:Int}(h:(p:Int)∣x*y):(p:Int)∣x∨(p:Int)∣y:=by
 rw[Ej,pA]at h;rcases hp.dvd h with h|h
 .exact .inl (Ej.mpr h)
 .exact .inr (Ej.mpr h)
theorem Z9{d:Int}{f:Nat->Int}:∀{n:Nat},(∀k,k<n->d∣f k)->d∣sm n f
 |0,_=>⟨0,by rw[aV];rfl⟩
 |n+1,h=>ur (Z9 λk hk=>h k ⋯) (h n ⋯)
def auj{d:Int}{f:Nat->Int}{n j:Nat}(hj:j<n)(h:d∣sm n f)(ho:∀k,k<n->k≠j->d∣f k):d∣f j:=by
 have e:sm n f=sm n (λk=>if k=j then f j else 0)+sm n (λk=>if k=j then 0 else f k):=by
  rw[<-iU];refine aQ λk _=>?_;by_cases c:k=j
  .rw[if_pos c,if_pos c,c,dz]
  .rw[if_neg c,if_neg c,iG]
 rw[mZ,if_pos hj]at e;have h2:d∣sm n (λk=>if k=j then 0 else f k):=Z9 λk hk=>by
  by_cases c:k=j
  .rw[if_pos c];exact⟨0,by rw[aV]⟩
  .rw[if_neg c];exact ho k hk c
 have:f j=sm n f-sm n (λk=>if k=j then 0 else f k):=⋯;rw[this];exact Int.dvd_sub h h2
def awT{p:Nat}(hp:Om.cA p){f g:Nat->Int}(h:∀k,(p:Int)∣cv f g k):(∀k,(p:Int)∣f k)∨∀k,(p:Int)∣g k:=by
 by_cases hf:∀k,(p:Int)∣f k
 .exact .inl hf
 by_cases hg:∀k,(p:Int)∣g k
 .exact .inr hg
 obtain⟨i,hi,hi'⟩:=least_of (BZ.mp hf);obtain⟨j,hj,hj'⟩:=least_of (BZ.mp hg);have e:=h (i+j);rw[fU]at e;have t:=auj (j:=i) ⋯ e λk hk hne=>by
  by_cases c:k<i
  .have:(p:Int)∣f k:=uR λz=>by have:=hi' k z;omega
   exact DL this (Cg ..)
  .have:(p:Int)∣g (i+j-k):=uR λz=>by have:=hj' _ z;omega
   exact DL this (aef ..)
 rw[D8]at t;rcases Gd hp t with t|t
 .exact absurd t hi
 .exact absurd t hj
theorem Fs.top{f:Nat->Int}:∀{n:Nat},Fs f n->(∀k,f k=0)∨∃d,d<n/\f d≠0/\Fs f (d+1)
 |0,h=> .inl λk=>h k (cj _)
 |n+1,h=>by
  by_cases c:f n=0
  .have h':Fs f n:=λk hk=>by
    by_cases e:k=n
    .rw[e];exact c
    .exact h k ⋯
   rcases Fs.top h' with z|⟨d,h1,h2,h3⟩
   .exact .inl z
   .exact .inr ⟨d,⋯,h2,h3⟩
  .exact .inr ⟨n,⋯,c,h⟩
structure Lk(a:Nat->Int)(d:Nat)(f:Nat->Int):Prop where
 fs:Fs f (d+1)
 ne:f d≠0
 kf:Kf f (d+1) a
def agJ{a f:Nat->Int}{d:Nat}(hf:Lk a d f)(hd:∀e g,Lk a e g->d<=e):∀(n:Nat) (q:Nat->Int),Fs q n->Kf q n a->∃(m:Int) (G:Nat->Int) (N:Nat),m≠0/\Fs G N/\∀k,m*q k=cv G f k:=λn=>by
 induction n using sX with
 |ind n ih=>
  intro q hq hk;rcases hq.top with z|⟨e,hen,hne,hfe⟩
  .exact⟨1,λ_=>0,0,∅,λ_ _=>rfl,λk=>by rw[z k,jX λi _=> .inl rfl];rfl⟩
  .have hke:Kf q (e+1) a:=hk.less hfe ⋯;have hde:=hd e q ⟨hfe,hne,hke⟩;have ks:=hf.kf.shift (e-d);rw[show e-d+(d+1)=e+1 by omega]at ks;have kl:=hke.lin (f d) (-(q e)) ks;have fl:Fs (λk=>f d*q k + -(q e)*(if e-d<=k then f (k-(e-d))else 0)) e:=λk hk=>by
    show f d*q k + -(q e)*(if e-d<=k then f (k-(e-d))else 0)=0;rw[if_pos ⋯];by_cases c:k=e
    .rw[c,show e-(e-d)=d by omega,jf,bR (q e),Int.add_right_neg]
    .rw[hfe k ⋯,hf.fs (k-(e-d)) ⋯,aV,aV];rfl
   obtain⟨m,G,N,hm,hG,hE⟩:=ih e hen _ fl (kl.less fl ⋯);refine⟨m*f d,λk=>G k+m*q e*(if k=e-d then 1 else 0),N+(e-d+1),aad hm hf.ne,λk hk=>?_,λk=>?_⟩
   .show G k+m*q e*(if k=e-d then 1 else 0)=0;rw[hG k ⋯,if_neg ⋯,aV];rfl
   .rw[m5,nj,Ci,<-hE k];by_cases c:e-d<=k
    .rw[if_pos c,if_pos c,jl,iz,jf,uh,bV,bV,Int.neg_add_cancel_right]
    .rw[if_neg c,if_neg c,jl];simp[bV]
def anu{a:Nat->Int}{P:List Int}(hP:Mon P)(hk:Kp 0 P a):∃L,Mon L/\Py 0 L/\Kp 0 L a/\L.length<=P.length/\(∀q,Kp 0 q a->Dv 0 L (co q))/\∀e g,Lk a e g->L.length-1<=e:=by
 have hp:=hP.pos;have p0:Lk a (P.length-1) (co P):=⟨by rw[show P.length-1+1=P.length by omega];exact Fs.co P,by rw[hP.one];decide,by rw[show P.length-1+1=P.length by omega];exact Kf.of hk⟩;obtain⟨d,⟨f0,hf0⟩,hd⟩:=least_of (Q:=λd=>∃f,Lk a d f) ⟨_,_,p0⟩;have hd':∀e g,Lk a e g->d<=e:=λe g h=>hd e ⟨g,h⟩;obtain⟨c,⟨f,hf,hc⟩,hc'⟩:=least_of (Q:=λc=>∃f,Lk a d f/\(f d).natAbs=c) ⟨_,f0,hf0,rfl⟩;obtain⟨m0,G0,N0,hm0,hG0,hE0⟩:=agJ hf hd' P.length (co P) (Fs.co P) (Kf.of hk);obtain⟨n,⟨m,G,N,hm,hG,hE,hn⟩,hn'⟩:=least_of (Q:=λn=>∃(m:Int) (G:Nat->Int) (N:Nat),m≠0/\Fs G N/\(∀k,m*co P k=cv G f k)/\m.natAbs=n) ⟨_,m0,G0,N0,hm0,hG0,hE0,rfl⟩;have h1:m.natAbs=1:=by
  by_cases c2:m.natAbs=1
  .exact c2
  .have h0:m.natAbs≠0:=⋯;obtain⟨p,hp,hd⟩:=ajx m.natAbs ⋯;have hpp:=hp.1;have hp0:(p:Int)≠0:=⋯;obtain⟨m',em⟩:=Ej.mpr hd;have hm':m'≠0:=λz=>hm (by rw[em,z,aV]);rcases awT hp (f:=G) (g:=f) λk=>by rw[<-hE k,em,bV];exact Cg .. with z|z
   .exfalso
    obtain⟨G',hg⟩:=Og.mp z;refine absurd (hn' m'.natAbs ⟨m',G',N,hm',λk hk=>?_,λk=>?_,rfl⟩) ?_
    .have:=hg k;rw[hG k hk]at this;exact(lF.mp this.symm).resolve_left hp0
    .refine PD hp0 ?_;rw[<-nj,<-bV,<-em,hE k];exact pK (λi _=>hg i) λ_ _=>rfl
    .rw[<-hn,em,pA,zB];have:0<m'.natAbs:=⋯;have:2*m'.natAbs<=p*m'.natAbs:=qG _ hpp;omega
   .exfalso
    obtain⟨f',hg⟩:=Og.mp z;have e:f=λk=>p*f' k:=funext λk=>hg k;have q:Lk a d f':=⟨λk hk=>by
     have:=hg k;rw[hf.fs k hk]at this;exact(lF.mp this.symm).resolve_left hp0,λz=>hf.ne (by rw[hg d,z,aV]),by
     have:=hf.kf;rw[e]at this;exact this.div hp0⟩
    refine absurd (hc' _ ⟨_,q,rfl⟩) ?_;have e2:=congrArg Bw (hg d);rw[pA,zB,hc]at e2;have hne:=q.ne;have:0<(f' d).natAbs:=⋯;have:2*(f' d).natAbs<=p*(f' d).natAbs:=qG _ hpp;rw[e2];show ¬p*(f' d).natAbs<=(f' d).natAbs;omega
 have hu:(f d).natAbs=1:=by
  rcases hG.top with z|⟨e,_,hne,hfe⟩
  .exfalso
   have:=hE (P.length-1);rw[hP.one,jh,jX λi _=> .inl (z i)]at this;exact hm this
  .have t:cv G f (e+d)=G e*f d:=by
    rw[fU,aQ (g:=λi=>if i=e then G e*f d else 0) λi _=>by
     by_cases c3:i=e
     .rw[if_pos c3,c3,D8]
     .rw[if_neg c3];by_cases c4:i<e
      .rw[hf.fs _ ⋯,aV]
      .rw[hfe i ⋯,fZ],mZ,if_pos ⋯]
   have hx:G e*f d≠0:=aad hne hf.ne;have e1:=hE (e+d);rw[t]at e1;have hl:e+d=P.length-1:=by
    by_cases c3:P.length<=e+d
    .rw[aX c3,aV]at e1;exact absurd e1.symm hx
    .by_cases c4:e+d=P.length-1
     .exact c4
     .exfalso
      have e2:=hE (P.length-1);rw[hP.one,jh,jX λi hi=>by
       by_cases c5:e+1<=i
       .exact .inl (hfe i c5)
       .exact .inr (hf.fs _ ⋯)]at e2
      exact hm e2
   rw[hl,hP.one,jh]at e1;have e3:=congrArg Bw e1;rw[pA,h1]at e3;exact Nat.eq_one_of_mul_eq_one_left e3.symm
 have hs:f d*f d=1:=by
  rcases Int.natAbs_eq (f d)with h|h<;>rw[h,hu]<;>rfl
 have hLc:∀k,co (aP (d+1) λk=>f d*f k) k=f d*f k:=λk=>by
  rw[dD];by_cases c3:k<d+1
  .rw[if_pos c3]
  .rw[if_neg c3,hf.fs k ⋯,aV]
 have hM:Mon (aP (d+1) λk=>f d*f k):=⟨by rw[cu];omega,by rw[cu,fX,hLc,hs]⟩;have hK:Kp 0 (aP (d+1) λk=>f d*f k) a:=λi=>by
  rw[bw];unfold ks;rw[cu,aQ (g:=λk=>f d*(f k*a (i+k))) λk _=>by rw[hLc,bV],dJ,hf.kf i,aV]
 refine⟨aP (d+1) λk=>f d*f k,hM,⟨?_,λx _=>bw x⟩,hK,?_,λq hq=>?_,λe g h=>by rw[cu];exact hd' e g h⟩
 .refine uX (λz=>?_) (by rw[hM.one];decide);have:=hM.pos;rw[z]at this;exact absurd this ∅
 .rw[cu];have:=hd' _ _ p0;omega
 .obtain⟨o,r,D⟩:=YD (b:=0) hM (p:=q) λk=>bw _;have kr:=(D.kp hK).mp hq;have rn:r=[]:=by
   by_cases c3:r=[]
   .exact c3
   .exfalso
    have hl:0<r.length:=vP.mpr c3;have hne:=uc c3 D.ry.tr;have:=hd' (r.length-1) (co r) ⟨by rw[show r.length-1+1=r.length by omega];exact Fs.co r,hne,by rw[show r.length-1+1=r.length by omega];exact Kf.of kr⟩;have hsh:=D.short;rw[cu]at hsh;omega
  refine⟨co o,o.length,Fs.co o,λk=>?_⟩;rw[<-D.eq k,rn,fV,dz]
end Pm
namespace Dm
open Pm Rm
def av8{n:Nat}(f:Nat->Nat->Int)(x:Nat->Int){j:Nat}(hj:j<n):det n (cJ f j λi=>sm n λk=>f i k*x k)=x j*det n f:=by
 have e0:(λi=>sm n λk=>f i k*x k)=λi=>sm n λk=>x k*f i k:=funext λi=>aQ λk _=>bR ..;rw[e0,Bs f hj x (λk i=>f i k)];have e2:sm n (λk=>x k*det n (cJ f j λi=>f i k))=sm n (λk=>if k=j then x j*det n f else 0):=aQ λk hk=>by
  by_cases c:k=j
  .rw[if_pos c,c,A8]
  .rw[if_neg c];have z:det n (cJ f j λi=>f i k)=0:=by
    rcases E9 c with l|l
    .exact tY l hj λi _=>by rw[nH,nU ⋯]
    .exact tY l hk λi _=>by rw[nH,nU ⋯]
   rw[z,aV]
 rw[e2,mZ,if_pos hj]
def ap6{b:Int}{n:Nat}{f:Nat->Nat->Int}{x:Nat->Int}(h:Rel b n n f x){j:Nat}(hj:j<n):tk b (x j*det n f)=0:=by
 have hx:∀i,∃e,i<n->(sm n λk=>f i k*x k)=b*e:=λi=>by
  by_cases c:i<n
  .obtain⟨e,he⟩:=tU.mp (h i c);exact⟨e,λ_=>he⟩
  .exact⟨0,λz=>absurd z c⟩
 obtain⟨e,he⟩:=Og.mp hx;rw[<-av8 f x hj];have e1:det n (cJ f j λi=>sm n λk=>f i k*x k)=det n (cJ f j λi=>b*e i+0):=jx λi k hi _=>by
  unfold cJ;split
  .show(sm n λk=>f i k*x k)=b*e i+0;rw[he i hi,dz]
  .rfl
 rw[e1,uV f hj b e (λ_=>0),Ep f hj,dz];exact tU.mpr ⟨_,rfl⟩
def arx{b:Int}{n:Nat}{f:Nat->Nat->Int}(hD:Dom b)(h:tk b (det n f)≠0):tu b n n f:=λx hx k hk=>
 hD (det n f) (x k) h (by rw[bR];exact ap6 hx hk)
structure Cp(b:Int)(n:Nat)(A0:Nat->Nat->Int)(c:Nat)(A:Nat->Nat->Int)(hd:Nat->Nat)(r:Nat):Prop where
 sw:uy n A0 A
 nz:tk b (dt A hd r)≠0
 rn:r<=n
 hc:∀h,h<r->hd h<c
 up:∀h h',h<h'->h'<r->hd h<hd h'
 zero:∀k,k<c->(∀h,h<r->hd h≠k)->∀i,r<=i->i<n->tk b (En A hd r i k)=0
def Cp.bring{b:Int}{n:Nat}{A0:Nat->Nat->Int}{c:Nat}{A:Nat->Nat->Int}{hd:Nat->Nat}{r:Nat}(h:Cp b n A0 c A hd r){a:Nat}(hra:r<a)(han:a<n):Cp b n A0 c (turn A r a) hd r:=
 ⟨.step h.sw hra han,by rw[EB (aJ _) ⋯];exact h.nz,h.rn,h.hc,h.up,λk hk hn i h1 h2=>by
  rw[BF (aJ _) hra];split
  .exact h.zero k hk hn a ⋯ han
  .split
   .exact wg (h.zero k hk hn r (aJ _) ⋯)
   .exact h.zero k hk hn i h1 h2⟩
def Cp.free{b:Int}{n:Nat}{A0:Nat->Nat->Int}{c:Nat}{A:Nat->Nat->Int}{hd:Nat->Nat}{r:Nat}(h:Cp b n A0 c A hd r)(hD:Dom b)(hrn:r<n)(hp:tk b (En A hd r r c)≠0):Cp b n A0 (c+1) A (more hd r c) (r+1):=by
 have hpi:En A hd r r c≠0:=λz=>hp (by rw[z];exact tk0 b);have ml:∀j,j<r->more hd r c j=hd j:=λj hj=>if_neg ⋯;have me:more hd r c r=c:=if_pos rfl;refine⟨h.sw,by rw[Tj];exact hp,⋯,λj hj=>?_,λj j' h1 h2=>?_,λk hk hn i h1 h2=>?_⟩
 .by_cases e:j=r
  .rw[e,me];omega
  .rw[ml j ⋯];have:=h.hc j ⋯;omega
 .by_cases e:j'=r
  .rw[e,me,ml j ⋯];exact h.hc j ⋯
  .rw[ml j' ⋯,ml j ⋯];exact h.up j j' h1 ⋯
 .have hkc:k≠c:=λe=>hn r ⋯ (by rw[me,e]);have hn':∀j,j<r->hd j≠k:=λj hj=>by rw[<-ml j hj];exact hn j ⋯
  refine hD _ _ h.nz ?_;rw[DQ hpi ⋯];exact W3 (Ed _ (h.zero k ⋯ hn' i ⋯ h2)) (Ed _ (h.zero k ⋯ hn' r (aJ _) hrn))
def Cp.step{b:Int}{n:Nat}{A0:Nat->Nat->Int}{c:Nat}{A:Nat->Nat->Int}{hd:Nat->Nat}{r:Nat}(h:Cp b n A0 c A hd r)(hD:Dom b):∃A hd r,Cp b n A0 (c+1) A hd r:=by
 by_cases z:∀i,r<=i->i<n->tk b (En A hd r i c)=0
 .refine⟨A,hd,r,h.sw,h.nz,h.rn,λj hj=>by have:=h.hc j hj;omega,h.up,λk hk hn i h1 h2=>?_⟩;by_cases e:k=c
  .rw[e];exact z i h1 h2
  .exact h.zero k ⋯ hn i h1 h2
 .obtain⟨i,hi⟩:=BZ.mp z;obtain⟨h1,hi⟩:=Oc.mp hi;obtain⟨h2,hi⟩:=Oc.mp hi;by_cases e:i=r
  .rw[e]at hi;exact⟨_,_,_,h.free hD ⋯ hi⟩
  .refine⟨_,_,_,(h.bring (a:=i) ⋯ h2).free hD ⋯ ?_⟩;rw[BF (aJ _) ⋯,if_pos rfl];exact hi
theorem Cp.ex{b:Int}(hD:Dom b)(h1:tk b 1≠0)(n:Nat)(A0:Nat->Nat->Int):∀c,∃A hd r,Cp b n A0 c A hd r
 |0=>⟨A0,λ_=>0,0,.refl,by rw[MJ];exact h1,cj _,λh hh=>absurd hh (jP _),λ_ _ _ h=>absurd h (jP _),λk hk=>absurd hk (jP _)⟩
 |c+1=>by
  obtain⟨A,hd,r,h⟩:=Cp.ex hD h1 n A0 c;exact h.step hD
def af7{hd:Nat->Nat}{r m:Nat}(hc:∀h,h<r->hd h<m)(up:∀h h',h<h'->h'<r->hd h<hd h')(Qa:∀k,k<m->∃j,j<r/\hd j=k):r=m/\∀k,k<m->hd k=k:=by
 have ge:∀j,j<r->j<=hd j:=λj=>by
  induction j with
  |zero=>intro _;exact cj _
  |succ j ih=>
   intro hj;have:=ih ⋯;have:=up j (j+1) ⋯ hj;omega
 have all:∀k,k<m->k<r/\hd k=k:=λk=>by
  induction k using sX with
  |ind k ih=>
   intro hk;obtain⟨j,hj,e⟩:=Qa k hk;have g:=ge j hj;by_cases c:j=k
   .rw[<-c];exact⟨hj,by rw[e,c]⟩
   .have:=(ih j ⋯ ⋯).2;omega
 refine⟨?_,λk hk=>(all k hk).2⟩;by_cases c:r<=m
 .by_cases c2:r=m
  .exact c2
  .have:=(all r ⋯).1;omega
 .have:=hc m ⋯;have:=ge m ⋯;omega
def Xu{b:Int}{n:Nat}{A0:Nat->Nat->Int}(hD:Dom b)(h1:tk b 1≠0)(hI:tu b n n A0):tk b (det n A0)≠0:=by
 obtain⟨A,hd,r,h⟩:=Cp.ex hD h1 n A0 n;have H:=af7 h.hc h.up λk hk=>by
  by_cases c:∃j,j<r/\hd j=k
  .exact c
  .exfalso
   have hn:∀j,j<r->hd j≠k:=λj hj e=>c ⟨j,hj,e⟩;have R:=Ui (A:=A) (hd:=hd) (r:=r) (m:=n) (k:=k) (b:=b) (n:=n) h.hc hk (h.zero k hk hn);have z:=hI _ (h.sw.rel.mpr R) k hk;rw[if_pos rfl,jj (λj hj=>by rw[if_neg (λe=>hn j hj e.symm)]),sG]at z;have:=wg z;rw[Dn]at this;exact h.nz this
 obtain⟨e,H⟩:=H;subst e;rw[<-h.sw.det];have:=h.nz;have q:dt A hd r=det r A:=jx λi k _ hk=>by unfold Bk;rw[H k hk]
 rwa [q]at this
end Dm
namespace Dm
open Pm Rm
def hk(a:Nat->Int):Nat->Nat->Int:=λi j=>a (i+j)
def Yx(x a:Nat->Int)(l i:Nat):sm l (λk=>hk a i k*x k)=ks (aP l x) a i:=by
 unfold ks;rw[cu];refine aQ λk hk'=>?_;rw[dD,if_pos hk',bR];rfl
def ahp{b:Int}(hD:Dom b)(h1:tk b 1≠0){L:List Int}{a:Nat->Int}(hL:Mon L)(hw:∀k,tk b (co L k)=co L k)(hK:Kp b L a)(hm:∀q,Kp b q a->Dv b L (co q)):tk b (det (L.length-1) (hk a))≠0:=by
 refine Xu hD h1 λx hx k hk'=>?_;have e:=Qm hw hL;have ha:∀n,(ju b L).length<=n->tk b (a n)=tk b (S (ju b L) a n (ju b L).length):=Kp.rec (by rw[e];exact hK);have hq:Kp b (aP (L.length-1) x) a:=Oq ha λn hn=>by
  rw[qW]at hn;rw[<-Yx];exact hx n hn
 have z:=(hm _ hq).short hL (by have:=Fs.co (aP (L.length-1) x);rwa [cu]at this) k
 rwa [dD,if_pos hk']at z
def awF{b:Int}(hD:Dom b){l:Nat}{a:Nat->Int}(h:tk b (det l (hk a))≠0){q:List Int}(hq:q.length<=l)(hK:Kp b q a):∀k,tk b (co q k)=0:=λk=>by
 have hI:=arx hD h (co q) λi hi=>by
  rw[Yx];have e:ks (aP l (co q)) a i=ks q a i:=by
   rw[<-vA q a i hq];unfold ks;rw[cu];exact aQ λk hk'=>by rw[dD,if_pos hk']
  rw[e];exact hK i
 by_cases c:k<l
 .exact hI k c
 .rw[aX ⋯,tk0]
def Dom.pr{p:Nat}(hp:Om.cA p):Dom (p:Int):=λx y hx h=>by
 have h2:=hp.1;obtain⟨e,he⟩:=tU.mp h;rcases Gd hp (x:=x) (y:=y) ⟨e,he⟩with⟨z,hz⟩|⟨z,hz⟩
 .exact absurd (tU.mpr ⟨z,hz⟩) hx
 .exact tU.mpr ⟨z,hz⟩
end Dm
namespace Pm
open Rm Dm
structure v5(P:List Int)(T:Nat->Int)(g:List Int)(N:Int):Prop where
 mon:Mon g
 py:Py 0 g
 ne:N≠0
 one:Dv 0 g (co P)
 two:Dv 0 g T
 all:∀h:List Int,Mon h->Dv 0 h (co P)->Dv 0 h T->Dv 0 h (co g)
 good:∀(p:Nat) (s:List Int),Om.cA p->¬(p:Int)∣N->Mon s->Dv p s (co P)->Dv p s T->s.length<=g.length
theorem Dv.by{b:Int}{m:List Int}{f:Nat->Int}(h:Dv 0 m f):Dv b m f:=by
 obtain⟨s,n,hs,h⟩:=h;exact⟨s,n,hs,λk=>by have:=h k;rw[bw,bw]at this;rw[this]⟩
def Dv.len{b:Int}(h1:tk b 1=1){m p:List Int}(hm:Mon m)(hp:Mon p)(h:Dv b m (co p)):m.length<=p.length:=by
 by_cases c:m.length<=p.length
 .exact c
 .exfalso
  have:=h.short hm ((Fs.co p).mono ⋯) (p.length-1);rw[hp.one,h1]at this;exact absurd this ∅
def zU{b:Int}(h1:tk b 1=1){P g:List Int}(hP:Mon P)(hg:Mon g)(h:Dv b g (co P)):∃L:List Int,Mon L/\(∀k,tk b (co L k)=co L k)/\L.length+g.length=P.length+1/\∀k,tk b (co P k)=tk b (cv (co L) (co g) k):=by
 have hl:=h.len h1 hg hP;have hp:=hP.pos;have hgp:=hg.pos;obtain⟨s,n,hs,h⟩:=h;have key:∀d j,n<=j+d->P.length-g.length<j->tk b (s j)=0:=λd=>by
  induction d with
  |zero=>intro j hj _;rw[hs j hj,tk0]
  |succ d ih=>
   intro j hj hj2;have e:=h (j+(g.length-1));rw[aX ⋯,tk0,fU]at e;have e2:tk b (sm (j+(g.length-1)+1) λi=>s i*co g (j+(g.length-1)-i))=tk b (sm (j+(g.length-1)+1) λi=>if i=j then s j else 0):=iR λi hi=>by
    by_cases c:i=j
    .rw[if_pos c,c,D8,hg.one,jh]
    .rw[if_neg c,tk0];by_cases d2:i<j
     .rw[aX ⋯,aV,tk0]
     .rw[bR];exact Jy _ (ih i ⋯ ⋯)
   rw[e2,mZ,if_pos ⋯]at e;exact e.symm
 have z:∀k,P.length-g.length<k->tk b (s k)=0:=λk hk=>key n k ⋯ hk;have t1:tk b (s (P.length-g.length))=1:=by
  have e:=h (P.length-1);rw[hP.one,h1,fU]at e;have e2:tk b (sm (P.length-1+1) λi=>s i*co g (P.length-1-i))=tk b (sm (P.length-1+1) λi=>if i=P.length-g.length then s (P.length-g.length)else 0):=iR λi hi=>by
   by_cases c:i=P.length-g.length
   .rw[if_pos c,c,show P.length-1-(P.length-g.length)=g.length-1 by omega,hg.one,jh]
   .rw[if_neg c,tk0];by_cases d2:i<P.length-g.length
    .rw[aX ⋯,aV,tk0]
    .rw[bR];exact Jy _ (z i ⋯)
  rw[e2,mZ,if_pos ⋯]at e;exact e.symm
 have hc:∀k,co (aP (P.length-g.length+1) λk=>tk b (s k)) k=tk b (s k):=λk=>by
  rw[dD];by_cases c:k<P.length-g.length+1
  .rw[if_pos c]
  .rw[if_neg c,z k ⋯]
 refine⟨aP (P.length-g.length+1) λk=>tk b (s k),⟨by rw[cu];omega,?_⟩,λk=>?_,by rw[cu];omega,λk=>?_⟩
 .rw[cu,fX,hc,t1]
 .rw[hc,gJ]
 .rw[h k];exact iH (λi _=>by rw[hc,gJ]) λi _=>rfl
def akW{b:Int}{P:List Int}(hP:Mon P)(k:Nat):tk b (co P k)=tk b (co (aR b (ju b P)) k):=by
 have hp:=hP.pos;rw[aR,oG,cu,qW];by_cases c:k<P.length-1
 .rw[if_pos c,dD,if_pos c,ju,dD,if_pos ⋯,afk,gJ];rw[show P.length-1-1-(P.length-1-1-k)=k by omega]
 .rw[if_neg c];by_cases d:k=P.length-1
  .rw[d,hP.one,pU];rfl
  .rw[aX ⋯,aX (by simp;omega)]
def keepsP{b:Int}{P:List Int}{a:Nat->Int}(hm:Mon P)(hK:Kp b P a)(q:List Int):Kp b q a↔Dv b P (cv (co q) (tp P a)):=by
 have A:=MR hm.pos q hK;constructor
 .intro h;have z:Dv b P (tp P (ks q a)):=(Dv.zero b _).congr λk=>by
   have:=acP (b:=b) (P:=P) (a:=ks q a) (a':=λ_=>0) (λn=>by rw[h n,tk0]) k;rw[this];exact(congrArg (tk b) (show tp P (λ_=>0) k=0 from jj λi _=>aV _)).symm
  exact(A.add z).congr λk=>by rw[af2]
 .intro h;have z:Dv b P (tp P (ks q a)):=(h.sub A).congr λk=>by
   rw[show cv (co q) (tp P a) k-(cv (co q) (tp P a) k-tp P (ks q a) k)=tp P (ks q a) k by omega]
  have n0:=adA hm (z.short hm (Bc _ _));have ha:∀n,(ju b P).length<=n->tk b (a n)=tk b (S (ju b P) a n (ju b P).length):=Kp.rec (hK.congr (akW hm));exact Oq ha λn hn=>n0 n (by rw[qW]at hn;exact hn)
def aeE{b:Int}{m:List Int}(hm:Mon m){f g:Nat->Int}{n n':Nat}(hf:Fs f n)(hg:Fs g n')(h:∀k,tk b (cv f (co m) k)=tk b (cv g (co m) k)):∀k,tk b (f k)=tk b (g k):=λk=>by
 refine mU.mp (Kd (b:=b) hm (f:=λk=>f k-g k) (n:=n+n') (λk hk=>?_) (λk _=>?_) k)
 .show f k-g k=0;rw[hf k ⋯,hg k ⋯];rfl
 .have e:cv (λk=>f k-g k) (co m) k=cv f (co m) k + -1*cv g (co m) k:=by
   rw[<-nj,<-m5];exact pK (λi _=>⋯) λi _=>rfl
  rw[e,jA (h k) rfl,show ∀x:Int,x + -1*x=0 fromλx=>⋯,tk0]
def axw{P:List Int}{a:Nat->Int}(hP:Mon P)(hK:Kp 0 P a):∃g L,Mon L/\Py 0 L/\Kp 0 L a/\(∀q,Kp 0 q a->Dv 0 L (co q))/\L.length+g.length=P.length+1/\(∀k,co P k=cv (co L) (co g) k)/\v5 P (tp P a) g (det (L.length-1) (hk a)):=by
 obtain⟨L,hL,Cy,hKL,hLP,hall,_⟩:=anu hP hK;obtain⟨g,hg,hgy,hlen,hE⟩:=zU (b:=0) rfl hP hL (hall P hK);have hE':∀k,co P k=cv (co g) (co L) k:=λk=>by have:=hE k;rwa [bw,bw]at this
 have hgP:Py 0 g:=⟨uX (λz=>by have:=hg.pos;rw[z]at this;exact absurd this ∅) (by rw[hg.one];decide),λx _=>bw x⟩;have Mt:=hL.pos;have hgp:=hg.pos;refine⟨g,L,hL,Cy,hKL,hall,⋯,λk=>by rw[hE',jo],hg,hgP,?_,⟨co L,L.length,Fs.co L,λk=>by rw[hE',jo]⟩,?_,λh hh h1 h2=>?_,λp s hp hN hs h1 h2=>?_⟩
 .have:=ahp Dom.zero ∅ hL (λk=>bw _) hKL hall
  rwa [bw]at this
 .obtain⟨s,n,hs,e⟩:=(keepsP hP hK L).mp hKL;refine⟨s,n,hs,aeE hL (Bc P a) (hs.cv (Fs.co g)) λk=>?_⟩;rw[jo,e k,gH];exact congrArg (tk 0) (pK (λ_ _=>rfl) λi _=>hE' i)
 .obtain⟨A,hA,hAy,hAl,J1⟩:=zU (b:=0) rfl hP hh h1;obtain⟨B,nB,hB,Ow⟩:=h2;have N5:Kp 0 A a:=(keepsP hP hK A).mpr ⟨B,nB,hB,λk=>by
   have e1:tk 0 (cv (co A) (tp P a) k)=tk 0 (cv (co A) (cv B (co h)) k):=iH (λ_ _=>rfl) λi _=>Ow i;have e2:tk 0 (cv B (co P) k)=tk 0 (cv B (cv (co A) (co h)) k):=iH (λ_ _=>rfl) λi _=>J1 i;rw[e1,e2,<-gH,<-gH];exact congrArg (tk 0) (pK (λi _=>jo ..) λ_ _=>rfl)⟩
  obtain⟨C,nC,hC,hCe⟩:=hall A N5;refine⟨C,nC,hC,aeE hL (Fs.co g) (hC.cv (Fs.co h)) λk=>?_⟩;rw[<-hE',J1 k,iH (λi _=>hCe i) λ_ _=>rfl,gH,gH];exact congrArg (tk 0) (pK (λ_ _=>rfl) λi _=>jo ..)
 .have hp2:=hp.1;have hp1:tk (p:Int) 1=1:=by rw[jJ ⋯];exact Ew ∅ ⋯
  obtain⟨A,hA,hAy,hAl,J1⟩:=zU (b:=p) hp1 hP hs h1;obtain⟨B,nB,hB,Ow⟩:=h2;have hKp:Kp p P a:=λn=>by have:=hK n;rw[bw]at this;rw[this,tk0]
  have N5:Kp p A a:=(keepsP hP hKp A).mpr ⟨B,nB,hB,λk=>by
   have e1:tk p (cv (co A) (tp P a) k)=tk p (cv (co A) (cv B (co s)) k):=iH (λ_ _=>rfl) λi _=>Ow i;have e2:tk p (cv B (co P) k)=tk p (cv B (cv (co A) (co s)) k):=iH (λ_ _=>rfl) λi _=>J1 i;rw[e1,e2,<-gH,<-gH];exact congrArg (tk p) (pK (λi _=>jo ..) λ_ _=>rfl)⟩
  by_cases c:A.length<=L.length-1
  .exfalso
   have z:=awF (Dom.pr hp) (λz=>hN (tU.mp z)) c N5 (A.length-1);rw[hA.one,hp1]at z;exact absurd z ∅
  .omega
end Pm
namespace Dm
open Rm Pm
end Dm
namespace Pm
open Rm Dm
def atE{p:Int}(hp:p≠0){x y:Int}:tk p x=tk p y↔p∣x-y:=by
 rw[<-mU,tU];exact⟨λ⟨e,h⟩=>⟨e,h⟩,λ⟨e,h⟩=>⟨e,h⟩⟩
def Kr{p:Nat}(hp:Om.cA p):tk (p:Int) 1=1:=by
 have:=hp.1;rw[jJ ⋯];exact Ew ∅ ⋯
def Dv.same{b:Int}(h1:tk b 1=1){m p:List Int}(hm:Mon m)(hp:Mon p)(h:Dv b m (co p))(hl:m.length=p.length)(k:Nat):tk b (co p k)=tk b (co m k):=by
 obtain⟨L,hL,_,hlen,e⟩:=zU h1 hp hm h;have hm0:=hm.pos;have h2:L.length=1:=⋯;have e0:co L 0=1:=by have:=hL.one;rwa [h2]at this
 rw[e k];refine congrArg (tk b) ?_;rw[fU,mQ (m:=1) ⋯ λj h3 _=>by rw[aX (p:=L) ⋯,fZ]];simp[sm,e0]
structure Seen(g:List Int)(N:Int)(p:Nat)(s:List Int):Prop where
 mon:Mon s
 nu:∀k,tk (p:Int) (co s k)=co s k
 ge:g.length<=s.length
 eq:s.length=g.length->∀k,(p:Int)∣co s k-co g k
 good:¬(p:Int)∣N->s.length=g.length
def dO.to{b:Int}{g p q:List Int}(h:dO b g [] p)(e:∀k,tk b (co p k)=tk b (co q k)):Dv b g (co q):=by
 obtain⟨u,h⟩:=h.dv;exact⟨co u,u.length,Fs.co u,λk=>by rw[<-e,h]⟩
def v5.seen{P t g:List Int}{N:Int}(h:v5 P (co t) g N){p:Nat}(hp:Om.cA p){P' t' s:List Int}(eP:∀k,tk (p:Int) (co P' k)=tk p (co P k))(et:∀k,tk (p:Int) (co t' k)=tk p (co t k))(hs:Gcd p P' t' s):Seen g N p s:=by
 have h2:=hp.1;have h1:=Kr hp;have d1:Dv p s (co P):=hs.one.to eP;have d2:Dv p s (co t):=hs.two.to et;have d3:Dv p g (co s):=by
  obtain⟨u,v,e⟩:=hs.sum;refine((((h.one.by (b:=p))).mul (Fs.co u)).add ((h.two.by (b:=p)).mul (Fs.co v))).congr λk=>?_;rw[e];exact jA (iH (λ_ _=>rfl) λi _=>(eP i).symm) (iH (λ_ _=>rfl) λi _=>(et i).symm)
 have hge:=d3.len h1 h.mon hs.mon;exact⟨hs.mon,hs.py.co,hge,λe k=>(atE ⋯).mp (d3.same h1 h.mon hs.mon e.symm k),λz=>by
  have:=h.good p s hp z hs.mon d1 d2;omega⟩
def v5.told{P t g h:List Int}{N:Int}(H:v5 P (co t) g N)(hh:Mon h)(h1:Dv 0 h (co P))(h2:Dv 0 h (co t))(hl:g.length<=h.length):h=g:=by
 have d:=H.all h hh h1 h2;have:=d.len rfl hh H.mon;exact rA ⋯ λk=>by have:=d.same rfl hh H.mon ⋯ k;rw[bw,bw]at this;exact this.symm
def nr(M x:Int):Int:=if 2*(x%M)>M then x%M-M else x%M
def Nr(M x:Int):Prop:=-M<2*x/\2*x<=M
def FT(M x:Int):M∣nr M x-x:=by
 have e:=Int.emod_add_mul_ediv x M;unfold nr;split
 .exact⟨-(x/M)-1,by rw[iI,uh];omega⟩
 .exact⟨-(x/M),by rw[uh];omega⟩
def MF{M:Int}(hM:0<M)(x:Int):Nr M (nr M x):=by
 have h0:=rG x (show M≠0 by omega);have h1:=sV x hM;unfold nr Nr;split<;>omega
def Nr.eq{M x y:Int}(hM:0<M)(hx:Nr M x)(hy:Nr M y)(h:M∣x-y):x=y:=by
 obtain⟨c,hc⟩:=h;unfold Nr at hx hy;by_cases c0:c=0
 .rw[c0,aV]at hc;omega
 .exfalso
  rcases Int.lt_or_gt_of_ne c0 with l|l
  .have:M*c<=M*(-1):=KW ⋯ ⋯;omega
  .have:M*1<=M*c:=KW ⋯ ⋯;omega
def anx{M:Int}(hM:2<=M){x:Int}(h:M∣x-1):nr M x=1:=Nr.eq (M:=M) ⋯ (MF ⋯ x) (by unfold Nr;omega) (by
 have:=ur (FT M x) h
 rwa [show nr M x-x+(x-1)=nr M x-1 by omega]at this)
def U4{M:Int}{p:Nat}(hp:Om.cA p)(hM:¬(p:Int)∣M){x:Int}(h1:M∣x)(h2:(p:Int)∣x):M*p∣x:=by
 obtain⟨y,rfl⟩:=h1;rcases Gd hp h2 with z|⟨e,he⟩
 .exact absurd z hM
 .exact⟨e,by rw[he,bV]⟩
structure kJ(P g:List Int)(N:Int)(told:List Int)(M:Int)(prime:Nat)(ripe:Bool)(bad good:Nat):Prop where
 mon:Mon told
 ge:g.length<=told.length
 le:told.length<=P.length
 pos:0<M
 div:∀q:Nat,Om.cA q->(q:Int)∣M->q<=prime
 PV:told.length=g.length->∀k,M∣co told k-co g k
 near:M≠1->∀k,Nr M (co told k)
 Ah:∃X:Nat,(X:Int)∣N/\2^(19*bad)<=X/\∀q:Nat,Om.cA q->q∣X->q<=prime
 BJ:0<good->told.length=g.length/\2^(19*good)<=M
 afK:2<=good->(∀k,2*(co g k).natAbs<2^(19*(good-1)))->ripe=true/\told=g
 hi:M<=2^(21*(bad+good))
 first:M=1->told=P
def kJ.start{P g:List Int}{N:Int}(hP:Mon P)(hl:g.length<=P.length)(prime:Nat):kJ P g N P 1 prime true 0 0:=
 ⟨hP,hl,aJ _,∅,λq hq h=>by
  have:=hq.1;have h3:=Int.le_of_dvd ∅ h;omega,λ_ k=>⟨_,(iz _).symm⟩,λh=>absurd rfl h,⟨1,⟨N,(iz N).symm⟩,∅,λq hq h=>by
  have:=hq.1;have h3:=rD ∅ h;omega⟩,λh=>absurd h ∅,λh=>absurd h ∅,∅,λ_=>rfl⟩
def PN{N:Int}{prime p bad:Nat}(hp:Om.cA p)(hlt:prime<p)(hbig:2^19<=p)(hN:(p:Int)∣N)(h:∃X:Nat,(X:Int)∣N/\2^(19*bad)<=X/\∀q:Nat,Om.cA q->q∣X->q<=prime):
  ∃X:Nat,(X:Int)∣N/\2^(19*(bad+1))<=X/\∀q:Nat,Om.cA q->q∣X->q<=p:=by
 obtain⟨X,h1,h2,h3⟩:=h;refine⟨X*p,?_,?_,λq hq hd=>?_⟩
 .have:=U4 (M:=(X:Int)) hp (λz=>by have:=h3 p hp (C9.mp z);omega) h1 hN
  rwa [aav]
 .rw[Bo,Nat.pow_add];exact gM h2 hbig
 .rcases hq.dvd hd with z|z
  .have:=h3 q hq z;omega
  .exact rD ⋯ z
def kJ.stay{P g told s:List Int}{N M:Int}{prime p bad good:Nat}{ripe:Bool}(h:kJ P g N told M prime ripe bad good)(hp:Om.cA p)(hlt:prime<p)(hbig:2^19<=p)(hs:Seen g N p s)(hl:told.length<s.length):kJ P g N told M p ripe (bad+1) good:=by
 have hN:(p:Int)∣N:=uR λz=>by have:=hs.good z;have:=h.ge;omega
 exact⟨h.mon,h.ge,h.le,h.pos,λq hq hd=>by have:=h.div q hq hd;omega,h.PV,h.near,PN hp hlt hbig hN h.Ah,h.BJ,h.afK,abw h.hi (by
  have:(2:Nat)^(21*(bad+good))<=2^(21*(bad+1+good)):=wO ∅ ⋯
  exact_mod_cast this),h.first⟩
def kJ.anew{P g told s:List Int}{N M:Int}{prime p bad good:Nat}{ripe:Bool}(h:kJ P g N told M prime ripe bad good)(hp:Om.cA p)(hlt:prime<p)(hbig:2^19<=p)(hhi:p<=2^21)(hs:Seen g N p s)(hl:s.length<told.length):
  ∃qd pL,qd+pL=bad+good+1/\kJ P g N (s.map (nr p)) p p true qd pL:=by
 have hp2:=hp.1;have hg0:good=0:=by
  by_cases c:good=0
  .exact c
  .have:=(h.BJ ⋯).1;have:=hs.ge;omega
 have hle:=h.le;have hsp:=hs.mon.pos;have hpp:(2:Int)<=p:=⋯;have hc:∀k,co (s.map (nr p)) k=nr p (co s k):=λk=>lY (by unfold nr;rw[Nm];split<;>omega) s k;have hm:Mon (s.map (nr p)):=⟨by rw[aB];exact hsp,by rw[aB,hc,hs.mon.one];exact anx hpp ⟨0,by rw[aV];rfl⟩⟩;have Ak:(s.map (nr p)).length=g.length->∀k,(p:Int)∣co (s.map (nr p)) k-co g k:=λe k=>by
  rw[hc];have:=ur (FT p (co s k)) (hs.eq (by rwa [aB]at e) k)
  rwa [show nr p (co s k)-co s k+(co s k-co g k)=nr p (co s k)-co g k by omega]at this
 have hnear:(p:Int)≠1->∀k,Nr p (co (s.map (nr p)) k):=λ_ k=>by rw[hc];exact MF ⋯ _
 have hdiv:∀q:Nat,Om.cA q->(q:Int)∣p->q<=p:=λq _ hd=>rD ⋯ (C9.mp hd);by_cases c:s.length=g.length
 .refine⟨bad,1,⋯,hm,by rw[aB];exact hs.ge,by rw[aB];omega,⋯,hdiv,Ak,hnear,?_,λ_=>⟨by rw[aB];exact c,by exact_mod_cast hbig⟩,λz=>absurd z ∅,?_,λz=>⋯⟩
  .obtain⟨X,h1,h2,h3⟩:=h.Ah;exact⟨X,h1,h2,λq hq hd=>by have:=h3 q hq hd;omega⟩
  .have:(2:Nat)^21<=2^(21*(bad+1)):=wO ∅ ⋯
   exact_mod_cast fG hhi this
 .have hN:(p:Int)∣N:=uR λz=>c (hs.good z);refine⟨bad+1,0,⋯,hm,by rw[aB];exact hs.ge,by rw[aB];omega,⋯,hdiv,Ak,hnear,PN hp hlt hbig hN h.Ah,λz=>absurd z ∅,λz=>absurd z ∅,?_,λz=>⋯⟩;have:(2:Nat)^21<=2^(21*(bad+1+0)):=wO ∅ ⋯
  exact_mod_cast fG hhi this
def kJ.join{P g told s jz:List Int}{N M:Int}{prime p bad good:Nat}{ripe Ni:Bool}(h:kJ P g N told M prime ripe bad good)(hp:Om.cA p)(hlt:prime<p)(hbig:2^19<=p)(hhi:p<=2^21)(hs:Seen g N p s)(hl:s.length=told.length)
  (hl':jz.length=told.length) (ht:∀k,k<told.length->∃w:Int,(p:Int)∣M*w-(co s k-co told k)/\co jz k=nr (M*p) (co told k+M*w)) (hr:Ni=true↔jz=told):
  ∃qd pL,qd+pL=bad+good+1/\kJ P g N jz (M*p) p Ni qd pL:=by
 have hp2:=hp.1;have hM:=h.pos;have yh:¬(p:Int)∣M:=λz=>by have:=h.div p hp z;omega
 have hpp:(2:Int)<=p:=⋯;have hMp:(2:Int)<=M*p:=by
  have:1*(2:Int)<=M*p:=Mv ⋯ hpp ∅ ⋯;omega
 have hle:=h.le;have hge:=h.ge;have htp:=h.mon.pos;have a1:∀k,M∣co jz k-co told k:=λk=>by
  by_cases c:k<told.length
  .obtain⟨w,_,e⟩:=ht k c;rw[e];have e1:M∣nr (M*p) (co told k+M*w)-(co told k+M*w):=DL (Cg M p) (FT _ _);have e2:M∣M*w:=Cg ..;have:=ur e1 e2
   rwa [show nr (M * ↑p) (co told k+M*w)-(co told k+M*w)+M*w=nr (M * ↑p) (co told k+M*w)-co told k by omega]at this
  .rw[aX ⋯,aX ⋯];exact⟨0,by rw[aV];rfl⟩
 have a2:∀k,(p:Int)∣co jz k-co s k:=λk=>by
  by_cases c:k<told.length
  .obtain⟨w,h1,e⟩:=ht k c;rw[e];have e1:(p:Int)∣nr (M*p) (co told k+M*w)-(co told k+M*w):=DL (aef M p) (FT _ _);have:=ur e1 h1
   rwa [show nr (M * ↑p) (co told k+M*w)-(co told k+M*w)+(M*w-(co s k-co told k))=nr (M * ↑p) (co told k+M*w)-co s k by omega]at this
  .rw[aX ⋯,aX ⋯];exact⟨0,by rw[aV];rfl⟩
 have hnear:M*p≠1->∀k,Nr (M*p) (co jz k):=λ_ k=>by
  by_cases c:k<told.length
  .obtain⟨w,_,e⟩:=ht k c;rw[e];exact MF ⋯ _
  .rw[aX ⋯];unfold Nr;omega
 have asH:co jz (jz.length-1)=1:=by
  rw[hl'];refine Nr.eq (M:=M*p) ⋯ (hnear ⋯ _) (by unfold Nr;omega) (U4 hp yh ?_ ?_)
  .have:=a1 (told.length-1)
   rwa [h.mon.one]at this
  .have:=a2 (told.length-1);have e:=hs.mon.one;rw[hl]at e
   rwa [e]at this
 have hm:Mon jz:=⟨⋯,asH⟩;have hdiv:∀q:Nat,Om.cA q->(q:Int)∣M*p->q<=p:=λq hq hd=>by
  rcases Gd hq hd with z|z
  .have:=h.div q hq z;omega
  .exact rD ⋯ (C9.mp z)
 have Ak:jz.length=g.length->∀k,M*p∣co jz k-co g k:=λe k=>by
  refine U4 hp yh ?_ ?_
  .have:=ur (a1 k) (h.PV ⋯ k)
   rwa [show co jz k-co told k+(co told k-co g k)=co jz k-co g k by omega]at this
  .have:=ur (a2 k) (hs.eq ⋯ k)
   rwa [show co jz k-co s k+(co s k-co g k)=co jz k-co g k by omega]at this
 have hhi':∀x,x=bad+good+1->M*p<=2^(21*x):=λx hx=>by
  rw[hx,show 21*(bad+good+1)=21*(bad+good)+21 by omega,Js];exact Mv h.hi (by exact_mod_cast hhi) ⋯ (Int.le_of_lt (Int.pow_pos ∅))
 by_cases c:s.length=g.length
 .refine⟨bad,good+1,⋯,hm,⋯,⋯,⋯,hdiv,Ak,hnear,?_,λ_=>⟨⋯,?_⟩,λh2 hb=>?_,hhi' _ ⋯,λz=>⋯⟩
  .obtain⟨X,h1,h2,h3⟩:=h.Ah;exact⟨X,h1,h2,λq hq hd=>by have:=h3 q hq hd;omega⟩
  .rw[show 19*(good+1)=19*good+19 by omega,Js];refine Mv ?_ (by exact_mod_cast hbig) ∅ ⋯;by_cases c0:good=0
   .rw[c0];show(1:Int)<=M;omega
   .exact(h.BJ ⋯).2
  .rw[fX]at hb;have hgo:=h.BJ ⋯;have AZ:M≠1:=λz=>by
    rw[z]at hgo;have h3:=hgo.2;have:(2:Int)^(19*1)<=2^(19*good):=by exact_mod_cast wO (n:=2) ∅ (show 19*1<=19*good by omega)
    have:(2:Int)^(19*1)=524288:=∅;omega
   have gn:∀k,Nr M (co g k):=λk=>by
    have h3:=hb k;have h4:=hgo.2;have h5:((2*(co g k).natAbs:Nat):Int)<M:=Int.lt_of_lt_of_le (by exact_mod_cast h3) h4;unfold Nr;omega
   have et:told=g:=rA hgo.1 λk=>(h.near AZ k).eq hM (gn k) (h.PV hgo.1 k);have gn':∀k,Nr (M*p) (co g k):=λk=>by
    have h3:=gn k;unfold Nr at h3⊢;have:M*1<=M*p:=KW ⋯ ⋯;omega
   have et':jz=g:=rA ⋯ λk=>(hnear ⋯ k).eq ⋯ (gn' k) (Ak ⋯ k);exact⟨hr.mpr (by rw[et',et]),et'⟩
 .have hN:(p:Int)∣N:=uR λz=>c (hs.good z);have hg0:good=0:=by
   by_cases c0:good=0
   .exact c0
   .have:=(h.BJ ⋯).1;omega
  subst hg0;exact⟨bad+1,0,⋯,hm,⋯,⋯,⋯,hdiv,Ak,hnear,PN hp hlt hbig hN h.Ah,λz=>absurd z ∅,λz=>absurd z ∅,hhi' _ ⋯,λz=>⋯⟩
def kJ.few{P g told:List Int}{N M:Int}{prime bad good U V:Nat}{ripe:Bool}(h:kJ P g N told M prime ripe bad good)(hN:N≠0)(hV:Bd V N)(hU:∀k,Bd U (co g k))(hne:¬(ripe=true/\told=g)):19*(bad+good)<=V+U+38:=by
 obtain⟨X,h1,h2,_⟩:=h.Ah;have b1:19*bad<=V:=by
  have h3:=rD ⋯ (Ej.mp h1);have h4:2^(19*bad)<2^V:=sE (fG h2 h3) hV;have:=(afN (∅:1<2)).mp h4;omega
 have b2:19*good<=U+38:=by
  by_cases c:2<=good
  .by_cases d:∀k,2*(co g k).natAbs<2^(19*(good-1))
   .exact absurd (h.afK c d) hne
   .obtain⟨k,hk⟩:=BZ.mp d;have h3:(co g k).natAbs<2^U:=hU k;have h4:2^(19*(good-1))<2^(U+1):=by rw[Bj];omega
    have:=(afN (∅:1<2)).mp h4;omega
  .omega
 omega
end Pm
namespace Om
def Qz{n:Nat}(h2:2<=n)(h:∀d,2<=d->d*d<=n->¬d∣n):cA n:=⟨h2,λd hd=>by
 by_cases c1:d=1
 .exact .inl c1
 by_cases c2:d=n
 .exact .inr c2
 exfalso
 obtain⟨e,he⟩:=hd;have d0:d≠0:=λz=>by rw[z,Mr]at he;omega
 have e0:e≠0:=λz=>by rw[z,K8]at he;omega
 have e1:e≠1:=λz=>by rw[z,Es]at he;omega
 by_cases c:d<=e
 .exact h d ⋯ (by rw[he];exact uQ d c) ⟨e,he⟩
 .exact h e ⋯ (by rw[he];exact qG e ⋯) ⟨d,by rw[he,uM]⟩⟩
def anY{n d:Nat}(h2:2<=d)(h:d*d<=n)(hd:d∣n):¬cA n:=λhp=>by
 have:d*2<=d*d:=uQ d h2;rcases hp.2 d hd with e|e<;>omega
def PR:Nat:=43571519119201362812999826845982751305620981793717429470673603275936152927709399635933610669671466973821241878720715105717436485894379942430461626673440299163796924436746229228614460476842261843714753967609841797025310982960825865753598345091694825344721438391478216968398650913464229700972723456395252658036295111351718208197542229884535562911430701228833268752819967566938433518416018400115565501955319083147587583881953995536441781216694995306260888155507575210
def ath:∀d,d<1100->2<=d->jT d PR≠1:=by decide +kernel
def ags{n:Nat}(h2:2<=n)(hn:n<1210000)(h:jT n PR=1):cA n:=Qz h2 λd hd hdd hdv=>by
 by_cases c:d<1100
 .refine ath d c hd ?_;have:jT d PR∣jT n PR:=Nat.dvd_gcd (CJ (Oh ..) hdv) (Pb ..);rw[h]at this;exact Nat.dvd_one.mp this
 .have:1100*1100<=d*d:=gM ⋯ ⋯;omega
def Ky:Nat->Nat->List Nat
 |0,_=>[]
 |k+1,n=>2*(n%64)::Ky k (n/64)
def steps:List Nat:=3::([0x20750130318504818904528504f0c23d908c0421c30c218714c28518120a0892411830c218610918224954108f,0x4908d14c10620a1460431880ca08114418618f24b0c70870cf2070810c63870831c2244093141189381141252,0x4504205514d0811431d224b0432c61051030861903830423030c42e41051810c21d42853421c528510e0c90c6,0xc24c528804b0d50460870c32040c204f0841851c204818904308f3433024831083420c31050c31c50c90cc348,0x811441532c13c81030830c40892476020c11441940cd1530cf2031c818108114118f2060c72540436842c10c3,0x9892460420c74850c11410da40314714d24320408418e3c45031c50c40d41865432822413861c308a0e00c7189,0x2413063811473051871490451c22490461491c228324e0450c310320d24504c0cb0c12c41850c32830875c310f,0x4c0c51810812c10812c61c21020c604c0860c10c50421c540230d2070872462c32413990c37855442c1207083].flatMap (Ky 60)++Ky 19 0x708a08a0cc1821890c72c10cb114)
def Jm:Nat->List Nat->Bool
 |_,[]=>true
 |c,d::r=>match decide (0<d)&&(decide (c+d<1210000)&&Ft (jT (c+d) PR) 1)with
  |true=>Jm (c+d) r
  |false=>false
def anO:Jm 1000000 steps=true:=by decide +kernel
def avO:steps.length=500:=by decide +kernel
inductive Many:Nat->Nat->Prop
 |none (c:Nat):Many 0 c
 |more {k c q:Nat}:cA q->c<q->q<1210000->Many k q->Many (k+1) c
theorem aa1:∀(l:List Nat) (c:Nat),2<=c->Jm c l=true->Many l.length c
 |[],c,_,_=> .none c
 |d::r,c,h2,h=>by
  rw[Jm]at h;split at h
  .rename_i e
   obtain⟨e1,e2⟩:=IV.mp e;obtain⟨e2,e3⟩:=IV.mp e2;have h1:=of_decide_eq_true e1;have h3:=of_decide_eq_true e2;exact .more (ags ⋯ h3 (M4 e3)) ⋯ h3 (aa1 r (c+d) ⋯ h)
  .exact absurd h ∅
def many:Many 500 1000000:=by
 have:=aa1 steps 1000000 ∅ anO
 rwa [avO]at this
def Many.down{k c c':Nat}(h:Many k c)(hc:c'<=c):Many k c':=by
 cases h with
 |none=>exact .none _
 |more h1 h2 h3 h4=>exact .more h1 ⋯ h3 h4
def Many.next{k c:Nat}(h:Many (k+1) c):∃q,cA q/\c<q/\q<1210000/\∀p,p<=q->Many k p:=by
 cases h with
 |more h1 h2 h3 h4=>exact⟨_,h1,h2,h3,λp hp=>h4.down hp⟩
def cA.Di{p:Nat}{a:Int}(h:cA p)(h0:0<a)(ha:a<(p:Int)):a^(p-1)%(p:Int)=1:=by
 obtain⟨n,rfl⟩:∃n:Nat,a=(n:Int):=⟨a.toNat,⋯⟩;have:=h.ajA (a:=n) ⋯ ⋯;have e:((n^(p-1)%p:Nat):Int)=((1:Nat):Int):=by rw[this]
 rw[Cv,Xm]at e;exact e
end Om
namespace Pm
open Rm
def ash{P:Nat}(hP:Om.cA P){p:List Int}(hp:Py P p)(hn:p≠[]):vQ P p (sY P p):=by
 have h2:=hP.1;have hpos:0<p.length:=vP.mpr hn;have vZ:(P:Int)≠0:=⋯;have jm:∀n,tk (P:Int) n=n%(P:Int):=λn=>jJ vZ n;have l0:=uc hn hp.tr;have l1:=hp.co (p.length-1);rw[jm]at l1;have r0:0<=co p (p.length-1):=by rw[<-l1];exact rG _ vZ
 have r1:co p (p.length-1)<(P:Int):=by rw[<-l1];exact sV _ ⋯
 generalize hl:co p (p.length-1)=a at l0 r0 r1;have hinv:(a^(P-2)*a)%(P:Int)=1:=by
  rw[<-jd,show(P-2).succ=P-1 by omega];exact hP.Di ⋯ r1
 have e:∀k,co (sY P p) k=co p k*a^(P-2)%(P:Int):=λk=>by
  rw[sY,lY (by simp),hl]
 have len:(sY P p).length=p.length:=by rw[sY,aB]
 have top:co (sY P p) ((sY P p).length-1)=1:=by
  rw[len,e,hl,bR];exact hinv
 have hm:sY P p≠[]:=λz=>by rw[z]at len;simp at len;omega
 refine⟨⟨uX hm (by rw[top];decide),λx hx=>?_⟩,len,λ_=>⟨⋯,top⟩,⟨a^(P-2),λk=>?_⟩,⟨a,λk=>?_⟩⟩
 .obtain⟨y,_,rfl⟩:=cB.mp hx;rw[jm];exact nq _ (nM _)
 .rw[e,jm,jm,nq _ (nM _),bR]
 .rw[e,jm,jm,m9 a,nq _ (nM _),<-m9,gk a,bR a,m9,hinv];rw[jh,nq _ (nM _)]
def agE{P:Nat}(hP:Om.cA P){one other:Int}(h0:0<other)(h:other<(P:Int)):(P:Int)∣other*(one*other^(P-2)%(P:Int))-one:=by
 have h2:=hP.1;have hinv:(other^(P-2)*other)%(P:Int)=1:=by
  rw[<-jd,show(P-2).succ=P-1 by omega];exact hP.Di h0 h
 have h1:(1:Int)%(P:Int)=1:=Ew ∅ ⋯;refine C8 (Int.emod_eq_emod_iff_emod_sub_eq_zero.mp ?_);rw[m9,nq _ (nM _),<-m9,gk,bR other,m9,hinv,jh,nq _ (nM _)]
def amW{b f:Int}{s t:Nat}{l m:List Int}{u v:Nat}(hb:0<=b)(hb1:b<2097152)(hu:21<=u)(hf:Bd u f)(hl:∀k,Bd u (co l k))(hm:∀x∈m,Bd v x)(k:Nat):Bd (u+v+1) (lf b f s t l m k):=by
 unfold lf;split
 .refine pY hb ((Bd.of (n:=21) ⋯ ⋯).mono ⋯) ?_;rw[Qq];refine Bd.add ((hl k).mono ⋯) ?_;have:=hf.mul (jK hm (k-s));unfold Bd at this⊢;rw[CN];exact this
 .exact(hl k).mono ⋯
def jw(M t:Int)(p:Nat)(s:Int):Int:=(tk p (s-t))*(tk p M)^(p-2)%(p:Int)
def jn(M t:Int)(p:Nat)(s:Int):Int:=nr (M*p) (t+M*jw M t p s)
def auQ{M t s:Int}{p:Nat}(hp:Om.cA p)(hM:¬(p:Int)∣M):(p:Int)∣M*jw M t p s-(s-t):=by
 have h2:=hp.1;have hp0:(p:Int)≠0:=⋯;have r0:=rG M hp0;have r1:=sV M (show(0:Int)<p by omega);have rn:M%(p:Int)≠0:=λz=>hM (C8 z);have h:=agE hp (one:=tk p (s-t)) (other:=M%(p:Int)) ⋯ r1;unfold jw;rw[jJ hp0 M];generalize tk (p:Int) (s-t)*(M%(p:Int))^(p-2)%(p:Int)=w at h;rw[jJ hp0]at h;have e1:(p:Int)∣M*w-M%(p:Int)*w:=by
  rw[<-yj];exact DL (acA) (Cg ..)
 have e2:(p:Int)∣(s-t)%(p:Int)-(s-t):=by
  have:(p:Int)∣(s-t)-(s-t)%(p:Int):=acA;have:=Int.dvd_neg.mpr this
  rwa [Int.neg_sub]at this
 have:=ur (ur e1 h) e2
 rwa [show M*w-M%(p:Int)*w+(M%(p:Int)*w-(s-t)%(p:Int))+((s-t)%(p:Int)-(s-t))=M*w-(s-t)by omega]at this
def auS{M t s:Int}{p:Nat}(hp:Om.cA p):0<=jw M t p s/\jw M t p s<p:=by
 have h2:=hp.1;exact⟨rG _ ⋯,sV _ ⋯⟩
def Div.dv{b:Int}{P M q r:List Int}(h:Div b P M q r)(hM:Mon M):r=[]↔Dv b M (co P):=by
 constructor
 .rintro rfl;exact⟨co q,q.length,Fs.co q,λk=>by rw[<-h.eq k,fV,dz]⟩
 .intro d;have e:Dv b M (co r):=(d.sub (Dv.self (b:=b) (m:=M) (Fs.co q))).congr λk=>by
   have e1:tk b (co P k + -cv (co q) (co M) k)=tk b ((cv (co q) (co M) k+co r k) + -cv (co q) (co M) k):=jA (h.eq k).symm rfl;rw[show co P k-cv (co q) (co M) k=co P k + -cv (co q) (co M) k by omega,e1];exact congrArg (tk b) ⋯
  have z:=e.short hM ((Fs.co r).mono (by have:=h.short;omega));rw[<-h.ry.tr];exact Gf.mpr λk=>by rw[<-h.ry.co k];exact z k
end Pm
namespace Pm
open Rm Dm
def Yn{n:Nat}{x:Int}(h:Bd n x):Bd n (-x):=by unfold Bd at h ⊢;rw[CN];exact h
def auC{P L g:List Int}(hL:Mon L)(e:∀k,co P k=cv (co L) (co g) k){u B:Nat}(hu:∀k,Bd u (co P k))(hB:∀k,Bd B (co L k)):∀d j,g.length<=j+d->Bd (u+d*(B+L.length+1)) (co g j):=λd=>by
 have hp:=hL.pos;induction d with
 |zero=>intro j hj;rw[aX ⋯];exact Bd.zero _
 |succ d ih=>
  intro j hj;obtain⟨l,hl⟩:∃l,L.length=l+1:=⟨L.length-1,⋯⟩;have h1:=hL.one;rw[hl,fX]at h1;have q:=e (j+l);rw[fU,mQ (m:=l+1) ⋯ λi h2 _=>by rw[aX (p:=L) ⋯,fZ],sm,h1,iz,fX]at q;have q2:co g j=co P (j+l) + -(sm l λi=>co L i*co g (j+l-i)):=⋯;rw[q2];have b1:Bd (B+(u+d*(B+L.length+1))+l) (sm l λi=>co L i*co g (j+l-i)):=Bg l λi hi=>(hB i).mul (ih (j+l-i) ⋯);have hx:(d+1)*(B+L.length+1)=d*(B+L.length+1)+(B+L.length+1):=um ..;refine(Bd.add (n:=B+(u+d*(B+L.length+1))+l) ((hu _).mono ⋯) (Yn b1)).mono ⋯
end Pm
namespace Pm
open Rm Dm
def ag8{f:Nat->Int}{n:Nat}(h:Fs f n):∃S:List Int,∀k,co S k=f k:=⟨aP n f,λk=>by
 rw[dD];by_cases c:k<n
 .rw[if_pos c]
 .rw[if_neg c,h k ⋯]⟩
end Pm
namespace Pm
open Rm
def ev(p:List Int)(x:Int):Int:=sm p.length λk=>co p k*x^k
def nK{p:List Int}{n:Nat}(h:p.length<=n)(x:Int):sm n (λk=>co p k*x^k)=ev p x:=
 mQ h λk h1 _=>by rw[aX h1,fZ]
def Vd(x:Int):ev [] x=0:=rfl
def adK(c x:Int):ev [c] x=c:=by
 show 0+co [c] 0*x^0=c;rw[fK,qT,jh,iG]
abbrev lin(r:Int):List Int:=[0-r,1]
def Mf(r:Int):Mon (lin r):=⟨by show 0<2;decide,rfl⟩
def Oz(f:Nat->Int)(r:Int):∀k,cv f (co (lin r)) k=(if k=0 then 0 else f (k-1))-r*f k:=λk=>by
 rw[fU];cases k with
 |zero=>
  show 0+f 0*co (lin r) 0=_;rw[if_pos rfl,fK,iG,iI,aV,bR]
 |succ k=>
  rw[if_neg (aeV _),fX];rw[sm,pU,sm,show k+1-k=1 by omega];rw[jj λj hj=>by rw[aX (p:=lin r) (show 2<=k+1-j by omega),aV]];rw[fK,jq,fK,jh,iG,iI,aV,sG,bR (f (k+1))];rfl
def Wg(f:Nat->Int)(x:Int):∀n,sm (n+1) (λk=>(if k=0 then 0 else f (k-1))*x^k)=x*sm n λk=>f k*x^k:=λn=>by
 rw[oV,if_pos rfl,fZ,iG,<-dJ];refine aQ λk _=>?_;rw[if_neg (aeV _),fX,jd,bR (x^k) x,<-bV,<-bV,bR (f k) x]
theorem Div.ev{p q l:List Int}{r:Int}(h:Div 0 p (lin r) q l)(x:Int):Pm.ev p x=(x-r)*Pm.ev q x+Pm.ev l x:=by
 obtain⟨n,h1,h2,h3⟩:∃n,p.length<=n+1/\q.length<=n/\l.length<=n+1:=⟨p.length+q.length+l.length,⋯,⋯,⋯⟩;rw[<-nK h1 x,<-nK h2 x,<-nK h3 x];have e:∀k,co p k=(if k=0 then 0 else co q (k-1))-r*co q k+co l k:=λk=>by
  have:=h.eq k;rw[bw,bw,Oz]at this;exact this.symm
 rw[aQ (g:=λk=>(if k=0 then 0 else co q (k-1))*x^k+(-r*(co q k*x^k)+co l k*x^k)) λk _=>?_,iU,iU,Wg,dJ]
 .have e2:sm (n+1) (λk=>co q k*x^k)=sm n λk=>co q k*x^k:=by
   rw[sm,aX h2,fZ,dz]
  rw[e2,yj,jf];omega
 .rw[e k,tH,yj,jf,bV];omega
def aoD{p:List Int}{r:Int}{j:Nat}(hj:∀k,k<j->co p k=0)(h:ev p r=0)(hr:r≠0):r∣co p j:=by
 by_cases c:j<p.length
 .obtain⟨d,hd⟩:∃d,p.length=j+1+d:=⟨p.length-(j+1),⋯⟩;have split:∀d,sm (j+1+d) (λk=>co p k*r^k)=r^j*(co p j+r*sm d λi=>co p (j+1+i)*r^i):=λd=>by
   induction d with
   |zero=>
    have z:sm j (λk=>co p k*r^k)=0:=jj λk hk=>by rw[hj k hk,fZ]
    show sm j (λk=>co p k*r^k)+co p j*r^j=r^j*(co p j+r*0);rw[z,iG,aV,dz,bR]
   |succ d ih=>
    show sm (j+1+d) _+co p (j+1+d)*r^(j+1+d)=_;rw[ih,sm,show j+1+d=j+(1+d)by omega,Js,Js,Int.pow_one];simp only[jl,bV,bR,gk,EW]
  unfold ev at h;rw[hd,split d]at h;rcases lF.mp h with z|z
  .exact absurd z (Int.pow_ne_zero hr)
  .exact⟨-(sm d λi=>co p (j+1+i)*r^i),by rw[uh];omega⟩
 .rw[aX ⋯];exact Int.dvd_zero r
inductive Rep(r:Int):Nat->List Int->List Int->Prop
 |zero (q:List Int):Rep r 0 q q
 |succ {m:Nat} {p p' q:List Int}:Div 0 p (lin r) p' []->Rep r m p' q->Rep r (m+1) p q
theorem Rep.ev{r:Int}{m:Nat}{p q:List Int}(h:Rep r m p q)(x:Int):Pm.ev p x=(x-r)^m*Pm.ev q x:=by
 induction h with
 |zero q=>rw[qT,iz]
 |succ d _ ih=>
  rw[d.ev x,ih,Vd,dz,jd,bR ((x-r)^_) (x-r),bV]
def cX(r:Int):Nat->List Int->List Int
 |0,q=>q
 |m+1,q=>mul 0 (cX r m q) (lin r)
def RP:List (Int×Nat)->List Int->List Int
 |[],R=>R
 |(r,m)::t,R=>cX r m (RP t R)
def Z6{r:Int}{q:List Int}(h:Py 0 q):∀m,Py 0 (cX r m q)
 |0=>h
 |_+1=>qu ..
theorem Z1{R:List Int}(h:Py 0 R):∀l,Py 0 (RP l R)
 |[]=>h
 |(_,m)::t=>Z6 (Z1 h t) m
theorem Div.lin{q:List Int}(r:Int)(hq:Py 0 q):Div 0 (mul 0 q (Pm.lin r)) (Pm.lin r) q []:=
 ⟨hq,Py.nil 0,by show 0<2;decide,λk=>by rw[fV,dz,kI,bw,bw]⟩
theorem aa9{r:Int}{q:List Int}(h:Py 0 q):∀m,Rep r m (cX r m q) q
 |0=> .zero q
 |m+1=> .succ (Div.lin r (Z6 h m)) (aa9 h m)
inductive Scan:List Int->List Int->List (Int×Nat)->List Int->Prop
 |nil (p:List Int):Scan [] p [] p
 |hit {c:Int} {cs p q:List Int} {m:Nat} {l:List (Int×Nat)} {R:List Int}:Rep c (m+1) p q->ev q c≠0->Scan cs q l R->Scan (c::cs) p ((c,m+1)::l) R
 |miss {c:Int} {cs p:List Int} {l:List (Int×Nat)} {R:List Int}:ev p c≠0->Scan cs p l R->Scan (c::cs) p l R
theorem Rep.back{r:Int}{m:Nat}{p q:List Int}(h:Rep r m p q)(hp:Py 0 p):p=cX r m q/\Py 0 q:=by
 induction h with
 |zero q=>exact⟨rfl,hp⟩
 |@succ m p p' q d _ ih=>
  obtain⟨e1,e2⟩:=ih d.qy;refine⟨?_,e2⟩;have b:=d.back hp;rw[add_comm,nil_add (qu ..)]at b;rw[<-b,e1];rfl
theorem FW{R:List Int}(h:Py 0 R){x:Int}(e:ev R x=0):∀l,ev (RP l R) x=0
 |[]=>e
 |(r,m)::t=>by
  have q:=(aa9 (r:=r) (Z1 h t) m).ev x;rw[FW h e t,aV]at q;exact q
theorem Scan.back{cs p:List Int}{l:List (Int×Nat)}{R:List Int}(h:Scan cs p l R):Py 0 p->p=RP l R/\Py 0 R/\(∀c∈cs,ev R c≠0)/\(l.map (·.1)).Sublist cs/\∀x∈l,0<x.2:=by
 induction h with
 |nil p=>intro hp;exact⟨rfl,hp,(λc hc=>(by cases hc)),aoi,(λx hx=>(by cases hx))⟩
 |@hit c cs p q m l R hr hq _ ih=>
  intro hp;obtain⟨e1,e2⟩:=hr.back hp;obtain⟨i1,i2,i3,i4,i5⟩:=ih e2;refine⟨by rw[e1,i1];rfl,i2,λd hd=>?_,i4.cons_cons c,λx hx=>?_⟩
  .rcases bH.mp hd with rfl|hd
   .intro z;exact hq (by rw[i1];exact FW i2 z l)
   .exact i3 d hd
  .rcases bH.mp hx with rfl|hx
   .exact Nat.succ_pos _
   .exact i5 x hx
 |@miss c cs p l R hn _ ih=>
  intro hp;obtain⟨i1,i2,i3,i4,i5⟩:=ih hp;refine⟨i1,i2,λd hd=>?_,i4.cons c,i5⟩;rcases bH.mp hd with rfl|hd
  .intro z;exact hn (by rw[i1];exact FW i2 z l)
  .exact i3 d hd
end Pm
namespace Pm
open Rm
def Sy(a:Int)(p:List Int)(x:Int):ev (a::p) x=a+x*ev p x:=by
 rw[<-nK (p:=a::p) (n:=p.length+1) (aJ _) x,oV,fK,qT,jh,<-nK (p:=p) (aJ _) x,<-dJ];congr 1;refine aQ λk _=>?_;rw[jq,jd,bR (x^k) x,<-bV,<-bV,bR (co p k) x]
theorem aeg(x:Int)(g:List Int):∀(L P:List Int),(∀k,co P k=cv (co L) (co g) k)->ev P x=ev L x*ev g x
 |[],P,h=>by
  rw[Vd,fZ];unfold ev;exact jj λk _=>by rw[h,jX (λi _=> .inl (fV i)),fZ]
 |a::L,P,h=>by
  obtain⟨Q,hQ⟩:∃Q:List Int,∀k,co Q k=cv (co L) (co g) k:=ag8 ((Fs.co L).cv (Fs.co g));have ih:=aeg x g L Q hQ;obtain⟨n,h1,h2,h3⟩:∃n,P.length<=n+1/\Q.length<=n/\g.length<=n+1:=⟨P.length+Q.length+g.length,⋯,⋯,⋯⟩;have e:∀k,co P k=a*co g k+(if k=0 then 0 else co Q (k-1)):=λk=>by
   rw[h,XG];split
   .rfl
   .rw[hQ]
  rw[Sy,<-nK h1 x,aQ (g:=λk=>a*(co g k*x^k)+(if k=0 then 0 else co Q (k-1))*x^k) λk _=>by rw[e k,tH,bV],iU,dJ,Wg,nK h3,nK h2,ih,tH,bV]
def alT{P:List Int}{a:Nat->Int}(hP:Mon P)(hK:Kp 0 P a){d u ua B U:Nat}(hS:∃Q0,Mon Q0/\Kp 0 Q0 a/\Q0.length<=d+1)(ha:∀n,n<=2*d->Bd ua (a n))(hu:∀k,Bd u (co P k))
  (hB:∀L,Mon L->Kp 0 L a->(∀q,Kp 0 q a->Dv 0 L (co q))->∀k,Bd B (co L k)) (hU:u+P.length*(B+d+2)<=U):
  ∃g L N,Mon L/\Py 0 L/\Kp 0 L a/\(∀q,Kp 0 q a->Dv 0 L (co q))/\L.length+g.length=P.length+1/\(∀k,co P k=cv (co L) (co g) k)/\v5 P (tp P a) g N/\Bd (d*(ua+d)+1) N/\∀k,Bd U (co g k):=by
 obtain⟨g,L,hL,Cy,hKL,hall,hlen,hE,G⟩:=axw hP hK;obtain⟨Q0,hQ,hKQ,hQl⟩:=hS;have Mt:=hL.pos;have hl:L.length<=d+1:=fG ((hall Q0 hKQ).len rfl hL hQ) hQl;have hm:(L.length-1)*(ua+(L.length-1))+1<=d*(ua+d)+1:=by
  have:=gM (show L.length-1<=d by omega) (show ua+(L.length-1)<=ua+d by omega);omega
 refine⟨g,L,_,hL,Cy,hKL,hall,hlen,hE,G,?_,λk=>?_⟩
 .exact(Dm.Am (u:=ua) λi j hi hj=>ha _ ⋯).mono hm
 .refine(auC hL hE hu (hB L hL hKL hall) g.length k ⋯).mono (fG ?_ hU);have:=gM (show g.length<=P.length by omega) (show B+L.length+1<=B+d+2 by omega);omega
end Pm
namespace Lm
def fL(g:Nat):List Int->Nat
 |[]=>g
 |t::ts=>fL (jT g t.natAbs) ts
def W8(g:Nat)(ts:List Int)(t:Int):fL g (ts++[t])=jT (fL g ts) t.natAbs:=by
 induction ts generalizing g with
 |nil=>rfl
 |cons s ts ih=>exact ih _
def Uc(g:Nat)(ts:List Int):fL g ts∣g:=by
 induction ts generalizing g with
 |nil=>exact ZK _
 |cons s ts ih=>exact CJ (ih _) (Oh ..)
def apf(g:Nat)(ts:List Int):∀t∈ts,(fL g ts:Int)∣t:=by
 induction ts generalizing g with
 |nil=>intro t h;cases h
 |cons s ts ih=>
  intro t h;rcases bH.mp h with rfl|h
  .exact Ox.mpr (CJ (Uc _ ts) (Pb ..))
  .exact ih _ t h
def X6{g:Nat}(h:0<g)(ts:List Int):0<fL g ts:=Nat.pos_of_dvd_of_pos (Uc g ts) h
def R0(c g:Nat)(ts:List Int):fL (c*g) (ts.map λt=>(c:Int)*t)=c*fL g ts:=by
 induction ts generalizing g with
 |nil=>rfl
 |cons s ts ih=>
  show fL (jT (c*g) ((c:Int)*s).natAbs) _=_;rw[pA,zB,Nat.gcd_mul_left];exact ih _
def akS{ts ts':List Int}(g:Nat)(h:ts.map Bw=ts'.map Bw):fL g ts=fL g ts':=by
 induction ts generalizing g ts' with
 |nil=>cases ts' with
  |nil=>rfl
  |cons s r=>cases h
 |cons s ts ih=>cases ts' with
  |nil=>cases h
  |cons s' r=>
   rw[cD,cD]at h;injection h with h1 h2;show fL (jT g s.natAbs) ts=fL (jT g s'.natAbs) r;rw[h1];exact ih _ h2
def low(a:Int)(ts:List Int):Int:=if a<0 then 0-(fL a.natAbs ts:Int)else(fL a.natAbs ts:Int)
def low_ne{a:Int}(h:a≠0)(ts:List Int):low a ts≠0:=by
 have:=X6 (g:=a.natAbs) ⋯ ts;unfold low;split<;>omega
def Vk(a:Int)(ts:List Int):low a ts∣a:=by
 have h:(fL a.natAbs ts:Int)∣a:=Ox.mpr (Uc _ ts);unfold low;split
 .rw[sG];exact Int.neg_dvd.mpr h
 .exact h
def avm(a:Int)(ts:List Int):∀t∈ts,low a ts∣t:=λt ht=>by
 have h:=apf a.natAbs ts t ht;unfold low;split
 .rw[sG];exact Int.neg_dvd.mpr h
 .exact h
def asV(a:Int)(h:a≠0)(ts:List Int):∃e,0<e/\a=low a ts*e:=by
 obtain⟨e,he⟩:=Vk a ts;refine⟨e,?_,he⟩;have g:=X6 (g:=a.natAbs) ⋯ ts;by_cases c:a<0
 .have el:low a ts=0-(fL a.natAbs ts:Int):=if_pos c;rw[el]at he;by_cases p:0<e
  .exact p
  .exfalso
   have:0<=(0-(fL a.natAbs ts:Int))*e:=Int.mul_nonneg_of_nonpos_of_nonpos ⋯ ⋯;omega
 .have el:low a ts=(fL a.natAbs ts:Int):=if_neg c;rw[el]at he;by_cases p:0<e
  .exact p
  .exfalso
   have:(fL a.natAbs ts:Int)*e<=0:=Int.mul_nonpos_of_nonneg_of_nonpos ⋯ ⋯;omega
end Lm
namespace Lm
end Lm
namespace Dm
open Rm Pm
def Rel.cut{b:Int}{n m:Nat}{A:Nat->Nat->Int}{x y:Nat->Int}{d:Int}(hD:Dom b)(hd:tk b d≠0)(e:∀k,k<m->tk b (y k*d)=tk b (x k))(h:Rel b n m A x):Rel b n m A y:=λi hi=>by
 refine hD d _ hd ?_;rw[<-dJ];have q:tk b (sm m λk=>A i k*x k)=0:=h i hi;rw[<-q];refine iR λk hk=>?_;rw[show d*(A i k*y k)=A i k*(y k*d)by rw[gk,bR d],<-dR,e k hk,dR]
end Dm
namespace Dm
open Rm Pm
def Jw:∀P∈Om.n6,2<=P:=by decide +kernel
abbrev By(b:Int):Prop:=b=0∨∃P:Nat,P∈Om.n6/\b=(P:Int)
def By.dom{b:Int}(h:By b):Dom b:=by
 rcases h with rfl|⟨P,hP,rfl⟩
 .exact Dom.zero
 .exact Dom.prime hP (Jw P hP)
structure Low(b bt:Int)(ts:List Int)(bot:Int)(us:List Int):Prop where
 pr:∀P:Nat,b=(P:Int)->P∈Om.n6->bot=1/\us=ts.map λt=>t*bt^(P-2)%(P:Int)
 ze:b=0->bot=bt.fdiv (Lm.low bt ts)/\us=ts.map λt=>t.fdiv (Lm.low bt ts)
 len:us.length=ts.length
def anc{P:Nat}(hP:P∈Om.n6){a:Int}(h0:a≠0)(ht:tk (P:Int) a=a):tk (P:Int) (a^(P-2)*a)=1:=by
 have h2:=Jw P hP;have jm:∀n,tk (P:Int) n=n%(P:Int):=λn=>jJ ⋯ n;have h1:=rG a (show(P:Int)≠0 by omega);have h3:=sV a (show(0:Int)<(P:Int)by omega);rw[jm]at ht⊢;rw[<-jd,show(P-2).succ=P-1 by omega];exact Om.Di rfl hP ⋯ ⋯
def awW(a:Int)(ts:List Int):(Lm.low a ts).natAbs=Lm.fL a.natAbs ts:=by
 unfold Lm.low;split<;>omega
def Low.told{b bt:Int}{ts:List Int}{bot:Int}{us:List Int}(hB:By b)(h0:bt≠0)(ht:tk b bt=bt)(h:Low b bt ts bot us):
  ∃d,tk b d≠0/\(∀k,tk b (co us k*d)=tk b (co ts k))/\tk b (bot*d)=tk b bt/\(∀x∈us,tk b x=x)/\1<=bot/\(b≠0->bot=1)/\(b=0->Lm.fL bot.natAbs us=1):=by
 rcases hB with rfl|⟨P,hP,rfl⟩
 .obtain⟨e1,e2⟩:=h.ze rfl;have n0:=Lm.low_ne h0 ts;obtain⟨e,he,hf⟩:=Lm.asV bt h0 ts;have eb:bot=e:=by
   rw[e1]
   conv=>lhs;arg 1;rw[hf]
   exact MZ _ n0
  have eu:∀k,co us k*Lm.low bt ts=co ts k:=λk=>by
   rw[e2,lY (f:=λt=>t.fdiv (Lm.low bt ts)) (by simp)];by_cases c:k<ts.length
   .obtain⟨x,hx⟩:=Lm.avm bt ts (co ts k) (by rw[jy c];exact xG c);rw[hx,MZ _ n0,bR]
   .rw[aX ⋯];simp
  refine⟨Lm.low bt ts,by rw[bw];exact n0,λk=>by rw[bw,bw,eu k],by rw[bw,bw,eb,bR,<-hf],λx _=>bw x,⋯,λz=>absurd rfl z,λ_=>?_⟩;have g1:=awW bt ts;have m1:=Lm.R0 (Lm.low bt ts).natAbs bot.natAbs us;have e3:(Lm.low bt ts).natAbs*bot.natAbs=bt.natAbs:=by rw[eb,<-pA,<-hf]
  have e4:Lm.fL bt.natAbs (us.map λt=>((Lm.low bt ts).natAbs:Int)*t)=Lm.fL bt.natAbs ts:=by
   refine Lm.akS _ ?_;refine Yk (by simp[h.len]) λk h1 h2=>?_;simp only[aB]at h1 h2;have q:=congrArg Bw (eu k);rw[jy h1,jy h2,pA]at q;simp[pA];rw[uM];exact q
  rw[e3,e4,<-g1]at m1;have:0<(Lm.low bt ts).natAbs:=⋯;exact(Nat.eq_of_mul_eq_mul_left this (by rw[Es];exact m1)).symm
 .obtain⟨e1,e2⟩:=h.pr P rfl hP;have h2:=Jw P hP;have jm:∀n,tk (P:Int) n=n%(P:Int):=λn=>jJ ⋯ n;have inv:=anc hP h0 ht;refine⟨bt,by rw[ht];exact h0,λk=>?_,by rw[e1,iz],λx hx=>?_,⋯,λ_=>e1,λz=>⋯⟩
  .rw[e2,lY (f:=λt=>t*bt^(P-2)%(P:Int)) (by rw[fZ];exact Nm _),<-jm,jE,bV,<-dR,inv,jh]
  .rw[e2]at hx;obtain⟨t,_,rfl⟩:=cB.mp hx;rw[<-jm,gJ]
section
variable {b:Int} {n W u m:Nat} {A0 A A':Nat->Nat->Int} {hd hd':Nat->Nat} {r r':Nat} {L L':List (List Int)} {last ax6:Int}
def gZ.congr{x y:Nat->Int}{bt Zr:Int}(e:∀k,k<m->tk b (x k)=tk b (y k))(eb:tk b bt=tk b Zr)(h:gZ b n m A0 x bt):gZ b n m A0 y Zr:=λi hi=>by
 have q:=h i hi;rw[<-jE,<-eb,jE,<-q];exact iR λk hk=>by rw[<-dR,<-e k hk,dR]
def dH.aww(h:dH b n W u A0 m A hd r L last)(hz:∀i,r<=i->i<n->tk b (En A hd r i m)=0):gZ b n m A0 (co (pJ (λh=>tk b (En A hd r h m)) hd m r)) last:=by
 have R:=Ui (A:=A) (hd:=hd) (r:=r) (m:=m+1) (k:=m) (b:=b) (n:=n) (λj hj=>by have:=h.hc j hj;omega) (vG _) hz;have S:gZ b n m A0 (λj=>sm r λh=>if j=hd h then En A hd r h m else 0) (dt A hd r):=by
  refine gZ.rel.mpr (h.sw.rel.mpr ?_);intro i hi;refine Eq.trans ?_ (R i hi);refine congrArg (Rm.tk b) (aQ λk hk=>?_);congr 1;dsimp only;by_cases c:k=m
  .rw[if_pos c,if_pos c,jj (λj hj=>by rw[if_neg (by have:=h.hc j hj;omega)]),sG]
  .rw[if_neg c,if_neg c,Dc]
 refine S.congr (λk hk=>?_) (by rw[h.la,gJ]);rw[pJ,dD,if_pos hk];refine iR λj _=>?_;by_cases e:k=hd j
 .rw[if_pos e,if_pos e,gJ]
 .rw[if_neg e,if_neg e]
def dH.uc(h:dH b n W u A0 m A hd r L last):last≠0/\tk b last=last:=⟨by rw[h.la];exact h.nz,by rw[h.la,gJ]⟩
end
structure yD(n u:Nat):Prop where
 lo:10<=u
 hi:(n+1)*(u+(n+1))+n+1<=8000
def xX(u:Nat)(b:Int)(n m:Nat)(A0:Nat->Nat->Int)(bot:Int)(us:List Int):Prop:=
 ∃A hd r L last,dH b n (m+1) u A0 m A hd r L last/\(∀i,r<=i->i<n->tk b (En A hd r i m)=0)/\Low b last (pJ (λh=>tk b (En A hd r h m)) hd m r) bot us
def gZ.am7{b:Int}{n m:Nat}{A:Nat->Nat->Int}{x y:Nat->Int}{bt bot d:Int}(hD:Dom b)(hd:tk b d≠0)(e:∀k,k<m->tk b (y k*d)=tk b (x k))(eb:tk b (bot*d)=tk b bt)(h:gZ b n m A x bt):gZ b n m A y bot:=
 gZ.rel.mpr (Rel.cut hD hd (λk hk=>by
  by_cases c:k=m
  .rw[if_pos c,if_pos c,jf,<-yK,<-dR,eb,dR,yK]
  .rw[if_neg c,if_neg c];exact e k ⋯) (gZ.rel.mp h))
structure aud(b:Int)(n m:Nat)(A0:Nat->Nat->Int)(bot:Int)(us:List Int):Prop where
 len:us.length=m
 tk:∀x∈us,Rm.tk b x=x
 pos:1<=bot
 pr:b≠0->bot=1
 ze:b=0->Lm.fL bot.natAbs us=1
 sums:gZ b n m A0 (co us) bot
def xX.ok{u:Nat}{b:Int}{n m:Nat}{A0:Nat->Nat->Int}{bot:Int}{us:List Int}(hB:By b)(h:xX u b n m A0 bot us):aud b n m A0 bot us:=by
 obtain⟨A,hd,r,L,last,I,hz,lo⟩:=h;obtain⟨d,d0,d1,d2,d3,d4,d5,d6⟩:=lo.told hB I.uc.1 I.uc.2;exact⟨by rw[lo.len,Ai],d3,d4,d5,d6,gZ.am7 hB.dom d0 (λk _=>d1 k) d2 (I.aww hz)⟩
end Dm
namespace Dm
open Rm Pm
end Dm
namespace Dm
open Rm Pm
def QM:∀P∈Om.n6,P<1000:=by decide +kernel
def Bd.Z5{u:Nat}{x d:Int}(hd:d≠0)(h:Bd u (x*d)):Bd u x:=by
 unfold Bd at h⊢;rw[pA]at h;have:x.natAbs*1<=x.natAbs*d.natAbs:=uQ _ ⋯;omega
def Low.bd{b bt:Int}{ts:List Int}{bot:Int}{us:List Int}{u:Nat}(hB:By b)(hu:10<=u)(h0:bt≠0)(ht:tk b bt=bt)(h:Low b bt ts bot us)(h1:Bd u bt)(h2:∀x∈ts,Bd u x):Bd u bot/\∀x∈us,Bd u x:=by
 obtain⟨d,d0,d1,d2,d3,d4,d5,d6⟩:=h.told hB h0 ht;rcases hB with rfl|⟨P,hP,rfl⟩
 .simp only[bw]at d0 d1 d2;refine⟨Bd.Z5 d0 (by rw[d2];exact h1),λx hx=>?_⟩;obtain⟨k,hk,e⟩:=jD.mp hx;have e':co us k=x:=by rw[jy hk];exact e
  rw[<-e'];exact Bd.Z5 d0 (by rw[d1 k];exact jK h2 k)
 .have p2:=Jw P hP;have p1:=QM P hP;refine⟨by rw[d5 ⋯];exact(Bd.of (n:=1) ∅ ∅).mono ⋯,λx hx=>?_⟩;rw[<-d3 x hx,jJ ⋯];exact(Bd.emod (n:=10) ⋯ (Bd.of ⋯ ⋯)).mono hu
theorem yD.n{n u:Nat}(h:yD n u):n<=100:=by
 have h:=h.hi;refine aaN λz=>?_;have:102*102<=(n+1)*(u+(n+1)):=gM ⋯ ⋯;omega
def dH.bdL{b:Int}{n W u m:Nat}{A0 A:Nat->Nat->Int}{hd:Nat->Nat}{r:Nat}{L:List (List Int)}{last:Int}(hB:By b)(h:dH b n W u A0 m A hd r L last)(hn:yD n u)(i k:Nat):Bd (8000-n) (tk b (En A hd r i k)):=by
 have hb:0<=b/\Bd 10 b:=by
  rcases hB with rfl|⟨P,hP,rfl⟩
  .exact⟨∅,Bd.zero _⟩
  .have p1:=QM P hP;exact⟨⋯,Bd.of ⋯ ⋯⟩
 have:=h.rn;have hn':=hn.n;have hn2:=hn.hi;refine pY hb.1 (hb.2.mono ⋯) ((h.bdE i k).mono ?_);have:(r+1)*(u+(r+1))<=(n+1)*(u+(n+1)):=gM ⋯ ⋯;omega
def dH.ar9{b:Int}{n W u m:Nat}{A0 A:Nat->Nat->Int}{hd:Nat->Nat}{r:Nat}{L:List (List Int)}{last:Int}(hB:By b)(h:dH b n W u A0 m A hd r L last)(hn:yD n u):Bd (8000-n) last:=by
 have hb:0<=b/\Bd 10 b:=by
  rcases hB with rfl|⟨P,hP,rfl⟩
  .exact⟨∅,Bd.zero _⟩
  .have p1:=QM P hP;exact⟨⋯,Bd.of ⋯ ⋯⟩
 have:=h.rn;have hn':=hn.n;have hn2:=hn.hi;rw[h.la];refine pY hb.1 (hb.2.mono ⋯) ((Am (u:=u) λi k _ _=>h.ux _ _).mono ?_);have:r*(u+r)<=(n+1)*(u+(n+1)):=gM ⋯ ⋯;omega
theorem xX.bd{u:Nat}{b:Int}{n m:Nat}{A0:Nat->Nat->Int}{bot:Int}{us:List Int}(hB:By b)(hn:yD n u)(h:xX u b n m A0 bot us):Bd 8000 bot/\∀x∈us,Bd 8000 x:=by
 obtain⟨A,hd,r,L,last,I,hz,lo⟩:=h;have hr:=I.rn;have hn':=hn.n;refine lo.bd hB ∅ I.uc.1 I.uc.2 ((I.ar9 hB hn).mono ⋯) λx hx=>?_;obtain⟨k,_,rfl⟩:=vM hx;refine(Bg (c:=8000-n) r λh _=>?_).mono ⋯;split
 .exact I.bdL hB hn _ _
 .exact Bd.zero _
end Dm
namespace Dm
open Rm Pm
end Dm
namespace Dm
open Rm Pm
end Dm
namespace Dm
open Rm Pm
def ai9{b:Int}(hD:Dom b)(h1:tk b 1≠0)(n:Nat)(A:Nat->Nat->Int):∃x:Nat->Int,(∃k,k<n+1/\tk b (x k)≠0)/\Rel b n (n+1) A x:=by
 refine uR λhno=>?_;have hI:tu b (n+1) (n+1) (λi k=>if i=0 then 0 else A (i-1) k):=λx hx k hk=>by
  refine uR λhk0=>hno ⟨x,⟨k,hk,hk0⟩,λi hi=>?_⟩;have:=hx (i+1) ⋯;refine Eq.trans (congrArg (tk b) (aQ λk _=>?_)) this;show A i k*x k=(if i+1=0 then 0 else A (i+1-1) k)*x k;rw[if_neg ⋯];rfl
 refine Xu hD h1 hI ?_;rw[axl,jj λc _=>by rw[if_pos rfl,aV,fZ],tk0]
def agZ{b:Int}(hD:Dom b)(h1:tk b 1≠0){n m:Nat}(h:n<m)(A:Nat->Nat->Int):¬tu b n m A:=λhI=>by
 obtain⟨x,⟨k,hk,hne⟩,hx⟩:=ai9 hD h1 n A;refine hne ?_;have q:=hI (λj=>if j<n+1 then x j else 0) (λi hi=>?_) k ⋯
 .rw[if_pos hk]at q;exact q
 .show tk b (sm m λj=>A i j*if j<n+1 then x j else 0)=0;rw[mQ (m:=n+1) ⋯ λj h2 _=>by rw[if_neg ⋯,aV]];rw[aQ (g:=λj=>A i j*x j) λj hj=>by rw[if_pos hj]];exact hx i hi
end Dm
namespace Pm
open Rm
def syn:List Int->Int->List Int×Int
 |[],_=>([],0)
 |a::t,r=>((syn t r).2::(syn t r).1,a+r*(syn t r).2)
theorem adT:∀(p:List Int) (r:Int),(syn p r).1.length=p.length
 |[],_=>rfl
 |a::t,r=>by show(_::(syn t r).1).length=_;rw[fB,adT t r,fB]
theorem Fd:∀(p:List Int) (r:Int) (k:Nat),co p k=(if k=0 then(syn p r).2 else co (syn p r).1 (k-1))-r*co (syn p r).1 k
 |[],r,k=>by
  show co [] k=(if k=0 then(0:Int)else co [] (k-1))-r*co [] k;rw[fV,fV];split<;>omega
 |a::t,r,0=>by
  show co (a::t) 0=(a+r*(syn t r).2)-r*co ((syn t r).2::_) 0;rw[fK,fK];omega
 |a::t,r,k+1=>by
  rw[if_neg ⋯,fX,jq,Fd t r k];show _=co ((syn t r).2::(syn t r).1) k-r*co ((syn t r).2::(syn t r).1) (k+1);rw[jq];cases k with
  |zero=>rw[if_pos rfl,fK]
  |succ k=>rw[if_neg ⋯,fX,jq]
def iC(p:List Int)(r:Int):List Int:=trim (syn p r).1
def pB(p:List Int)(r:Int):Int:=(syn p r).2
def asl(f:Nat->Int)(r:Int)(k:Nat):cv f (co [0-r,1]) k=(if k=0 then 0 else f (k-1))-r*f k:=by
 have g0:co [0-r,1] 0=0-r:=rfl;have g1:co [0-r,1] 1=1:=rfl;have g2:∀j,2<=j->co [0-r,1] j=0:=λj hj=>aX (by show 2<=j;exact hj);rw[fU,sm,pU,g0];cases k with
 |zero=>rw[if_pos rfl,sm,iI,aV,bR];omega
 |succ k=>
  rw[if_neg ⋯,sm,show k+1-k=1 by omega,g1,jh,fX];have z:sm k (λi=>f i*co [0-r,1] (k+1-i))=0:=by
   rw[aQ (g:=λ_=>0) λi hi=>by rw[g2 _ ⋯,aV]];exact uY k
  rw[z,iI,aV,bR];omega
def X8(p:List Int):Py 0 (trim p):=⟨Wc p,λx _=>bw x⟩
def QB(p:List Int)(r:Int):Div 0 p [0-r,1] (iC p r) (trim [pB p r]):=by
 refine⟨X8 _,X8 _,?_,λk=>?_⟩
 .have:=vB [pB p r];exact sE this (by show 1<2;decide)
 .have ec:co (iC p r)=co (syn p r).1:=funext λj=>ou ..;rw[ec,asl,ou,Fd p r k];congr 1;cases k with
  |zero=>rw[if_pos rfl,if_pos rfl,fK];show _+(syn p r).2=_;omega
  |succ k=>rw[if_neg ⋯,if_neg ⋯,jq,fV];omega
def Hu{p:List Int}{r:Int}(h:Mon p)(h2:2<=p.length):Mon (iC p r)/\(iC p r).length=p.length-1:=by
 have l:=adT p r;have z1:co (syn p r).1 (p.length-1)=0:=by
  have e:=Fd p r p.length;rw[aX (aJ _),if_neg ⋯,aX (k:=p.length) ⋯]at e;omega
 have z2:co (syn p r).1 (p.length-2)=1:=by
  have e:=Fd p r (p.length-1);rw[h.one,if_neg ⋯,z1,show p.length-1-1=p.length-2 by omega]at e;omega
 have e:iC p r=aP (p.length-1) (co (syn p r).1):=by
  have e1:trim (aP (p.length-1) (co (syn p r).1))=aP (p.length-1) (co (syn p r).1):=uX (λz=>by have:=congrArg Cm z;rw[cu]at this;simp at this;omega) (by
   rw[cu,dD,if_pos ⋯,show p.length-1-1=p.length-2 by omega,z2];decide)
  rw[<-e1];refine zN λk=>?_;rw[dD];split
  .rfl
  .by_cases c:k=p.length-1
   .rw[c,z1]
   .exact aX ⋯
 have le:(iC p r).length=p.length-1:=by rw[e,cu]
 refine⟨⟨⋯,?_⟩,le⟩;rw[le,e,dD,if_pos ⋯,show p.length-1-1=p.length-2 by omega,z2]
def outF:Nat->List Int->Int->Nat×List Int
 |0,p,_=>(0,p)
 |n+1,p,r=>if pB p r=0 then((outF n (iC p r) r).1+1,(outF n (iC p r) r).2)else(0,p)
def qJ(n:Nat):Nat->Nat->List Int->List Int->List Int
 |0,_,s,g=>s++g.reverse
 |f+1,t,s,g=>if t*t<=n then(if n%t=0 then(if t*t<n then qJ n f (t+1) (s++[(t:Int)]) (g++[((n/t:Nat):Int)])else qJ n f (t+1) (s++[(t:Int)]) g)else qJ n f (t+1) s g)else s++g.reverse
def divs(n:Nat):List Int:=qJ n (n+1) 1 [] []
def iV(p:List Int):Int:=(p.filter λx=>decide (x≠0)).headD 0
def cands(p:List Int):List Int:=((divs (iV p).natAbs).reverse.map λx=>0-x)++[0]++divs (iV p).natAbs
def oN:List Int->List (List Int)->List Int->List (List Int)×List Int
 |[],rs,l=>(rs,l)
 |c::cs,rs,l=>if 0<(outF l.length l c).1 then oN cs (rs++[[c,((outF l.length l c).1:Int)]]) (outF l.length l c).2 else oN cs rs l
def wr(p:List Int):List (List Int)×List Int:=oN (cands p) [] p
def rH(p q:List Int):List Int:=aP (p.length+q.length-1) (cv (co p) (co q))
end Pm
namespace Pm
open Rm
theorem aci{r:Int}{u v:Nat}(hr:Bd v r):∀{p:List Int},(∀x∈p,Bd u x)->(∀x∈(syn p r).1,Bd (u+p.length*(v+1)) x)/\Bd (u+p.length*(v+1)) (syn p r).2
 |[],_=>⟨λx hx=>(gR hx).elim,Bd.zero _⟩
 |a::t,h=>by
  obtain⟨h1,h2⟩:=aci hr (p:=t) λx hx=>h x (cO _ hx);have e:u+(t.length+1)*(v+1)=u+t.length*(v+1)+v+1:=by rw[um];omega
  rw[fB,e];refine⟨λx hx=>?_,?_⟩
  .rcases bH.mp hx with rfl|hx
   .exact h2.mono ⋯
   .exact(h1 x hx).mono ⋯
  .show Bd _ (a+r*(syn t r).2);refine(Bd.add (n:=u+t.length*(v+1)+v) ((h a (bN ..)).mono ⋯) ((hr.mul h2).mono ⋯)).mono ⋯
def YZ{r:Int}{u v:Nat}(hr:Bd v r){p:List Int}(h:∀x∈p,Bd u x):∀x∈iC p r,Bd (u+p.length*(v+1)) x:=λx hx=>by
 obtain⟨k,hk,e⟩:=jD.mp hx;rw[<-e,<-jy hk];unfold iC;rw[ou];exact jK (aci hr h).1 k
structure ahz(p:List Int)(u:Nat)(n:Nat)(l:List Int):Prop where
 mon:Mon l
 len:l.length+n=p.length
 bd:∀x∈l,Bd (u+n*1640) x
def J3{p:List Int}(h:Mon p)(h1:p.length<2)(r:Int):pB p r≠0:=by
 have hp:=h.pos;obtain⟨a,rfl⟩:∃a,p=[a]:=by
  match p,hp,h1 with
  |[a],_,_=>exact⟨a,rfl⟩
 have:=h.one;rw[show[a].length-1=0 from rfl,fK]at this;subst this;show(1:Int)+r*0≠0;rw[aV];decide
theorem Yd{r:Int}(hr:Bd 40 r):∀(n:Nat) {p:List Int} {u:Nat},Mon p->p.length<=40->(∀x∈p,Bd u x)->ahz p u (outF n p r).1 (outF n p r).2
 |0,p,u,h,_,b=>⟨h,rfl,λx hx=>(b x hx).mono ⋯⟩
 |n+1,p,u,h,hl,b=>by
  unfold outF;split
  .rename_i c
   have h2:2<=p.length:=by
    by_cases z:2<=p.length
    .exact z
    .exact absurd c (J3 h ⋯ r)
   obtain⟨m1,l1⟩:=Hu (r:=r) h h2;obtain⟨a,b1,c1⟩:=Yd hr n (u:=u+1640) m1 ⋯ (λx hx=>(YZ hr b x hx).mono (by have:p.length*(40+1)<=40*41:=qG _ hl;omega));refine⟨a,by show(outF n (iC p r) r).2.length+((outF n (iC p r) r).1+1)=_;omega,λx hx=>(c1 x hx).mono ?_⟩;show _<=u+((outF n (iC p r) r).1+1)*1640;rw[um];omega
  .exact⟨h,rfl,λx hx=>(b x hx).mono ⋯⟩
theorem Aq(n:Nat){m:Int}(hm:(n:Int)<=m):∀(f t:Nat) (s g:List Int),1<=t->(∀x∈s,0<x/\x<=m)->(∀x∈g,0<x/\x<=m)->∀x∈qJ n f t s g,0<x/\x<=m
 |0,t,s,g,_,hs,hg,x,hx=>by
  rcases fM.mp hx with hx|hx
  .exact hs x hx
  .exact hg x (jC.mp hx)
 |f+1,t,s,g,ht,hs,hg,x,hx=>by
  unfold qJ at hx;split at hx
  .rename_i c
   have htt:t<=t*t:=KC t ht;have hs':∀y∈s++[(t:Int)],0<y/\y<=m:=λy hy=>by
    rcases fM.mp hy with hy|hy
    .exact hs y hy
    .rw[dj.mp hy];omega
   split at hx
   .split at hx
    .refine Aq n hm f (t+1) _ _ ⋯ hs' (λy hy=>?_) x hx;rcases fM.mp hy with hy|hy
     .exact hg y hy
     .rw[dj.mp hy];have a1:0<n/t:=Nat.div_pos ⋯ ⋯;have a2:n/t<=n:=Nat.div_le_self ..;omega
    .exact Aq n hm f (t+1) _ _ ⋯ hs' hg x hx
   .exact Aq n hm f (t+1) _ _ ⋯ hs hg x hx
  .rcases fM.mp hx with hx|hx
   .exact hs x hx
   .exact hg x (jC.mp hx)
end Pm
namespace Pm
end Pm
namespace Pm
open Rm
def evC(a:Int)(p:List Int)(x:Int):ev (a::p) x=a+x*ev p x:=by
 rw[<-nK (p:=a::p) (n:=p.length+1) (aJ _) x,oV,fK,qT,jh,<-nK (p:=p) (aJ _) x,<-dJ];congr 1;refine aQ λk _=>?_;rw[jq,jd,bR (x^k) x,<-bV,<-bV,bR (co p k) x]
theorem Gm:∀(p:List Int) (r:Int),pB p r=ev p r
 |[],r=>rfl
 |a::t,r=>by rw[evC,<-Gm t r];rfl
theorem Wf(c:Int):∀(n:Nat) {p:List Int},Mon p->p.length<=n->Rep c (outF n p c).1 p (outF n p c).2/\ev (outF n p c).2 c≠0/\Mon (outF n p c).2
 |0,p,h,hl=>by have:=h.pos;omega
 |n+1,p,h,hl=>by
  unfold outF;split
  .rename_i z
   have h2:2<=p.length:=by
    by_cases y:2<=p.length
    .exact y
    .exact absurd z (J3 h ⋯ c)
   obtain⟨m1,l1⟩:=Hu (r:=c) h h2;obtain⟨a1,a2,a3⟩:=Wf c n m1 ⋯;have d:=QB p c;rw[z]at d;exact⟨.succ d a1,a2,a3⟩
  .rename_i z
   rw[Gm]at z;exact⟨.zero p,z,h⟩
def dX(x:Int×Nat):List Int:=[x.1,(x.2:Int)]
theorem Ug:∀(cs:List Int) (rs:List (List Int)) {p:List Int},Mon p->∃l,(oN cs rs p).1=rs++l.map dX/\Scan cs p l (oN cs rs p).2/\Mon (oN cs rs p).2
 |[],rs,p,h=>⟨[],by simp[oN],.nil p,h⟩
 |c::cs,rs,p,h=>by
  obtain⟨a1,a2,a3⟩:=Wf c p.length h (aJ _);unfold oN;generalize outF p.length p c=o at a1 a2 a3;obtain⟨m,q⟩:=o;dsimp only at a1 a2 a3⊢;split
  .rename_i z
   obtain⟨l,e1,e2,e3⟩:=Ug cs (rs++[[c,(m:Int)]]) a3;obtain⟨k,rfl⟩:∃k,m=k+1:=⟨m-1,⋯⟩;exact⟨(c,k+1)::l,by rw[e1];simp[dX],.hit a1 a2 e2,e3⟩
  .rename_i z
   have:m=0:=⋯;subst this;cases a1;obtain⟨l,e1,e2,e3⟩:=Ug cs rs h;exact⟨l,e1,.miss a2 e2,e3⟩
structure Xw(n t:Nat)(s g:List Int):Prop where
 s1:∀x:Int,x∈s↔∃d:Nat,x=d/\1<=d/\d<t/\d*d<=n/\d∣n
 g1:∀x:Int,x∈g↔∃d:Nat,x=(n/d:Nat)/\1<=d/\d<t/\d*d<n/\d∣n
 s2:s.Pairwise (· < ·)
 g2:g.Pairwise (· > ·)
def aop{n b c:Nat}(h:b<c)(h1:1<=b)(hb:b∣n)(hc:c∣n)(hn:0<n):n/c<n/b:=by
 obtain⟨k,hk⟩:=hb;obtain⟨m,hm⟩:=hc;have e1:n/b=k:=by rw[hk];exact Sx k h1
 have e2:n/c=m:=by rw[hm];exact Sx m ⋯
 rw[e1,e2];rcases qb m k with z|z
 .exact z
 .exfalso
  have hm0:0<m:=by
   rcases aft m with y|y
   .rw[y,K8]at hm;omega
   .exact y
  have:b*k<c*m:=sE (uQ b z) (Qt h hm0);omega
def abP{n t:Nat}{s g:List Int}(hn:0<n)(I:Xw n t s g)(ht:n<t*t):(s++g.reverse).Pairwise (· < ·)/\∀d:Nat,1<=d->d∣n->(d:Int)∈s++g.reverse:=by
 have big:∀{b:Nat},1<=b->b*b<n->b∣n->n<n/b*(n/b):=λ{b} h1 h2 h3=>by
  obtain⟨k,hk⟩:=h3;have e:n/b=k:=by rw[hk];exact Sx k h1
  rw[e];have:b<k:=by
   rcases qb b k with z|z
   .exact z
   .have:=uQ b z;omega
  have k0:0<k:=⋯;rw[hk];exact Qt this k0
 have small:∀{d:Nat},d*d<=n->d<t:=λ{d} h=>by
  rcases qb d t with z|z
  .exact z
  .have:=gM z z;omega
 refine⟨CK.mpr ⟨I.s2,Bh.mpr I.g2,λa ha b hb=>?_⟩,λd h1 h2=>?_⟩
 .obtain⟨d,rfl,d1,d2,d3,d4⟩:=(I.s1 a).mp ha;obtain⟨e,rfl,e1,e2,e3,e4⟩:=(I.g1 b).mp (jC.mp hb);have:=big e1 e3 e4;have:d<n/e:=by
   rcases qb d (n/e)with z|z
   .exact z
   .have:=gM z z;omega
  omega
 .by_cases c:d*d<=n
  .exact fM.mpr (.inl ((I.s1 _).mpr ⟨d,rfl,h1,small c,c,h2⟩))
  .obtain⟨k,hk⟩:=h2;have k0:1<=k:=by
    rcases aft k with z|z
    .rw[z,K8]at hk;omega
    .exact z
   have hkd:k<d:=by
    rcases qb k d with z|z
    .exact z
    .have:=uQ d z;omega
   have kk:k*k<n:=by rw[hk];exact Qt hkd k0
   refine fM.mpr (.inr (jC.mpr ((I.g1 _).mpr ⟨k,?_,k0,small ⋯,kk,⟨d,by rw[hk,uM]⟩⟩)));rw[hk,Nat.mul_div_cancel d ⋯]
theorem GB{n:Nat}(hn:0<n):∀(f t:Nat) (s g:List Int),f+t=n+2->1<=t->Xw n t s g->(qJ n f t s g).Pairwise (· < ·)/\∀d:Nat,1<=d->d∣n->(d:Int)∈qJ n f t s g
 |0,t,s,g,h,h1,I=>abP hn I (by have:t<=t*t:=KC t ⋯;omega)
 |f+1,t,s,g,h,h1,I=>by
  unfold qJ;have sNew:t∣n->t*t<=n->(∀x:Int,x∈s++[(t:Int)]↔∃d:Nat,x=d/\1<=d/\d<t+1/\d*d<=n/\d∣n)/\(s++[(t:Int)]).Pairwise (· < ·):=λhd hs=>by
   refine⟨λx=>?_,CK.mpr ⟨I.s2,vL ..,λa ha b hb=>?_⟩⟩
   .rw[fM,I.s1,dj];constructor
    .rintro(⟨d,h1,h2,h3,h4⟩|rfl)
     .exact⟨d,h1,h2,⋯,h4⟩
     .exact⟨t,rfl,h1,⋯,hs,hd⟩
    .rintro⟨d,rfl,h2,h3,h4⟩;by_cases c:d=t
     .exact .inr (by rw[c])
     .exact .inl ⟨d,rfl,h2,⋯,h4⟩
   .obtain⟨d,rfl,_,h3,_⟩:=(I.s1 a).mp ha;rw[dj.mp hb];omega
  have ab0:(¬(t∣n/\t*t<n))->∀x:Int,x∈g↔∃d:Nat,x=(n/d:Nat)/\1<=d/\d<t+1/\d*d<n/\d∣n:=λhno x=>by
   rw[I.g1];constructor
   .rintro⟨d,h1,h2,h3,h4⟩;exact⟨d,h1,h2,⋯,h4⟩
   .rintro⟨d,h1,h2,h3,h4,h5⟩;refine⟨d,h1,h2,?_,h4,h5⟩;by_cases c:d=t
    .subst c;exact absurd ⟨h5,h4⟩ hno
    .omega
  split
  .rename_i c
   split
   .rename_i c2
    have hd:t∣n:=Wm c2;obtain⟨n1,n2⟩:=sNew hd c;split
    .rename_i c3
     refine GB hn f (t+1) _ _ ⋯ ⋯ ⟨n1,λx=>?_,n2,CK.mpr ⟨I.g2,vL ..,λa ha b hb=>?_⟩⟩
     .rw[fM,I.g1,dj];constructor
      .rintro(⟨d,h1,h2,h3,h4⟩|rfl)
       .exact⟨d,h1,h2,⋯,h4⟩
       .exact⟨t,rfl,h1,⋯,c3,hd⟩
      .rintro⟨d,rfl,h2,h3,h4⟩;by_cases z:d=t
       .exact .inr (by rw[z])
       .exact .inl ⟨d,rfl,h2,⋯,h4⟩
     .obtain⟨d,rfl,d1,d2,d3,d4⟩:=(I.g1 a).mp ha;rw[dj.mp hb];have:=aop d2 d1 d4 hd hn;show((n/t:Nat):Int)<_;omega
    .rename_i c3
     exact GB hn f (t+1) _ _ ⋯ ⋯ ⟨n1,ab0 λz=>c3 z.2,n2,I.g2⟩
   .rename_i c2
    have hd:¬t∣n:=λz=>c2 (W0 z);refine GB hn f (t+1) s g ⋯ ⋯ ⟨λx=>?_,ab0 λz=>hd z.1,I.s2,I.g2⟩;rw[I.s1];constructor
    .rintro⟨d,h1,h2,h3,h4⟩;exact⟨d,h1,h2,⋯,h4⟩
    .rintro⟨d,h1,h2,h3,h4,h5⟩;refine⟨d,h1,h2,?_,h4,h5⟩;by_cases z:d=t
     .subst z;exact absurd h5 hd
     .omega
  .rename_i c
   exact abP hn I ⋯
def ae9{n:Nat}(hn:0<n):(divs n).Pairwise (· < ·)/\∀d:Nat,1<=d->d∣n->(d:Int)∈divs n:=
 GB hn (n+1) 1 [] [] ⋯ (aJ _) ⟨λx=>⟨(λh=>(by cases h)),(λ⟨d,_,h1,h2,_⟩=>⋯)⟩,λx=>⟨(λh=>(by cases h)),(λ⟨d,_,h1,h2,_⟩=>⋯)⟩,.nil,.nil⟩
theorem Q6:∀{p:List Int},(∃k,co p k≠0)->∃j,co p j=iV p/\iV p≠0/\∀k,k<j->co p k=0
 |[],⟨k,h⟩=>absurd (fV k) h
 |a::t,⟨k,h⟩=>by
  by_cases c:a=0
  .subst c;have e:iV (0::t)=iV t:=by unfold iV;rw[wJ,if_neg (by simp)]
   cases k with
   |zero=>exact absurd (fK 0 t) h
   |succ k=>
    rw[jq]at h;obtain⟨j,h1,h2,h3⟩:=Q6 (p:=t) ⟨k,h⟩;refine⟨j+1,by rw[jq,h1,e],by rw[e];exact h2,λi hi=>?_⟩;cases i with
    |zero=>rw[fK]
    |succ i=>rw[jq];exact h3 i ⋯
  .have e:iV (a::t)=a:=by unfold iV;rw[wJ,if_pos (by simpa using c)];rfl
   exact⟨0,by rw[fK,e],by rw[e];exact c,λi hi=>⋯⟩
def Mon.low{p:List Int}(h:Mon p):∃k,co p k≠0:=⟨p.length-1,by rw[h.one];decide⟩
def anP{p:List Int}(h:Mon p):(cands p).Pairwise (· < ·):=by
 obtain⟨j,_,hl,_⟩:=Q6 h.low;obtain⟨d1,_⟩:=ae9 (n:=(iV p).natAbs) ⋯;have pos:∀x∈divs (iV p).natAbs,0<x:=λx hx=>(Aq _ (m:=(iV p).natAbs) (Int.le_refl _) _ 1 [] [] (aJ _) (λy hy=>nomatch hy) (λy hy=>nomatch hy) x hx).1;unfold cands;refine CK.mpr ⟨CK.mpr ⟨yJ.mpr (Bh.mpr (d1.imp λ{a b} hab=>⋯)),vL ..,λa ha b hb=>?_⟩,d1,λa ha b hb=>?_⟩
 .obtain⟨y,hy,rfl⟩:=cB.mp ha;have:=pos y (jC.mp hy);rw[dj.mp hb];omega
 .have:=pos b hb;rcases fM.mp ha with ha|ha
  .obtain⟨y,hy,rfl⟩:=cB.mp ha;have:=pos y (jC.mp hy);omega
  .rw[dj.mp ha];omega
def amE{p:List Int}(h:Mon p){x:Int}(hx:ev p x=0):x∈cands p:=by
 obtain⟨j,h1,hl,h3⟩:=Q6 h.low;obtain⟨_,d2⟩:=ae9 (n:=(iV p).natAbs) ⋯;unfold cands;by_cases c:x=0
 .exact fM.mpr (.inl (fM.mpr (.inr (by rw[c];exact dj.mpr rfl))))
 .have hd:=aoD h3 hx c;rw[h1]at hd;have hd':x.natAbs∣(iV p).natAbs:=Nv.mpr hd;have hm:=d2 x.natAbs ⋯ hd';by_cases s:0<x
  .exact fM.mpr (.inr (by rwa [show((x.natAbs:Nat):Int)=x by omega]at hm))
  .refine fM.mpr (.inl (fM.mpr (.inl (cB.mpr ⟨_,jC.mpr hm,⋯⟩))))
def awS{p:List Int}(h:Mon p):∃l:List (Int×Nat),(wr p).1=l.map dX/\Scan (cands p) p l (wr p).2/\Mon (wr p).2:=by
 obtain⟨l,h1,h2,h3⟩:=Ug (cands p) [] h;exact⟨l,by show(oN (cands p) [] p).1=_;simpa using h1,h2,h3⟩
def Mon.rQ{p:List Int}(h:Mon p):Py 0 p:=by
 have:trim p=p:=uX (λz=>by have:=h.pos;rw[z]at this;exact absurd this ∅) (by rw[h.one];decide);exact⟨this,λx _=>bw x⟩
def Za{p:List Int}(h:Mon p):∃l:List (Int×Nat),(wr p).1=l.map dX/\p=RP l (wr p).2/\(∀x,ev (wr p).2 x≠0)/\(l.map (·.1)).Pairwise (· < ·)/\(∀x∈l,0<x.2)/\Mon (wr p).2/\∀x∈l,x.1∈cands p:=by
 obtain⟨l,h1,h2,h3⟩:=awS h;obtain⟨b1,b2,b3,b4,b5⟩:=h2.back h.rQ;refine⟨l,h1,b1,λx hx=>?_,(anP h).sublist b4,b5,h3,λx hx=>b4.subset (cB.mpr ⟨x,hx,rfl⟩)⟩;have:ev p x=0:=by rw[b1];exact FW b2 hx l
 exact b3 x (amE h this) hx
end Pm
namespace Pm
open Rm
def yu(p q r:List Int):mul 0 (mul 0 p q) r=mul 0 p (mul 0 q r):=(qu ..).ext (qu ..) λk=>by
 rw[kI,kI];have e1:co (mul 0 p q)=cv (co p) (co q):=funext λi=>by rw[kI,bw]
 have e2:co (mul 0 q r)=cv (co q) (co r):=funext λi=>by rw[kI,bw]
 rw[e1,e2,gH]
theorem Tv(r:Int)(a R:List Int):∀m,cX r m (mul 0 a R)=mul 0 (cX r m a) R
 |0=>rfl
 |m+1=>by
  show mul 0 (cX r m (mul 0 a R)) (lin r)=mul 0 (mul 0 (cX r m a) (lin r)) R;rw[Tv r a R m,yu,yu,mul_comm 0 R]
theorem afz(r s:Int)(k:Nat)(X:List Int):∀m,cX r m (cX s k X)=cX s k (cX r m X)
 |0=>rfl
 |m+1=>by
  show mul 0 (cX r m (cX s k X)) (lin r)=cX s k (mul 0 (cX r m X) (lin r));rw[afz r s k X m,Tv]
theorem aaT(r:Int)(m:Nat)(X:List Int):∀t,RP t (cX r m X)=cX r m (RP t X)
 |[]=>rfl
 |(s,k)::t=>by
  show cX s k (RP t (cX r m X))=cX r m (cX s k (RP t X));rw[aaT r m X t,afz]
def j7:List (Int×Nat)->List Int->List Int
 |[],a=>a
 |(r,m)::t,a=>j7 t (cX r m a)
theorem PY(R:List Int):∀(l:List (Int×Nat)) (a:List Int),mul 0 (j7 l a) R=RP l (mul 0 a R)
 |[],_=>rfl
 |(r,m)::t,a=>by
  show mul 0 (j7 t (cX r m a)) R=cX r m (RP t (mul 0 a R));rw[PY R t,<-Tv,aaT]
def Dq:Mon [1]:=⟨∅,rfl⟩
def b01:tk (0:Int) 1=1:=bw 1
theorem JX{r:Int}{a:List Int}(h:Mon a):∀m,Mon (cX r m a)/\(cX r m a).length=a.length+m
 |0=>⟨h,rfl⟩
 |m+1=>by
  obtain⟨h1,h2⟩:=JX (r:=r) h m;obtain⟨a1,a2⟩:=adb b01 h1 (Mf r);exact⟨a1,by show(mul 0 (cX r m a) (lin r)).length=_;rw[a2,h2];show a.length+m+2-1=_;omega⟩
def many(l:List (Int×Nat)):Nat:=(l.map (·.2)).sum
theorem Km:∀(l:List (Int×Nat)) {a:List Int},Mon a->Mon (j7 l a)/\(j7 l a).length=a.length+many l
 |[],a,h=>⟨h,by simp[j7,many]⟩
 |(r,m)::t,a,h=>by
  obtain⟨h1,h2⟩:=JX (r:=r) h m;obtain⟨a1,a2⟩:=Km t h1;exact⟨a1,by show(j7 t (cX r m a)).length=_;rw[a2,h2];simp[many];omega⟩
def one_mul{R:List Int}(h:Py 0 R):mul 0 [1] R=R:=by rw[mul_comm,mul_one h]
def UJ{p q:List Int}(hp:Mon p)(hq:Mon q):rH p q=mul 0 p q/\Mon (rH p q)/\(rH p q).length=p.length+q.length-1:=by
 obtain⟨h1,h2⟩:=adb b01 hp hq;have e:rH p q=mul 0 p q:=by
  unfold rH;refine rA (by rw[cu,h2]) λk=>?_;rw[dD,kI,bw];split
  .rfl
  .rename_i c
   exact(jX λi hi=>by
    by_cases z:p.length<=i
    .exact .inl (aX z)
    .exact .inr (aX ⋯)).symm
 rw[e];exact⟨rfl,h1,h2⟩
theorem Gy:∀{R l:List Int},R.Pairwise (· > ·)->l.Pairwise (· > ·)->(∀x∈l,x∈R)->l.Sublist R
 |R,[],_,_,_=>List.nil_sublist R
 |[],x::t,_,_,h=>absurd (h x (bN ..)) gR
 |c::cs,x::t,hR,hl,h=>by
  obtain⟨r1,r2⟩:=tW.mp hR;obtain⟨l1,l2⟩:=tW.mp hl;rcases bH.mp (h x (bN ..))with e|e
  .subst e;refine(Gy r2 l2 λy hy=>?_).cons_cons x;rcases bH.mp (h y (cO _ hy))with z|z
   .have:=l1 y hy;omega
   .exact z
  .refine(Gy r2 hl λy hy=>?_).cons c;rcases bH.mp (h y hy)with z|z
   .have h1:=r1 x e;rcases bH.mp hy with w|w
    .omega
    .have:=l1 y w;omega
   .exact z
end Pm
namespace Cf
def El(r:Int)(g:Nat->Int):Nat->Int:=λn=>g (n+1)-r*g n
def W(r:Int):Nat->(Nat->Int)->Prop
 |0,g=>∀n,g n=0
 |m+1,g=>W r m (El r g)
def Yo(r s:Int)(g:Nat->Int):El r (El s g)=El s (El r g):=funext λn=>by
 unfold El;rw[iI,iI,<-bV,<-bV,bR r s];omega
def zu{r:Int}{g:Nat->Int}(h:∀n,g n=0)(n:Nat):El r g n=0:=by unfold El;rw[h,h,aV];rfl
def aup(r:Int)(g h:Nat->Int):El r (λn=>g n+h n)=λn=>El r g n+El r h n:=funext λn=>by
 show g (n+1)+h (n+1)-r*(g n+h n)=(g (n+1)-r*g n)+(h (n+1)-r*h n);rw[jl];omega
def anV(r c:Int)(g:Nat->Int):El r (λn=>c*g n)=λn=>c*El r g n:=funext λn=>by
 show c*g (n+1)-r*(c*g n)=c*(g (n+1)-r*g n);rw[iI,gk]
theorem W.zero{r:Int}:∀{m:Nat} {g:Nat->Int},(∀n,g n=0)->W r m g
 |0,_,h=>h
 |m+1,g,h=>W.zero (m:=m) (g:=El r g) (zu h)
theorem W.el{r:Int}(s:Int):∀{m:Nat} {g:Nat->Int},W r m g->W r m (El s g)
 |0,_,h=>zu h
 |m+1,g,h=>by
  show W r m (El r (El s g));rw[Yo];exact W.el s h
theorem W.mul{r:Int}(c:Int):∀{m:Nat} {g:Nat->Int},W r m g->W r m λn=>c*g n
 |0,g,h=>λn=>by show c*g n=0;rw[h n,aV]
 |m+1,g,h=>by
  show W r m (El r λn=>c*g n);rw[anV];exact W.mul c h
theorem W.add{r:Int}:∀{m:Nat} {g h:Nat->Int},W r m g->W r m h->W r m λn=>g n+h n
 |0,g,h,h1,h2=>λn=>by show g n+h n=0;rw[h1 n,h2 n];rfl
 |m+1,g,h,h1,h2=>by
  show W r m (El r λn=>g n+h n);rw[aup];exact W.add h1 h2
theorem W.up{r:Int}:∀{m:Nat} {g:Nat->Int},W r m g->W r (m+1) g
 |0,_,h=>zu h
 |m+1,g,h=>W.up (m:=m) (g:=El r g) h
def W.le{r:Int}{m m':Nat}{g:Nat->Int}(h:W r m g)(hm:m<=m'):W r m' g:=by
 induction m' with
 |zero=>
  obtain rfl:m=0:=⋯;exact h
 |succ k ih=>
  by_cases e:m=k+1
  .subst e;exact h
  .exact(ih ⋯).up
theorem W.kill{r s:Int}(hne:r≠s):∀{m:Nat} {g:Nat->Int},W s m g->(∀n,El r g n=0)->∀n,g n=0
 |0,_,h,_=>h
 |m+1,g,h,e=>λn=>by
  have e1:∀n,El s g n=(r-s)*g n:=λn=>by
   have:=e n;unfold El at this⊢;rw[yj];omega
  have k:∀n,El s g n=0:=W.kill hne h λn=>by rw[Yo];exact zu e n
  have:=k n;rw[e1]at this;rcases lF.mp this with z|z
  .exact absurd ⋯ hne
  .exact z
abbrev Tm:=Int×Nat×(Nat->Int)
def jV(l:List Tm)(n:Nat):Int:=(l.map λt=>t.2.2 n).sum
def tX(t:Tm)(l:List Tm)(n:Nat):jV (t::l) n=t.2.2 n+jV l n:=by simp[jV]
theorem acy(r:Int):∀(l:List Tm) (n:Nat),jV (l.map λt=>(t.1,t.2.1,El r t.2.2)) n=El r (jV l) n
 |[],n=>by simp[jV,El]
 |t::l,n=>by
  rw[cD,tX,acy r l n];show El r t.2.2 n+El r (jV l) n=El r (jV (t::l)) n;unfold El;rw[tX,tX,jl];omega
def akt{l:List Tm}(h:∀t∈l,∀n,t.2.2 n=0)(n:Nat):jV l n=0:=by
 induction l with
 |nil=>rfl
 |cons t l ih=>rw[tX,h t (bN ..) n,ih λx hx=>h x (cO _ hx)];rfl
theorem indep:∀(K:Nat) (l:List Tm),(l.map λt=>t.2.1+1).sum<=K->(l.map (·.1)).Nodup->(∀t∈l,W t.1 t.2.1 t.2.2)->(∀n,jV l n=0)->∀t∈l,∀n,t.2.2 n=0
 |_,[],_,_,_,_,t,ht,_=>by cases ht
 |0,t0::l,hK,_,_,_,_,_,_=>by simp at hK
 |K+1,(r,m,g)::l,hK,hd,hW,hs,t,ht,n=>by
  simp only[cD,iY]at hK;have hd':=rK.mp hd;have Uv:∀t∈l,W t.1 t.2.1 t.2.2:=λt ht=>hW t (cO _ ht);have hg:=hW (r,m,g) (bN ..);have rest:∀t∈l,∀n,t.2.2 n=0:=by
   cases m with
   |zero=>exact indep K l ⋯ hd'.2 Uv λn=>by have:=hs n;rw[tX]at this;have z:g n=0:=hg n;show jV l n=0;simp only at this;omega
   |succ k=>
    have ih:=indep K ((r,k,El r g)::l.map λt=>(t.1,t.2.1,El r t.2.2)) (by
     simp only[cD,iY,cH];have:((λt:Tm=>t.2.1+1)∘λt:Tm=>((t.1,t.2.1,El r t.2.2):Tm))=λt:Tm=>t.2.1+1:=rfl;rw[this];omega) (by
     have:(((r,k,El r g)::l.map λt=>((t.1,t.2.1,El r t.2.2):Tm)):List Tm).map (·.1)=((r,k+1,g)::l).map (·.1):=by
      simp only[cD,cH];rfl
     rw[this];exact hd) (λt ht=>by
     rcases bH.mp ht with rfl|ht
     .exact hg
     .obtain⟨u,hu,rfl⟩:=cB.mp ht;exact(Uv u hu).el r) (λn=>by
     have e:=acy r ((r,k+1,g)::l) n;simp only[cD]at e;have e2:jV ((r,k,El r g)::l.map λt=>((t.1,t.2.1,El r t.2.2):Tm)) n=El r (jV ((r,k+1,g)::l)) n:=by rw[<-e,tX,tX]
     rw[e2];exact zu hs n)
    intro t ht n;have hne:r≠t.1:=λz=>hd'.1 (by show r∈l.map (·.1);rw[z];exact jr ht);exact W.kill hne (Uv t ht) (λn=>ih (t.1,t.2.1,El r t.2.2) (cO _ (jr (f:=λt:Tm=>((t.1,t.2.1,El r t.2.2):Tm)) ht)) n) n
  rcases bH.mp ht with rfl|ht
  .have:=hs n;rw[tX,akt rest]at this;simp only at this⊢;omega
  .exact rest t ht n
def pv:List Int->Int->Int
 |[],_=>0
 |c::q,x=>c+x*pv q x
def Pf:Nat->(Int->Int)->Prop
 |0,q=>∀x,q x=0
 |m+1,q=>Pf m λx=>q (x+1)-q x
theorem Pf.zero:∀{m:Nat} {q:Int->Int},(∀x,q x=0)->Pf m q
 |0,_,h=>h
 |m+1,q,h=>Pf.zero (m:=m) (q:=λx=>q (x+1)-q x) λx=>by show q (x+1)-q x=0;rw[h,h];rfl
theorem Pf.add:∀{m:Nat} {p q:Int->Int},Pf m p->Pf m q->Pf m λx=>p x+q x
 |0,p,q,h1,h2=>λx=>by show p x+q x=0;rw[h1,h2];rfl
 |m+1,p,q,h1,h2=>by
  have:Pf m λx=>(p (x+1)-p x)+(q (x+1)-q x):=Pf.add h1 h2;have e:(λx=>(p (x+1)-p x)+(q (x+1)-q x))=λx=>(p (x+1)+q (x+1))-(p x+q x):=funext λx=>⋯;rw[e]at this;exact this
theorem Pf.mul(c:Int):∀{m:Nat} {q:Int->Int},Pf m q->Pf m λx=>c*q x
 |0,q,h=>λx=>by show c*q x=0;rw[h,aV]
 |m+1,q,h=>by
  have:Pf m λx=>c*(q (x+1)-q x):=Pf.mul c h;have e:(λx=>c*(q (x+1)-q x))=λx=>c*q (x+1)-c*q x:=funext λx=>by rw[iI]
  rw[e]at this;exact this
theorem Pf.on:∀{m:Nat} {q:Int->Int},Pf m q->Pf m λx=>q (x+1)
 |0,_,h=>λx=>h (x+1)
 |m+1,q,h=>Pf.on (m:=m) (q:=λx=>q (x+1)-q x) h
theorem Pf.x:∀{m:Nat} {q:Int->Int},Pf m q->Pf (m+1) λx=>x*q x
 |0,q,h=>Pf.zero λx=>by show x*q x=0;rw[h,aV]
 |m+1,q,h=>by
  show Pf (m+1) λx=>(x+1)*q (x+1)-x*q x;have h1:Pf (m+1) λx=>x*(q (x+1)-q x):=Pf.x (m:=m) h;have h2:Pf (m+1) λx=>q (x+1):=Pf.on (m:=m+1) h;have h3:=Pf.add h1 h2;have e:(λx=>x*(q (x+1)-q x)+q (x+1))=λx=>(x+1)*q (x+1)-x*q x:=funext λx=>by
   rw[iI,tH,iz];omega
  rw[e]at h3;exact h3
theorem Hg:∀q:List Int,Pf q.length (pv q)
 |[]=>λ_=>rfl
 |c::q=>by
  show Pf (q.length+1) λx=>c+x*pv q x;refine Pf.add ?_ (Hg q).x;have k:∀m,Pf (m+1) λ_=>c:=λm=>by
   show Pf m λx=>c-c;exact Pf.zero λ_=>⋯
  exact k _
theorem W.of_pf(r:Int):∀{m:Nat} {q:Int->Int},Pf m q->W r m λn=>r^n*q (n:Int)
 |0,q,h=>λn=>by show r^n*q (n:Int)=0;rw[h,aV]
 |m+1,q,h=>by
  show W r m (El r λn=>r^n*q (n:Int));have e:(El r λn:Nat=>r^n*q (n:Int))=λn:Nat=>r^n*(r*(q ((n:Int)+1)-q (n:Int))):=funext λn=>by
   show r^(n+1)*q ((n:Int)+1)-r*(r^n*q (n:Int))=r^n*(r*(q ((n:Int)+1)-q (n:Int)));rw[jd,iI,iI,bV,gk r (r^n)]
  rw[e];exact W.of_pf r (q:=λx=>r*(q (x+1)-q x)) (Pf.mul r h)
theorem GJ:∀(q:List Int) (N:Nat),(∀n:Nat,N<=n->pv q (n:Int)=0)->∀c∈q,c=0
 |[],_,_,c,hc=>by cases hc
 |a::q,N,h,c,hc=>by
  have a0:a=0:=by
   have h1:=h (N+a.natAbs+1) ⋯;have d:((N+a.natAbs+1:Nat):Int)∣a:=⟨-pv q ((N+a.natAbs+1:Nat):Int),by
    have:pv (a::q) ((N+a.natAbs+1:Nat):Int)=a+((N+a.natAbs+1:Nat):Int)*pv q ((N+a.natAbs+1:Nat):Int):=rfl;rw[this]at h1;rw[uh];omega⟩
   by_cases z:a=0
   .exact z
   .exfalso
    have:=rD (Int.natAbs_pos.mpr z) (Nv.mpr d);rw[zB]at this;omega
  rcases bH.mp hc with rfl|hc
  .exact a0
  .refine GJ q (N+1) (λn hn=>?_) c hc;have h1:=h n ⋯;have:pv (a::q) (n:Int)=a+(n:Int)*pv q (n:Int):=rfl;rw[this,a0,iG]at h1;rcases lF.mp h1 with z|z
   .omega
   .exact z
theorem GP{r:Int}(h:r≠0):∀n:Nat,r^n≠0
 |0=>by rw[qT];decide
 |n+1=>by
  rw[jd];intro z;rcases lF.mp z with y|y
  .exact GP h n y
  .exact h y
end Cf
namespace Cf
open Pm Rm
def elN(r:Int):Nat->(Nat->Int)->Nat->Int
 |0,g=>g
 |m+1,g=>El r (elN r m g)
theorem adF{r:Int}:∀(m:Nat) {g:Nat->Int},(∀n,g n=0)->∀n,elN r m g n=0
 |0,_,h=>h
 |m+1,_,h=>zu (adF m h)
theorem VH(r:Int):∀(m:Nat) (g:Nat->Int),elN r m (El r g)=El r (elN r m g)
 |0,_=>rfl
 |m+1,g=>by show El r (elN r m (El r g))=_;rw[VH r m g];rfl
theorem W.elN(r:Int):∀{m:Nat} {g:Nat->Int},W r m g->∀n,elN r m g n=0
 |0,_,h=>h
 |m+1,g,h=>by
  have:=W.elN r (m:=m) (g:=El r g) h;rw[VH]at this;exact this
theorem W.elNs{r:Int}(s:Int):∀(k:Nat) {m:Nat} {g:Nat->Int},W r m g->W r m (Cf.elN s k g)
 |0,_,_,h=>h
 |k+1,_,_,h=>(W.elNs s k h).el s
def akH(r:Int)(g:Nat->Int)(n:Nat):ks (Pm.lin r) g n=El r g n:=by
 show 0+co (Pm.lin r) 0*g (n+0)+co (Pm.lin r) 1*g (n+1)=g (n+1)-r*g n;rw[show co (Pm.lin r) 0=0-r from rfl,show co (Pm.lin r) 1=1 from rfl,iz,yj];show 0+(0*g n-r*g n)+g (n+1)=_;omega
def agA(p q:List Int)(a:Nat->Int)(n:Nat):ks (mul 0 p q) a n=ks p (ks q a) n:=by
 have:=Y6 (b:=0) p q a n;rw[bw,bw]at this;exact this
theorem La(r:Int)(q:List Int)(f:Nat->Int):∀(m n:Nat),ks (cX r m q) f n=elN r m (ks q f) n
 |0,_=>rfl
 |m+1,n=>by
  show ks (mul 0 (cX r m q) (Pm.lin r)) f n=El r (elN r m (ks q f)) n;rw[Pm.mul_comm,agA,akH,show ks (cX r m q) f=elN r m (ks q f)from funext (La r q f m)]
def ala(f:Nat->Int)(n:Nat):ks [1] f n=f n:=by
 show 0+co [1] 0*f (n+0)=f n;rw[show co [1] 0=1 from rfl,iz,iG];rfl
theorem W.ofRP{r:Int}:∀(l:List (Int×Nat)) {m:Nat} {g:Nat->Int},W r m g->W r m (ks (RP l [1]) g)
 |[],_,g,h=>by rw[show ks (RP [] [1]) g=g from funext (ala g)];exact h
 |(s,k)::t,_,g,h=>by
  rw[show ks (RP ((s,k)::t) [1]) g=Cf.elN s k (ks (RP t [1]) g)from funext (La s _ g k)];exact(W.ofRP t h).elNs s k
theorem W.keep{r:Int}{m:Nat}:∀(l:List (Int×Nat)) {g:Nat->Int},(r,m)∈l->W r m g->∀n,ks (RP l [1]) g n=0
 |(s,k)::t,g,hm,h,n=>by
  show ks (cX s k (RP t [1])) g n=0;rw[La];rcases bH.mp hm with e|hm
  .cases e;exact(W.ofRP t h).elN r n
  .exact adF k (W.keep t hm h) n
def Xf{P:List Int}(hm:Mon P){f:Nat->Int}(hk:∀n,ks P f n=0)(h0:∀n,n<P.length-1->f n=0)(n:Nat):f n=0:=by
 induction n using sX with
 |ind n ih=>
  by_cases c:n<P.length-1
  .exact h0 n c
  .have hp:=hm.pos;obtain⟨k,rfl⟩:∃k,n=k+(P.length-1):=⟨n-(P.length-1),⋯⟩;have e:=hk k;unfold ks at e;obtain⟨N,hN⟩:∃N,P.length=N+1:=⟨P.length-1,⋯⟩;rw[hN]at e;have z:sm N (λi=>co P i*f (k+i))=0:=jj λi hi=>by rw[ih (k+i) ⋯,aV]
   have e2:sm (N+1) (λi=>co P i*f (k+i))=sm N (λi=>co P i*f (k+i))+co P N*f (k+N):=rfl;have o:co P N=1:=by have:=hm.one;rw[hN,fX]at this;exact this
   rw[e2,z,o,iz,iG]at e;rw[hN,fX];exact e
def dot:List Int->List Int->Int
 |x::xs,y::ys=>x*y+dot xs ys
 |_,_=>0
def gG:List (Int×Nat)->Nat->List Int
 |[],_=>[]
 |(r,m)::t,n=>((eO m).map λj=>r^n*(n:Int)^j)++gG t n
def cT:List (Int×Nat)->List Int->List (Int×List Int)
 |[],_=>[]
 |(r,m)::t,cs=>(r,cs.take m)::cT t (cs.drop m)
def cY(ps:List (Int×List Int))(n:Nat):Int:=(ps.map λp=>p.1^n*pv p.2 (n:Int)).sum
def aL(l:List (Int×Nat)):Nat:=(l.map (·.2)).sum
theorem afd:∀(xs ys cs:List Int),xs.length<=cs.length->dot (xs++ys) cs=dot xs (cs.take xs.length)+dot ys (cs.drop xs.length)
 |[],ys,cs,_=>by simp[dot]
 |x::xs,ys,[],h=>by simp at h
 |x::xs,ys,c::cs,h=>by
  show x*c+dot (xs++ys) cs=(x*c+dot xs (cs.take xs.length))+dot ys (cs.drop xs.length);rw[afd xs ys cs (by simpa using h),EW]
theorem Xo(x s:Int):∀(q:List Int) (k:Nat),dot ((uT k q.length).map λj=>s*x^j) q=s*(x^k*pv q x)
 |[],k=>by simp[dot,pv]
 |c::q,k=>by
  show s*x^k*c+dot ((uT (k+1) q.length).map λj=>s*x^j) q=s*(x^k*(c+x*pv q x));rw[Xo x s q (k+1),jd,jl,jl,bV,bV (x^k)]
theorem Bb:∀(l:List (Int×Nat)) (n:Nat),(gG l n).length=aL l
 |[],_=>rfl
 |(r,m)::t,n=>by
  show(((eO m).map λj=>r^n*(n:Int)^j)++gG t n).length=m+aL t;rw[fO,aB,oO,Bb t n]
def rO(r:Int)(m:Nat)(t:List (Int×Nat)):aL ((r,m)::t)=m+aL t:=rfl
theorem Ri:∀(l:List (Int×Nat)) (cs:List Int) (n:Nat),cs.length=aL l->dot (gG l n) cs=cY (cT l cs) n
 |[],cs,n,h=>by simp[gG,dot,cT,cY]
 |(r,m)::t,cs,n,h=>by
  rw[rO]at h;show dot (((eO m).map λj=>r^n*(n:Int)^j)++gG t n) cs=cY ((r,cs.take m)::cT t (cs.drop m)) n;rw[afd _ _ _ (by rw[aB,oO];omega),aB,oO,Ri t (cs.drop m) n (by rw[oA];omega)];have lt:(cs.take m).length=m:=by rw[jO];omega
  have e:=Xo (n:Int) (r^n) (cs.take m) 0;rw[lt,qT,iz]at e;rw[List.range_eq_range',e];simp[cY]
theorem wV:∀(l:List (Int×Nat)) (cs:List Int),cs.length=aL l->∀p∈cT l cs,(p.1,p.2.length)∈l
 |(r,m)::t,cs,h,p,hp=>by
  rw[rO]at h;rcases bH.mp hp with rfl|hp
  .have lt:(cs.take m).length=m:=by rw[jO];omega
   show(r,(cs.take m).length)∈_;rw[lt];exact bN ..
  .exact cO _ (wV t (cs.drop m) (by rw[oA];omega) p hp)
theorem Av:∀(l:List (Int×Nat)) (cs:List Int),(cT l cs).map (·.1)=l.map (·.1)
 |[],_=>rfl
 |(r,m)::t,cs=>by
  show r::(cT t (cs.drop m)).map (·.1)=r::t.map (·.1);rw[Av t]
theorem acq:∀(l:List (Int×Nat)) (cs:List Int),cs.length=aL l->(∀p∈cT l cs,∀c∈p.2,c=0)->∀c∈cs,c=0
 |[],cs,h,_,c,hc=>by
  have:cs=[]:=List.length_eq_zero_iff.mp h;rw[this]at hc;cases hc
 |(r,m)::t,cs,h,hz,c,hc=>by
  rw[rO]at h;rw[<-DN m cs]at hc;rcases fM.mp hc with hc|hc
  .exact hz (r,cs.take m) (bN ..) c hc
  .exact acq t (cs.drop m) (by rw[oA];omega) (λp hp=>hz p (cO _ hp)) c hc
def CQ(ps:List (Int×List Int)):List Tm:=ps.map λp=>(p.1,p.2.length,λn:Nat=>p.1^n*pv p.2 (n:Int))
def apO(ps:List (Int×List Int)):∀t∈CQ ps,W t.1 t.2.1 t.2.2:=λt ht=>by
 obtain⟨p,_,rfl⟩:=cB.mp ht;exact W.of_pf p.1 (Hg p.2)
def amh(ps:List (Int×List Int))(n:Nat):jV (CQ ps) n=cY ps n:=by
 unfold jV cY CQ;rw[cH];rfl
def awd{ps:List (Int×List Int)}(hd:(ps.map (·.1)).Nodup)(h0:∀p∈ps,p.1≠0)(h:∀n,cY ps n=0):∀p∈ps,∀c∈p.2,c=0:=λp hp=>by
 have:=indep _ (CQ ps) (aJ _) (by unfold CQ;rw[cH];exact hd) (apO ps) (λn=>by rw[amh];exact h n) _ (jr (f:=λp:Int×List Int=>((p.1,p.2.length,λn:Nat=>p.1^n*pv p.2 (n:Int)):Tm)) hp);refine GJ p.2 0 λn _=>?_;have e:=this n;rcases lF.mp e with z|z
 .exact absurd z (GP (h0 p hp) n)
 .exact z
theorem Fe:∀(ps:List (Int×List Int)) (l:List (Int×Nat)),(∀p∈ps,(p.1,p.2.length)∈l)->∀n,ks (RP l [1]) (cY ps) n=0
 |[],l,_,n=>by
  refine jj λk _=>?_;show _*(0:Int)=0;rw[aV]
 |p::ps,l,h,n=>by
  have e:cY (p::ps)=λn:Nat=>p.1^n*pv p.2 (n:Int)+cY ps n:=funext λn=>by simp[cY]
  have e2:ks (RP l [1]) (cY (p::ps)) n=ks (RP l [1]) (λn:Nat=>p.1^n*pv p.2 (n:Int)) n+ks (RP l [1]) (cY ps) n:=by
   rw[e];unfold ks;rw[<-iU];exact aQ λk _=>jl ..
  rw[e2,W.keep l (h p (bN ..)) (W.of_pf p.1 (Hg p.2)) n,Fe ps l (λq hq=>h q (cO _ hq)) n];rfl
def aqe{l:List (Int×Nat)}(hd:(l.map (·.1)).Nodup)(h0:∀x∈l,x.1≠0)(hm:Mon (RP l [1]))(hl:(RP l [1]).length=aL l+1){cs:List Int}(hc:cs.length=aL l)(h:∀n,n<aL l->dot (gG l n) cs=0):∀c∈cs,c=0:=by
 have hz:∀n,cY (cT l cs) n=0:=Xf hm (Fe _ l (wV l cs hc)) λn hn=>by
  rw[hl,fX]at hn;rw[<-Ri l cs n hc];exact h n hn
 exact acq l cs hc (awd (by rw[Av];exact hd) (λp hp=>h0 _ (wV l cs hc p hp)) hz)
def aip{l:List (Int×Nat)}(hm:Mon (RP l [1]))(hl:(RP l [1]).length=aL l+1){cs:List Int}(hc:cs.length=aL l){f:Nat->Int}{D:Int}(hk:∀n,ks (RP l [1]) f n=0)(h:∀n,n<aL l->dot (gG l n) cs=D*f n)(n:Nat):cY (cT l cs) n=D*f n:=by
 have key:∀n,(λn=>cY (cT l cs) n+(-D)*f n) n=0:=Xf hm (λn=>by
  have e:ks (RP l [1]) (λn=>cY (cT l cs) n+(-D)*f n) n=ks (RP l [1]) (cY (cT l cs)) n+(-D)*ks (RP l [1]) f n:=by
   unfold ks;rw[<-dJ,<-iU];exact aQ λk _=>by rw[jl,gk]
  rw[e,Fe _ l (wV l cs hc),hk,aV];rfl) λn hn=>by
  rw[hl,fX]at hn;show cY (cT l cs) n+(-D)*f n=0;rw[<-Ri l cs n hc,h n hn,jf];omega
 have:=key n;simp only at this;rw[jf]at this;omega
end Cf
namespace Cf
open Pm Rm
def cR:List Int->List Int
 |[]=>[1]
 |r::t=>mul 0 (cR t) (Pm.lin r)
def fR:List (Int×Nat)->List Int
 |[]=>[]
 |(r,m)::t=>iK m r++fR t
theorem abf(r:Int)(t:List Int):∀m,cR (iK m r++t)=cX r m (cR t)
 |0=>rfl
 |m+1=>by
  show mul 0 (cR (iK m r++t)) (Pm.lin r)=mul 0 (cX r m (cR t)) (Pm.lin r);rw[abf r t m]
theorem zF:∀l,RP l [1]=cR (fR l)
 |[]=>rfl
 |(r,m)::t=>by
  show cX r m (RP t [1])=cR (iK m r++fR t);rw[abf,zF t]
theorem Qp:∀l,(fR l).length=aL l
 |[]=>rfl
 |(r,m)::t=>by rw[rO,<-Qp t,fR,fO,ZY]
theorem Er{x:Int}:∀{l:List (Int×Nat)},x∈fR l↔∃m,(x,m)∈l/\0<m
 |[]=>by simp[fR]
 |(r,m)::t=>by
  rw[fR,fM,List.mem_replicate,Er (l:=t)];constructor
  .rintro(⟨h1,rfl⟩|⟨k,h1,h2⟩)
   .exact⟨m,bN ..,⋯⟩
   .exact⟨k,cO _ h1,h2⟩
  .rintro⟨k,h1,h2⟩;rcases bH.mp h1 with e|h1
   .cases e;exact .inl ⟨⋯,rfl⟩
   .exact .inr ⟨k,h1,h2⟩
theorem qz:∀rs,Mon (cR rs)/\(cR rs).length=rs.length+1
 |[]=>⟨Dq,rfl⟩
 |r::t=>by
  obtain⟨h1,h2⟩:=qz t;have:=JX (r:=r) h1 1;refine⟨this.1,?_⟩;have e:(cX r 1 (cR t)).length=(cR t).length+1:=this.2;rw[h2]at e;exact e
def qC(l:List (Int×Nat)):Mon (RP l [1])/\(RP l [1]).length=aL l+1:=by
 rw[zF];have:=qz (fR l);rw[Qp]at this;exact this
def adl(p q:List Int)(x:Int):ev (mul 0 p q) x=ev p x*ev q x:=aeg x q p _ λk=>Hh p q k
def aoW(r x:Int):ev (Pm.lin r) x=x-r:=by
 show ev [0-r,1] x=_;rw[Sy,adK];omega
theorem wL{x:Int}:∀{rs:List Int},ev (cR rs) x=0↔x∈rs
 |[]=>by
  show ev [1] x=0↔_;rw[adK];simp
 |r::t=>by
  show ev (mul 0 (cR t) (Pm.lin r)) x=0↔_;rw[adl,aoW,lF,wL (rs:=t),bH];constructor
  .rintro(h|h)
   .exact .inr h
   .exact .inl ⋯
  .rintro(h|h)
   .exact .inr ⋯
   .exact .inl h
def aaj{L:List Int}{r:Int}(hL:Mon L)(h:ev L r=0):∃q,Mon q/\q=iC L r/\L=mul 0 q (Pm.lin r):=by
 have h2:2<=L.length:=by
  by_cases c:2<=L.length
  .exact c
  .exact absurd (by rw[Gm,h]) (J3 hL ⋯ r)
 obtain⟨m1,l1⟩:=Hu (r:=r) hL h2;have D:=QB L r;rw[Gm,h]at D;have B:=D.back (Mon.rQ hL);have e:trim [(0:Int)]=[]:=rfl;rw[e,Pm.add_comm,nil_add (qu ..)]at B;exact⟨_,m1,rfl,B.symm⟩
def KQ{p q:List Int}{r:Int}(hp:Py 0 p)(hq:Py 0 q)(h:mul 0 p (Pm.lin r)=mul 0 q (Pm.lin r)):p=q:=
 ((Div.lin r hp).uniq (Mf r) (h▸Div.lin r hq)).1
def auW{L:List Int}(h:Mon L)(h1:L.length=1):L=[1]:=by
 have:=h.one
 match L,h1 with
 |[x],_=>have e:x=1:=this;rw[e]
def awZ{L S:List Int}(hL:Mon L)(hS:Mon S):Mon (mul 0 L S)/\(mul 0 L S).length+1=L.length+S.length:=by
 obtain⟨e,m,l⟩:=UJ hL hS;rw[<-e];refine⟨m,?_⟩;have:=hL.pos;omega
theorem HZ:∀(rs:List Int) {L S:List Int},Mon L->Mon S->mul 0 L S=cR rs->∃rs',rs'.Sublist rs/\L=cR rs'
 |[],L,S,hL,hS,e=>by
  have l:=(awZ hL hS).2;have:=hL.pos;have:=hS.pos;rw[e]at l;exact⟨[],.slnil,auW hL (by simp[cR]at l;omega)⟩
 |r::rs,L,S,hL,hS,e=>by
  have z:ev L r*ev S r=0:=by
   rw[<-adl,e];exact wL.mpr (bN ..)
  have e':mul 0 L S=mul 0 (cR rs) (Pm.lin r):=e;rcases lF.mp z with z|z
  .obtain⟨q,hq,_,eq⟩:=aaj hL z;have:mul 0 q S=cR rs:=KQ (qu ..) (Mon.rQ (qz rs).1) (by rw[<-e',yu,Pm.mul_comm 0 S,<-yu,<-eq]);obtain⟨rs',h1,h2⟩:=HZ rs hq hS this;exact⟨r::rs',h1.cons_cons r,by rw[eq,h2];rfl⟩
  .obtain⟨q,hq,_,eq⟩:=aaj hS z;have:mul 0 L q=cR rs:=KQ (qu ..) (Mon.rQ (qz rs).1) (by rw[<-e',yu,<-eq]);obtain⟨rs',h1,h2⟩:=HZ rs hL hq this;exact⟨rs',h1.cons r,h2⟩
def atv{rs:List Int}:∃l:List (Int×Nat),(wr (cR rs)).1=l.map dX/\(wr (cR rs)).2=[1]/\cR rs=RP l [1]/\(l.map (·.1)).Pairwise (· < ·)/\(∀x∈l,0<x.2)/\∀x∈l,x.1∈rs:=by
 obtain⟨l,h1,h2,h3,h4,h5,h6,_⟩:=Za (qz rs).1;have e1:=PY (wr (cR rs)).2 l [1];rw[Pm.one_mul (Mon.rQ h6),<-h2]at e1;obtain⟨rs',_,er⟩:=HZ rs h6 (Km l Dq).1 (by rw[Pm.mul_comm];exact e1);have e2:(wr (cR rs)).2=[1]:=by
  cases rs' with
  |nil=>exact er
  |cons r t=>exact absurd (by rw[er];exact wL.mpr (bN ..)) (h3 r)
 rw[e2]at h2;refine⟨l,h1,e2,h2,h4,h5,λx hx=>?_⟩;rw[<-wL,h2,zF,wL,Er];exact⟨x.2,hx,h5 x hx⟩
def aoE(q:List Int)(r:Int)(k:Nat):co (mul 0 q (Pm.lin r)) k=(if k=0 then 0 else co q (k-1))-r*co q k:=by
 rw[Hh,Oz]
theorem yG:∀(q:List Int) (x:Int),pv q x=ev q x
 |[],_=>rfl
 |c::q,x=>by rw[Sy,<-yG q x];rfl
def R4{q:List Int}(h0:co q (q.length-1)=0)(x:Int):pv q.dropLast x=pv q x:=by
 by_cases c:q=[]
 .subst c;rfl
 .have e:=Rg c;rw[h0]at e;rw[yG,yG]
  conv=>rhs;rw[e]
  unfold ev;rw[fO,aaQ];show _=sm q.dropLast.length (λk=>co (q.dropLast++[0]) k*x^k)+co (q.dropLast++[0]) q.dropLast.length*x^q.dropLast.length;rw[oG,if_neg (nT _),pU,fK,fZ,dz];exact aQ λk hk=>by rw[oG,if_pos hk]
theorem YC{α:Type}:∀{ps:List (Int×α)},(ps.map (·.1)).Nodup->∀{p q:Int×α},p∈ps->q∈ps->p.1=q.1->p=q
 |[],_,_,_,hp,_,_=>by cases hp
 |a::t,hd,p,q,hp,hq,e=>by
  rw[cD,rK]at hd;rcases bH.mp hp with z|hp'<;>rcases bH.mp hq with y|hq'
  .rw[z,y]
  .exact absurd (by rw[<-z,e];exact jr hq') hd.1
  .exact absurd (by rw[<-y,<-e];exact jr hp') hd.1
  .exact YC hd.2 hp' hq' e
theorem Xx{α:Type}(f g:α->Nat):∀{l:List α},(∀x∈l,f x<=g x)->(∃x∈l,f x<g x)->(l.map f).sum<(l.map g).sum
 |[],_,⟨_,h,_⟩=>by cases h
 |a::t,h,⟨x,hx,hl⟩=>by
  rw[cD,cD,iY,iY];have ha:=h a (bN ..);have le:(t.map f).sum<=(t.map g).sum:=by
   have ht:∀x∈t,f x<=g x:=λx hx=>h x (cO _ hx);clear h hx hl ha;induction t with
   |nil=>exact aJ _
   |cons b t ih=>
    rw[cD,cD,iY,iY];have:=ht b (bN ..);have:=ih λx hx=>ht x (cO _ hx);omega
  rcases bH.mp hx with rfl|hx
  .omega
  .have:=Xx f g (λx hx=>h x (cO _ hx)) ⟨x,hx,hl⟩;omega
theorem Kh:∀(l:List (Int×Nat)) (cs:List Int),cs.length=aL l->(cT l cs).map (λp=>(p.1,p.2.length))=l
 |[],_,_=>rfl
 |(r,m)::t,cs,h=>by
  rw[rO]at h;show(r,(cs.take m).length)::(cT t (cs.drop m)).map _=_;rw[Kh t _ (by rw[oA];omega),jO,Ou ⋯]
def aqi{f:Nat->Int}{ps:List (Int×List Int)}{N:Nat}{bot:Int}(hN:(ps.map λp=>p.2.length).sum=N)(hmin:∀q,Mon q->Kp 0 q f->N+1<=q.length)(hd:(ps.map (·.1)).Nodup)(hb:bot≠0)(h:∀n,cY ps n=bot*f n):∀p∈ps,p.2≠[]->co p.2 (p.2.length-1)≠0:=λp hp hne h0=>by
 let F:Int×List Int->Int×List Int:=λx=>if x.1=p.1 then(x.1,x.2.dropLast)else x
 have eS:∀n,cY (ps.map F) n=cY ps n:=λn=>by
  unfold cY;rw[cH];congr 1;refine m7 λx hx=>?_;show(F x).1^n*pv (F x).2 (n:Int)=_;by_cases c:x.1=p.1
  .have:=YC hd hx hp c;subst this;simp only[F,if_true];rw[R4 h0]
  .simp only[F,if_neg c]
 have m1:=qC ((ps.map F).map λp=>(p.1,p.2.length));have k1:=Fe (ps.map F) ((ps.map F).map λp=>(p.1,p.2.length)) λx hx=>jr (f:=λp:Int×List Int=>(p.1,p.2.length)) hx;have kf:Kp 0 (RP ((ps.map F).map λp=>(p.1,p.2.length)) [1]) f:=λn=>by
  have:=k1 n;rw[show cY (ps.map F)=λn=>bot*f n from funext λn=>by rw[eS,h]]at this;have e:∀q,ks q (λn=>bot*f n) n=bot*ks q f n:=λq=>by
   unfold ks;rw[<-dJ];exact aQ λk _=>gk ..
  rw[e]at this;rw[bw];rcases lF.mp this with z|z
  .exact absurd z hb
  .exact z
 have lt:=hmin _ m1.1 kf;rw[m1.2]at lt;unfold aL at lt;rw[cH,cH]at lt;have s:=Xx (λx=>(F x).2.length) (λx=>x.2.length) (l:=ps) (λx _=>by
  show(F x).2.length<=_;by_cases c:x.1=p.1
  .simp only[F,if_pos c,wC];omega
  .simp only[F,if_neg c];exact aJ _) ⟨p,hp,by
  show(F p).2.length<_;simp only[F,if_true,wC];have:=vP.mpr hne;omega⟩
 rw[hN]at s;have:(((λx:Int×Nat=>x.2)∘λp:Int×List Int=>(p.1,p.2.length))∘F)=λx=>(F x).2.length:=rfl;rw[this]at lt;omega
def val(ps:List (Int×List Int))(r:Int)(n:Nat):Int:=(ps.map λp=>if p.1=r then p.1^n*pv p.2 (n:Int)else 0).sum
def Fp(p:Int×List Int)(ps:List (Int×List Int))(r:Int)(n:Nat):val (p::ps) r n=(if p.1=r then p.1^n*pv p.2 (n:Int)else 0)+val ps r n:=by simp[val]
theorem MV{M:Nat}(r:Int):∀{ps:List (Int×List Int)},(∀p∈ps,p.2.length<=M)->W r M (val ps r)
 |[],_=>W.zero λ_=>rfl
 |p::ps,h=>by
  rw[show val (p::ps) r=λn:Nat=>(if p.1=r then p.1^n*pv p.2 (n:Int)else 0)+val ps r n from funext λn=>Fp ..];refine W.add ?_ (MV r λq hq=>h q (cO _ hq));by_cases c:p.1=r
  .rw[show(λn:Nat=>if p.1=r then p.1^n*pv p.2 (n:Int)else 0)=λn:Nat=>p.1^n*pv p.2 (n:Int)from funext λn=>if_pos c,c];exact(W.of_pf r (Hg p.2)).le (h p (bN ..))
  .exact W.zero λn=>if_neg c
theorem QG{r:Int}{n:Nat}:∀{ps:List (Int×List Int)},(∀p∈ps,p.1≠r)->val ps r n=0
 |[],_=>rfl
 |p::ps,h=>by rw[Fp,if_neg (h p (bN ..)),QG λq hq=>h q (cO _ hq)];rfl
theorem Jg{n:Nat}:∀{ps:List (Int×List Int)} {p:Int×List Int},(ps.map (·.1)).Nodup->p∈ps->val ps p.1 n=p.1^n*pv p.2 (n:Int)
 |q::ps,p,hd,hp=>by
  rw[cD,rK]at hd;rw[Fp];rcases bH.mp hp with rfl|hp
  .rw[if_pos rfl,QG λx hx z=>hd.1 (by rw[<-z];exact jr hx),dz]
  .rw[if_neg λz=>hd.1 (by rw[z];exact jr hp),Jg hd.2 hp,iG]
theorem ad4{x:Int}{a:Int}:∀{R:List Int},R.Nodup->a∈R->(R.map λr=>if a=r then x else 0).sum=x
 |r::R,hd,h=>by
  rw[rK]at hd;rw[cD,iY];by_cases c:a=r
  .rw[if_pos c];have z:∀{T:List Int},a∉T->(T.map λr=>if a=r then x else 0).sum=0:=λ{T} hT=>by
    induction T with
    |nil=>rfl
    |cons b T ih=>rw[cD,iY,if_neg λe=>hT (by rw[e];exact bN ..),ih λe=>hT (cO _ e)];rfl
   rw[z (c▸hd.1)];omega
  .rw[if_neg c,ad4 hd.2 ((bH.mp h).resolve_left c)];omega
theorem QT{R:List Int}(hR:R.Nodup)(n:Nat):∀{ps:List (Int×List Int)},(∀p∈ps,p.1∈R)->(R.map λr=>val ps r n).sum=cY ps n
 |[],_=>by
  have z:∀T:List Int,(T.map λr=>val [] r n).sum=0:=λT=>by
   induction T with
   |nil=>rfl
   |cons b T ih=>rw[cD,iY,ih];rfl
  rw[z];rfl
 |p::ps,h=>by
  have e:∀T:List Int,(T.map λr=>val (p::ps) r n).sum=(T.map λr=>if p.1=r then p.1^n*pv p.2 (n:Int)else 0).sum+(T.map λr=>val ps r n).sum:=λT=>by
   induction T with
   |nil=>rfl
   |cons b T ih=>rw[cD,iY,ih,Fp,cD,iY,cD,iY];omega
  rw[e,ad4 hR (h p (bN ..)),QT hR n λq hq=>h q (cO _ hq)];simp[cY]
def asx{a b:List Int}(ha:co a (a.length-1)≠0)(hb:co b (b.length-1)≠0)(h:∀n:Nat,pv a (n:Int)=pv b (n:Int)):a=b:=by
 have key:∀k,co a k=co b k:=λk=>by
  have z:=GJ (aP (max a.length b.length) λk=>co a k-co b k) 0 λn _=>by
   have e1:=nK (p:=a) (n:=max a.length b.length) ⋯ (n:Int);have e2:=nK (p:=b) (n:=max a.length b.length) ⋯ (n:Int);have e3:=nK (p:=aP (max a.length b.length) λk=>co a k-co b k) (n:=max a.length b.length) (by rw[cu];omega) (n:Int);rw[yG,<-e3,aQ (g:=λk=>co a k*(n:Int)^k+(-1)*(co b k*(n:Int)^k)) λk hk=>by rw[dD,if_pos hk,yj];omega,iU,dJ,e1,e2,<-yG,<-yG,h n];omega
  by_cases c:k<max a.length b.length
  .have:=z (co a k-co b k) (by
    have:co (aP (max a.length b.length) λk=>co a k-co b k) k=co a k-co b k:=by rw[dD,if_pos c]
    rw[<-this];exact xM (by rw[cu];exact c))
   omega
  .rw[aX ⋯,aX ⋯]
 have ta:=uX (p:=a) (λz=>ha (by rw[z];rfl)) ha;have tb:=uX (p:=b) (λz=>hb (by rw[z];rfl)) hb;rw[<-ta,<-tb];exact zN key
def avG{α:Type}{ps qs:List (Int×α)}(sp:(ps.map (·.1)).Pairwise (· < ·))(sq:(qs.map (·.1)).Pairwise (· < ·))(h1:∀p∈ps,p∈qs)(h2:∀q∈qs,q∈ps):ps=qs:=by
 induction ps generalizing qs with
 |nil=>
  cases qs with
  |nil=>rfl
  |cons q qs=>exact absurd (h2 q (bN ..)) gR
 |cons p ps ih=>
  cases qs with
  |nil=>exact absurd (h1 p (bN ..)) gR
  |cons q qs=>
   rw[cD,tW]at sp sq;have lp:∀x∈ps,p.1<x.1:=λx hx=>sp.1 _ (jr hx);have lq:∀x∈qs,q.1<x.1:=λx hx=>sq.1 _ (jr hx);have e:p=q:=by
    rcases bH.mp (h1 p (bN ..))with e|e
    .exact e
    .rcases bH.mp (h2 q (bN ..))with e'|e'
     .exact e'.symm
     .have:=lq p e;have:=lp q e';omega
   subst e;rw[ih sp.2 sq.2 (λx hx=>(bH.mp (h1 x (cO _ hx))).resolve_left λz=>by
     have:=lp x hx;rw[z]at this;omega) (λx hx=>(bH.mp (h2 x (cO _ hx))).resolve_left λz=>by
     have:=lq x hx;rw[z]at this;omega)]
def qK{l:List Int}(h:l.Pairwise (· < ·)):l.Nodup:=h.imp λh=>⋯
def W9{R:List Int}(hR:R.Nodup)(h0:∀r∈R,r≠0){ps qs:List (Int×List Int)}(hp:∀p∈ps,p.1∈R)(hq:∀q∈qs,q.1∈R)(dp:(ps.map (·.1)).Nodup)(dq:(qs.map (·.1)).Nodup)(lp:∀p∈ps,co p.2 (p.2.length-1)≠0)(lq:∀p∈qs,co p.2 (p.2.length-1)≠0)(h:∀n,cY ps n=cY qs n):∀p∈ps,p∈qs:=λp hpm=>by
 obtain⟨M,AZ,hM2⟩:∃M,(∀p∈ps,p.2.length<=M)/\∀p∈qs,p.2.length<=M:=by
  have k:∀(l:List (Int×List Int)),∃M,∀p∈l,p.2.length<=M:=λl=>by
   induction l with
   |nil=>exact⟨0,λp hp=>by cases hp⟩
   |cons a l ih=>
    obtain⟨M,hM⟩:=ih;refine⟨max a.2.length M,λp hp=>?_⟩;rcases bH.mp hp with rfl|hp
    .omega
    .have:=hM p hp;omega
  obtain⟨A,hA⟩:=k ps;obtain⟨B,hB⟩:=k qs;exact⟨max A B,λp hp=>by have:=hA p hp;omega,λp hp=>by have:=hB p hp;omega⟩
 have key:=indep _ (R.map λr=>((r,M,λn=>val ps r n+(-1)*val qs r n):Tm)) (aJ _) (by rw[cH];exact(by rw[show((λt:Tm=>t.1)∘λr:Int=>((r,M,λn=>val ps r n+(-1)*val qs r n):Tm))=id from rfl,List.map_id];exact hR)) (λt ht=>by
  obtain⟨r,_,rfl⟩:=cB.mp ht;exact W.add (MV r AZ) (W.mul (-1) (MV r hM2))) (λn=>by
  have e:∀T:List Int,jV (T.map λr=>((r,M,λn=>val ps r n+(-1)*val qs r n):Tm)) n=(T.map λr=>val ps r n).sum+(-1)*(T.map λr=>val qs r n).sum:=λT=>by
   induction T with
   |nil=>rfl
   |cons b T ih=>rw[cD,tX,ih,cD,iY,cD,iY,jl];simp only;omega
  rw[e,QT hR n hp,QT hR n hq,h n];omega) (p.1,M,λn=>val ps p.1 n+(-1)*val qs p.1 n) (jr (f:=λr=>((r,M,λn=>val ps r n+(-1)*val qs r n):Tm)) (hp p hpm))
 have key:∀n,val ps p.1 n+(-1)*val qs p.1 n=0:=key;have r0:=h0 _ (hp p hpm);by_cases c:∃q∈qs,q.1=p.1
 .obtain⟨q,BD,eq⟩:=c;have e2:p.2=q.2:=asx (lp p hpm) (lq q BD) λn=>by
   have:=key n;rw[Jg dp hpm,<-eq,Jg dq BD,eq]at this;have:p.1^n*pv p.2 (n:Int)=p.1^n*pv q.2 (n:Int):=⋯;exact PD (GP r0 n) this
  have:p=q:=Fw eq.symm e2;rw[this];exact BD
 .exfalso
  have hz:=GJ p.2 0 λn _=>by
   have:=key n;rw[Jg dp hpm,QG λq BD z=>c ⟨q,BD,z⟩,aV,dz]at this;rcases lF.mp this with z|z
   .exact absurd z (GP r0 n)
   .exact z
  by_cases l:0<p.2.length
  .exact lp p hpm (hz _ (xM ⋯))
  .exact lp p hpm (aX ⋯)
def arS{R:List Int}(hR:R.Nodup)(h0:∀r∈R,r≠0){ps qs:List (Int×List Int)}(hp:∀p∈ps,p.1∈R)(hq:∀q∈qs,q.1∈R)(sp:(ps.map (·.1)).Pairwise (· < ·))(sq:(qs.map (·.1)).Pairwise (· < ·))(lp:∀p∈ps,co p.2 (p.2.length-1)≠0)(lq:∀p∈qs,co p.2 (p.2.length-1)≠0)(h:∀n,cY ps n=cY qs n):ps=qs:=
 avG sp sq (W9 hR h0 hp hq (qK sp) (qK sq) lp lq h) (W9 hR h0 hq hp (qK sq) (qK sp) lq lp λn=>(h n).symm)
end Cf
namespace Cf
open Pm Rm Dm
theorem aeF:∀{xs cs:List Int},xs.length=cs.length->dot xs cs=sm cs.length λk=>co xs k*co cs k
 |[],[],_=>rfl
 |x::xs,c::cs,h=>by
  show x*c+dot xs cs=_;rw[aeF (by simpa using h),fB,oV];rfl
def qp(l:List (Int×Nat)):List (List Int):=(eO (aL l)).map (gG l)
def HB(l:List (Int×Nat)):(qp l).length=aL l:=by rw[qp,aB,oO]
def FP{l:List (Int×Nat)}{i:Nat}(hi:i<aL l):ln (qp l) i=gG l i:=by
 unfold ln qp;rw[List.getD_eq_getElem?_getD,List.getElem?_map,List.getElem?_range hi];rfl
section
variable {l:List (Int×Nat)} {ws:List Int}
def adf{x:Nat->Int}{n:Nat}(hn:n<aL l):sm (aL l) (λk=>aug 0 (qp l) ws n k*x k)=dot (gG l n) (aP (aL l) x):=by
 rw[aeF (by rw[Bb,cu]),cu];refine aQ λk hk=>?_;rw[avt (by rw[HB];exact hn) (by rw[FP hn];exact Bb l n) hk,FP hn,bw,dD,if_pos hk]
def ai8(hd:(l.map (·.1)).Nodup)(h0:∀x∈l,x.1≠0):tu 0 (aL l) (aL l) (aug 0 (qp l) ws):=λx hx k hk=>by
 have z:=aqe hd h0 (qC l).1 (qC l).2 (cs:=aP (aL l) x) (cu ..) λn hn=>by
  have:=hx n hn
  rwa [bw,adf hn]at this
 rw[bw];have e:co (aP (aL l) x) k=x k:=by rw[dD,if_pos hk]
 rw[<-e];exact z _ (xM (by rw[cu];exact hk))
def apd{N:Nat}{A:Nat->Nat->Int}(hI:tu 0 N N A):∃x bt,tk 0 bt≠0/\gZ 0 N N A x bt:=by
 refine uR λhn=>agZ Dom.zero ∅ (vG N) A λx hx k hk=>?_;by_cases c:x N=0
 .have r:Rel 0 N N A x:=λi hi=>by
   have:=hx i hi;rw[sm,c,aV,dz]at this;exact this
  by_cases e:k=N
  .rw[e,c,bw]
  .exact hI x r k ⋯
 .refine absurd ⟨x,-(x N),by rw[bw];omega,gZ.rel.mpr ?_⟩ hn;refineλi hi=>?_;refine(congrArg (tk 0) (aQ λj _=>?_)).trans (hx i hi);show A i j*(if j=N then - -x N else x j)=A i j*x j;by_cases e:j=N
  .rw[if_pos e,e,Dn]
  .rw[if_neg e]
def asd{us:List Int}{bot:Int}{f:Nat->Int}(hl:us.length=aL l)(hw:∀n,n<aL l->co ws n=f n)(hS:gZ 0 (aL l) (aL l) (aug 0 (qp l) ws) (co us) bot)(n:Nat)(hn:n<aL l):dot (gG l n) us=bot*f n:=by
 have:=hS n hn;rw[bw,bw,adf hn,ahw (by rw[HB];exact hn) (by rw[FP hn];exact Bb l n),bw,hw n hn]at this;rw[<-this];congr 1;rw[<-hl,QZ]
end
theorem yd{x:Int}{n:Nat}(h:Bd n x):∀k:Nat,Bd (n*k+1) (x^k)
 |0=>by rw[qT];exact(Bd.of (n:=1) ∅ ∅).mono ⋯
 |k+1=>by
  rw[jd];exact((yd h k).mul h).mono (by rw[Nat.mul_succ];omega)
end Cf
namespace Cf
open Pm Rm
def arD(a b:Int)(t:List Int):cR (a::b::t)=cR (b::a::t):=by
 show mul 0 (mul 0 (cR t) (Pm.lin b)) (Pm.lin a)=mul 0 (mul 0 (cR t) (Pm.lin a)) (Pm.lin b);rw[yu,yu,Pm.mul_comm 0 (Pm.lin b)]
def ams{rs ts:List Int}(h:rs.Perm ts):cR rs=cR ts:=by
 induction h with
 |nil=>rfl
 |cons x _ ih=>show mul 0 (cR _) _=mul 0 (cR _) _;rw[ih]
 |swap a b t=>exact arD b a t
 |trans _ _ h1 h2=>exact h1.trans h2
theorem afJ:∀{rs ts:List Int},cR rs=cR ts->rs.Perm ts
 |[],ts,h=>by
  have l:=congrArg Cm h;rw[(qz []).2,(qz ts).2]at l;cases ts with
  |nil=>exact .nil
  |cons a t=>simp at l
 |r::rs,ts,h=>by
  have hm:r∈ts:=by rw[<-wL,<-h];exact wL.mpr (bN ..)
  have p:=List.perm_cons_erase hm;have e:mul 0 (cR rs) (Pm.lin r)=mul 0 (cR (ts.erase r)) (Pm.lin r):=h.trans (ams p);have:=afJ (KQ (Mon.rQ (qz rs).1) (Mon.rQ (qz (ts.erase r)).1) e);exact(this.cons r).trans p.symm
def RZ(x r:Int)(m:Nat):(iK m r).count x=if r=x then m else 0:=by
 rw[List.count_replicate];simp[beq_iff_eq]
theorem Zx{x:Int}{m:Nat}:∀{l:List (Int×Nat)},(x,m)∈l->m<=(fR l).count x
 |(r,k)::t,h=>by
  rw[fR,KJ,RZ];rcases bH.mp h with e|h
  .cases e;rw[if_pos rfl];omega
  .have:=Zx h;omega
theorem adG{x:Int}:∀{l:List (Int×Nat)},x∉l.map (·.1)->(fR l).count x=0
 |[],_=>rfl
 |(r,k)::t,h=>by
  have h':x≠r/\x∉t.map (·.1):=by simpa[not_or]using h
  rw[fR,KJ,RZ,if_neg (λe=>h'.1 e.symm),adG h'.2]
theorem count_le{x:Int}{m:Nat}:∀{l:List (Int×Nat)},(l.map (·.1)).Nodup->(x,m)∈l->(fR l).count x<=m
 |(r,k)::t,hd,h=>by
  have hd':r∉t.map (·.1)/\(t.map (·.1)).Nodup:=rK.mp hd;rw[fR,KJ,RZ];rcases bH.mp h with e|h
  .cases e;rw[if_pos rfl,adG hd'.1];omega
  .have hne:r≠x:=λe=>hd'.1 (by rw[e];exact jr (f:=(·.1)) h);rw[if_neg hne];have:=count_le hd'.2 h;omega
def aa3{l M:List (Int×Nat)}{rs:List Int}(hd:(M.map (·.1)).Nodup)(e:RP l [1]=cR rs)(hs:rs.Sublist (fR M)){x:Int×Nat}(hx:x∈l)(h0:0<x.2):∃m,(x.1,m)∈M/\x.2<=m:=by
 rw[zF]at e;have p:=afJ e;have h1:=Zx (x:=x.1) (m:=x.2) hx;rw[p.count_eq]at h1;have h2:=hs.count_le x.1;have hm:x.1∈fR M:=List.count_pos_iff.mp ⋯;obtain⟨m,hm,_⟩:=Er.mp hm;exact⟨m,hm,by have:=count_le hd hm;omega⟩
def pb:List Int->Nat
 |[]=>1
 |r::t=>(r.natAbs+1)*pb t
theorem Pg:∀(rs:List Int) (k:Nat),(co (cR rs) k).natAbs<=pb rs
 |[],k=>by
  cases k with
  |zero=>exact aJ 1
  |succ k=>show(co [] k).natAbs<=_;rw[fV];exact cj _
 |r::t,k=>by
  have ih:=Pg t;show(co (mul 0 (cR t) (Pm.lin r)) k).natAbs<=(r.natAbs+1)*pb t;rw[aoE,D5,vW];have a:(if k=0 then(0:Int)else co (cR t) (k-1)).natAbs<=pb t:=by
   split
   .exact cj _
   .exact ih _
  have b:(r*co (cR t) k).natAbs<=r.natAbs*pb t:=by rw[pA];exact gM (aJ _) (ih k)
  omega
def awA{rs ts:List Int}(h:rs.Sublist ts):pb rs<=pb ts:=by
 induction h with
 |slnil=>exact aJ _
 |cons a _ ih=>
  refine fG ih ?_;show _<=(a.natAbs+1)*_;rw[D5,vW];omega
 |cons_cons a _ ih=>exact gM (aJ _) ih
theorem ZM{c:Nat}:∀{rs:List Int},(∀r∈rs,r.natAbs<=c)->pb rs<=(c+1)^rs.length
 |[],_=>aJ 1
 |r::t,h=>by
  have:=ZM (rs:=t) λx hx=>h x (cO _ hx);rw[fB,Bj,uM];exact gM (by have:=h r (bN ..);omega) this
end Cf
namespace K47
open PySem L2
seal PA PE PS jG PT PW PI PG yX PO Al
def top(i:Nat):Stmt:=PySem.Challenge.pw_nextbyrule_k47_closed_forms.main.body.getD i (.Pass ⟨0,0,0,0⟩)
abbrev Rk:Stmt:=top 6
abbrev TV:Stmt:=top 7
abbrev M7:Stmt:=top 8
abbrev Nq:Stmt:=top 9
abbrev Qc:Stmt:=top 11
abbrev Pq:Stmt:=top 13
abbrev SQ:Stmt:=top 14
abbrev Ph:Stmt:=top 15
abbrev QK:Stmt:=top 16
abbrev M5:Stmt:=top 17
abbrev Od:Stmt:=top 18
abbrev Qe:Stmt:=top 21
abbrev Sw:Stmt:=top 22
abbrev OX:Stmt:=top 23
abbrev Ux:Stmt:=top 24
abbrev Qn:Stmt:=top 25
abbrev QL:Stmt:=top 26
abbrev LR:Stmt:=top 27
abbrev O7:Stmt:=top 29
abbrev Pa:Stmt:=top 30
abbrev Uq:Stmt:=top 31
abbrev OL:Stmt:=top 33
abbrev PB:Stmt:=top 34
abbrev QC:Stmt:=top 35
abbrev NS:Stmt:=top 36
abbrev Mq:Stmt:=top 37
abbrev QH:Stmt:=top 38
abbrev Ss:Stmt:=top 39
abbrev MS:Stmt:=top 40
abbrev OJ:Stmt:=top 41
abbrev Mw:Stmt:=top 42
abbrev Qy:Stmt:=top 43
abbrev UY:Stmt:=top 44
abbrev UW:Stmt:=top 47
abbrev Np:Stmt:=top 48
abbrev OD:Stmt:=top 49
abbrev Sq:Stmt:=top 50
abbrev Vb:Stmt:=top 51
abbrev Nh:Stmt:=top 52
abbrev R9:Stmt:=top 53
abbrev RV:Stmt:=top 54
abbrev KD:Stmt:=top 55
abbrev Uk:Stmt:=top 57
abbrev KL:Stmt:=top 58
abbrev Ro:Stmt:=top 60
abbrev R8:Stmt:=top 61
abbrev Le:Stmt:=top 62
abbrev RD:Stmt:=top 63
abbrev QV:Stmt:=top 64
abbrev RX:Stmt:=top 66
abbrev Qg:Stmt:=top 67
abbrev SX:Stmt:=top 68
abbrev Ot:Stmt:=top 69
abbrev xZ:Stmt:=top 70
def Ol:bB ["number","divisor"] ["number"] (aW Rk):=bU
def axo:bB ["by","number"] ["by","number"] (aW TV):=bU
def xH:bB ["prime","number","power","square","left"] ["prime","number"] (aW M7):=bU
def avK:bB ["by","one","other"] ["by","one","other"] (aW Nq):=bU
def anJ:bB ["row"] ["row"] (aW Qc):=bU
def Oo:bB ["numbers","end"] ["numbers"] (aW Pq):=bU
def wu:bB ["by","one","other","top","often","left","shift","factor","k"] ["by","one","other"] (aW SQ):=bU
def aeC:bB ["prime","poly","last"] ["prime","poly"] (aW Ph):=bU
def zG:bB ["by","one","other","great","small","left"] ["by","one","other"] (aW QK):=bU
def SD:bB ["by","rule","length","numbers"] ["by","rule"] (aW M5):=bU
def adN:bB ["by","poly","length"] ["by","poly"] (aW Od):=bU
def Ly:bB ["number","found"] ["number"] (aW Qe):=bU
def aqj:bB ["monic_one","poly"] ["monic_one","poly"] (aW Sw):=bU
def awn:bB ["prime","poly"] ["prime","poly"] (aW OX):=bU
def V6:bB ["modulus","number","rest"] ["modulus","number"] (aW Ux):=bU
def ae5:bB ["modulus","number","prime","rest","more"] ["modulus","number","prime","rest"] (aW Qn):=bU
def mH:bB ["one","other","told","modulus","prime","ripe","seen","before"] ["one","other"] (aW QL):=bU
def aot:bB ["by","one","other"] ["by","one","other"] (aW LR):=bU
def zZ:bB ["row","poly","by","starts","top","k","parts"] ["row","poly"] (aW O7):=bU
def GF:bB ["row","by","poly","top"] ["row"] (aW Pa):=bU
def O4:bB ["row","least","rule"] ["row"] (aW Uq):=bU
def apI:bB ["by","line"] ["by","line"] (aW OL):=bU
def acQ:bB ["lines","begin","column","i"] ["lines","begin","column"] (aW PB):=bU
def aeh:bB ["by","lines","at","top","down"] ["by","lines","at","top"] (aW QC):=bU
def CF:bB ["by","line","head","column","last","pivot","factor","mixed","share"] ["by","line","head","column","last"] (aW NS):=bU
def uW:bB ["by","wide","lines","heads","last","column","top","at","i"] ["by","wide","lines"] (aW Mq):=bU
def yI:bB ["one","other","great","small","left"] ["one","other"] (aW QH):=bU
def Bv:bB ["by","bottom","tops","top","divisor"] ["by","bottom","tops"] (aW Ss):=bU
def ar7:bB ["by","wide","lines","heads","last","column","free","i"] ["by","wide","lines","heads","last"] (aW MS):=bU
def vg:bB ["by","wide","table","wished","lines","i","cleared","heads","last","tops","low"] ["by","wide","table","wished"] (aW OJ):=bU
def am0:bB ["table","column"] ["table","column"] (aW Mw):=bU
def aon:bB ["by","wide","table","wished","turned","goal"] ["by","wide","table","wished"] (aW Qy):=bU
def adP:bB ["by","wide","table","wished","found"] ["by","wide","table","wished"] (aW UY):=bU
def auH:bB ["poly"] ["poly"] (aW UW):=bU
def C5:bB ["number","small","great","tried"] ["number"] (aW Np):=bU
def Jb:bB ["poly","low","above","below"] ["poly"] (aW OD):=bU
def wH:bB ["poly","root","often","left","tried"] ["poly","root"] (aW Sq):=bU
def Ao:bB ["poly","roots","left","root","found"] ["poly"] (aW Vb):=bU
def J5:bB ["number","exponent","product","turn"] ["number","exponent"] (aW Nh):=bU
def UU:bB ["roots","n","line","pair"] ["roots","n"] (aW R9):=bU
def za:bB ["roots","tops","parts","begin","pair","end"] ["roots","tops"] (aW RV):=bU
def zq:bB ["row","found","roots","length","table","answer"] ["row"] (aW KD):=bU
def Ln:bB ["_law_script","_law_k","_law_mixed"] ["_law_script","_law_k"] (aW Uk):=bU
def IL:bB ["_law_one","_law_other","_law_found","_law_k","_law_j"] ["_law_one","_law_other"] (aW KL):=bU
def Bp:bB ["_law_script","_law_at_here","_law_most","_law_wide","_law_found","_law_k","_law_cell","_law_root","_law_many"] ["_law_script","_law_at_here","_law_most","_law_wide"] (aW Ro):=bU
def Ba:bB ["_law_roots_here","_law_poly","_law_root","_law_many","_law_k"] ["_law_roots_here"] (aW R8):=bU
def wD:bB ["_law_script","_law_at_here","_law_roots_here","_law_poly","_law_rule","_law_starts","_law_k","_law_cell"] ["_law_script","_law_at_here"] (aW Le):=bU
def tO:bB ["_law_row","_law_count","_law_by","_law_rule","_law_starts","_law_found","_law_total","_law_k"] ["_law_row","_law_count"] (aW RD):=bU
def arO:bB ["_law_found"] ["_law_found"] (aW QV):=bU
def GR:bB ["_law_one","_law_other"] ["_law_one","_law_other"] (aW RX):=bU
def qZ:bB ["_law_parts","_law_n","_law_total","_law_root","_law_tops","_law_inner","_law_j","_law_k"] ["_law_parts","_law_n"] (aW Qg):=bU
def zc:bB ["_law_found","_law_roots_here","_law_part","_law_one","_law_top","_law_told"] ["_law_found","_law_roots_here"] (aW SX):=bU
def Aj:bB ["_law_script","_law_row","_law_going_here","_law_poly","_law_k","_law_factor","_law_rule"] ["_law_script","_law_row","_law_going_here"] (aW Ot):=bU
def mz:bB ["_law_script","_law_row","_law_roots_here","_law_far","_law_poly","_law_root","_law_starts","_law_found","_law_going_here","_law_n","_law_tops","_law_kept"] ["_law_script"] (aW xZ):=bU
abbrev apx:=dZ [(".0",.local),("number",.local),("over",.globalImplicit),("last",.cell),("prime",.cell)]
abbrev avv:=dZ [(".0",.local),("k",.local),("taken",.globalImplicit),("by",.cell),("length",.cell),("rule",.cell)]
abbrev ar0:=dZ [(".0",.local),("k",.local),("taken",.globalImplicit),("by",.cell),("length",.cell),("poly",.cell)]
abbrev aiM:=dZ [(".0",.local),("number",.local),("taken",.globalImplicit),("prime",.cell)]
abbrev aiD:=dZ [(".0",.local),("rest",.local),("nearest",.globalImplicit),("prime",.cell)]
abbrev atp:=dZ [(".0",.local),("k",.local),("joined",.globalImplicit),("before",.cell),("modulus",.cell),("prime",.cell),("seen",.cell)]
abbrev ahN:=dZ [(".0",.local),("j",.local),("k",.cell),("poly",.cell),("starts",.cell)]
abbrev anz:=dZ [(".0",.local),("number",.local),("taken",.globalImplicit),("by",.cell)]
abbrev ail:=dZ [(".0",.local),("number",.local),("taken",.globalImplicit),("by",.cell)]
abbrev atJ:=dZ [(".0",.local),("k",.local),("factor",.cell),("head",.cell),("line",.cell),("pivot",.cell)]
abbrev alX:=dZ [(".0",.local),("number",.local),("last",.cell)]
abbrev asy:=dZ [(".0",.local),("number",.local),("taken",.globalImplicit),("by",.cell),("share",.cell)]
abbrev aoU:=dZ [(".0",.local),("top",.local),("over",.globalImplicit),("bottom",.cell),("by",.cell)]
abbrev apw:=dZ [(".0",.local),("top",.local),("divisor",.cell)]
abbrev aro:=dZ [(".0",.local),("i",.local),("line_taken",.globalImplicit),("by",.cell),("table",.cell),("wished",.cell)]
abbrev alp:=dZ [(".0",.local),("line",.local),("wide",.cell)]
abbrev apj:=dZ [(".0",.local),("number",.local),("abs",.globalImplicit),("ABOVE_ALL_NUMBERS",.globalImplicit)]
abbrev av3:=dZ [(".0",.local),("number",.local)]
abbrev auN:=dZ [(".0",.local),("divisor",.local)]
abbrev agV:=dZ [(".0",.local),("j",.local),("power",.globalImplicit),("n",.cell),("pair",.cell)]
abbrev amO:=dZ [(".0",.local),("pair",.local)]
abbrev aiK:=dZ [(".0",.local),("pair",.local)]
abbrev agr:=dZ [(".0",.local),("n",.local),("form_line",.globalImplicit),("roots",.cell)]
abbrev ago:=dZ [(".0",.local),("_law_one",.local),("_law_found",.cell)]
abbrev ajz:=dZ [(".0",.local),("_law_root",.local),("_law_found",.cell)]
abbrev akF:=dZ [(".0",.local),("_law_one",.local)]
abbrev ahD:=dZ [(".0",.local),("_law_number",.local)]
abbrev axv:=dZ [(".0",.local),("_law_root",.local),("_law_tops",.local)]
abbrev asC:=dZ [(".0",.local),("_law_number",.local)]
abbrev ami:=dZ [(".0",.local),("_law_number",.local)]
abbrev axm:=dZ [(".0",.local),("_law_root",.local)]
abbrev atz:=dZ [(".0",.local),("_law_number",.local)]
abbrev axA:=dZ [(".0",.local),("_law_root",.local),("_law_tops",.local),("len",.globalImplicit)]
abbrev asQ:=dZ [(".0",.local),("_law_root",.local),("_law_tops",.local),("list",.globalImplicit)]
structure Bt(mg:Str->Option Value):Prop where
 wG:mg "abs" = none
 axM:mg "all" = none
 Uj:mg "any" = none
 aqp:mg "bool" = none
 arp:mg "dict" = none
 amx:mg "int" = none
 zR:mg "isinstance" = none
 cN:mg "len" = none
 xJ:mg "list" = none
 auV:mg "max" = none
 gw:mg "range" = none
 Ax:mg "reversed" = none
 anL:mg "set" = none
 UG:mg "sorted" = none
 G3:mg "sum" = none
 lZ:mg "tuple" = none
 Mx:∃t,mg "ABOVE_ALL_NUMBERS" = some (.int 1000000 t)
 Li:∃t,mg "BELOW_THE_PRIMES" = some (.int 1000000 t)
structure Ms(K:aF)(mg:Str->Option Value)(base:Heap)(d9 dN:Addr):Prop where
 ayc:mg "NoBy" = some (.ref d9)
 ayk:mg "TooBig" = some (.ref dN)
 arW:JM mg base "NoBy" d9
 ayb:ExI K d9
 Ze:mR K (.ref d9) (.ref d9)=some true
 ae6:mR K (.ref d9) (.ref dN)=some false
 abC:mR K (.ref d9) (.type "ValueError")=some true
 awU:JM mg base "TooBig" dN
 axI:ExI K dN
 afc:mR K (.ref dN) (.ref d9)=some false
 ac0:mR K (.ref dN) (.ref dN)=some true
 acK:mR K (.ref dN) (.type "ValueError")=some true
abbrev KN:Nat:=12
def aG{X:Cx}(i:Nat){x:Str}{e:Expr}{te:TE}{pos pos':Pos}(hN:X.N.Nodup)(he:PE X e te)(hi:X.N[i]?=some x:=by rfl)(hx:Loc X.env.scope x:=by exact oF rfl)(hs:swapsWith e (some (.Name x pos')) pos.line X.env=pure false:=by rfl)
  (hf:X.fn x=true∨X.env.scope.names.lookup x=some .local:=by first|exact .inl rfl|exact .inr rfl|assumption):PS X (.Assign [.Name x pos'] e pos) (Fj te (ig i)):=iZ hN hi hx he hs hf
def aY{X:Cx}(i:Nat){x:Str}{pos:Pos}(hN:X.N.Nodup)(hi:X.N[i]?=some x:=by rfl)(hx:Loc X.env.scope x:=by exact oF rfl)(hf:X.fn x=true∨X.env.scope.names.lookup x=some .local:=by first|exact .inl rfl|exact .inr rfl|assumption):PG X (.Name x pos) (ig i):=SM hN hi hx hf
def aM{X:Cx}(K:aF){a b:Expr}{ta tb:TE}{pos:Pos}(ha:PE X a ta)(hb:PE X b tb)(hK:X.K=K:=by rfl)(hs:VW b:=by exactλ_ _=>rfl):PE X (.Subscript a b pos) (vO (Gg K) ta tb):=ag2 (xix K hK) ha hb hs
def pad{X:Cx}(K:aF){a b:Expr}{ta tb:TE}{pos:Pos}(ha:PE X a ta)(hb:PE X b tb)(hK:X.K=K:=by rfl):PE X (.BinOp a .Add b pos) (vO (Ib K) ta tb):=aH (atr K hK) ha hb
def cL{X:Cx}(K:aF)(hm:X.mg "len" = none){e:Expr}{es:List Expr}{t:TA}{p pos:Pos}(ha:PA X (e::es) t)(hg:Gl X "len" := by rfl)(hK:X.K=K:=by rfl)
  (he:starEach (e::es) X.env=(false,eval e X.env)::starEach es X.env:=by rfl) (hpl:(backTo pos (starEach es X.env)).any (·.1)=false:=by rfl):PE X (.Call (.Name "len" p) (e::es) [] pos) (UZ (λxs H Q=>∃x n,xs=[x]/\Rv K x H n/\Q (.int n) H) t):=
 gY (auu K hK) hg hm boot_len ha ∅ ∅ he hpl
def cM{X:Cx}{op:CmpOp}{r:R2}{a b:Expr}{ta tb:TE}{pos:Pos}(ho:cV X (compareOp op) r)(ha:PE X a ta)(hb:PE X b tb)(hm:behindInMarks op b=false:=by exact sH _):PT X (.Compare a [op] [b] pos) (abE (vO r ta tb)):=avx ho ha hb hm
def nw{H:Hp}{D:Addr}(h:H D=none)(o:HO):∃H',upd H D o=H'/\Same H H'/\H' D=some o:=⟨_,rfl,Same.new h o,aC⟩
abbrev cW(x:Str)(k:Nat)(ps:List Str)(sp:Sp)(P w K mg base):=j9 P w K mg base x k ps sp
def aO{X:Cx}{x:Str}{k k':Nat}{ps:List Str}{sp:Sp}{p pos:Pos}{e:Expr}{es:List Expr}{t:TA}(C:j9 X.prog X.w X.K X.mg X.base x k ps sp)(hr:dY k' X.A)(ha:PA X (e::es) t)(hg:Gl X x:=by rfl)
  (hk:k<=k':=by decide) (hd:(x==("__debug__" : Str))=false:=by decide)
  (he:starEach (e::es) X.env=(false,eval e X.env)::starEach es X.env:=by rfl) (hpl:(backTo pos (starEach es X.env)).any (·.1)=false:=by rfl):PE X (.Call (.Name x p) (e::es) [] pos) (Jc sp [] E0 t):=arq C hr hg ha hk hd he hpl
def j4(a:Int){b:Int}(h:0<b):0<=a%b:=rG _ ⋯
def j8(a:Int){b:Int}(h:0<b):a%b<b:=sV _ h
def eG{ns:List Int}{k:Int}(h0:0<=k)(h1:k<(ns.length:Int)):nF (ns.map V.int) k=some (.int (ns.getD k.toNat 0)):=by
 have e:k=((k.toNat:Nat):Int):=⋯;have hk:k.toNat<ns.length:=⋯
 conv=>lhs;rw[e]
 exact YQ (by rw[List.getElem?_map,List.getElem?_eq_getElem hk,List.getD_eq_getElem?_getD,List.getElem?_eq_getElem hk]<;>rfl)
def ug{α:Type}{xs:List α}{k:Int}{v:α}(j:Nat)(e:k=(j:Int))(h:xs[j]?=some v):nF xs k=some v:=by rw[e];exact YQ h
def dec_true{p:Prop}[Decidable p](c:decide p=true):p:=of_decide_eq_true c
def dec_false{p:Prop}[Decidable p](c:¬decide p=true):¬p:=of_decide_eq_false (Bool.eq_false_iff.mpr c)
def aa0(b x:Int):Prop:=b=0∨(0<=x/\x<b)
structure Rw where
 b:Int
 rule:List Int
 starts:List Int
structure jB(r:Rw):Prop where
 len:r.rule.length=r.starts.length
 short:r.rule.length<=24
 oU:0<=r.b
 Et:r.b<1000
 axE:∀x∈r.rule,aa0 r.b x
 ayf:∀x∈r.starts,aa0 r.b x
 pN:∀x∈r.rule,Rm.Bd 60000 x
 zQ:∀x∈r.starts,Rm.Bd 3000 x
def Rw.row(r:Rw)(n:Nat):List Int:=Rm.row r.b r.rule r.starts n
def Rw.at(r:Rw)(n:Nat):Int:=Rm.at_ r.b r.rule r.starts n
def jB.bd{r:Rw}(h:jB r)(n:Nat)(hn:n<=1000):Rm.Bd 61000000 (r.at n):=by
 have q:=Rm.abp (b:=r.b) (rule:=r.rule) (starts:=r.starts) (a:=60000) (c:=3000) h.len h.oU ((Rm.Bd.of (n:=10) (by have:=h.oU;omega) (by have:=h.Et;omega)).mono ∅) h.pN h.zQ n;refine q.mono ?_;have h1:=h.short;have h2:n*(60000+r.rule.length)<=1000*60024:=gM hn ⋯;omega
def jB.YF{r:Rw}(h:jB r)(n:Nat)(hn:n<=1000):∀x∈r.row n,Rm.Bd 61000000 x:=by
 intro x hx;have e:r.row n=(eO n).map r.at:=Rm.aas ..;rw[e]at hx;obtain⟨i,hi,rfl⟩:=cB.mp hx;exact h.bd i (by have:=iQ.mp hi;omega)
theorem Rw.jY(r:Rw)(n:Nat):(r.row n).length=n:=Rm.jY ..
def ql{x y:Int}{m n:Nat}(h:Rm.Bd m x)(h':Rm.Bd n y)(hn:m+n<=134217728):IntMulOk x y:=
 IntMulOk.of_le (intBits_le_iff.mpr h) (intBits_le_iff.mpr h') hn
def jk(H:Hp)(v:V)(r:Rw):Prop:=
 ∃a p q,v = .ref a/\H a=some (.tup [.int r.b,.ref p,.ref q])/\H p=some (.tup (r.rule.map V.int))/\H q=some (.tup (r.starts.map V.int))
def jk.same{H H':Hp}{v:V}{r:Rw}(h:jk H v r)(g:Same H H'):jk H' v r:=by
 obtain⟨a,p,q,e,h1,h2,h3⟩:=h;exact⟨a,p,q,e,g _ _ h1,g _ _ h2,g _ _ h3⟩
def DB(xs:List Int)(x:Int):(xs++[x]).map V.int=xs.map V.int++[.int x]:=by rw[gO];rfl
def Told(H:Hp)(Q:VK)(xs:List V):Prop:=∀r H',Same H H'->H r=none->H' r=some (.lst xs)->Q (.ref r) H'
inductive apY(K:aF)(vs:List V)(H:Hp)(Q:VK)(E:XK):Prop|mk (a:Addr) (ns:List Int) (cF:vs=[.ref a]) (cG:au K H a (ns.map V.int)) (cP:ns.length<=63) (dh:∀H',Q (.bl true) H')
def Oi(K:aF):Sp:=apY K
def Dz(xs:List V)(k:Nat):jc xs none (some (k:Int))=xs.take k:=by
 unfold jc;rw[HT.uI,HT.vD,G9,tV,aaI];omega
def ap3(xs:List V){k:Nat}(h:k<=xs.length):jc xs (some (k:Int)) none=xs.drop k:=by
 unfold jc;rw[HT.uI,HT.vD,Ou h,vV (by rw[oA];omega)]
def xO(H:Hp)(Q:VK)(ns:List Int):Prop:=∀p H',Same H H'->H' p=some (.tup (ns.map V.int))->Q (.ref p) H'
def G6{xs:List Int}{n:Nat}(h:0<n)(hn:n<=xs.length):xs.take n=xs.take (n-1)++[xs.getD (n-1) 0]:=by
 obtain⟨m,rfl⟩:∃m,n=m+1:=⟨n-1,⋯⟩;rw[fX,qU,List.getElem?_eq_getElem ⋯,List.getD_eq_getElem?_getD,List.getElem?_eq_getElem ⋯];rfl
def as4{xs:List Int}{n:Nat}(h:0<n)(hn:n<=xs.length)(ht:Pm.trim (xs.take n)=Pm.trim xs)(h0:xs.getD (n-1) 0=0):Pm.trim (xs.take (n-1))=Pm.trim xs:=by
 rw[G6 h hn,h0,Pm.acr]at ht;exact ht
def WH{xs:List Int}{n:Nat}(hn:n<=xs.length)(ht:Pm.trim (xs.take n)=Pm.trim xs)(h0:n=0∨xs.getD (n-1) 0≠0):xs.take n=Pm.trim xs:=by
 rcases h0 with h0|h0
 .subst h0;rw[<-ht];rfl
 .by_cases hz:n=0
  .subst hz;rw[<-ht];rfl
  .rw[<-ht,G6 ⋯ hn,Pm.Uy _ h0]
def xr{n j:Nat}{i:Int}(e:i=(j:Int))(h:j<n):rM n i=some j:=by
 subst e;unfold rM;rw[if_pos ⋯,if_pos ⋯,fQ]
def Gn(L:List Int)(j:Nat)(x:Int):(L.map V.int).set j (.int x)=(L.set j x).map V.int:=by rw[List.map_set]
def Ud(n:Nat):(iK n [V.int 0]).flatten=(Pm.aP n λ_=>0).map V.int:=by
 induction n with
 |zero=>rfl
 |succ n ih=>
  rw[Pm.Tc,gO,<-ih,List.replicate_succ',List.flatten_append];rfl
def Dw{n:Nat}{ix:List (Option Nat)}{te:TE}{σ:St}{H1:Hp}{Q:VK}(hz:n<=1000){rest:St}(hst:cst ix σ=none::rest)(f:Nat->Int)
  (he:∀H' k,Same H1 H'->k<n->∀kk:VK,kk (.int (f k)) H'->te (some (.int (0+(k:Int)))::rest) H' kk)
  (hQ:∀D,H1 D=none->Q (.ref D) (upd H1 D (.lst ((Pm.aP n f).map V.int)))):kE ix (ig 0) mq te σ Q (sO 0 n) H1:=by
 refine qw EG (by rw[aB,oO];exact iM (fH hz)) hst (λ_=>true) (λx=>match x with | .int k=> .int (f k.toNat)|_=> .non) ?_ ?_ ?_
 .intro H2 x g2 hx k hk;exact hk
 .intro H2 x g2 hx _ k hk;obtain⟨j,hj,rfl⟩:=cB.mp hx;have e1:(0+(j:Int)).toNat=j:=⋯;refine he H2 j g2 (iQ.mp hj) k ?_;have hk':k (V.int (f (0+(j:Int)).toNat)) H2:=hk
  rwa [e1]at hk'
 .intro D hD;have el:((((eO n).map λi=>V.int (0+(i:Nat))).filter λ_=>true).map λx=>match x with | .int k=>V.int (f k.toNat)|_=>V.non)=(Pm.aP n f).map V.int:=by
   rw[qP.mpr (by simp),cH,Pm.aP,cH];refine m7 λk _=>?_;show V.int (f (0+(k:Int)).toNat)=V.int (f k);rw[show(0+(k:Int)).toNat=k by omega]
  rw[el];exact hQ D hD
def QW{K:aF}{a:Addr}{xs:List Int}{ix:List (Option Nat)}{te:TE}{σ:St}{H1:Hp}{Q:VK}(hA:H1 a=some (.tup (xs.map V.int)))(hz:xs.length<=1000){rest:St}(hst:cst ix σ=none::rest)(f:Int->Int)
  (he:∀H' x,Same H1 H'->x∈xs->∀kk:VK,kk (.int (f x)) H'->te (some (.int x)::rest) H' kk)
  (hQ:∀D,H1 D=none->Q (.ref D) (upd H1 D (.lst ((xs.map f).map V.int)))):kE ix (ig 0) mq te σ Q (Fi K a) H1:=by
 refine qw (RG (aA.of hA)) (by rw[aB];exact iM (fH hz)) hst (λ_=>true) (λx=>match x with | .int k=> .int (f k)|_=> .non) ?_ ?_ ?_
 .intro H2 x g2 hx k hk;exact hk
 .intro H2 x g2 hx _ k hk;obtain⟨y,hy,rfl⟩:=cB.mp hx;exact he H2 y g2 hy k hk
 .intro D hD;have el:(((xs.map V.int).filter λ_=>true).map λx=>match x with | .int k=>V.int (f k)|_=>V.non)=(xs.map f).map V.int:=by
   rw[qP.mpr (by simp),cH,cH];rfl
  rw[el];exact hQ D hD
def ahi{ns:List Int}{k:Int}(j:Nat)(h0:k<0)(e:k+(ns.length:Int)=(j:Int)):nF (ns.map V.int) k=some (.int (ns.getD j 0)):=by
 have hj:j<ns.length:=⋯;unfold nF rM;rw[aB,if_neg ⋯,if_pos ⋯,show(k+(ns.length:Int)).toNat=j by omega];show(ns.map V.int)[j]?=_;rw[List.getElem?_map,List.getElem?_eq_getElem hj,List.getD_eq_getElem?_getD,List.getElem?_eq_getElem hj];rfl
def GX{K:aF}{a:Addr}{xs:List Int}{ix:List (Option Nat)}{te:TE}{σ:St}{H1:Hp}{Q:VK}(hA:H1 a=some (.lst (xs.map V.int)))(hz:xs.length<=1000){rest:St}(hst:cst ix σ=none::rest)(f:Int->Int)
  (he:∀H' x,Same H1 H'->x∈xs->∀kk:VK,kk (.int (f x)) H'->te (some (.int x)::rest) H' kk)
  (hQ:∀D,H1 D=none->Q (.ref D) (upd H1 D (.lst ((xs.map f).map V.int)))):kE ix (ig 0) mq te σ Q (lV K a) H1:=by
 refine qw (qx (au.of hA)) (by rw[aB];exact iM (fH hz)) hst (λ_=>true) (λx=>match x with | .int k=> .int (f k)|_=> .non) ?_ ?_ ?_
 .intro H2 x g2 hx k hk;exact hk
 .intro H2 x g2 hx _ k hk;obtain⟨y,hy,rfl⟩:=cB.mp hx;exact he H2 y g2 hy k hk
 .intro D hD;have el:(((xs.map V.int).filter λ_=>true).map λx=>match x with | .int k=>V.int (f k)|_=>V.non)=(xs.map f).map V.int:=by
   rw[qP.mpr (by simp),cH,cH];rfl
  rw[el];exact hQ D hD
def M9{p:List Int}{i:Nat}{x:V}(h:(p.map V.int)[i]?=some x):x = .int (Pm.co p i)/\i<p.length:=by
 by_cases hi:i<p.length
 .rw[List.getElem?_map,List.getElem?_eq_getElem hi]at h;cases h;refine⟨?_,hi⟩;show V.int _=V.int (p.getD i 0);rw[List.getD_eq_getElem?_getD,List.getElem?_eq_getElem hi];rfl
 .rw[List.getElem?_eq_none (by rw[aB];omega)]at h;cases h
def zx:∀P∈Om.n6,2<=P/\P<1000:=by decide +kernel
inductive bJ(H:Hp)(ex:List Addr):List V->List (List Int)->Prop
 |nil:bJ H ex [] []
 |cons {t:Addr} {p:List Int} {xs:List V} {ps:List (List Int)}:t∉ex->H t=some (.lst (p.map V.int))->bJ H ex xs ps->bJ H ex (.ref t::xs) (p::ps)
def Keep(ll:Addr)(H H':Hp):Prop:=∀a u,a≠ll->H a=some u->H' a=some u
def Keep.refl(ll:Addr)(H:Hp):Keep ll H H:=λ_ _ _ h=>h
def Keep.trans{ll:Addr}{H H' H2:Hp}(h:Keep ll H H')(h':Keep ll H' H2):Keep ll H H2:=λa u n e=>h' a u n (h a u n e)
def Keep.same{ll:Addr}{H H':Hp}(g:Same H H'):Keep ll H H':=λa u _ e=>g a u e
theorem Keep.upd(ll:Addr)(H:Hp)(o:HO):Keep ll H (L2.upd H ll o):=λa u n e=>by rw[bK n];exact e
theorem bJ.keep{H H':Hp}{ll:Addr}{ex:List Addr}(hm:ll∈ex)(g:Keep ll H H'):∀{xs:List V} {ps:List (List Int)},bJ H ex xs ps->bJ H' ex xs ps
 |_,_,.nil=> .nil
 |_,_,.cons n h r=> .cons n (g _ _ (λz=>n (z▸hm)) h) (bJ.keep hm g r)
theorem bJ.same{H H':Hp}{ex:List Addr}(g:Same H H'):∀{xs:List V} {ps:List (List Int)},bJ H ex xs ps->bJ H' ex xs ps
 |_,_,.nil=> .nil
 |_,_,.cons n h r=> .cons n (g _ _ h) (bJ.same g r)
theorem bJ.more{H:Hp}{ex:List Addr}{a:Addr}(ha:H a=none):∀{xs:List V} {ps:List (List Int)},bJ H ex xs ps->bJ H (a::ex) xs ps
 |_,_,.nil=> .nil
 |_,_,.cons n h r=> .cons (λz=>by
   rcases bH.mp z with e|e
   .rw[e,ha]at h;cases h
   .exact n e) h (bJ.more ha r)
theorem bJ.less{H:Hp}{ex ex':List Addr}(hs:∀a∈ex',a∈ex):∀{xs:List V} {ps:List (List Int)},bJ H ex xs ps->bJ H ex' xs ps
 |_,_,.nil=> .nil
 |_,_,.cons n h r=> .cons (λz=>n (hs _ z)) h (bJ.less hs r)
theorem bJ.len{H:Hp}{ex:List Addr}:∀{xs:List V} {ps:List (List Int)},bJ H ex xs ps->xs.length=ps.length
 |_,_,.nil=>rfl
 |_,_,.cons _ _ r=>by rw[fB,fB,bJ.len r]
theorem bJ.get{H:Hp}{ex:List Addr}:∀{xs:List V} {ps:List (List Int)} {i:Nat},bJ H ex xs ps->i<ps.length->∃t,xs[i]?=some (.ref t)/\t∉ex/\H t=some (.lst ((Dm.ln ps i).map V.int))
 |_,_,_,.nil,h=>absurd h (jP _)
 |_,_,0,.cons n h _,_=>⟨_,rfl,n,h⟩
 |_,_,i+1,.cons _ _ r,h=>bJ.get (i:=i) r (by simpa using h)
theorem bJ.set{H:Hp}{ex:List Addr}{t:Addr}{q:List Int}(hn:t∉ex)(hT:H t=some (.lst (q.map V.int))):∀{xs:List V} {ps:List (List Int)} (i:Nat),bJ H ex xs ps->bJ H ex (xs.set i (.ref t)) (ps.set i q)
 |_,_,_,.nil=> .nil
 |_,_,0,.cons _ _ r=> .cons hn hT r
 |_,_,i+1,.cons n h r=> .cons n h (bJ.set hn hT i r)
theorem bJ.append{H:Hp}{ex:List Addr}{t:Addr}{q:List Int}(hn:t∉ex)(hT:H t=some (.lst (q.map V.int))):∀{xs:List V} {ps:List (List Int)},bJ H ex xs ps->bJ H ex (xs++[.ref t]) (ps++[q])
 |_,_,.nil=> .cons hn hT .nil
 |_,_,.cons n h r=> .cons n h (bJ.append hn hT r)
def Stand(H:Hp)(ex:List Addr):Prop:=∀a∈ex,∃o,H a=some o
def Stand.fresh{H:Hp}{ex:List Addr}{t:Addr}(h:Stand H ex)(ht:H t=none):t∉ex:=λz=>by
 obtain⟨o,e⟩:=h t z;rw[ht]at e;cases e
def Stand.keep{H H':Hp}{ll:Addr}{ex:List Addr}(h:Stand H ex)(g:Keep ll H H')(hl:∃o,H' ll=some o):Stand H' ex:=λa ha=>by
 by_cases e:a=ll
 .rw[e];exact hl
 .obtain⟨o,q⟩:=h a ha;exact⟨o,g _ _ e q⟩
def wR{L:List (List Int)}{i:Nat}(q:List Int)(hi:i<L.length)(k:Nat):Dm.ln (L.set i q) k=if k=i then q else Dm.ln L k:=by
 unfold Dm.ln;rw[List.getD_eq_getElem?_getD,List.getElem?_set,List.getD_eq_getElem?_getD];by_cases e:i=k
 .subst e;simp[hi]
 .rw[if_neg e,if_neg (λz=>e z.symm)]
def nJ(b:Int):Prop:=b=0∨∃P:Nat,P∈Om.n6/\b=(P:Int)
def nJ.dom{b:Int}(h:nJ b):Dm.Dom b:=by
 rcases h with rfl|⟨P,hP,rfl⟩
 .exact Dm.Dom.zero
 .exact Dm.Dom.prime hP (zx P hP).1
def nJ.range{b:Int}(h:nJ b):0<=b/\b<1000/\b≠1:=by
 rcases h with rfl|⟨P,hP,rfl⟩
 .decide
 .have:=zx P hP;omega
def nJ.one{b:Int}(h:nJ b):Rm.tk b 1=1:=by
 rcases h with rfl|⟨P,hP,rfl⟩
 .exact Rm.bw 1
 .have:=zx P hP;rw[Rm.jJ ⋯];exact Ew ∅ ⋯
inductive aiQ(vs:List V)(H:Hp)(Q:VK)(E:XK):Prop|mk (b n:Int) (cF:vs=[.int b,.int n]) (cG:0<=b) (cP:Q (.int (Rm.tk b n)) H)
def avA:Sp:=aiQ
abbrev nG:=cW "taken" 1 ["by","number"] avA
inductive akl(vs:List V)(H:Hp)(Q:VK)(E:XK):Prop|mk (n:Nat) (cF:vs=[.int n]) (cG:n<2097152) (cP:∀b:Bool,(b=true↔Om.cA n)->Q (.bl b) H)
def ajF:Sp:=akl
abbrev adM:=cW "is_prime" 1 ["number"] ajF
inductive aqH(vs:List V)(H:Hp)(Q:VK)(E:XK):Prop|mk (n q:Nat) (cF:vs=[.int n]) (cG:Om.cA q) (cP:n<q) (dh:q<2097152) (dI:∀p:Nat,Om.cA p->n<p->p<=q->Q (.int p) H)
def aqu:Sp:=aqH
abbrev ad2:=cW "prime_above" 2 ["number"] aqu
inductive ain(vs:List V)(H:Hp)(Q:VK)(E:XK):Prop|mk (P:Nat) (a:Int) (cF:vs=[.int P,.int a]) (cG:Om.cA P) (cP:P<2097152) (dh:0<a) (dI:a<(P:Int)) (eY:∀x:Int,0<=x->x<2097152->x%(P:Int)=a^(P-2)%(P:Int)->Q (.int x) H)
def aoa:Sp:=ain
abbrev adV:=cW "inverse" 2 ["prime","number"] aoa
inductive aua(vs:List V)(H:Hp)(Q:VK)(E:XK):Prop|mk (P:Nat) (one other:Int) (cF:vs=[.int P,.int one,.int other]) (cG:Om.cA P) (cP:P<2097152) (dh:0<other) (dI:other<(P:Int)) (eY:Q (.int (one*other^(P-2)%(P:Int))) H)
def anD:Sp:=aua
abbrev Eb:=cW "over" 3 ["by","one","other"] anD
inductive aiA(K:aF)(vs:List V)(H:Hp)(Q:VK)(E:XK):Prop|mk (l:Addr) (xs:List Int) (cF:vs=[.ref l]) (cG:au K H l (xs.map V.int)) (cP:xO H Q (Pm.trim xs))
def amT(K:aF):Sp:=aiA K
abbrev GZ(P w K mg base):=j9 P w K mg base "trimmed" 1 ["numbers"] (amT K)
def agC(H:Hp)(Q:VK)(b:Int)(P M:List Int):Prop:=∀t x y q r H',Same H H'->H' t=some (.tup [.ref x,.ref y])->H' x=some (.tup (mY V.int q))->H' y=some (.tup (mY V.int r))->Pm.Div b P M q r->
 (∀z∈q,Rm.Bd 5300000 z)->(∀z∈r,Rm.Bd 5300000 z)->q.length<=P.length->Q (.ref t) H'
inductive aq8(vs:List V)(H:Hp)(Q:VK)(E:XK):Prop|mk (b:Int) (a c:Addr) (P M:List Int) (cF:vs=[.int b,.ref a,.ref c]) (cG:0<=b) (cP:b<2097152) (dh:H a=some (.tup (P.map V.int))) (dI:H c=some (.tup (M.map V.int))) (eY:P.length<=40) (iW:M.length<=40) (mD:Pm.Mon M) (oY:(∀k,Rm.tk b (Pm.co P k)=Pm.co P k)) (uH:(∀x∈P,Rm.Bd 300000 x)) (Az:(∀x∈M,Rm.Bd 124000 x)) (Eh:agC H Q b P M)
def VX:Sp:=aq8
def ae7{L:List Int}{u:Nat}(h:∀k,Rm.Bd u (Pm.co L k)):∀x∈Pm.trim L,Rm.Bd u x:=λx hx=>by
 obtain⟨k,hk,e⟩:=jD.mp hx;rw[<-e,<-Pm.jy hk,Pm.ou];exact h k
def max_zero(m n:Nat):(if(m:Int)-((n:Int)-1)>0 then(m:Int)-((n:Int)-1)else 0).toNat=m-(n-1)∨n=0:=by
 by_cases h:n=0
 .exact .inr h
 .left;split<;>omega
abbrev Ey:=cW "divided" 2 ["by","one","other"] VX
def au8(H:Hp)(Q:VK)(b:Int)(p:List Int):Prop:=∀t m H',Same H H'->H' t=some (.tup (mY V.int m))->Pm.vQ b p m->Q (.ref t) H'
inductive arR(vs:List V)(H:Hp)(Q:VK)(E:XK):Prop|mk (P:Nat) (a:Addr) (p:List Int) (cF:vs=[.int P,.ref a]) (cG:Om.cA P) (cP:P<2097152) (dh:H a=some (.tup (p.map V.int))) (dI:p.length<=300) (eY:Pm.Py P p) (iW:au8 H Q P p)
def aod:Sp:=arR
abbrev abB:=cW "monic" 4 ["prime","poly"] aod
def adg(H:Hp)(Q:VK)(b:Int)(p r:List Int):Prop:=∀t g H',Same H H'->H' t=some (.tup (mY V.int g))->Pm.Gcd b p r g->g.length<=max p.length r.length->Q (.ref t) H'
inductive alu(vs:List V)(H:Hp)(Q:VK)(E:XK):Prop|mk (P:Nat) (a c:Addr) (p r:List Int) (cF:vs=[.int P,.ref a,.ref c]) (cG:Om.cA P) (cP:P<2097152) (dh:H a=some (.tup (p.map V.int))) (dI:H c=some (.tup (r.map V.int))) (eY:p.length<=40) (iW:r.length<=40) (mD:Pm.Py P p) (oY:Pm.Py P r) (uH:(r=[]->p≠[])) (Az:adg H Q P p r)
def ahc:Sp:=alu
def PJ{P:Nat}(h0:2<=P)(h:P<2097152){p:List Int}(hp:Pm.Py P p):∀x∈p,Rm.Bd 124000 x:=λx hx=>by
 have:=hp.nu x hx;rw[Rm.jJ ⋯]at this;rw[<-this];exact Rm.Bd.emod ⋯ ((Rm.Bd.of (n:=21) ⋯ ⋯).mono ∅)
abbrev Lb:=cW "greatest" 5 ["by","one","other"] ahc
inductive am4(vs:List V)(H:Hp)(Q:VK)(E:XK):Prop|mk (M x:Int) (cF:vs=[.int M,.int x]) (cG:0<M) (cP:Q (.int (Pm.nr M x)) H)
def ahb:Sp:=am4
abbrev Pj:=cW "nearest" 1 ["modulus","number"] ahb
inductive awQ(vs:List V)(H:Hp)(Q:VK)(E:XK):Prop|mk (M t:Int) (p:Nat) (s:Int) (cF:vs=[.int M,.int t,.int p,.int s]) (cG:Om.cA p) (cP:p<2097152) (dh:0<M) (dI:¬(p:Int)∣M) (eY:Q (.int (Pm.jn M t p s)) H)
def asp:Sp:=awQ
abbrev Ye:=cW "joined" 4 ["modulus","number","prime","rest"] asp
inductive apP(vs:List V)(H:Hp)(Q:VK)(E:XK):Prop|mk (p:Nat) (a:Addr) (P:List Int) (cF:vs=[.int p,.ref a]) (cG:0<p) (cP:H a=some (.tup (P.map V.int))) (dh:P.length<=100) (dI:xO H Q (Pm.trim (P.map (Rm.tk p))))
def aw6:Sp:=apP
abbrev W5:=cW "taken_poly" 2 ["prime","poly"] aw6
inductive ao4(vs:List V)(H:Hp)(Q:VK)(E:XK):Prop|mk (m a:Addr) (M P:List Int) (cF:vs=[.ref m,.ref a]) (cG:H m=some (.tup (M.map V.int))) (cP:H a=some (.tup (P.map V.int))) (dh:M.length<=40) (dI:P.length<=40) (eY:Pm.Mon M) (iW:(∀x∈M,Rm.Bd 124000 x)) (mD:(∀x∈P,Rm.Bd 300000 x)) (oY:∀b H',Same H H'->(b=true↔Pm.Dv 0 M (Pm.co P))->Q (.bl b) H')
def aqw:Sp:=ao4
abbrev aeH:=cW "divides" 3 ["monic_one","poly"] aqw
inductive amX(vs:List V)(H:Hp)(Q:VK)(E:XK):Prop|mk (a c:Addr) (P t g:List Int) (N:Int) (U V':Nat) (cF:vs=[.ref a,.ref c]) (cG:H a=some (.tup (P.map V.int))) (cP:H c=some (.tup (t.map V.int))) (dh:P.length<=40) (dI:t.length<=40) (eY:Pm.Mon P) (iW:(∀x∈P,Rm.Bd 124000 x)) (mD:(∀x∈t,Rm.Bd 300000 x)) (oY:Pm.v5 P (Pm.co t) g N) (uH:Rm.Bd V' N) (Az:(∀k,Rm.Bd U (Pm.co g k))) (Eh:V'+U+57<=9300) (FZ:xO H Q g)
def ald:Sp:=amX
def Nb(p:Nat)(P:List Int)(k:Nat):Rm.tk (p:Int) (Pm.co (Pm.trim (P.map (Rm.tk p))) k)=Rm.tk p (Pm.co P k):=by
 rw[Pm.ou,Pm.lY (Pm.tk0 _),Rm.gJ]
def ad6(p:Nat)(P:List Int):Pm.Py p (Pm.trim (P.map (Rm.tk p))):=Pm.Py.of λx hx=>by
 obtain⟨y,_,rfl⟩:=cB.mp hx;exact Rm.gJ ..
def Zc(p:Nat)(P:List Int):(Pm.trim (P.map (Rm.tk p))).length<=P.length:=by
 have:=Pm.vB (P.map (Rm.tk p))
 rwa [aB]at this
def anQ{p:Nat}(hp:Om.cA p){P:List Int}(hP:Pm.Mon P):Pm.trim (P.map (Rm.tk p))≠[]:=λz=>by
 have:=Nb p P (P.length-1);rw[z,Pm.fV,hP.one,Pm.Kr hp,Pm.tk0]at this;exact absurd this ∅
def ato{P g told:List Int}{N M:Int}{prime bad good:Nat}{ripe:Bool}(I:Pm.kJ P g N told M prime ripe bad good)(bP:∀x∈P,Rm.Bd 124000 x)(h:bad+good<=490):∀x∈told,Rm.Bd 124000 x:=λx hx=>by
 by_cases c:M=1
 .rw[I.first c]at hx;exact bP x hx
 .obtain⟨k,hk,e⟩:=jD.mp hx;have n:=I.near c k;rw[Pm.jy hk,e]at n;unfold Pm.Nr at n;have h1:=I.hi;have h2:(2:Int)^(21*(bad+good))<=2^123900:=by exact_mod_cast wO (n:=2) ∅ (show 21*(bad+good)<=123900 by omega)
  have h3:M<=2^123900:=abw h1 h2;have hpos:=I.pos;refine(show Rm.Bd 123900 x from ?_).mono ∅;generalize hB:(2:Int)^123900=B at h3;have h4:-B<x/\x<B:=⋯;unfold Rm.Bd;have h5:(x.natAbs:Int)<((2^123900:Nat):Int):=by
   rw[Xm];show(x.natAbs:Int)<(2:Int)^123900;rw[hB];omega
  exact_mod_cast h5
def aeT(H:Hp)(a c:Addr)(P' g:List Int)(N:Int)(m:Nat)(σ':St)(H':Hp):Prop:=∃(o6 o7:Option V) (tt:Addr) (told:List Int) (M:Int) (prime:Nat) (ripe:Bool) (bad good:Nat),m=500-(bad+good)/\σ'=[some (.ref a),some (.ref c),some (.ref tt),some (.int M),some (.int (prime:Int)),some (.bl ripe),o6,o7]/\Same H H'/\H' tt=some (.tup (told.map V.int))/\Pm.kJ P' g N told M prime ripe bad good/\Om.Many (500-(bad+good)) prime/\1000000<=prime/\bad+good<=490
abbrev aah:=cW "whole_greatest" 6 ["one","other"] ald
inductive avM(vs:List V)(H:Hp)(Q:VK)(E:XK):Prop|mk (b:Int) (a:Addr) (c:List Int) (cF:vs=[.int b,.ref a]) (cG:0<=b) (cP:H a=some (.tup (c.map V.int))) (dh:c.length<=100) (dI:xO H Q (Pm.aR b c))
def avp:Sp:=avM
abbrev aee:=cW "of_rule" 2 ["by","rule"] avp
inductive avN(vs:List V)(H:Hp)(Q:VK)(E:XK):Prop|mk (b:Int) (a:Addr) (p:List Int) (cF:vs=[.int b,.ref a]) (cG:0<=b) (cP:H a=some (.tup (p.map V.int))) (dh:0<p.length) (dI:p.length<=100) (eY:xO H Q (Pm.ju b p))
def auB:Sp:=avN
abbrev aaH:=cW "rule_of" 2 ["by","poly"] auB
def axa{lo:Int}{n:Nat}{ix:List (Option Nat)}{te:TE}{σ:St}{H1:Hp}{Q:VK}(hz:n<=1000){rest:St}(hst:cst ix σ=none::rest)(f:Nat->Int)
  (he:∀H' k,Same H1 H'->k<n->∀kk:VK,kk (.int (f k)) H'->te (some (.int (lo+(k:Int)))::rest) H' kk)
  (hQ:∀D,H1 D=none->Q (.ref D) (upd H1 D (.lst ((Pm.aP n f).map V.int)))):kE ix (ig 0) mq te σ Q (sO lo n) H1:=by
 refine qw EG (by rw[aB,oO];exact iM (fH hz)) hst (λ_=>true) (λx=>match x with | .int k=> .int (f (k-lo).toNat)|_=> .non) ?_ ?_ ?_
 .intro H2 x g2 hx k hk;exact hk
 .intro H2 x g2 hx _ k hk;obtain⟨j,hj,rfl⟩:=cB.mp hx;have e1:(lo+(j:Int)-lo).toNat=j:=⋯;refine he H2 j g2 (iQ.mp hj) k ?_;have hk':k (V.int (f (lo+(j:Int)-lo).toNat)) H2:=hk
  rwa [e1]at hk'
 .intro D hD;have el:((((eO n).map λi=>V.int (lo+(i:Nat))).filter λ_=>true).map λx=>match x with | .int k=>V.int (f (k-lo).toNat)|_=>V.non)=(Pm.aP n f).map V.int:=by
   rw[qP.mpr (by simp),cH,Pm.aP,cH];refine m7 λk _=>?_;show V.int (f (lo+(k:Int)-lo).toNat)=V.int (f k);rw[show(lo+(k:Int)-lo).toNat=k by omega]
  rw[el];exact hQ D hD
def aws:(Om.n6.all λp=>(eO 32).all λd=>decide (d<2)||decide (p<d*d)||decide (p%d≠0))=true:=by decide +kernel
def aoH{P:Nat}(h:P∈Om.n6):Om.cA P:=by
 have hr:=zx P h;refine Om.Qz hr.1 λd hd hdd hdv=>?_;have h32:d<32:=by
  by_cases c:d<32
  .exact c
  .have:32*32<=d*d:=gM ⋯ ⋯;omega
 have:=lK.mp (lK.mp aws P h) d (iQ.mpr h32);simp only[zp,decide_eq_true_eq]at this;have:=W0 hdv;omega
def qI(r:Rw):List Int:=Pm.trim (Pm.aP r.rule.length λk=>Rm.tk r.b (Pm.tp (Pm.aR r.b r.rule) r.at k))
def Nu(r:Rw)(k:Nat):Pm.co (qI r) k=Rm.tk r.b (Pm.tp (Pm.aR r.b r.rule) r.at k):=by
 rw[qI,Pm.ou,Pm.dD];by_cases c:k<r.rule.length
 .rw[if_pos c]
 .rw[if_neg c,Pm.Bc _ _ k (by rw[Pm.j6];omega),Pm.tk0]
def aq3(r:Rw):(qI r).length<=r.rule.length:=by
 have:=Pm.vB (Pm.aP r.rule.length λk=>Rm.tk r.b (Pm.tp (Pm.aR r.b r.rule) r.at k))
 rwa [Pm.cu]at this
def jB.Dk{r:Rw}(ok:jB r):∀x∈Pm.aR r.b r.rule,Rm.Bd 60000 x:=Pm.SJ ok.oU ok.Et ∅ ok.pN
def aks{r:Rw}(ok:jB r):∀x∈qI r,Rm.Bd 300000 x:=λx hx=>by
 obtain⟨k,_,rfl⟩:=Pm.vM (Pm.Nk hx);refine Rm.pY ok.oU ((Rm.Bd.of (n:=10) (by have:=ok.oU;omega) (by have:=ok.Et;omega)).mono ∅) ?_;have hs:=ok.short;have hl:=ok.len;unfold Pm.tp;rw[Pm.j6,fX];refine(Pm.Bg (c:=63000) _ λi hi=>?_).mono ⋯;refine(Rm.Bd.mul (m:=60000) (n:=3000) (Pm.jK ok.Dk _) ?_).mono ⋯;have e:r.at i=r.starts.getD i 0:=Rm.wK ⋯;rw[e];exact Rm.Bd.getD ok.zQ _
inductive awu(vs:List V)(H:Hp)(Q:VK)(E:XK):Prop|mk (v:V) (r:Rw) (a:Addr) (cF:vs=[v,.ref a]) (cG:jk H v r) (cP:jB r) (dh:H a=some (.tup ((Pm.aR r.b r.rule).map V.int))) (dI:xO H Q (qI r))
def au2:Sp:=awu
abbrev WY:=cW "top_of" 2 ["row","poly"] au2
inductive amt(vs:List V)(H:Hp)(Q:VK)(E:XK):Prop|mk (b:Int) (a c:Addr) (P t:List Int) (cF:vs=[.int b,.ref a,.ref c]) (cG:H a=some (.tup (P.map V.int))) (cP:H c=some (.tup (t.map V.int))) (dh:P.length<=40) (dI:t.length<=40) (eY:Pm.Mon P) (iW:(∀x∈P,Rm.Bd 124000 x)) (mD:(∀x∈t,Rm.Bd 300000 x)) (oY:((b=0/\∃(g:List Int) (N:Int) (U V':Nat),Pm.v5 P (Pm.co t) g N/\Rm.Bd V' N/\(∀k,Rm.Bd U (Pm.co g k))/\V'+U+57<=9300/\xO H Q g)∨
 (∃p:Nat,b=(p:Int)/\Om.cA p/\p<2097152/\Pm.Py p P/\Pm.Py p t/\adg H Q p P t)))
def akm:Sp:=amt
abbrev VG:=cW "shared_divisor" 7 ["by","one","other"] akm
structure mL(b:Int)(f:Nat->Int)(L:List Int):Prop where
 mon:Pm.Mon L
 nu:∀k,Rm.tk b (Pm.co L k)=Pm.co L k
 kp:Pm.Kp b L f
 all:∀q,Pm.Kp b q f->Pm.Dv b L (Pm.co q)
def Tame(r:Rw):Prop:=r.b=0->∃d ua u:Nat,10<=u/\(∀x∈r.rule,Rm.Bd u x)/\(∃Q0,Pm.Mon Q0/\Pm.Kp 0 Q0 r.at/\Q0.length<=d+1)/\(∀n,n<=2*d->Rm.Bd ua (r.at n))/\(∀L,mL 0 r.at L->∀k,Rm.Bd 20 (Pm.co L k))/\d<=6/\d*(ua+d)+1+(u+700)+57<=9300
def jB.kp{r:Rw}(ok:jB r):Pm.Kp r.b (Pm.aR r.b r.rule) r.at:=Pm.Kp.aR (Pm.abm ok.len)
def adv{b:Int}{L:List Int}(h:Pm.Mon L)(hn:∀k,Rm.tk b (Pm.co L k)=Pm.co L k):Pm.Py b L:=⟨Pm.uX (λz=>by have:=h.pos;rw[z]at this;exact absurd this ∅) (by rw[h.one];decide),λx hx=>by
 obtain⟨k,hk,e⟩:=jD.mp hx;have:=hn k
 rwa [Pm.jy hk,e]at this⟩
def asv(b:Int)(c:List Int)(h1:Rm.tk b 1=1)(k:Nat):Rm.tk b (Pm.co (Pm.aR b c) k)=Pm.co (Pm.aR b c) k:=by
 have h:∀x∈Pm.aR b c,Rm.tk b x=x:=λx hx=>by
  rcases fM.mp hx with hx|hx
  .obtain⟨j,_,e⟩:=Pm.vM hx;rw[e,Rm.gJ]
  .rw[dj.mp hx,h1]
 by_cases hk:k<(Pm.aR b c).length
 .exact h _ (Pm.xM hk)
 .rw[Pm.aX ⋯,Pm.tk0]
def apB{p:Nat}(hp:Om.cA p){r:Rw}(ok:jB r)(hb:r.b=(p:Int)){g L o:List Int}(hG:Pm.Gcd p (Pm.aR r.b r.rule) (qI r) g)(D:Pm.Div p (Pm.aR r.b r.rule) g o L):mL r.b r.at o/\o.length<=r.rule.length+1:=by
 have h1:=Pm.Kr hp;have hm:=Pm.yS r.b r.rule;have hd:Pm.Dv p g (Pm.co (Pm.aR r.b r.rule)):=hG.one.to λ_=>rfl;obtain⟨L',hL',hn',hl',e'⟩:=Pm.zU h1 hm hG.mon hd;have D':Pm.Div p (Pm.aR r.b r.rule) g L' []:=⟨adv hL' hn',Pm.Py.nil _,hG.mon.pos,λk=>by rw[Pm.fV,dz];exact(e' k).symm⟩;obtain⟨eo,_⟩:=D.uniq hG.mon D';subst eo;have W:Pm.LQ p (Pm.aR p r.rule) (Pm.tp (Pm.aR p r.rule) r.at) g:=by
  rw[<-hb];refine⟨hG.mon,by rw[hb];rw[hb]at hd;exact hd,?_,?_⟩
  .rw[hb];refine(hG.two.to (q:=qI r) λ_=>rfl).congr λk=>?_;rw[Nu,hb,Rm.gJ]
  .obtain⟨u,v,e⟩:=hG.sum;refine⟨1,Pm.co u,Pm.co v,u.length+v.length,by rw[hb,h1];decide,(Pm.Fs.co u).mono ⋯,(Pm.Fs.co v).mono ⋯,λk=>?_⟩;rw[iz,hb];rw[hb]at e;rw[e k];refine Rm.jA rfl (Pm.iH (λ_ _=>rfl) λi _=>?_);rw[Nu,hb,Rm.gJ]
 have ha:∀n,r.rule.length<=n->Rm.tk (p:Int) (r.at n)=Rm.tk p (Rm.S r.rule r.at n r.rule.length):=by
  rw[<-hb];exact Pm.abm ok.len
 have K:=W.keeps (Dm.Dom.pr hp) ha hL' (by rw[<-hb];rw[<-hb]at e';exact e');refine⟨⟨hL',by rw[hb];exact hn',?_,λq hq=>?_⟩,?_⟩
 .rw[hb];refine(K o).mpr ⟨λk=>if k=0 then 1 else 0,1,λk hk=>if_neg ⋯,λk=>?_⟩;rw[Pm.Ci,if_pos (cj _),iz,tV]
 .rw[hb]at hq ⊢;exact(K q).mp hq
 .have:=hG.mon.pos;rw[Pm.j6]at hl';omega
inductive alB(vs:List V)(H:Hp)(Q:VK)(E:XK):Prop|mk (v:V) (r:Rw) (cF:vs=[v]) (cG:jk H v r) (cP:jB r) (dh:nJ r.b) (dI:Tame r) (eY:∀t L H',Same H H'->H' t=some (.tup (mY V.int L))->mL r.b r.at L->L.length<=r.rule.length+1->Q (.ref t) H')
def arT:Sp:=alB
abbrev LY:=cW "least_of" 8 ["row"] arT
def Ry(r:Rw)(L:List Int):Rw:=⟨r.b,Pm.ju r.b L,r.starts.take (L.length-1)⟩
inductive ajE(vs:List V)(H:Hp)(Q:VK)(E:XK):Prop|mk (v:V) (r:Rw) (cF:vs=[v]) (cG:jk H v r) (cP:jB r) (dh:nJ r.b) (dI:Tame r) (eY:∀v' L H',Same H H'->jk H' v' (Ry r L)->mL r.b r.at L->L.length<=r.rule.length+1->Q v' H')
def axb:Sp:=ajE
abbrev Y5:=cW "shortest" 9 ["row"] axb
inductive anv(K:aF)(vs:List V)(H:Hp)(Q:VK)(E:XK):Prop|mk (b:Int) (l:Addr) (p:List Int) (cF:vs=[.int b,.ref l]) (cG:0<=b) (cP:H l=some (.lst (p.map V.int))) (dh:p.length<=1000) (dI:Told H Q ((p.map (Rm.tk b)).map V.int))
def arP(K:aF):Sp:=anv K
abbrev aex(P w K mg base):=j9 P w K mg base "line_taken" 2 ["by","line"] (arP K)
inductive aps(vs:List V)(H:Hp)(Q:VK)(E:XK):Prop|mk (ll:Addr) (xs:List V) (L:List (List Int)) (W r c:Nat) (cI:Int) (ex:List Addr) (cF:vs=[.ref ll,.int r,.int cI]) (cG:cI=(c:Int)) (cP:H ll=some (.lst xs)) (dh:bJ H ex xs L) (dI:(∀i,i<L.length->(Dm.ln L i).length=W)) (eY:c<W) (iW:L.length<=1000) (mD:r<=L.length) (oY:(∀a:Nat,r<=a->a<L.length->Pm.co (Dm.ln L a) c≠0->Q (.int a) H)) (uH:((∀i,r<=i->i<L.length->Pm.co (Dm.ln L i) c=0)->Q .non H))
def amH:Sp:=aps
abbrev aeu:=cW "head_line" 1 ["lines","begin","column"] amH
def Brt(b:Int)(L L':List (List Int))(a r:Nat):Prop:=(a=r/\L'=L)∨(r<a/\L'.length=L.length/\Dm.ln L' r=Dm.ln L a/\Dm.ln L' a=(Dm.ln L r).map (λx=>Rm.tk b (0-x))/\∀i,i≠r->i≠a->Dm.ln L' i=Dm.ln L i)
inductive apy(vs:List V)(H:Hp)(Q:VK)(E:XK):Prop|mk (b:Int) (ll:Addr) (xs:List V) (L:List (List Int)) (a r:Nat) (ex:List Addr) (cF:vs=[.int b,.ref ll,.int a,.int r]) (cG:0<=b) (cP:H ll=some (.lst xs)) (dh:bJ H ex xs L) (dI:ll∈ex) (eY:Stand H ex) (iW:r<=a) (mD:a<L.length) (oY:(∀i,i<L.length->(Dm.ln L i).length<=1000)) (uH:∀xs' L' H',Keep ll H H'->H' ll=some (.lst xs')->bJ H' ex xs' L'->Brt b L L' a r->Q .non H')
def akf:Sp:=apy
abbrev V7:=cW "bring_up" 2 ["by","lines","at","top"] akf
def ToldF(H:Hp)(Q:VK)(b last pv fa:Int)(p r:List Int):Prop:=∀t m H',Same H H'->H t=none->H' t=some (.lst (mY V.int m))->m.length=p.length->(∀k,k<p.length->Pm.co m k=Rm.tk b (Pm.co m k)/\Rm.tk b (last*Pm.co m k)=Rm.tk b (pv*Pm.co p k-fa*Pm.co r k))->Q (.ref t) H'
inductive atY(vs:List V)(H:Hp)(Q:VK)(E:XK):Prop|mk (b last:Int) (l1 l2:Addr) (p r:List Int) (c:Nat) (cI:Int) (cF:vs=[.int b,.ref l1,.ref l2,.int cI,.int last]) (cG:cI=(c:Int)) (cP:b=0) (dh:H l1=some (.lst (p.map V.int))) (dI:H l2=some (.lst (r.map V.int))) (eY:p.length=r.length) (iW:c<p.length) (mD:p.length<=1000) (oY:last≠0) (uH:last=Rm.tk b last) (Az:Rm.Bd 8000 last) (Eh:(∀x∈p,Rm.Bd 1000000 x)) (FZ:(∀x∈r,Rm.Bd 1000000 x)) (adn:(b=0->∀k,k<p.length->∃e,Pm.co r c*Pm.co p k-Pm.co p c*Pm.co r k=last*e)) (aye:ToldF H Q b last (Pm.co r c) (Pm.co p c) p r)
def ahm:Sp:=atY
def ake{x:Int}{n:Nat}(h0:x≠0)(h:Rm.Bd n x):x.natAbs.log2<n:=(Nat.log2_lt ⋯).mpr h
abbrev ac7:=cW "freed" 4 ["by","line","head","column","last"] ahm
def Ng(b:Int)(n W u:Nat)(A0:Nat->Nat->Int):Prop:=∀c A hd r L last,c<=W->Dm.dH b n W u A0 c A hd r L last->Rm.Bd 8000 last/\∀i,i<n->∀x∈Dm.ln L i,Rm.Bd 8000 x
def aun{b:Int}(hB:nJ b){n W u l:Nat}{A0:Nat->Nat->Int}(h:∀c A hd r L last,c<=W->Dm.dH b n W u A0 c A hd r L last->r<=l)(hu:(l+1)*(u+(l+1))+1<=8000):Ng b n W u A0:=λc A hd r L last hcw I=>by
 obtain⟨hb0,hb1,_⟩:=hB.range;have hr:=h c A hd r L last hcw I;have bb:Rm.Bd 8000 b:=(Rm.Bd.of (n:=10) ⋯ ⋯).mono ∅;have z1:r*(u+r)<=(l+1)*(u+(l+1)):=gM ⋯ ⋯;have z2:(r+1)*(u+(r+1))<=(l+1)*(u+(l+1)):=gM ⋯ ⋯;refine⟨?_,λi hi x hx=>?_⟩
 .rw[I.la];exact Rm.pY hb0 bb ((Dm.Am (u:=u) λi' k' _ _=>I.ux _ _).mono ⋯)
 .obtain⟨k,hk,e⟩:=jD.mp hx;rw[<-e,<-Pm.jy hk,I.en i k hi (by rw[<-I.wd i hi];exact hk)];exact Rm.pY hb0 bb ((I.bdE i k).mono ⋯)
inductive asn(vs:List V)(H:Hp)(Q:VK)(E:XK):Prop|mk (b:Int) (wide:Nat) (ll:Addr) (xs:List V) (L:List (List Int)) (W u:Nat) (ex:List Addr) (cF:vs=[.int b,.int wide,.ref ll]) (cG:b=0) (cP:H ll=some (.lst xs)) (dh:bJ H ex xs L) (dI:ll∈ex) (eY:Stand H ex) (iW:wide<=W) (mD:W<=100) (oY:L.length<=30) (uH:Ng b L.length W u (λi k=>Pm.co (Dm.ln L i) k)) (Az:(∀i,i<L.length->(Dm.ln L i).length=W)) (Eh:(∀i k,Rm.tk b (Pm.co (Dm.ln L i) k)=Pm.co (Dm.ln L i) k)) (FZ:(∀i k,Rm.Bd u (Pm.co (Dm.ln L i) k))) (adn:∀t th A hd r L' last xs' H',Keep ll H H'->H' t=some (.tup [.ref th,.int last])->H' th=some (.lst ((Pm.aP r λh=>((hd h:Nat):Int)).map V.int))->H' ll=some (.lst xs')->bJ H' ex xs' L'->Dm.dH b L.length W u (λi k=>Pm.co (Dm.ln L i) k) wide A hd r L' last->Q (.ref t) H')
def ane:Sp:=asn
abbrev Wt:=cW "clear" 5 ["by","wide","lines"] ane
def ady{J:It}{xs:List V}{ix:List (Option Nat)}{te:TE}{σ:St}{H1:Hp}{Q:VK}(I:rR J xs H1)(hz:xs.length<=1000){rest:St}(hst:cst ix σ=none::rest)(G:V->List Int)
  (he:∀(H':Hp) (x:V),Same H1 H'->x∈xs->∀k:VK,(∀t' H2,Same H' H2->H' t'=none->H2 t'=some (.lst ((G x).map V.int))->k (.ref t') H2)->te (some x::rest) H' k)
  (hQ:∀D ys H',H1 D=none->Same H1 H'->H' D=some (.lst ys)->bJ H' [D] ys (xs.map G)->Q (.ref D) H'):
  kE ix (ig 0) mq te σ Q J H1:=by
 constructor;intro D hD;refine⟨λi m σ' H'=>m=xs.length-i/\i<=xs.length/\(∃o,σ'=o::rest)/\Same H1 H'/\∃ys,H' D=some (.lst ys)/\bJ H' [D] ys ((xs.take i).map G),⟨xs.length,by simp,cj _,⟨none,hst⟩,Same.new hD _,[],aC,.nil⟩,?_⟩;rintro i m σ' H' ⟨rfl,hi,⟨o,rfl⟩,g,ys,hl,hy⟩;by_cases hlt:i<xs.length
 .refine .inr ⟨I.go i _ g hlt,λx H2 y=>?_⟩;obtain⟨rfl,hx⟩:=I.jM i _ x H2 g y;have hx:=hx hlt;have hm:x∈xs:=List.mem_of_getElem? hx;have et:xs.take (i+1)=xs.take i++[x]:=by rw[qU,hx];rfl
  change te (some x::rest) H2 _;refine he H2 x g hm _ λt' H3 g3 hn h3=>⟨ys,g3 _ _ hl,?_,xs.length-(i+1),⋯,rfl,hlt,⟨_,rfl⟩,Same.upd (g.trans g3) hD _,ys++[.ref t'],aC,?_⟩
  .have:=hy.len;rw[aB,jO]at this;have:=fH hz;omega
  .have tD:t'∉[D]:=λz=>by
    rw[dj.mp z,hl]at hn;cases hn
   rw[et,gO];exact(bJ.append tD h3 (hy.same g3)).keep (dj.mpr rfl) (Keep.upd D H3 _)
 .have e:i=xs.length:=⋯;subst e;rw[ni]at hy;exact .inl ⟨I.stop _ _ g (aJ _),hQ D ys H' hD g hl hy⟩
def agd{T:List (List Int)}{i:Nat}(h:i<T.length):Dm.ln T i∈T:=by
 unfold Dm.ln;rw[List.getD_eq_getElem?_getD,List.getElem?_eq_getElem h];exact xG h
def JF(f:Nat->List Int):V->List Int
 |.int k=>f k.toNat
 |_=>[]
def ahq{K:aF}{a:Addr}{xs:List V}{ps:List (List Int)}{ex:List Addr}{ix:List (Option Nat)}{te:TE}{σ:St}{H1:Hp}{Q:VK}(hA:H1 a=some (.lst xs))(hp:bJ H1 ex xs ps)(hz:xs.length<=1000){rest:St}(hst:cst ix σ=none::rest)(G:List Int->V)
  (he:∀(H':Hp) (t:Addr) (p:List Int),Same H1 H'->p∈ps->H' t=some (.lst (p.map V.int))->∀k:VK,(∀H2,Same H' H2->k (G p) H2)->te (some (.ref t)::rest) H' k)
  (hQ:∀D H',H1 D=none->Same H1 H'->H' D=some (.lst (ps.map G))->Q (.ref D) H'):
  kE ix (ig 0) mq te σ Q (lV K a) H1:=by
 have I:=qx (K:=K) (au.of hA);have lx:=hp.len;constructor;intro D hD;refine⟨λi m σ' H'=>m=xs.length-i/\i<=xs.length/\(∃o,σ'=o::rest)/\Same H1 H'/\H' D=some (.lst ((ps.take i).map G)),⟨xs.length,by simp,cj _,⟨none,hst⟩,Same.new hD _,aC⟩,?_⟩;rintro i m σ' H' ⟨rfl,hi,⟨o,rfl⟩,g,hl⟩;by_cases hlt:i<xs.length
 .refine .inr ⟨I.go i _ g hlt,λx H2 y=>?_⟩;obtain⟨rfl,hx⟩:=I.jM i _ x H2 g y;have hx:=hx hlt;obtain⟨t,e1,_,e2⟩:=hp.get (show i<ps.length by omega);rw[e1]at hx;cases hx;have hpi:ps[i]?=some (Dm.ln ps i):=by
   unfold Dm.ln;rw[List.getD_eq_getElem?_getD,List.getElem?_eq_getElem ⋯];rfl
  have et:ps.take (i+1)=ps.take i++[Dm.ln ps i]:=by rw[qU,hpi];rfl
  change te (some (.ref t)::rest) H2 _;refine he H2 t (Dm.ln ps i) g (List.mem_of_getElem? hpi) (g _ _ e2) _ λH3 g3=>⟨_,g3 _ _ hl,?_,xs.length-(i+1),⋯,rfl,hlt,⟨_,rfl⟩,Same.upd (g.trans g3) hD _,?_⟩
  .rw[aB,jO];have:=fH hz;omega
  .rw[aC,et,gO];rfl
 .have e:i=xs.length:=⋯;subst e;rw[lx,ni]at hl;exact .inl ⟨I.stop _ _ g (aJ _),hQ D H' hD g hl⟩
def Dj(x:Int):(if x<0 then -x else x)=(x.natAbs:Int):=by split<;>omega
inductive aoG(vs:List V)(H:Hp)(Q:VK)(E:XK):Prop|mk (x y:Int) (cF:vs=[.int x,.int y]) (cG:Q (.int (jT x.natAbs y.natAbs:Nat)) H)
def apC:Sp:=aoG
abbrev V2:=cW "common_divisor" 1 ["one","other"] apC
def al7{bt:Int}{ts:List Int}(h0:bt≠0)(h:Rm.Bd 8000 bt):(Lm.low bt ts).natAbs.log2<9000:=by
 have n0:=Lm.low_ne h0 ts;refine Bl ((Nat.log2_lt (n:=(Lm.low bt ts).natAbs) (k:=8000) ⋯).mpr ?_) ∅;refine sE ?_ h;have d:(Lm.low bt ts).natAbs∣bt.natAbs:=Nv.mpr (Lm.Vk bt ts);exact rD ⋯ d
inductive apa(vs:List V)(H:Hp)(Q:VK)(E:XK):Prop|mk (bt:Int) (l:Addr) (ts:List Int) (cF:vs=[.int 0,.int bt,.ref l]) (cG:bt≠0) (cP:H l=some (.lst (ts.map V.int))) (dh:ts.length<=100) (dI:Rm.Bd 8000 bt) (eY:∀t lt bot us H',Same H H'->H' t=some (.tup [.int bot,.ref lt])->H' lt=some (.lst (mY V.int us))->H lt=none->Dm.Low 0 bt ts bot us->Q (.ref t) H')
def agq:Sp:=apa
abbrev Ub:=cW "lowest" 4 ["by","bottom","tops"] agq
theorem bJ.drop{H:Hp}{ex:List Addr}:∀{xs:List V} {ps:List (List Int)} (r:Nat),bJ H ex xs ps->bJ H ex (xs.drop r) (ps.drop r)
 |_,_,0,h=>h
 |_,_,_+1,.nil=> .nil
 |_,_,r+1,.cons _ _ h=>bJ.drop r h
def Xh{L:List (List Int)}{r:Nat}{p:List Int}(h:p∈L.drop r):∃i,r<=i/\i<L.length/\p=Dm.ln L i:=by
 obtain⟨j,hj,e⟩:=jD.mp h;rw[oA]at hj;refine⟨r+j,⋯,⋯,?_⟩;unfold Dm.ln;rw[List.getD_eq_getElem?_getD,List.getElem?_eq_getElem ⋯,<-e,aeL];rfl
def agN{L:List (List Int)}{r i:Nat}(h1:r<=i)(h2:i<L.length):Dm.ln L i∈L.drop r:=by
 refine jD.mpr ⟨i-r,by rw[oA];omega,?_⟩;unfold Dm.ln;rw[aeL,List.getD_eq_getElem?_getD,List.getElem?_eq_getElem h2];simp only[Option.getD_some];congr 1;omega
def auU(b:Int)(L:List (List Int))(ws:List Int):(((eO L.length).map λi=>V.int (0+(i:Nat))).map (JF λi=>(Dm.ln L i++[Pm.co ws i]).map (Rm.tk b)))=Dm.qD b L ws:=by
 rw[Dm.qD,cH];refine m7 λi _=>?_;show(Dm.ln L (0+(i:Int)).toNat++_).map _=_;rw[show(0+(i:Int)).toNat=i by omega]
def Rj(b:Int)(n W u:Nat)(A:Nat->Nat->Int):Prop:=10<=u/\Ng b n W u A
def Qo:Sp:=λ_ _ _ _=>False
abbrev Ws:=cW "free_numbers" 5 ["by","wide","lines","heads","last"] Qo
inductive asI(vs:List V)(H:Hp)(Q:VK)(E:XK):Prop|mk (u wide:Nat) (ta tw:Addr) (xs:List V) (L:List (List Int)) (ws:List Int) (ex:List Addr) (cF:vs=[.int 0,.int wide,.ref ta,.ref tw]) (cG:H ta=some (.lst xs)) (cP:bJ H ex xs L) (dh:H tw=some (.lst (ws.map V.int))) (dI:ws.length=L.length) (eY:L.length<=30) (iW:wide<=60) (mD:Rj 0 L.length (wide+1) u (Dm.aug 0 L ws)) (oY:(∀i,i<L.length->(Dm.ln L i).length=wide)) (uH:(∀p∈L,∀x∈p,Rm.Bd u x)) (Az:(∀x∈ws,Rm.Bd u x)) (Eh:(∃x bt,Rm.tk 0 bt≠0/\Dm.gZ 0 L.length wide (Dm.aug 0 L ws) x bt)) (FZ:Dm.tu 0 L.length wide (Dm.aug 0 L ws)) (adn:(∀bot us,Dm.xX u 0 L.length wide (Dm.aug 0 L ws) bot us->∀t lt H',Same H H'->H' t=some (.tup [.str ("one" : Str),.int bot,.ref lt])->H' lt=some (.lst (mY V.int us))->Q (.ref t) H'))
def auD:Sp:=asI
abbrev Ql:=cW "solution" 6 ["by","wide","table","wished"] auD
inductive cC(H:Hp):List V->List (List Int)->Prop
 |nil:cC H [] []
 |cons {t:Addr} {p:List Int} {xs:List V} {ps:List (List Int)}:H t=some (.tup (p.map V.int))->cC H xs ps->cC H (.ref t::xs) (p::ps)
theorem cC.up{H H':Hp}(g:∀b ts,H b=some (.tup ts)->H' b=some (.tup ts)):∀{xs:List V} {ps:List (List Int)},cC H xs ps->cC H' xs ps
 |_,_,.nil=> .nil
 |_,_,.cons h r=> .cons (g _ _ h) (cC.up g r)
def cC.same{H H':Hp}(g:Same H H'){xs:List V}{ps:List (List Int)}(h:cC H xs ps):cC H' xs ps:=h.up λb ts e=>g b _ e
def cC.set{H:Hp}{D:Addr}{ys:List V}{o:HO}(hD:H D=some (.lst ys)){xs:List V}{ps:List (List Int)}(h:cC H xs ps):cC (upd H D o) xs ps:=h.up λb ts e=>by rw[bK λq=>by rw[q,hD]at e;cases e];exact e
theorem cC.len{H:Hp}:∀{xs:List V} {ps:List (List Int)},cC H xs ps->xs.length=ps.length
 |_,_,.nil=>rfl
 |_,_,.cons _ r=>by rw[fB,fB,cC.len r]
theorem cC.append{H:Hp}:∀{xs ys:List V} {ps qs:List (List Int)},cC H xs ps->cC H ys qs->cC H (xs++ys) (ps++qs)
 |_,_,_,_,.nil,h=>h
 |_,_,_,_,.cons h r,h'=> .cons h (cC.append r h')
theorem cC.get{H:Hp}:∀{xs:List V} {ps:List (List Int)} {i:Nat} {x:V},cC H xs ps->xs[i]?=some x->∃t p,x = .ref t/\ps[i]?=some p/\H t=some (.tup (p.map V.int))
 |_,_,_,_,.nil,h=>by cases h
 |_,_,0,_,.cons h _,e=>by cases e;exact⟨_,_,rfl,rfl,h⟩
 |_,_,i+1,_,.cons _ r,e=>cC.get (i:=i) r e
def anR{K:aF}{a:Addr}{xs:List V}{ps:List (List Int)}{ix:List (Option Nat)}{tc:TT}{te:TE}{σ:St}{H1:Hp}{Q:VK}(hA:H1 a=some (.lst xs))(hp:cC H1 xs ps)(hz:xs.length<=1000){rest:St}(hst:cst ix σ=none::rest)(pt:List Int->Bool)
  (ht:∀(H':Hp) (t:Addr) (c:List Int),Same H1 H'->c∈ps->H' t=some (.tup (c.map V.int))->∀kk:Bool->Hp->Prop,(∀H2,Same H' H2->kk (pt c) H2)->tc (some (.ref t)::rest) H' kk)
  (he:∀(H':Hp) (t:Addr) (k:VK),k (.ref t) H'->te (some (.ref t)::rest) H' k)
  (hQ:∀D H' ys,H1 D=none->Same H1 H'->H' D=some (.lst ys)->cC H' ys (ps.filter pt)->Q (.ref D) H'):
  kE ix (ig 0) tc te σ Q (lV K a) H1:=by
 have I:=qx (K:=K) (au.of hA);have lx:=hp.len;constructor;intro D hD;refine⟨λi m σ' H'=>m=xs.length-i/\i<=xs.length/\(∃o,σ'=o::rest)/\Same H1 H'/\∃ys,H' D=some (.lst ys)/\ys.length<=i/\cC H' ys ((ps.take i).filter pt),⟨xs.length,by simp,cj _,⟨none,hst⟩,Same.new hD _,[],aC,aJ _,.nil⟩,?_⟩;rintro i m σ' H' ⟨rfl,hi,⟨o,rfl⟩,g,ys,hl,hyl,hy⟩;by_cases hlt:i<xs.length
 .refine .inr ⟨I.go i _ g hlt,λx H2 y=>?_⟩;obtain⟨rfl,hx⟩:=I.jM i _ x H2 g y;obtain⟨t,p,rfl,ep,ht'⟩:=hp.get (hx hlt);have et:ps.take (i+1)=ps.take i++[p]:=by rw[qU,ep];rfl
  show tc (some (.ref t)::rest) _ _;refine ht H2 t p g (List.mem_of_getElem? ep) (g _ _ ht') _ λH3 g3=>?_;cases hpt:pt p with
  |true=>
   rw[if_pos rfl];refine he H3 t _ ⟨ys,g3 _ _ hl,?_,xs.length-(i+1),⋯,rfl,hlt,⟨_,rfl⟩,Same.upd (g.trans g3) hD _,ys++[.ref t],aC,by rw[fO];show ys.length+1<=_;omega,?_⟩
   .have:=fH hz;omega
   .have ef:([p]:List (List Int)).filter pt=[p]:=by simp[hpt]
    rw[et,Jv,ef];exact((hy.same g3).append (.cons (g3 _ _ (g _ _ ht')) .nil)).set (g3 _ _ hl)
  |false=>
   rw[if_neg fW];refine⟨xs.length-(i+1),⋯,rfl,hlt,⟨_,rfl⟩,g.trans g3,ys,g3 _ _ hl,⋯,?_⟩;have ef:([p]:List (List Int)).filter pt=[]:=by simp[hpt]
   rw[et,Jv,ef,Aw];exact hy.same g3
 .have e:i=xs.length:=⋯;subst e;rw[lx,ni]at hy;exact .inl ⟨I.stop _ _ g (aJ _),hQ D H' ys hD g hl hy⟩
inductive avl(C:Addr)(vs:List V)(H:Hp)(Q:VK)(E:XK):Prop|mk (a:Addr) (P:List Int) (cF:vs=[.ref a]) (cG:H a=some (.tup (P.map V.int))) (cP:P.length<=40) (dh:((∀x∈P,x.natAbs<1000000)->∀H',Same H H'->Q .non H')) (dI:((∃x∈P,1000000<=x.natAbs)->∀H',Same H H'->E (.ref C) none H'))
def aw5(C:Addr):Sp:=avl C
abbrev Zk(P w K mg base dN):=j9 P w K mg base "refuse_big" 1 ["poly"] (aw5 dN)
inductive au6(vs:List V)(H:Hp)(Q:VK)(E:XK):Prop|mk (n:Nat) (cF:vs=[.int n]) (cG:n<=1000000) (cP:∀l H',Same H H'->H' l=some (.lst ((Pm.divs n).map V.int))->(Pm.divs n).length<=2002->Q (.ref l) H')
def atj:Sp:=au6
abbrev Vh:=cW "whole_divisors" 1 ["number"] atj
inductive amP(vs:List V)(H:Hp)(Q:VK)(E:XK):Prop|mk (a:Addr) (P:List Int) (cF:vs=[.ref a]) (cG:H a=some (.tup (P.map V.int))) (cP:P.length<=40) (dh:(∃x∈P,x≠0)) (dI:(∀x∈P,x.natAbs<1000000)) (eY:∀l H',Same H H'->H' l=some (.lst ((Pm.cands P).map V.int))->(Pm.cands P).length<=5000->Q (.ref l) H')
def ahH:Sp:=amP
abbrev afe:=cW "perhaps_roots" 2 ["poly"] ahH
inductive aqx(vs:List V)(H:Hp)(Q:VK)(E:XK):Prop|mk (a:Addr) (r:Int) (P:List Int) (u:Nat) (cF:vs=[.ref a,.int r]) (cG:H a=some (.tup (P.map V.int))) (cP:P.length<=40) (dh:Pm.Mon P) (dI:Rm.Bd 40 r) (eY:(∀x∈P,Rm.Bd u x)) (iW:u+P.length*1640<=200000) (mD:∀t tl H',Same H H'->H' t=some (.tup [.int ((Pm.outF P.length P r).1:Nat),.ref tl])->H' tl=some (.tup ((Pm.outF P.length P r).2.map V.int))->Q (.ref t) H')
def as3:Sp:=aqx
abbrev VD:=cW "divided_out" 3 ["poly","root"] as3
def Hf{K:aF}{a:Addr}{xs:List V}{g:TG}{tb:TS}{D:Ends}{σ:St}{H:Hp}(Pv:Nat->St->Hp->Prop)(h0:Pv 0 σ H)(Wb:∀i σ' H',Pv i σ' H'->au K H' a xs)
  (hs:∀i x σ' H',xs[i]?=some x->Pv i σ' H'->g x σ' H' λσ2 H2=>tb { D with nx:=Pv (i+1),ct:=Pv (i+1),bk:=D.nx } σ2 H2) (hd:∀σ' H',Pv xs.length σ' H'->D.nx σ' H'):
  ∃W:Nat->Nat->St->Hp->Prop,(∃m,W 0 m σ H)/\∀i m σ H,W i m σ H->
   ((lV K a).stop i H/\D.nx σ H)∨((lV K a).go i H/\∃N:St->Hp->Prop,(∀σ' H',N σ' H'->∃m',m'<m/\W (i+1) m' σ' H')/\∀x H',(lV K a).jM i H x H'->g x σ H' λσ2 H2=>tb { D with nx:=N,ct:=N,bk:=D.nx } σ2 H2):=by
 refine⟨λi m σ' H'=>m=xs.length-i/\i<=xs.length/\Pv i σ' H',⟨xs.length,by simp,cj _,h0⟩,?_⟩;rintro i m σ' H' ⟨rfl,hi,p⟩;have hq:=Wb i σ' H' p;by_cases hlt:i<xs.length
 .refine .inr ⟨⟨xs,xs[i],hq,List.getElem?_eq_getElem hlt⟩,Pv (i+1),λσ2 H2 p2=>⟨xs.length-(i+1),⋯,rfl,⋯,p2⟩,?_⟩;rintro x H2 ⟨rfl,hx⟩;exact hs i x σ' H2 (hx xs hq) p
 .have e:i=xs.length:=⋯;subst e;exact .inl ⟨⟨xs,hq,aJ _⟩,hd σ' H' p⟩
def avQ{P:List Int}(hs:∀x∈P,x.natAbs<1000000):∀z∈Pm.cands P,Rm.Bd 40 z:=λz hz=>by
 have hlow:(Pm.iV P).natAbs<1000000:=by
  unfold Pm.iV;cases e:P.filter λx=>decide (x≠0)with
  |nil=>decide
  |cons y ys=>exact hs y (qR.mp (e▸bN ..:y∈P.filter λx=>decide (x≠0))).1
 have hm:∀x∈Pm.divs (Pm.iV P).natAbs,0<x/\x<=1000000:=Pm.Aq _ ⋯ _ _ _ _ ∅ (λx hx=>(gR hx).elim) (λx hx=>(gR hx).elim);unfold Pm.cands at hz;rcases fM.mp hz with hz|hz
 .rcases fM.mp hz with hz|hz
  .obtain⟨y,hy,rfl⟩:=cB.mp hz;have:=hm y (jC.mp hy);exact Rm.Bd.of ⋯ ⋯
  .rw[dj.mp hz];exact Rm.Bd.zero _
 .have:=hm z hz;exact Rm.Bd.of ⋯ ⋯
inductive auK(C:Addr)(vs:List V)(H:Hp)(Q:VK)(E:XK):Prop|mk (a:Addr) (P:List Int) (cF:vs=[.ref a]) (cG:H a=some (.tup (P.map V.int))) (cP:P.length<=13) (dh:Pm.Mon P) (dI:((∀x∈P,x.natAbs<1000000)->∀t lr tl xs H',Same H H'->H' t=some (.tup [.ref lr,.ref tl])->H' lr=some (.lst xs)->H lr=none->cC H' xs (Pm.wr P).1->H' tl=some (.tup ((Pm.wr P).2.map V.int))->Q (.ref t) H')) (eY:((∃x∈P,1000000<=x.natAbs)->∀H',Same H H'->E (.ref C) none H'))
def ak6(C:Addr):Sp:=auK C
abbrev aam(P w K mg base dN):=j9 P w K mg base "whole_roots" 4 ["poly"] (ak6 dN)
inductive amf(C:Addr)(vs:List V)(H:Hp)(Q:VK)(E:XK):Prop|mk (v:V) (r:Rw) (cF:vs=[v]) (cG:jk H v r) (cP:(r.b=0->Q .non H)) (dh:(r.b≠0->E (.ref C) none H))
def aiH(C:Addr):Sp:=amf C
abbrev Yr(P w K mg base d9):=j9 P w K mg base "refuse_prime" 1 ["row"] (aiH d9)
inductive dg(H:Hp)(ex:List Addr):List V->List (Int×List Int)->Prop
 |nil:dg H ex [] []
 |cons {t a:Addr} {r:Int} {ts:List Int} {xs:List V} {ps:List (Int×List Int)}:H t=some (.tup [.int r,.ref a])->a∉ex->H a=some (.lst (ts.map V.int))->dg H ex xs ps->dg H ex (.ref t::xs) ((r,ts)::ps)
theorem dg.same{H H':Hp}{ex:List Addr}(g:Same H H'):∀{xs:List V} {ps:List (Int×List Int)},dg H ex xs ps->dg H' ex xs ps
 |_,_,.nil=> .nil
 |_,_,.cons h1 n h2 r=> .cons (g _ _ h1) n (g _ _ h2) (dg.same g r)
theorem dg.set{H:Hp}{D:Addr}{ys:List V}{o:HO}(hD:H D=some (.lst ys)){ex:List Addr}(hx:D∈ex):∀{xs:List V} {ps:List (Int×List Int)},dg H ex xs ps->dg (upd H D o) ex xs ps
 |_,_,.nil=> .nil
 |_,_,.cons h1 n h2 r=> .cons (by rw[bK λq=>by rw[q,hD]at h1;cases h1];exact h1) n (by rw[bK λq=>n (by rw[q];exact hx)];exact h2) (dg.set hD hx r)
theorem dg.len{H:Hp}{ex:List Addr}:∀{xs:List V} {ps:List (Int×List Int)},dg H ex xs ps->xs.length=ps.length
 |_,_,.nil=>rfl
 |_,_,.cons _ _ _ r=>by rw[fB,fB,dg.len r]
theorem dg.append{H:Hp}{ex:List Addr}:∀{xs ys:List V} {ps qs:List (Int×List Int)},dg H ex xs ps->dg H ex ys qs->dg H ex (xs++ys) (ps++qs)
 |_,_,_,_,.nil,h=>h
 |_,_,_,_,.cons h1 n h2 r,h'=> .cons h1 n h2 (dg.append r h')
theorem dg.get{H:Hp}{ex:List Addr}:∀{xs:List V} {ps:List (Int×List Int)} {i:Nat} {x:V},dg H ex xs ps->xs[i]?=some x->∃t a r ts,x = .ref t/\ps[i]?=some (r,ts)/\H t=some (.tup [.int r,.ref a])/\H a=some (.lst (ts.map V.int))
 |_,_,_,_,.nil,h=>by cases h
 |_,_,0,_,.cons h1 _ h2 _,e=>by cases e;exact⟨_,_,_,_,rfl,rfl,h1,h2⟩
 |_,_,i+1,_,.cons _ _ _ r,e=>dg.get (i:=i) r e
def take_one{α:Type}{l:List α}{i:Nat}{x:α}(h:l[i]?=some x):l.take (i+1)=l.take i++[x]:=by rw[qU,h];rfl
def Vr{α β:Type}{f:α->β}{l:List α}{i:Nat}{p:β}(h:(l.map f)[i]?=some p):∃y,l[i]?=some y/\p=f y:=by
 rw[List.getElem?_map]at h;cases e:l[i]? with
 |none=>rw[e]at h;cases h
 |some y=>rw[e]at h;cases h;exact⟨y,rfl,rfl⟩
def vI(v:V):Int:=match v with | .int k=>k|_=>0
def ZF(c:List Int):(c.map V.int).map vI=c:=by rw[cH];exact Wx c
def ZG{K:aF}{a:Addr}{xs:List V}{ps:List (List Int)}{ix:List (Option Nat)}{te:TE}{σ:St}{H1:Hp}{Q:VK}(hA:H1 a=some (.lst xs))(hp:cC H1 xs ps)(hz:xs.length<=sizeLine){rest:St}(hst:cst ix σ=none::rest)(f:List Int->V)
  (he:∀(H':Hp) (t:Addr) (c:List Int),Same H1 H'->c∈ps->H' t=some (.tup (c.map V.int))->∀k:VK,k (f c) H'->te (some (.ref t)::rest) H' k)
  (hQ:∀D,H1 D=none->Q (.ref D) (upd H1 D (.lst (ps.map f)))):kE ix (ig 0) mq te σ Q (lV K a) H1:=by
 have key:∀x∈xs,∃t p,x=V.ref t/\p∈ps/\H1 t=some (.tup (p.map V.int)):=λx hx=>by
  obtain⟨i,hi,e⟩:=jD.mp hx;obtain⟨t,p,e1,e2,e3⟩:=hp.get (i:=i) (x:=x) (by rw[List.getElem?_eq_getElem hi,e]);exact⟨t,p,e1,List.mem_of_getElem? e2,e3⟩
 have mp:∀{xs:List V} {ps:List (List Int)},cC H1 xs ps->(xs.map λx=>match x with | .ref t=>(match H1 t with|some (.tup vs)=>f (vs.map vI)|_=>V.non)|_=>V.non)=ps.map f:=λ{xs ps} h=>by
  induction h with
  |nil=>rfl
  |cons ht _ ih=>rw[cD,cD,ih];simp only[ht,ZF]
 refine qw (qx (au.of hA)) hz hst (λ_=>true) (λx=>match x with | .ref t=>(match H1 t with|some (.tup vs)=>f (vs.map vI)|_=>V.non)|_=>V.non) ?_ ?_ ?_
 .intro H2 x g2 hx k hk;exact hk
 .intro H2 x g2 hx _ k hk;obtain⟨t,p,rfl,hp2,ht⟩:=key x hx;refine he H2 t p g2 hp2 (g2 _ _ ht) k ?_;simp only[ht,ZF]at hk;exact hk
 .intro D hD;have e:=mp hp;rw[qP.mpr (by simp),e];exact hQ D hD
def aqb{K:aF}{a:Addr}{xs:List V}{ps:List (List Int)}{ix:List (Option Nat)}{te:TE}{σ:St}{H1:Hp}{Q:VK}(hA:H1 a=some (.lst xs))(hp:cC H1 xs ps)(hz:xs.length<=sizeLine){rest:St}(hst:cst ix σ=none::rest)(f:List Int->Bool)
  (he:∀(H':Hp) (t:Addr) (c:List Int),Same H1 H'->c∈ps->H' t=some (.tup (c.map V.int))->∀k:VK,k (.bl (f c)) H'->te (some (.ref t)::rest) H' k)
  (hQ:∀D,H1 D=none->Q (.ref D) (upd H1 D (.lst ((ps.map f).map V.bl)))):kE ix (ig 0) mq te σ Q (lV K a) H1:=
 ZG hA hp hz hst (λc=> .bl (f c)) he λD hD=>by have:=hQ D hD;rwa [cH]at this
def aqA{K:aF}{a:Addr}{xs:List V}{ps:List (List Int)}{ix:List (Option Nat)}{te:TE}{σ:St}{H1:Hp}{Q:VK}(hA:H1 a=some (.lst xs))(hp:cC H1 xs ps)(hz:xs.length<=sizeLine){rest:St}(hst:cst ix σ=none::rest)(f:List Int->Int)
  (he:∀(H':Hp) (t:Addr) (c:List Int),Same H1 H'->c∈ps->H' t=some (.tup (c.map V.int))->∀k:VK,k (.int (f c)) H'->te (some (.ref t)::rest) H' k)
  (hQ:∀D,H1 D=none->Q (.ref D) (upd H1 D (.lst ((ps.map f).map V.int)))):kE ix (ig 0) mq te σ Q (lV K a) H1:=
 ZG hA hp hz hst (λc=> .int (f c)) he λD hD=>by have:=hQ D hD;rwa [cH]at this
def jU(L:List (Int×List Int)):List PyData:=L.map λp=>PyData.tuple [.int p.1,.list (p.2.map JY)]
theorem abI:∀L:List (Int×List Int),C6 (jU L)=true
 |[]=>rfl
 |p::r=>by
  have h1:=JD p.2;have h2:=abI r;rw[jU,cD];rw[jU]at h2;simp[C6,Eo,h1,h2]
theorem abl:∀L:List (Int×List Int),yg (jU L)<=3
 |[]=>by simp[jU,yg]
 |p::r=>by
  have h1:=JH p.2;have h2:=abl r;rw[jU,cD];rw[jU]at h2;simp only[yg,DC];omega
theorem Zn:∀L:List (Int×List Int),DY (jU L) (jU L)=true
 |[]=>by simp[jU,DY]
 |p::r=>by
  have h:=Zn r;have h2:=abh p.2 p.2;rw[jU,cD];rw[jU]at h;simp only[DY,h,Hr];rw[pD];simp only[DY,h2,decide_true,Hr];simp[pD]
theorem dg.rd{K:aF}{H:Hp}{ex:List Addr}:∀{xs:List V} {ps:List (Int×List Int)},dg H ex xs ps->lJ K H xs (jU ps)
 |_,_,.nil=> .nil
 |_,_,.cons h1 _ h2 r=> .cons (.tup (aA.of h1) (.cons (.int _) (.cons (.lst (au.of h2) (lJ.ints _)) .nil))) (dg.rd r)
def acg{K:aF}{g:Bool->Bool}{H:Hp}{a c x y:Addr}{n:Int}{ps:List (Int×List Int)}{xs ys:List V}{e1 e2:List Addr}{Q:VK}(ha:H a=some (.tup [.int n,.ref x]))(hx:H x=some (.lst xs))(px:dg H e1 xs ps)
  (hb:H c=some (.tup [.int n,.ref y])) (hy:H y=some (.lst ys)) (py:dg H e2 ys ps) (q:Q (.bl (g true)) H):uo K g (.ref a) (.ref c) H Q:=by
 have sh:SeqAt.shaped (.tuple [.int n,.list (jU ps)])=true:=by
  have h1:=abI ps;have h2:=abl ps;simp only[SeqAt.shaped,Eo,C6,DC,yg,h1,PZ,Hr];exact decide_eq_true ⋯
 have ev:pD (.tuple [.int n,.list (jU ps)]) (.tuple [.int n,.list (jU ps)])=true:=by
  have h:=Zn ps;rw[pD];simp only[DY,pD,h,Hr];simp
 exact .inl ⟨_,_,.tup (aA.of ha) (.cons (.int n) (.cons (.lst (au.of hx) px.rd) .nil)),.tup (aA.of hb) (.cons (.int n) (.cons (.lst (au.of hy) py.rd) .nil)),sh,sh,by rw[ev];exact q⟩
structure Form(f:Nat->Int)(L:List Int)(l:List (Int×Nat))(bot:Int)(us:List Int):Prop where
 least:mL 0 f L
 wr:Pm.wr L=(l.map Pm.dX,[1])
 rp:L=Pm.RP l [1]
 up:(l.map (·.1)).Pairwise (· < ·)
 pos:∀x∈l,0<x.2
 ne:∀x∈l,x.1≠0
 rb:∀x∈l,Rm.Bd 20 x.1
 few:Cf.aL l<=6
 len:us.length=Cf.aL l
 J8:1<=bot
 gcd:Lm.fL bot.natAbs us=1
 sum:∀n,Cf.cY (Cf.cT l us) n=bot*f n
 bb:Rm.Bd 8000 bot
 bu:∀x∈us,Rm.Bd 8000 x
theorem Xe(n:Nat):∀(l m:List (Int×Nat)),Cf.gG (l++m) n=Cf.gG l n++Cf.gG m n
 |[],_=>rfl
 |(r,k)::t,m=>by
  show _++Cf.gG (t++m) n=(_++Cf.gG t n)++_;rw[Xe n t m,Ht]
theorem Xn(r:Int)(m:Nat):∀(l:List (Int×Nat)) (cs:List Int),Cf.cT (l++[(r,m)]) cs=Cf.cT l cs++[(r,(cs.drop (Cf.aL l)).take m)]
 |[],_=>rfl
 |(s,k)::t,cs=>by
  show(s,cs.take k)::Cf.cT (t++[(r,m)]) (cs.drop k)=(s,cs.take k)::(Cf.cT t (cs.drop k)++_);rw[Xn r m t,List.drop_drop,Cf.rO]
def afM:∀(l m:List (Int×Nat)),Cf.aL (l++m)=Cf.aL l+Cf.aL m:=λl m=>by unfold Cf.aL;rw[gO,DW]
def K6{l:List (Int×Nat)}{x:Int×Nat}(h:x∈l):x.2<=Cf.aL l:=by
 induction l with
 |nil=>cases h
 |cons a t ih=>
  rw[show a=(a.1,a.2)from rfl,Cf.rO];rcases bH.mp h with rfl|h
  .omega
  .have:=ih h;omega
def acJ{l:List (Int×Nat)}(h:∀x∈l,0<x.2):l.length<=Cf.aL l:=by
 induction l with
 |nil=>exact cj _
 |cons a t ih=>
  rw[show a=(a.1,a.2)from rfl,Cf.rO,fB];have:=h a (bN ..);have:=ih λx hx=>h x (cO _ hx);omega
def avU(l:List (Int×Nat))(i:Nat):Cf.aL (l.take i)<=Cf.aL l:=by
 conv=>rhs;rw[<-DN i l,afM]
 omega
def au1(xs:List V){a b:Nat}(h:a<=xs.length):jc xs (some (a:Int)) (some (b:Int))=(xs.drop a).take (b-a):=by
 unfold jc;rw[HT.uI,HT.uI,Ou h,aaI,oA];omega
inductive ako(vs:List V)(H:Hp)(Q:VK)(E:XK):Prop|mk (a e:Int) (u:Nat) (cF:vs=[.int a,.int e]) (cG:0<=e) (cP:e<=100) (dh:Rm.Bd u a) (dI:u<=1000) (eY:Q (.int (a^e.toNat)) H)
def aqv:Sp:=ako
def agD{u i:Nat}{a:Int}(hb:Rm.Bd u a)(hu:u<=1000)(hi:i<=100):IntMulOk (a^i) a:=ql (Cf.yd hb i) hb (by
 have:u*i<=1000*100:=gM hu hi;omega)
abbrev abA:=cW "power" 1 ["number","exponent"] aqv
inductive aqB(vs:List V)(H:Hp)(Q:VK)(E:XK):Prop|mk (lr:Addr) (n:Int) (xs:List V) (l:List (Int×Nat)) (cF:vs=[.ref lr,.int n]) (cG:H lr=some (.lst xs)) (cP:cC H xs (l.map Pm.dX)) (dh:0<=n) (dI:n<=10) (eY:l.length<=10) (iW:(∀x∈l,Rm.Bd 20 x.1/\x.2<=10)) (mD:∀D H',Same H H'->H D=none->H' D=some (.lst ((Cf.gG l n.toNat).map V.int))->Q (.ref D) H')
def asK:Sp:=aqB
def ahK{l:List (Int×Nat)}(n:Nat)(hl:l.length<=10)(hb:∀x∈l,Rm.Bd 20 x.1/\x.2<=10):(Cf.gG l n).length<=100:=by
 rw[Cf.Bb];have:∀t:List (Int×Nat),(∀x∈t,x.2<=10)->Cf.aL t<=10*t.length:=λt=>by
  induction t with
  |nil=>intro _;exact aJ _
  |cons a t ih=>
   intro h;rw[show a=(a.1,a.2)from rfl,Cf.rO,fB];have:=h a (bN ..);have:=ih λx hx=>h x (cO _ hx);omega
 have:=this l λx hx=>(hb x hx).2;omega
abbrev aeZ:=cW "form_line" 2 ["roots","n"] asK
inductive agb(vs:List V)(H:Hp)(Q:VK)(E:XK):Prop|mk (lr lt:Addr) (xs:List V) (l:List (Int×Nat)) (us:List Int) (cF:vs=[.ref lr,.ref lt]) (cG:H lr=some (.lst xs)) (cP:cC H xs (l.map Pm.dX)) (dh:H lt=some (.lst (us.map V.int))) (dI:us.length=Cf.aL l) (eY:l.length<=10) (iW:∀D ys H',Same H H'->H D=none->H' D=some (.lst ys)->dg H' [D] ys (Cf.cT l us)->Q (.ref D) H')
def aiB:Sp:=agb
abbrev aaP:=cW "parts_of" 1 ["roots","tops"] aiB
abbrev acL:=cW "column_of" 1 ["table","column"] Qo
abbrev aey:=cW "paper_against" 7 ["by","wide","table","wished"] Qo
inductive auc(vs:List V)(H:Hp)(Q:VK)(E:XK):Prop|mk (u wide:Nat) (ta tw:Addr) (xs:List V) (L:List (List Int)) (ws:List Int) (ex:List Addr) (cF:vs=[.int 0,.int wide,.ref ta,.ref tw]) (cG:H ta=some (.lst xs)) (cP:bJ H ex xs L) (dh:H tw=some (.lst (ws.map V.int))) (dI:ws.length=wide) (eY:L.length=wide) (iW:wide<=30) (mD:Rj 0 wide (wide+1) u (Dm.aug 0 L ws)) (oY:(∀i,i<L.length->(Dm.ln L i).length=wide)) (uH:(∀p∈L,∀x∈p,Rm.Bd u x)) (Az:(∀x∈ws,Rm.Bd u x)) (Eh:Dm.tu 0 wide wide (Dm.aug 0 L ws)) (FZ:(∀bot us,Dm.xX u 0 wide wide (Dm.aug 0 L ws) bot us->∀t lt H',Same H H'->H' t=some (.tup [.str ("one" : Str),.int bot,.ref lt])->H' lt=some (.lst (mY V.int us))->Q (.ref t) H'))
def ZD:Sp:=auc
abbrev aa5:=cW "solved" 8 ["by","wide","table","wished"] ZD
inductive ap5(C1 C2:Addr)(vs:List V)(H:Hp)(Q:VK)(E:XK):Prop|mk (v:V) (r:Rw) (cF:vs=[v]) (cG:jk H v r) (cP:r.b=0) (dh:jB r) (dI:Tame r) (eY:(∀n,n<6->Rm.Bd 600 (r.at n))) (iW:(∀L,mL 0 r.at L->L.length<=7/\∀x∈L,x.natAbs<1000000)) (mD:(∀L,mL 0 r.at L->((Pm.wr L).2≠[1]∨∃x∈(Pm.wr L).1,x.headD 0=0)->∀H',Same H H'->Q .non H')) (oY:(∀L l bot us,Form r.at L l bot us->∀t lp ys ex H',Same H H'->H' t=some (.tup [.int bot,.ref lp])->H' lp=some (.lst ys)->dg H' ex ys (Cf.cT l us)->Q (.ref t) H'))
def aw1(C1 C2:Addr):Sp:=ap5 C1 C2
def arG{P:List Int}{l:List (Int×Nat)}(hs:∀x∈P,x.natAbs<1000000)(h:∀x∈l,x.1∈Pm.cands P):∀x∈l,Rm.Bd 20 x.1:=λx hx=>by
 have hlow:(Pm.iV P).natAbs<1000000:=by
  unfold Pm.iV;cases e:P.filter λx=>decide (x≠0)with
  |nil=>decide
  |cons y ys=>exact hs y (qR.mp (e▸bN ..:y∈P.filter λx=>decide (x≠0))).1
 have hm:∀x∈Pm.divs (Pm.iV P).natAbs,0<x/\x<=1000000:=Pm.Aq _ ⋯ _ _ _ _ ∅ (λx hx=>(gR hx).elim) (λx hx=>(gR hx).elim);have hz:=h x hx;unfold Pm.cands at hz;rcases fM.mp hz with hz|hz
 .rcases fM.mp hz with hz|hz
  .obtain⟨y,hy,e⟩:=cB.mp hz;have:=hm y (jC.mp hy);exact Rm.Bd.of ⋯ ⋯
  .rw[dj.mp hz];exact Rm.Bd.zero _
 .have:=hm x.1 hz;exact Rm.Bd.of ⋯ ⋯
def avo{l:List (Int×Nat)}{n:Nat}(hn:n<=10)(hr:∀x∈l,Rm.Bd 20 x.1)(hm:∀x∈l,x.2<=6):∀x∈Cf.gG l n,Rm.Bd 300 x:=by
 induction l with
 |nil=>intro x hx;cases hx
 |cons a t ih=>
  intro x hx;rcases fM.mp (show x∈((eO a.2).map λj=>a.1^n*(n:Int)^j)++Cf.gG t n from hx)with hx|hx
  .obtain⟨j,hj,rfl⟩:=cB.mp hx;have:=iQ.mp hj;have:=hm a (bN ..);refine((Cf.yd (hr a (bN ..)) n).mul (Cf.yd (n:=10) (Rm.Bd.of (x:=(n:Int)) ⋯ ⋯) j)).mono ?_;omega
  .exact ih (λx hx=>hr x (cO _ hx)) (λx hx=>hm x (cO _ hx)) x hx
def aoN(l:List (Int×Nat)):((l.map Pm.dX).map λx=>x.getD 1 0).sum=((Cf.aL l:Nat):Int):=by
 unfold Cf.aL;induction l with
 |nil=>rfl
 |cons a t ih=>
  rw[cD,cD,iY,ih,cD,iY];show((a.2:Nat):Int)+_=_;omega
abbrev adW(P w K mg base d9 dN):=j9 P w K mg base "closed" 9 ["row"] (aw1 d9 dN)
def bh(M:List (Int×Nat)):List (Key×V):=M.map λx=>(.inl x.1,.int (x.2:Int))
theorem uq:∀{M:List (Int×Nat)},(M.map (·.1)).Nodup->∀{x:Int×Nat},x∈M->eU (bh M) (.inl x.1)=some (.int (x.2:Int))
 |y::M,hd,x,hx=>by
  have hd':y.1∉M.map (·.1)/\(M.map (·.1)).Nodup:=rK.mp hd;show eU ((.inl y.1,.int (y.2:Int))::bh M) _=_;rcases bH.mp hx with e|hx
  .subst e;rw[J2 rfl]
  .have hne:y.1≠x.1:=λe=>hd'.1 (e▸jr hx);rw[BX λe=>hne (Kc e)];exact uq hd'.2 hx
theorem Vt:∀{M:List (Int×Nat)} {r:Int},r∉M.map (·.1)->eU (bh M) (.inl r)=none
 |[],_,_=>rfl
 |y::M,r,h=>by
  have h':r≠y.1/\r∉M.map (·.1):=by simpa[not_or]using h
  show eU ((.inl y.1,.int (y.2:Int))::bh M) _=_;rw[BX λe=>h'.1 (Kc e).symm];exact Vt h'.2
def aut{M:List (Int×Nat)}{r:Int}(hd:(M.map (·.1)).Nodup)(h:r∈M.map (·.1)):(eU (bh M) (.inl r)).isSome=true:=by
 obtain⟨x,hx,rfl⟩:=cB.mp h;rw[uq hd hx];rfl
def U9{M:List (Int×Nat)}{r:Int}{m:Nat}(h:r∉M.map (·.1)):putK (bh M) (.inl r) (.int (m:Int))=bh (M++[(r,m)]):=by
 unfold putK;have e:((bh M).any λkv=>decide (kv.1 = .inl r))=false:=by
  rw[ZW];intro kv hkv;obtain⟨x,hx,rfl⟩:=cB.mp hkv;have:x.1≠r:=λz=>h (z▸jr hx);simp only[decide_eq_true_eq];exactλz=>this (Kc z)
 rw[e,if_neg ∅];unfold bh;rw[gO];rfl
def TR(M:List (Int×Nat)):(bh M).length=M.length:=aB _
def ade(M:List (Int×Nat)):(M.map λx=>(x.2:Int)).sum=(Pm.many M:Int):=by
 unfold Pm.many;induction M with
 |nil=>rfl
 |cons y M ih=>rw[cD,iY,ih,cD,iY];omega
def MQ(M:List (Int×Nat))(x:Int×Nat):Pm.many (M++[x])=Pm.many M+x.2:=by
 unfold Pm.many;rw[gO,DW];simp
def Same.MP{H1 H2:Hp}{d:Addr}{u f:HO}(h:H1 d=some u)(g:Same (upd H1 d f) H2):Same H1 (upd H2 d u):=λb o e=>by
 by_cases c:b=d
 .subst c;rw[h]at e;cases e;rw[aC]
 .rw[bK c];exact g b o (by rw[bK c];exact e)
def Zw{J:It}{vs:List V}{ix:List (Option Nat)}{te:TE}{σ:St}{H1:Hp}{Q:VK}(I:rR J vs H1)(hz:vs.length<=1000){rest:St}(hst:cst ix σ=none::rest)(G:V->List Int)
  (he:∀(H':Hp) (x:V),Same H1 H'->x∈vs->∀k:VK,(∀t' H2,Same H' H2->H2 t'=some (.tup ((G x).map V.int))->k (.ref t') H2)->te (some x::rest) H' k)
  (hQ:∀D H' ys,H1 D=none->Same H1 H'->H' D=some (.lst ys)->cC H' ys (vs.map G)->Q (.ref D) H'):
  kE ix (ig 0) mq te σ Q J H1:=by
 constructor;intro D hD;refine⟨λi m σ' H'=>m=vs.length-i/\i<=vs.length/\(∃o,σ'=o::rest)/\Same H1 H'/\∃ys,H' D=some (.lst ys)/\cC H' ys ((vs.take i).map G),⟨vs.length,by simp,cj _,⟨none,hst⟩,Same.new hD _,[],aC,.nil⟩,?_⟩;rintro i m σ' H' ⟨rfl,hi,⟨o,rfl⟩,g,ys,hl,hy⟩;by_cases hlt:i<vs.length
 .refine .inr ⟨I.go i _ g hlt,λx H2 y=>?_⟩;obtain⟨rfl,hx⟩:=I.jM i _ x H2 g y;have hx:=hx hlt;have et:vs.take (i+1)=vs.take i++[x]:=by rw[qU,hx];rfl
  change te (some x::rest) H2 _;refine he H2 x g (List.mem_of_getElem? hx) _ λt' H3 g3 h3=>⟨ys,g3 _ _ hl,?_,vs.length-(i+1),⋯,rfl,hlt,⟨_,rfl⟩,Same.upd (g.trans g3) hD _,ys++[.ref t'],aC,?_⟩
  .have:=hy.len;rw[aB,jO]at this;have:=fH hz;omega
  .rw[et,gO];exact((hy.same g3).append (.cons h3 .nil)).set (g3 _ _ hl)
 .have e:i=vs.length:=⋯;subst e;rw[ni]at hy;exact .inl ⟨I.stop _ _ g (aJ _),hQ D H' ys hD g hl hy⟩
def Ho{α β:Type}{f:α->β}{l:List α}{i:Nat}{d:α}{e:β}(h:i<l.length):(l.map f).getD i e=f (l.getD i d):=by
 rw[List.getD_eq_getElem?_getD,List.getElem?_map,List.getElem?_eq_getElem h,List.getD_eq_getElem?_getD,List.getElem?_eq_getElem h];rfl
def ZJ{α:Type}(l:List α)(d:α):((eO l.length).map λi=>l.getD i d)=l:=by
 refine List.ext_getElem? λj=>?_;rw[List.getElem?_map];by_cases c:j<l.length
 .rw[List.getElem?_range c,List.getElem?_eq_getElem c];show some (l.getD j d)=_;rw[List.getD_eq_getElem?_getD,List.getElem?_eq_getElem c];rfl
 .rw[List.getElem?_eq_none (by simpa using c),List.getElem?_eq_none ⋯];rfl
def afF{M N:List (Int×Nat)}(h:M.Perm N):Pm.many M=Pm.many N:=by
 unfold Pm.many;exact(h.map (·.2)).sum_nat
theorem cC.prs{H:Hp}:∀{xs:List V} {M:List (Int×Nat)},cC H xs (M.map Pm.dX)->oW H xs (M.map λx=>(x.1,(x.2:Int)))
 |_,[],.nil=> .nil
 |_,_::_,.cons h r=> .cons h r.prs
theorem cC.pick{H:Hp}{xs:List V}{ps:List (List Int)}(h:cC H xs ps):∀{π:List Nat},(∀i∈π,i<ps.length)->cC H (π.map λi=>xs.getD i V.non) (π.map λi=>ps.getD i [])
 |[],_=> .nil
 |i :: π,hi=>by
  have hl:=h.len;have h1:i<ps.length:=hi i (bN ..);have ex:xs[i]?=some (xs.getD i V.non):=by rw[List.getD_eq_getElem?_getD,List.getElem?_eq_getElem ⋯];rfl
  obtain⟨t,p,e,ep,ht⟩:=h.get ex;have e2:ps.getD i []=p:=by rw[List.getD_eq_getElem?_getD,ep];rfl
  show cC H (xs.getD i V.non::_) (ps.getD i []::_);rw[e,e2];exact .cons ht (h.pick λj hj=>hi j (cO _ hj))
inductive aj0(vs:List V)(H:Hp)(Q:VK)(E:XK):Prop|mk (a c:Addr) (p r:List Int) (cF:vs=[.ref a,.ref c]) (cG:H a=some (.lst (p.map V.int))) (cP:H c=some (.lst (r.map V.int))) (dh:1<=p.length) (dI:p.length<=10) (eY:1<=r.length) (iW:r.length<=10) (mD:(∀x∈p,Rm.Bd 20000 x)) (oY:(∀x∈r,Rm.Bd 20000 x)) (uH:∀l H',Same H H'->H' l=some (.lst ((Pm.rH p r).map V.int))->Q (.ref l) H')
def apU:Sp:=aj0
abbrev R3:=cW "_law_times" 1 ["_law_one","_law_other"] apU
def Il(ns:List Int)(k:Int):Int:=if(0:Int)<(ns.length:Int)then 70001+41*k*k+ns.getD (k%(ns.length:Int)).toNat 0%1000133*(k/(ns.length:Int)+7)else 70001+41*k*k
def d8(ns:List Int)(k:Int):Int:=if k<(ns.length:Int)then ns.getD k.toNat 0 else Il ns k*48271%2147483647
inductive aq6(K:aF)(vs:List V)(H:Hp)(Q:VK)(E:XK):Prop|mk (a:Addr) (ns:List Int) (k:Int) (cF:vs=[.ref a,.int k]) (cG:au K H a (ns.map V.int)) (cP:ns.length<=63) (dh:0<=k) (dI:k<=100) (eY:Q (.int (d8 ns k)) H)
def atG(K:aF):Sp:=aq6 K
abbrev BW(P w K mg base):=j9 P w K mg base "_law_at" 1 ["_law_script","_law_k"] (atG K)
structure uU(M:List (Int×Nat)):Prop where
 nd:(M.map (·.1)).Nodup
 lo:∀x∈M,1<=x.2/\x.2<=3/\-4<=x.1/\x.1<=4
 all:Pm.many M<=5
def yR(M:List (Int×Nat))(c:Int):List (Int×Nat):=if(c%9-4)∈M.map (·.1)then M else if(Pm.many M:Int)+(1+c/9%3)<=5 then M++[(c%9-4,(1+c/9%3).toNat)]else M
def Br(ns:List Int):Nat->List (Int×Nat)
 |0=>[]
 |i+1=>yR (Br ns i) (d8 ns (0+1+(0+(i:Int))))
def SV(ns:List Int):List (Int×Nat):=Br ns (d8 ns 0%5).toNat
structure v9(U M:List (Int×Nat)):Prop where
 perm:M.Perm U
 up:(M.map (·.1)).Pairwise (· < ·)
def v9.uniq{U M N:List (Int×Nat)}(h:v9 U M)(h':v9 U N):M=N:=by
 have p:M.Perm N:=h.perm.trans h'.perm.symm;have a1:M.Pairwise λx y=>x.1<y.1:=yJ.mp h.up;have a2:N.Pairwise λx y=>x.1<y.1:=yJ.mp h'.up;exact p.eq_of_pairwise (λa b _ _ h1 h2=>absurd h1 ⋯) a1 a2
inductive aml(K:aF)(vs:List V)(H:Hp)(Q:VK)(E:XK):Prop|mk (a:Addr) (ns:List Int) (cF:vs=[.ref a,.int 0,.int 5,.int 4]) (cG:au K H a (ns.map V.int)) (cP:ns.length<=63) (dh:∀l xs M H',Same H H'->H' l=some (.lst xs)->cC H' xs (M.map Pm.dX)->uU M->M.length<=4->v9 (SV ns) M->Q (.ref l) H')
def aqF(K:aF):Sp:=aml K
abbrev Pr(P w K mg base):=j9 P w K mg base "_law_roots" 2 ["_law_script","_law_at_here","_law_most","_law_wide"] (aqF K)
theorem adx:∀(l:List (Int×Nat)) (x:Int×Nat) (a:List Int),Pm.j7 (l++[x]) a=Pm.cX x.1 x.2 (Pm.j7 l a)
 |[],_,_=>rfl
 |(r,m)::t,x,a=>adx t x (Pm.cX r m a)
def atl{p:List Int}{r:Int}{b:Nat}(hp:∀z∈p,Rm.Bd b z)(hr:Rm.Bd 40 r):∀z∈Pm.mul 0 p (Pm.lin r),Rm.Bd (b+50) z:=λz hz=>by
 obtain⟨k,hk,e⟩:=jD.mp hz;rw[<-e,<-Pm.jy hk,Pm.kI,Rm.bw,Pm.Oz,Qq];refine(Rm.Bd.add (n:=b+40) ?_ ?_).mono ⋯
 .split
  .exact Rm.Bd.zero _
  .exact(Pm.jK hp _).mono ⋯
 .have h:=hr.mul (Pm.jK hp k);have h2:Rm.Bd (b+40) (r*Pm.co p k):=h.mono ⋯;unfold Rm.Bd at h2⊢;rw[CN];exact h2
inductive aie(vs:List V)(H:Hp)(Q:VK)(E:XK):Prop|mk (l:Addr) (xs:List V) (M:List (Int×Nat)) (cF:vs=[.ref l]) (cG:H l=some (.lst xs)) (cP:cC H xs (M.map Pm.dX)) (dh:M.length<=8) (dI:Pm.many M<=9) (eY:(∀x∈M,Rm.Bd 40 x.1)) (iW:∀l' H',Same H H'->H' l'=some (.lst ((Pm.j7 M [1]).map V.int))->(∀z∈Pm.j7 M [1],Rm.Bd 900 z)->Q (.ref l') H')
def aql:Sp:=aie
abbrev Qd:=cW "_law_product" 2 ["_law_roots_here"] aql
inductive apA(vs:List V)(H:Hp)(Q:VK)(E:XK):Prop|mk (i:Int) (cF:vs=[.int i]) (cG:Q (.bl true) H)
def aj5:Sp:=apA
abbrev WR:=cW "_law_whole" 1 ["_law_found"] aj5
inductive alb(vs:List V)(H:Hp)(Q:VK)(E:XK):Prop|mk (v:V) (r:Rw) (c:Int) (cF:vs=[v,.int c]) (cG:jk H v r) (cP:jB r) (dh:0<=c) (dI:c<=900) (eY:Told H Q ((r.row c.toNat).map V.int))
def al2:Sp:=alb
abbrev aac:=cW "_law_going" 1 ["_law_row","_law_count"] al2
def cU(P:List Int):List Int:=P.dropLast.reverse.map λx=>0-x
def xK(P:List Int):(cU P).length=P.length-1:=by rw[cU,aB,gU,wC]
def FJ(P:List Int):cU P=Pm.ju 0 P:=by
 refine Pm.rA (by rw[xK,Pm.qW]) λk=>?_;by_cases h:k<P.length-1
 .rw[Pm.ju,Pm.dD,if_pos h,Rm.bw];unfold cU;rw[Pm.lY (f:=λx=>0-x) ∅];congr 1;show(P.dropLast.reverse).getD k 0=P.getD (P.length-1-1-k) 0;rw[List.getD_eq_getElem?_getD,List.getElem?_reverse (by rw[wC];exact h),wC,List.getElem?_dropLast,if_pos ⋯,<-List.getD_eq_getElem?_getD]
 .rw[Pm.aX (by rw[xK];omega),Pm.aX (by rw[Pm.qW];omega)]
def TQ(P:List Int):jc (P.map V.int) none (some (-1))=P.dropLast.map V.int:=by
 unfold jc;rw[HT.vD,G9,tV,aB,List.dropLast_eq_take,vp];congr 1;show(if(-1:Int)<0 then(-1+(P.length:Int)).toNat else min (-1:Int).toNat P.length)=P.length-1;rw[if_pos ∅];omega
def E4:V->V
 |.int k=> .int (0-k)
 |_=> .non
def ai7(P:List Int):((P.dropLast.map V.int).reverse.filter λ_=>true).map E4=(cU P).map V.int:=by
 rw[qP.mpr (by simp),<-Gz,cH,cU,cH];rfl
def Ut{K:aF}{a:Addr}{P:List Int}{ix:List (Option Nat)}{σ:St}{H1:Hp}{Q:VK}(h:H1 a=some (.lst (P.dropLast.map V.int)))(hz:P.length<=1000){rest:St}(hst:cst ix σ=none::rest)
  (hQ:∀D,H1 D=none->Q (.ref D) (upd H1 D (.lst ((cU P).map V.int)))):kE ix (ig 0) mq (vO (uz λi j=>V.int (i-j)) (tC (V.int 0)) (QY 0)) σ Q (Jl K a (P.dropLast.map V.int).length) H1:=
 qw (V1 (au.of h)) (by rw[gU,aB,wC];exact fG (show P.length-1<=1000 by omega) ∅) hst (λ_=>true) E4 (λ_ _ _ _ _ hk=>hk) (λ_ x _ hx _ k hk=>by
  obtain⟨y,hy,rfl⟩:=cB.mp (jC.mp hx);exact⟨_,rfl,_,_,rfl,rfl,hk⟩) λD hD=>by rw[ai7];exact hQ D hD
structure gq(r:Rw)(rs:List Int):Prop where
 by_:r.b=0
 len:r.rule.length=r.starts.length
 short:r.rule.length<=6
 pN:∀x∈r.rule,Rm.Bd 20 x
 zQ:∀x∈r.starts,Rm.Bd 60 x
 er:Pm.aR 0 r.rule=Cf.cR rs
 ne:∀x∈rs,x≠0
 pb:Cf.pb rs<1000000
def gq.mk'{M:List (Int×Nat)}{ss:List Int}(h0:∀x∈M,x.1≠0)(h6:Cf.aL M<=6)(hp:Cf.pb (Cf.fR M)<=5000)(hl:ss.length=Cf.aL M)(hs:∀x∈ss,Rm.Bd 60 x):gq ⟨0,cU (Pm.RP M [1]),ss⟩ (Cf.fR M):=by
 obtain⟨m1,m2⟩:=Cf.qC M;have lr:(cU (Pm.RP M [1])).length=Cf.aL M:=by rw[xK,m2];rfl
 refine⟨rfl,by rw[lr,hl],by show(cU (Pm.RP M [1])).length<=6;omega,λx hx=>?_,hs,?_,λx hx=>?_,⋯⟩
 .have hx':x∈cU (Pm.RP M [1]):=hx;rw[FJ]at hx';obtain⟨k,_,rfl⟩:=Pm.vM hx';rw[Rm.bw,Cf.zF];have b:=Cf.Pg (Cf.fR M) ((Cf.cR (Cf.fR M)).length-1-1-k);exact Rm.Bd.of ⋯ ⋯
 .show Pm.aR 0 (cU (Pm.RP M [1]))=_;rw[FJ,Pm.Qm (λk=>Rm.bw _) m1,Cf.zF]
 .obtain⟨m,hm,_⟩:=Cf.Er.mp hx;exact h0 _ hm
def fP(M:List (Int×Nat)):List (Int×Nat):=M.filter λx=>!decide (x.1=0)
def avC(M:List (Int×Nat)):(M.map Pm.dX).filter (λc=>!decide (c.headD 0=0))=(fP M).map Pm.dX:=by
 rw[ab7];rfl
theorem Ml(p:Int×Nat->Bool):∀M:List (Int×Nat),Pm.many (M.filter p)<=Pm.many M
 |[]=>aJ _
 |x::M=>by
  have ih:=Ml p M;have e:Pm.many (x::M)=x.2+Pm.many M:=rfl;rw[wJ];split
  .show x.2+Pm.many (M.filter p)<=_;omega
  .omega
def uU.base{M:List (Int×Nat)}(h:uU M){ss:List Int}(hl:ss.length=Cf.aL (fP M))(hs:∀x∈ss,Rm.Bd 60 x):gq ⟨0,cU (Pm.RP (fP M) [1]),ss⟩ (Cf.fR (fP M)):=by
 have hm:Cf.aL (fP M)<=5:=fG (Ml _ M) h.all;refine gq.mk' (λx hx z=>by have:=(qR.mp hx).2;rw[decide_eq_true z]at this;cases this) ⋯ ?_ hl hs;have:=Cf.ZM (c:=4) (rs:=Cf.fR (fP M)) λr hr=>by
  obtain⟨m,hm,_⟩:=Cf.Er.mp hr;have:=h.lo _ (qR.mp hm).1;have h1:-4<=r:=this.2.2.1;have h2:r<=4:=this.2.2.2;omega
 rw[Cf.Qp]at this;have:(4+1)^Cf.aL (fP M)<=5^5:=wO ∅ hm;omega
def afD(l:List (Int×Nat)):Pm.j7 l [1]=Pm.RP l [1]:=by
 have e:=Pm.PY [1] l [1];rw[Pm.mul_one (Pm.Mon.rQ (Pm.Km l Pm.Dq).1),Pm.mul_one (Pm.Mon.rQ Pm.Dq)]at e;exact e
inductive axe(K:aF)(vs:List V)(H:Hp)(Q:VK)(E:XK):Prop|mk (a:Addr) (ns:List Int) (cF:vs=[.ref a,.int 0]) (cG:au K H a (ns.map V.int)) (cP:ns.length<=63) (dh:∀v r M H',Same H H'->jk H' v r->v9 (SV ns) M->uU M->gq r (Cf.fR (fP M))->Q v H')
def ak0(K:aF):Sp:=axe K
abbrev Zi(P w K mg base):=j9 P w K mg base "_law_closed_row" 3 ["_law_script","_law_at_here"] (ak0 K)
inductive aqR(vs:List V)(H:Hp)(Q:VK)(E:XK):Prop|mk (x y:Int) (cF:vs=[.int x,.int y]) (cG:Q (.int (jT x.natAbs y.natAbs:Nat)) H)
def apW:Sp:=aqR
abbrev abn:=cW "_law_shared" 1 ["_law_one","_law_other"] apW
theorem Ob{u:Nat}{x:Int}(hx:Rm.Bd 10 x):∀{ts:List Int},(∀c∈ts,Rm.Bd u c)->Rm.Bd (u+12*ts.length) (Cf.pv ts x)
 |[],_=>Rm.Bd.zero _
 |c::t,h=>by
  have h1:=Ob hx (ts:=t) λz hz=>h z (cO _ hz);have h2:=hx.mul h1;have h3:Rm.Bd (10+(u+12*t.length)) c:=(h c (bN ..)).mono ⋯;exact(h3.add h2).mono (by rw[fB];omega)
def ahT(ps:List (Int×List Int))(r:Int)(ts:List Int)(n:Nat):Cf.cY (ps++[(r,ts)]) n=Cf.cY ps n+r^n*Cf.pv ts (n:Int):=by
 unfold Cf.cY;rw[gO,DW];show _+(r^n*Cf.pv ts (n:Int)+0)=_;rw[dz]
def R4{ts:List Int}{x:Int}{i:Nat}(h:i<ts.length):Cf.pv (ts.drop (ts.length-(i+1))) x=Cf.pv (ts.drop (ts.length-i)) x*x+ts.getD (ts.length-1-i) 0:=by
 have e:ts.drop (ts.length-(i+1))=ts.getD (ts.length-1-i) 0::ts.drop (ts.length-i):=by
  rw[show ts.length-(i+1)=ts.length-1-i by omega,aap ⋯,show ts.length-1-i+1=ts.length-i by omega,List.getD_eq_getElem?_getD,List.getElem?_eq_getElem ⋯];rfl
 rw[e];show(_:Int)+x*_=_;rw[bR x];exact oh ..
def Lx(ps:List (Int×List Int)):Prop:=ps.length<=10/\∀p∈ps,Rm.Bd 20 p.1/\p.2.length<=10/\∀c∈p.2,Rm.Bd 8000 c
inductive aku(vs:List V)(H:Hp)(Q:VK)(E:XK):Prop|mk (lp:Addr) (n:Int) (ys:List V) (ps:List (Int×List Int)) (ex:List Addr) (cF:vs=[.ref lp,.int n]) (cG:H lp=some (.lst ys)) (cP:dg H ex ys ps) (dh:0<=n) (dI:n<=30) (eY:Lx ps) (iW:∀H',Same H H'->Q (.int (Cf.cY ps n.toNat)) H')
def awr:Sp:=aku
abbrev aei:=cW "_law_sum" 1 ["_law_parts","_law_n"] awr
def n8(ps:List (Int×List Int)):List Int:=ps.flatMap (·.2)
structure XM(bot:Int)(ps:List (Int×List Int))(D:List (Int×Nat)):Prop where
 ok:Lx ps
 pos:1<=bot
 up:(ps.map (·.1)).Pairwise (· < ·)
 ne:∀p∈ps,p.2≠[]/\Pm.co p.2 (p.2.length-1)≠0
 inD:∀p∈ps,∃m,(p.1,m)∈D/\p.2.length<=m
 gcd:Lm.fL bot.natAbs (n8 ps)=1
 nd:(D.map (·.1)).Nodup
 good:∀led,∀i≤(ps.map (·.1)).length,gW led ((ps.map (·.1)).take i).reverse=true
def qK{l:List Int}(h:l.Pairwise (· < ·)):l.Nodup:=h.imp λh=>⋯
def ahk{l m:List Int}(h:l.Pairwise (· < ·))(p:m.Perm l)(hm:m.Pairwise (·<=·)):l=m:=
 p.symm.eq_of_pairwise (λa b _ _ h1 h2=>⋯) (h.imp λh=>⋯) hm
inductive apD(vs:List V)(H:Hp)(Q:VK)(E:XK):Prop|mk (t lp d:Addr) (ys:List V) (ps:List (Int×List Int)) (ex:List Addr) (D:List (Int×Nat)) (bot:Int) (cF:vs=[.ref t,.ref d]) (cG:H t=some (.tup [.int bot,.ref lp])) (cP:H lp=some (.lst ys)) (dh:dg H ex ys ps) (dI:H d=some (.dK (bh D))) (eY:XM bot ps D) (iW:∀H',Same H H'->Q (.bl true) H')
def aoV:Sp:=apD
def Yj{K:aF}{a:Addr}{xs:List V}{ps:List (Int×List Int)}{ex:List Addr}{ix:List (Option Nat)}{te:TE}{σ:St}{H1:Hp}{Q:VK}(hA:H1 a=some (.lst xs))(hp:dg H1 ex xs ps)(hz:xs.length<=1000){rest:St}(hst:cst ix σ=none::none::rest)(G:Int×List Int->Int)
  (he:∀(H':Hp) (r:Int) (ts:List Int) (b:Addr),Same H1 H'->H' b=some (.lst (ts.map V.int))->(r,ts)∈ps->∀k:VK,k (.int (G (r,ts))) H'->te (some (.int r)::some (.ref b)::rest) H' k)
  (hQ:∀D H',H1 D=none->Same H1 H'->H' D=some (.lst ((ps.map G).map V.int))->Q (.ref D) H'):
  kE ix (Gk K 2 (BK (ig 0) (BK (ig 1) Lp))) mq te σ Q (lV K a) H1:=by
 have I:=qx (K:=K) (au.of hA);have lx:=hp.len;constructor;intro D hD;refine⟨λi m σ' H'=>m=xs.length-i/\i<=xs.length/\(∃o o',σ'=o::o'::rest)/\Same H1 H'/\H' D=some (.lst (((ps.take i).map G).map V.int)),⟨xs.length,by simp,cj _,⟨none,none,hst⟩,Same.new hD _,aC⟩,?_⟩;rintro i m σ' H' ⟨rfl,hi,⟨o,o',rfl⟩,g,hl⟩;by_cases hlt:i<xs.length
 .refine .inr ⟨I.go i _ g hlt,λx H2 y=>?_⟩;obtain⟨rfl,hx⟩:=I.jM i _ x H2 g y;obtain⟨t,b,r,ts,rfl,ep,ht,hb⟩:=(hp.same g).get (hx hlt);refine⟨t,[.int r,.ref b],rfl,.inl (.inl ht),rfl,_,[.ref b],rfl,.ref b,[],rfl,rfl,?_⟩;change te (some (.int r)::some (.ref b)::rest) H2 _;refine he H2 r ts b g hb (List.mem_of_getElem? ep) _ ⟨_,hl,?_,xs.length-(i+1),⋯,rfl,hlt,⟨_,_,rfl⟩,Same.upd g hD _,?_⟩
  .rw[aB,aB,jO];have:=fH hz;omega
  .rw[aC,take_one ep,gO,gO];rfl
 .have e:i=xs.length:=⋯;subst e;rw[lx,ni]at hl;exact .inl ⟨I.stop _ _ g (aJ _),hQ D H' hD g hl⟩
abbrev YL:=cW "_law_formed" 2 ["_law_found","_law_roots_here"] aoV
structure pO(r r':Rw):Prop where
 by_:r'.b=0
 len:r'.rule.length<=r.rule.length+4
 abL:r'.rule.length=r'.starts.length
 pN:∀x∈r'.rule,Rm.Bd 200 x
 same:∀n,r'.at n=r.at n
def vf:List (List Int):=[[1,0,1],[0,1],[-5,1],[1,1,1],[-2,0,1],[-1000007,1]]
def adB:∀i<6,2<=(Dm.ln vf i).length/\(Dm.ln vf i).length<=3/\Pm.co (Dm.ln vf i) ((Dm.ln vf i).length-1)=1/\∀x∈Dm.ln vf i,x.natAbs<2^20:=∅
def ajo{i:Nat}(h:i<6):Pm.Mon (Dm.ln vf i):=by
 have h1:=adB i h;exact⟨⋯,h1.2.2.1⟩
def agm(c:List Int):(c.reverse.map λx=>0-x)++[1]=Pm.aR 0 c:=by
 unfold Pm.aR;congr 1;refine Pm.rA (by rw[aB,gU,Pm.cu]) λk=>?_;rw[Pm.lY (f:=λx=>0-x) ∅,Pm.dD];by_cases h:k<c.length
 .rw[if_pos h,Rm.bw];congr 1;show c.reverse.getD k 0=c.getD (c.length-1-k) 0;rw[List.getD_eq_getElem?_getD,List.getElem?_reverse h,<-List.getD_eq_getElem?_getD]
 .rw[if_neg h,Pm.aX (by rw[gU];omega)];rfl
def atn(r:Rw){m n:Nat}(h:m<=n):(r.row n).take m=r.row m:=by
 refine List.ext_getElem? λi=>?_;rw[List.getElem?_take];by_cases c:i<m
 .rw[if_pos c,List.getElem?_eq_getElem (by rw[Rw.jY];omega),List.getElem?_eq_getElem (by rw[Rw.jY];omega)];have e1:=Rm.zH r.b r.rule r.starts (n:=n) (i:=i) ⋯;have e2:=Rm.zH r.b r.rule r.starts (n:=m) (i:=i) c;have f:∀k (h:i<(r.row k).length),(r.row k)[i]=(r.row k).getD i 0:=λk h=>by rw[List.getD_eq_getElem?_getD,List.getElem?_eq_getElem h];rfl
  rw[f,f];exact congrArg some (e1.trans e2.symm)
 .rw[if_neg c,List.getElem?_eq_none (by rw[Rw.jY];omega)]
def pO.mk'{r:Rw}(h0:r.b=0){W:List Int}(hm:Pm.Mon W)(hk:Pm.Kp 0 W r.at)(hl:W.length<=r.rule.length+5)(hb:∀x∈W,Rm.Bd 190 x):pO r ⟨0,cU W,r.row (W.length-1)⟩:=by
 have hp:=hm.pos;refine⟨rfl,?_,?_,λx hx=>?_,λn=>?_⟩
 .show(cU W).length<=_;rw[xK];omega
 .show(cU W).length=(r.row (W.length-1)).length;rw[xK,Rw.jY]
 .have hx':x∈cU W:=hx;rw[FJ]at hx';obtain⟨k,_,rfl⟩:=Pm.vM hx';rw[Rm.bw,sG];exact(Pm.Yn (Pm.jK hb _)).mono ∅
 .show Rm.at_ 0 (cU W) (r.row (W.length-1)) n=r.at n;rw[FJ];refine Pm.aq0 (b:=0) (w:=W) (λk=>Rm.bw _) hm hk (λn=>Rm.bw _) (Rw.jY ..) (λi hi=>?_) n;rw[Rw.jY]at hi;exact Rm.zH _ _ _ hi
def gq.CW{r:Rw}{rs:List Int}(h:gq r rs){n:Nat}(hn:n<=13):Rm.Bd 600 (r.at n):=by
 have q:=Rm.abp (b:=r.b) (rule:=r.rule) (starts:=r.starts) (a:=20) (c:=60) h.len (by rw[h.by_];decide) (by rw[h.by_];exact Rm.Bd.zero _) h.pN h.zQ n;refine q.mono ?_;have h1:=h.short;have h2:n*(20+r.rule.length)<=13*26:=gM hn ⋯;omega
def gq.ok{r:Rw}{rs:List Int}(h:gq r rs):jB r:=by
 have e:=h.by_;have:=h.short;exact⟨h.len,⋯,⋯,⋯,λx _=> .inl e,λx _=> .inl e,λx hx=>(h.pN x hx).mono ∅,λx hx=>(h.zQ x hx).mono ∅⟩
def auI{f:Nat->Int}{L P:List Int}(h:mL 0 f L)(hP:Pm.Mon P)(hk:Pm.Kp 0 P f):∃S,Pm.Mon S/\Pm.mul 0 L S=P:=by
 obtain⟨S,hS,_,_,e⟩:=Pm.zU (b:=0) rfl hP h.mon (h.all P hk);refine⟨S,hS,(Pm.qu ..).ext (Pm.Mon.rQ hP) λk=>?_⟩;rw[Pm.kI,Rm.gJ,e k,Pm.jo]
theorem gq.kp{r:Rw}{rs:List Int}(h:gq r rs):Pm.Kp 0 (Pm.aR 0 r.rule) r.at:=by
 have:=h.ok.kp
 rwa [h.by_]at this
def gq.split{r:Rw}{rs:List Int}(h:gq r rs){L:List Int}(lst:mL 0 r.at L):∃rs',rs'.Sublist rs/\L=Cf.cR rs':=by
 obtain⟨S,hS,em⟩:=auI lst (Pm.yS 0 r.rule) h.kp;exact Cf.HZ rs lst.mon hS (em.trans h.er)
def gq.small{r:Rw}{rs:List Int}(h:gq r rs){L:List Int}(lst:mL 0 r.at L):L.length<=7/\∀x∈L,x.natAbs<1000000:=by
 obtain⟨rs',hs,rfl⟩:=h.split lst;have l1:(Pm.aR 0 r.rule).length=r.rule.length+1:=Pm.j6 ..;rw[h.er,(Cf.qz rs).2]at l1;have:=h.short;have:=hs.length_le;refine⟨by rw[(Cf.qz rs').2];omega,λx hx=>?_⟩;obtain⟨k,hk,ex⟩:=jD.mp hx;have b:=Cf.Pg rs' k;rw[Pm.jy hk,ex]at b;have:=Cf.awA hs;have:=h.pb;omega
def gq.some_{r:Rw}{rs:List Int}(h:gq r rs){L:List Int}(lst:mL 0 r.at L)(hc:(Pm.wr L).2≠[1]∨∃x∈(Pm.wr L).1,x.headD 0=0):False:=by
 obtain⟨rs',hs',rfl⟩:=h.split lst;obtain⟨l,w1,w2,_,_,_,w6⟩:=Cf.atv (rs:=rs');rcases hc with hc|⟨x,hx,hz⟩
 .exact absurd w2 hc
 .rw[w1]at hx;obtain⟨y,hy,rfl⟩:=cB.mp hx;exact absurd hz (h.ne _ (hs'.subset (w6 y hy)))
def pO.ok{r r':Rw}{rs:List Int}(h0:gq r rs)(h:pO r r'):jB r':=by
 have e:=h.by_;have hs:=h0.short;have hl:=h.len;have hlS:=h.abL;refine⟨h.abL,⋯,⋯,⋯,λx _=> .inl e,λx _=> .inl e,λx hx=>(h.pN x hx).mono ⋯,λx hx=>?_⟩;obtain⟨k,hk,ex⟩:=jD.mp hx;have e1:r'.at k=r'.starts.getD k 0:=Rm.wK hk;have:x=r.at k:=by rw[<-h.same k,e1,List.getD_eq_getElem?_getD,List.getElem?_eq_getElem hk,<-ex];rfl
 rw[this];exact(h0.CW ⋯).mono ∅
def pO.tame{r r':Rw}{rs:List Int}(h0:gq r rs)(h:pO r r'):Tame r':=λ_=>by
 have hs:=h0.short;have e:r'.at=r.at:=funext h.same;exact⟨6,600,200,∅,h.pN,⟨Pm.aR 0 r.rule,Pm.yS _ _,by rw[e];exact h0.kp,by rw[Pm.j6];omega⟩,λn hn=>by rw[h.same n];exact h0.CW ⋯,λL lst=>Pm.jK λx hx=>Bl ((h0.small (e▸lst)).2 x hx) ∅,∅,∅⟩
def pO.refl{r:Rw}{rs:List Int}(h:gq r rs):pO r r:=⟨h.by_,⋯,h.len,λx hx=>(h.pN x hx).mono ∅,λ_=>rfl⟩
theorem afo:∀(l:List (Int×Nat)) (us:List Int),∀p∈Cf.cT l us,∀c∈p.2,c∈us
 |[],_,p,hp=>by cases hp
 |(r,m)::t,us,p,hp=>by
  intro c hc;rcases bH.mp (show p∈(r,us.take m)::Cf.cT t (us.drop m)from hp)with rfl|hp
  .exact Jj hc
  .exact Wi (afo t (us.drop m) p hp c hc)
theorem Hy:∀(l:List (Int×Nat)) (us:List Int),us.length=Cf.aL l->n8 (Cf.cT l us)=us
 |[],us,h=>by
  have:us=[]:=rE h;rw[this];rfl
 |(r,m)::t,us,h=>by
  rw[Cf.rO]at h;show us.take m++n8 (Cf.cT t (us.drop m))=us;rw[Hy t (us.drop m) (by rw[oA];omega),DN]
def Form.last{f:Nat->Int}{L:List Int}{l:List (Int×Nat)}{bot:Int}{us:List Int}(F:Form f L l bot us):∀p∈Cf.cT l us,p.2≠[]/\Pm.co p.2 (p.2.length-1)≠0:=λp hp=>by
 have hm:=F.pos _ (Cf.wV l us F.len p hp);have hm':0<p.2.length:=hm;have hne:p.2≠[]:=vP.mp hm';refine⟨hne,Cf.aqi (N:=Cf.aL l) (f:=f) (bot:=bot) ?_ (λq hq hk=>?_) (by rw[Cf.Av];exact Cf.qK F.up) (by have:=F.J8;omega) F.sum p hp hne⟩
 .have e:=congrArg (λt=>(t.map (·.2)).sum) (Cf.Kh l us F.len);simp only[cH]at e;exact e
 .have:=(F.least.all q hk).len rfl F.least.mon hq;rw[F.rp,(Cf.qC l).2]at this;exact this
def Form.aek{f:Nat->Int}{L:List Int}{l:List (Int×Nat)}{bot:Int}{us:List Int}(F:Form f L l bot us):Lx (Cf.cT l us):=by
 have l6:=acJ F.pos;have hN:=F.few;have lp:(Cf.cT l us).length=l.length:=by have:=congrArg Cm (Cf.Kh l us F.len);rwa [aB]at this
 refine⟨⋯,λp hp=>?_⟩;have hm:=Cf.wV l us F.len p hp;have:=K6 hm;have:p.2.length<=Cf.aL l:=this;exact⟨F.rb _ hm,⋯,λc hc=>F.bu c (afo l us p hp c hc)⟩
def Form.fmd{r:Rw}{M D:List (Int×Nat)}(h:gq r (Cf.fR M))(hsub:∀x∈M,x∈D)(QS:(M.map (·.1)).Nodup)(hnD:(D.map (·.1)).Nodup){L:List Int}{l:List (Int×Nat)}{bot:Int}{us:List Int}(F:Form r.at L l bot us)
  (hg:∀led,∀i≤(l.map (·.1)).length,gW led ((l.map (·.1)).take i).reverse=true):XM bot (Cf.cT l us) D:=by
 refine⟨F.aek,F.J8,by rw[Cf.Av];exact F.up,F.last,λp hp=>?_,by rw[Hy l us F.len];exact F.gcd,hnD,by rw[Cf.Av];exact hg⟩;have hm:=Cf.wV l us F.len p hp;obtain⟨rs',hs',e⟩:=h.split F.least;obtain⟨m,h1,h2⟩:=Cf.aa3 QS (F.rp▸e) hs' hm (F.pos _ hm);exact⟨m,hsub _ h1,h2⟩
def mL.uniq{b:Int}(h1:Rm.tk b 1=1){f:Nat->Int}{L L':List Int}(h:mL b f L)(h':mL b f L'):L=L':=by
 have d:=h.all L' h'.kp;have d':=h'.all L h.kp;have l1:=d.len h1 h.mon h'.mon;have l2:=d'.len h1 h'.mon h.mon;refine Pm.rA ⋯ λk=>?_;rw[<-h.nu k,<-h'.nu k];exact(d.same h1 h.mon h'.mon ⋯ k).symm
def abb(c:Int)(ps:List (Int×List Int))(n:Nat):Cf.cY (ps.map λp=>(p.1,p.2.map λt=>c*t)) n=c*Cf.cY ps n:=by
 unfold Cf.cY;rw[cH];have pm:∀(q:List Int) (x:Int),Cf.pv (q.map λt=>c*t) x=c*Cf.pv q x:=λq x=>by
  induction q with
  |nil=>show(0:Int)=c*0;rw[aV]
  |cons a q ih=>
   show c*a+x*Cf.pv (q.map λt=>c*t) x=c*(a+x*Cf.pv q x);rw[ih,jl,gk]
 induction ps with
 |nil=>show(0:Int)=c*0;rw[aV]
 |cons p t ih=>
  rw[cD,iY,cD,iY,ih,jl];congr 1;show p.1^n*Cf.pv (p.2.map λt=>c*t) (n:Int)=_;rw[pm,gk]
def aaw(c:Int)(ps:List (Int×List Int)):n8 (ps.map λp=>(p.1,p.2.map λt=>c*t))=(n8 ps).map λt=>c*t:=by
 unfold n8;rw[List.flatMap_map,List.map_flatMap]
theorem Form.uniq{f:Nat->Int}{L L':List Int}{l l':List (Int×Nat)}{bot bot':Int}{us us':List Int}(F:Form f L l bot us)(F':Form f L' l' bot' us'):bot=bot'/\Cf.cT l us=Cf.cT l' us':=by
 obtain rfl:=F.least.uniq rfl F'.least;have el:l=l':=by
  have:=F.wr.symm.trans F'.wr;have e:=congrArg NK this;have inj:∀{a b:List (Int×Nat)},a.map Pm.dX=b.map Pm.dX->a=b:=by
   intro a;induction a with
   |nil=>intro b h;cases b with|nil=>rfl|cons x t=>cases h
   |cons x t ih=>
    intro b h;cases b with
    |nil=>cases h
    |cons y u=>
     rw[cD,cD]at h;injection h with h1 h2;have h3:x.1=y.1/\(x.2:Int)=(y.2:Int):=by
      injection h1 with a1 a2;injection a2 with a2 _;exact⟨a1,a2⟩
     rw[ih h2,show x=y from Fw h3.1 ⋯]
  exact inj e
 subst el;have hb:=F.J8;have hb':=F'.J8;have hn:∀{us:List Int} {c:Int},c≠0->(∀p∈Cf.cT l us,p.2≠[]/\Pm.co p.2 (p.2.length-1)≠0)->∀q∈(Cf.cT l us).map (λp=>(p.1,p.2.map λt=>c*t)),Pm.co q.2 (q.2.length-1)≠0:=λ{us c} hc hl q hq=>by
  obtain⟨p,hp,rfl⟩:=cB.mp hq;show Pm.co (p.2.map λt=>c*t) ((p.2.map λt=>c*t).length-1)≠0;rw[aB,Pm.lY (f:=λt=>c*t) (by rw[aV])];intro z;rcases lF.mp z with z|z
  .exact hc z
  .exact(hl p hp).2 z
 have hf:∀(us:List Int) (c:Int),((Cf.cT l us).map λp=>(p.1,p.2.map λt=>c*t)).map (·.1)=l.map (·.1):=λus c=>by
  rw[cH];exact Cf.Av l us
 have hin:∀(us:List Int) (c:Int),∀q∈(Cf.cT l us).map (λp=>(p.1,p.2.map λt=>c*t)),q.1∈l.map (·.1):=λus c q hq=>by
  rw[<-hf us c];exact jr (f:=(·.1)) hq
 have e:=Cf.arS (R:=l.map (·.1)) (Cf.qK F.up) (λr hr=>by obtain⟨x,hx,rfl⟩:=cB.mp hr;exact F.ne x hx)
  (hin us bot') (hin us' bot) (by rw[hf];exact F.up) (by rw[hf];exact F.up) (hn ⋯ F.last) (hn ⋯ F'.last) λn=>by
   rw[abb,abb,F.sum,F'.sum,gk]
 have ef:=congrArg n8 e;rw[aaw,aaw,Hy l us F.len,Hy l us' F'.len]at ef;have nb:((bot.natAbs:Nat):Int)=bot:=⋯;have nb':((bot'.natAbs:Nat):Int)=bot':=⋯;have g1:=Lm.R0 bot'.natAbs bot.natAbs us;have g2:=Lm.R0 bot.natAbs bot'.natAbs us';rw[nb',F.gcd,ef]at g1;rw[nb,F'.gcd,uM bot.natAbs]at g2;have eb:bot'=bot:=by
  have:=g1.symm.trans g2;omega
 subst eb;refine⟨rfl,?_⟩;have inj:∀{a b:List Int},a.map (λt=>bot'*t)=b.map (λt=>bot'*t)->a=b:=by
  intro a;induction a with
  |nil=>intro b h;cases b with|nil=>rfl|cons x t=>cases h
  |cons x t ih=>
   intro b h;cases b with
   |nil=>cases h
   |cons y u=>
    rw[cD,cD]at h;injection h with h1 h2;rw[ih h2,PD ⋯ h1]
 rw[inj ef]
inductive axp(K:aF)(vs:List V)(H:Hp)(Q:VK)(E:XK):Prop|mk (a lg:Addr) (ns:List Int) (v:V) (r:Rw) (rs:List Int) (cF:vs=[.ref a,v,.ref lg]) (cG:au K H a (ns.map V.int)) (cP:ns.length<=63) (dh:jk H v r) (dI:gq r rs) (eY:H lg=some (.lst ((r.row (2*r.rule.length+4)).map V.int))) (iW:∀v' r' H',Same H H'->jk H' v' r'->pO r r'->Q v' H')
def akh(K:aF):Sp:=axp K
abbrev abF(P w K mg base):=j9 P w K mg base "_law_longer" 2 ["_law_script","_law_row","_law_going_here"] (akh K)
theorem QJ:∀{R l:List Int} {n:Nat},l.Sublist R->l.length<=n->l∈yH n R
 |[],_,_,h,_=>by rw[List.sublist_nil.mp h];unfold yH;exact dj.mpr rfl
 |x::R,l,n,h,hn=>by
  unfold yH;rcases List.sublist_cons_iff.mp h with h1|⟨r,e,h1⟩
  .exact fM.mpr (.inl (QJ h1 hn))
  .subst e;cases n with
   |zero=>rw[fB]at hn;omega
   |succ n=>exact fM.mpr (.inr (cB.mpr ⟨r,QJ h1 (by rw[fB]at hn;omega),rfl⟩))
def YW{xs:List Int}(hu:xs.Pairwise (· < ·))(hb:∀x∈xs,-4<=x/\x<=4)(h4:xs.length<=4)(led:Bool)(i:Nat):gW led (xs.take i).reverse=true:=by
 have hs:((xs.take i).reverse).Sublist [6,5,4,3,2,1,0,-1,-2,-3,-4,-5,-6]:=by
  refine Pm.Gy ∅ (Bh.mpr ((hu.sublist (M8 ..)).imp λ{a b} h=>h)) λx hx=>?_;have:=hb x (Jj (jC.mp hx));have k:x=6∨x=5∨x=4∨x=3∨x=2∨x=1∨x=0∨x=-1∨x=-2∨x=-3∨x=-4∨x=-5∨x=-6:=⋯;simpa using k
 have hl:((xs.take i).reverse).length<=4:=by rw[gU,jO];omega
 have hg:=lK.mp (alr led) _ (QJ hs ⋯);rw[zp]at hg;rcases hg with hg|hg
 .rw[ji,decide_eq_true_eq]at hg;omega
 .exact hg
structure yx(H:Hp)(v:V)(d:Addr)(r:Rw)(M D:List (Int×Nat)):Prop where
 row:jk H v r
 base:gq r (Cf.fR M)
 XC:H d=some (.dK (bh D))
 sub:∀x∈M,x∈D
 NV:(M.map (·.1)).Nodup
 ndD:(D.map (·.1)).Nodup
 good:∀xs:List Int,xs.Pairwise (· < ·)->(∀x∈xs,x∈M.map (·.1))->∀led,∀i≤xs.length,gW led (xs.take i).reverse=true
theorem yx.same{H H':Hp}(g:Same H H'){v:V}{d:Addr}{r:Rw}{M D:List (Int×Nat)}(h:yx H v d r M D):yx H' v d r M D:=⟨h.row.same g,h.base,g _ _ h.XC,h.sub,h.NV,h.ndD,h.good⟩
def ajR{xs ys:List Int}(hx:xs.Pairwise (· < ·))(hy:ys.Pairwise (· < ·))(h:∀x∈xs,x∈ys):xs.length<=ys.length:=by
 have:=(Pm.Gy (R:=ys.reverse) (l:=xs.reverse) (Bh.mpr (hy.imp λh=>h)) (Bh.mpr (hx.imp λh=>h)) λx hx=>jC.mpr (h x (jC.mp hx))).length_le
 rwa [gU,gU]at this
def uU.agw{H:Hp}{v:V}{d:Addr}{r:Rw}{U M:List (Int×Nat)}(h:uU M)(h4:M.length<=4)(hs:v9 U M)(hR:jk H v r)(hB:gq r (Cf.fR (fP M)))(hd:H d=some (.dK (bh M))):yx H v d r (fP M) M:=by
 have hu:((fP M).map (·.1)).Pairwise (· < ·):=hs.up.sublist ((List.filter_sublist ..).map _);refine⟨hR,hB,hd,λx hx=>(qR.mp hx).1,qK hu,h.nd,λxs hx hi led i _=>YW hx (λx hx=>?_) ?_ led i⟩
 .obtain⟨y,hy,rfl⟩:=cB.mp (hi x hx);exact(h.lo y (qR.mp hy).1).2.2
 .have:=ajR hx hu hi;rw[aB]at this;exact fG this (fG (Jq _ _) h4)
def Form.rin{r:Rw}{M:List (Int×Nat)}(h:gq r (Cf.fR M))(QS:(M.map (·.1)).Nodup){L:List Int}{l:List (Int×Nat)}{bot:Int}{us:List Int}(F:Form r.at L l bot us):∀x∈l.map (·.1),x∈M.map (·.1):=λx hx=>by
 obtain⟨y,hy,rfl⟩:=cB.mp hx;obtain⟨rs',hs',e⟩:=h.split F.least;obtain⟨m,h1,_⟩:=Cf.aa3 QS (F.rp▸e) hs' hy (F.pos _ hy);exact jr (f:=(·.1)) h1
def aiU{K:aF}{a:Addr}{xs:List V}{ps:List (Int×List Int)}{ex:List Addr}{ix:List (Option Nat)}{te:TE}{σ:St}{H1:Hp}{Q:VK}(hA:H1 a=some (.lst xs))(hp:dg H1 ex xs ps)(hz:xs.length<=1000){rest:St}(hst:cst ix σ=none::none::rest)(bs:List Addr)(hbs:∀b∈bs,∃o,H1 b=some o)
  (he:∀(H':Hp) (r:Int) (ts:List Int) (b:Addr),Same H1 H'->H' b=some (.lst (ts.map V.int))->∀k:VK,(∀t' b' H2,Same H' H2->H' b'=none->H2 t'=some (.tup [.int r,.ref b'])->H2 b'=some (.lst (ts.map V.int))->k (.ref t') H2)->te (some (.int r)::some (.ref b)::rest) H' k)
  (hQ:∀D H' ys,H1 D=none->Same H1 H'->H' D=some (.lst ys)->dg H' (D::bs) ys ps->Q (.ref D) H'):
  kE ix (Gk K 2 (BK (ig 0) (BK (ig 1) Lp))) mq te σ Q (lV K a) H1:=by
 have I:=qx (K:=K) (au.of hA);have lx:=hp.len;constructor;intro D hD;refine⟨λi m σ' H'=>m=xs.length-i/\i<=xs.length/\(∃o o',σ'=o::o'::rest)/\Same H1 H'/\∃ys,H' D=some (.lst ys)/\dg H' (D::bs) ys (ps.take i),⟨xs.length,by simp,cj _,⟨none,none,hst⟩,Same.new hD _,[],aC,.nil⟩,?_⟩;rintro i m σ' H' ⟨rfl,hi,⟨o,o',rfl⟩,g,ys,hl,hy⟩;by_cases hlt:i<xs.length
 .refine .inr ⟨I.go i _ g hlt,λx H2 y=>?_⟩;obtain⟨rfl,hx⟩:=I.jM i _ x H2 g y;obtain⟨t,b,r,ts,rfl,ep,ht,hb⟩:=(hp.same g).get (hx hlt);refine⟨t,[.int r,.ref b],rfl,.inl (.inl ht),rfl,_,[.ref b],rfl,.ref b,[],rfl,rfl,?_⟩;change te (some (.int r)::some (.ref b)::rest) H2 _;refine he H2 r ts b g hb _ λt' b' H3 g3 n3 h3 h4=>⟨ys,g3 _ _ hl,?_,xs.length-(i+1),⋯,rfl,hlt,⟨_,_,rfl⟩,Same.upd (g.trans g3) hD _,ys++[.ref t'],aC,?_⟩
  .have:=hy.len;rw[jO]at this;have:=fH hz;omega
  .rw[take_one ep];refine((hy.same g3).append (.cons h3 (λz=>?_) h4 .nil)).set (g3 _ _ hl) (bN ..);rcases bH.mp z with z|z
   .rw[z,hl]at n3;cases n3
   .obtain⟨o,ho⟩:=hbs _ z;rw[g _ _ ho]at n3;cases n3
 .have e:i=xs.length:=⋯;subst e;rw[lx,ni]at hy;exact .inl ⟨I.stop _ _ g (aJ _),hQ D H' ys hD g hl hy⟩
structure U3(H:Hp)(ys:List V)(bs:List Addr)(ps:List (Int×List Int)):Prop where
 len:bs.length=ys.length
 at_:∀(i:Nat) (x:V),ys[i]?=some x->∃(t b:Addr) (r:Int) (ts:List Int),x = .ref t/\bs[i]?=some b/\ps[i]?=some (r,ts)/\H t=some (.tup [.int r,.ref b])/\H b=some (.lst (ts.map V.int))
theorem dg.inn{H:Hp}{ex:List Addr}:∀{ys:List V} {ps:List (Int×List Int)},dg H ex ys ps->∃bs,U3 H ys bs ps
 |_,_,.nil=>⟨[],rfl,λi x h=>by cases h⟩
 |_,_,.cons (t:=t) (a:=a) h1 _ h2 r=>by
  obtain⟨bs,h3,h4⟩:=dg.inn r;refine⟨a::bs,by rw[fB,fB,h3],λi x hx=>?_⟩;cases i with
  |zero=>cases hx;exact⟨t,a,_,_,rfl,rfl,rfl,h1,h2⟩
  |succ i=>exact h4 i x hx
theorem U3.lst{H:Hp}{ys:List V}{bs:List Addr}{ps:List (Int×List Int)}(h:U3 H ys bs ps):∀b∈bs,∃ts:List Int,H b=some (.lst (ts.map V.int))/\∃p∈ps,p.2=ts:=λb hb=>by
 obtain⟨i,hi,e⟩:=jD.mp hb;obtain⟨t,b',r,ts,_,e1,e2,_,e3⟩:=h.at_ i _ (List.getElem?_eq_getElem (by rw[<-h.len];exact hi));rw[List.getElem?_eq_getElem hi,e]at e1;cases e1;exact⟨ts,e3,_,List.mem_of_getElem? e2,rfl⟩
def Cu(bs:List Addr)(H H':Hp):Prop:=∀b o,b∉bs->H b=some o->H' b=some o
def Cu.row{bs:List Addr}{H H':Hp}(k:Cu bs H H')(hb:∀b∈bs,∃xs,H b=some (.lst xs)){v:V}{r:Rw}(h:jk H v r):jk H' v r:=by
 have n:∀{x:Addr} {xs:List V},H x=some (.tup xs)->x∉bs:=λ{x xs} hx z=>by
  obtain⟨ys,hy⟩:=hb _ z;rw[hx]at hy;cases hy
 obtain⟨a,p,q,e,h1,h2,h3⟩:=h;exact⟨a,p,q,e,k _ _ (n h1) h1,k _ _ (n h2) h2,k _ _ (n h3) h3⟩
theorem Cu.pts{bs:List Addr}{H H':Hp}(k:Cu bs H H')(hb:∀b∈bs,∃xs,H b=some (.lst xs)){D:Addr}:∀{ys:List V} {ps:List (Int×List Int)},dg H (D::bs) ys ps->dg H' (D::bs) ys ps
 |_,_,.nil=> .nil
 |_,_,.cons h1 n h2 r=> .cons (k _ _ (λz=>by obtain⟨ys,hy⟩:=hb _ z;rw[h1]at hy;cases hy) h1) n (k _ _ (λz=>n (cO _ z)) h2) (k.pts hb r)
def aiE{H:Hp}{ys:List V}{M:List (Int×Nat)}{π:List Nat}(hT:cC H ys (M.map Pm.dX))(hp:π.Perm (eO (M.map λx=>(x.1,(x.2:Int))).length))(hw:(π.map λi=>((M.map λx=>(x.1,(x.2:Int))).getD i (0,0)).1).Pairwise (· < ·)):
  cC H (π.map λi=>ys.getD i V.non) ((π.map λi=>M.getD i (0,0)).map Pm.dX)/\(π.map λi=>M.getD i (0,0)).Perm M/\((π.map λi=>M.getD i (0,0)).map (·.1)).Pairwise (· < ·):=by
 rw[aB]at hp;have hin:∀i∈π,i<M.length:=λi hi=>iQ.mp (hp.mem_iff.mp hi);have e1:(π.map λi=>(M.map Pm.dX).getD i [])=(π.map λi=>M.getD i (0,0)).map Pm.dX:=by
  rw[cH];exact m7 λi hi=>Ho (hin i hi)
 have e2:(π.map λi=>((M.map λx=>(x.1,(x.2:Int))).getD i (0,0)).1)=(π.map λi=>M.getD i (0,0)).map (·.1):=by
  rw[cH];exact m7 λi hi=>congrArg NK (Ho (d:=(0,0)) (hin i hi))
 have e3:(π.map λi=>M.getD i (0,0)).Perm M:=by
  have h2:=hp.map λi=>M.getD i (0,0)
  rwa [ZJ]at h2
 rw[e2]at hw;have wF:=hT.pick (π:=π) (λi hi=>by rw[aB];exact hin i hi);rw[e1]at wF;exact⟨wF,e3,hw⟩
def YT:V->List Int
 |.int k=>[k,1]
 |_=>[]
def aq4{x y:Int}(hxy:x<y)(led:Bool)(h1:gW led [x]=true)(h2:gW led [y]=true)(h3:gW led [y,x]=true){xs:List Int}(hx:xs.Pairwise (· < ·))(hi:∀z∈xs,z=x∨z=y)(i:Nat):gW led (xs.take i).reverse=true:=by
 have hd:((xs.take i).reverse).Pairwise (· > ·):=Bh.mpr ((hx.sublist (M8 ..)).imp λh=>h);have hm:∀z∈(xs.take i).reverse,z=x∨z=y:=λz hz=>hi z (Jj (jC.mp hz));generalize (xs.take i).reverse=l at hd hm
 match l,hd,hm with
 |[],_,_=>cases led<;>decide +kernel
 |[p],_,hm=>
  rcases hm p (bN ..)with e|e
  .rw[e];exact h1
  .rw[e];exact h2
 |[p,q],hd,hm=>
  have hpq:p>q:=(tW.mp hd).1 q (bN ..);have a1:=hm p (bN ..);have a2:=hm q (cO _ (bN ..));have e1:p=y:=⋯;have e2:q=x:=⋯;rw[e1,e2];exact h3
 |p::q::r::t,hd,hm=>
  have h1:=tW.mp hd;have hpq:p>q:=h1.1 q (bN ..);have hqr:q>r:=(tW.mp h1.2).1 r (bN ..);have a1:=hm p (bN ..);have a2:=hm q (cO _ (bN ..));have a3:=hm r (cO _ (cO _ (bN ..)));omega
def aez{H:Hp}{v:V}{d:Addr}{x y:Int}{D:List (Int×Nat)}{ss:List Int}(hxy:x<y)(x0:x≠0)(y0:y≠0)(hb:(x.natAbs+1)*(y.natAbs+1)<=5000)(hg:∀led,gW led [x]=true/\gW led [y]=true/\gW led [y,x]=true)
  (hD:D.Perm [(x,1),(y,1)]) (l2:ss.length=2) (hs:∀z∈ss,Rm.Bd 60 z) (hR:jk H v ⟨0,cU (Pm.RP [(x,1),(y,1)] [1]),ss⟩) (hd:H d=some (.dK (bh D))):yx H v d ⟨0,cU (Pm.RP [(x,1),(y,1)] [1]),ss⟩ [(x,1),(y,1)] D:=by
 have nd:(([(x,1),(y,1)]:List (Int×Nat)).map (·.1)).Nodup:=qK (tW.mpr ⟨λz hz=>by rw[dj.mp hz];exact hxy,vL ..⟩);refine⟨hR,gq.mk' (λz hz=>?_) (by show 2<=6;decide) ?_ l2 hs,hd,λz hz=>hD.mem_iff.mpr hz,nd,(hD.map _).nodup_iff.mpr nd,λxs hx hi led i _=>aq4 hxy led (hg led).1 (hg led).2.1 (hg led).2.2 hx (λz hz=>?_) i⟩
 .rcases bH.mp hz with e|hz
  .rw[e];exact x0
  .rw[dj.mp hz];exact y0
 .show(x.natAbs+1)*((y.natAbs+1)*1)<=5000;rw[Es];exact hb
 .have:=hi z hz;simpa using this
def amz{H:Hp}{v:V}{d:Addr}{far c:Int}{n:Nat}(hf:far=(n:Int)+5∨far=-((n:Int)+5))(hn:n<995)(c0:1<=c)(c1:c<=4){N:List (Int×Nat)}{ss:List Int}(hp:N.Perm [(far,1),(c,1)])(hu:(N.map (·.1)).Pairwise (· < ·))(l2:ss.length=2)(hs:∀z∈ss,Rm.Bd 60 z)
  (hR:jk H v ⟨0,cU (Pm.RP N [1]),ss⟩) (hd:H d=some (.dK (bh [(far,1),(c,1)]))):∃r M,yx H v d r M [(far,1),(c,1)]:=by
 have hg:=λled=>as5 led hn;unfold uO at hg;have gc:∀led,gW led [c]=true:=λled=>YW (xs:=[c]) (vL ..) (λz hz=>by rw[dj.mp hz];omega) (by show 1<=4;decide) led 1;have hc:c∈([1,2,3,4]:List Int):=by
  have k:c=1∨c=2∨c=3∨c=4:=⋯;simpa using k
 rcases hf with rfl|rfl
 .have e:N=[(c,1),((n:Int)+5,1)]:=v9.uniq (U:=[((n:Int)+5,1),(c,1)]) ⟨hp,hu⟩ ⟨.swap ..,tW.mpr ⟨λz hz=>by rw[dj.mp hz];show c<(n:Int)+5;omega,vL ..⟩⟩;subst e;refine⟨_,_,aez ⋯ ⋯ ⋯ ?_ (λled=>?_) (.swap ..) l2 hs hR hd⟩
  .exact fG (gM (show c.natAbs+1<=5 by omega) (show((n:Int)+5).natAbs+1<=1000 by omega)) ∅
  .have h:=hg led;rw[ji,ji]at h;have h2:=lK.mp h.2 c hc;rw[ji]at h2;exact⟨gc led,h.1.1,h2.1⟩
 .have e:N=[(-((n:Int)+5),1),(c,1)]:=v9.uniq (U:=[(-((n:Int)+5),1),(c,1)]) ⟨hp,hu⟩ ⟨.refl _,tW.mpr ⟨λz hz=>by rw[dj.mp hz];show -((n:Int)+5)<c;omega,vL ..⟩⟩;subst e;refine⟨_,_,aez ⋯ ⋯ ⋯ ?_ (λled=>?_) (.refl _) l2 hs hR hd⟩
  .exact fG (gM (show(-((n:Int)+5)).natAbs+1<=1000 by omega) (show c.natAbs+1<=5 by omega)) ∅
  .have h:=hg led;rw[ji,ji]at h;have h2:=lK.mp h.2 c hc;rw[ji]at h2;exact⟨h.1.2,gc led,h2.2⟩
section
variable {P:Program} {w:World} {K:aF} {mg:Str->Option Value} {base:Heap}
variable {d9 dN:Addr} (B:Bt mg) (M:Ms K mg base d9 dN)
include B M
theorem aqk(F:Fn K mg "taken" TV ["by","number"]):nG P w K mg base:=by
 refine F.cal axo (λvs H Q E h=>?_) (λ_ _ _ _ _ H _ Q E hr h=>?_)
 .obtain⟨b,n,rfl,_⟩:=h;rfl
 .obtain⟨b,n,rfl,h0,q⟩:=h;refine⟨_,(aq (dF (cM (iD K hr) (pv 0) ao) (aD (aZ (pv 1))) dW) (aD (aZ (aH gK (pv 1) (pv 0))))),?_⟩;refine⟨_,rfl,_,rfl,?_⟩;refine dM (λc=>?_) (λc=>?_)
  .refine⟨_,rfl,?_⟩;have c':b=0:=dec_true c;have e:Rm.tk b n=n:=by rw[c',Rm.bw]
   rw[e]at q;exact q
  .have c':¬b=0:=dec_false c;refine⟨_,rfl,_,rfl,_,_,rfl,rfl,(⋯:(0:Int)<b),?_⟩;rw[Rm.jJ c']at q;exact q
theorem anm(F:Fn K mg "is_prime" Rk ["number"]):adM P w K mg base:=by
 refine F.cal Ol (λvs H Q E h=>?_) (λ_ _ _ _ _ H _ Q E hr h=>?_)
 .obtain⟨n,rfl,_⟩:=h;rfl
 .obtain⟨n,rfl,hn,q⟩:=h;refine⟨_,(aq (dF (cM AK (pv 0) ao) (aD (aZ oB)) dW) (aq (aG 1 Ol.nd ao) (aq (qm PassesOwn.never (cM Lg (aH v_mul (pv 1) (pv 1)) (pv 0)) (aq (dF (cM (iD K hr) (aH gK (pv 0) (pv 1)) ao) (aD (aZ oB)) dW) (aD (aG 1 Ol.nd (pad K (pv 1) ao))))) (aD (aZ oB))))),?_⟩;refine⟨_,rfl,_,_,rfl,rfl,_,rfl,?_⟩;refine dM (λc=>?_) (λc=>?_)
  .have c':(n:Int)<2:=dec_true c;exact q false ⟨λz=>absurd z ∅,λz=>by have:=z.1;omega⟩
  .have c':¬(n:Int)<2:=dec_false c;refine⟨λm σ' H'=>∃d:Nat,σ'=[some (.int n),some (.int (d:Int))]/\H'=H/\2<=d/\d<=n+1/\m=n+2-d/\∀e:Nat,2<=e->e<d->¬e∣n,⟨_,2,rfl,rfl,⋯,⋯,rfl,λe h1 h2=>⋯⟩,?_⟩;rintro m σ' H' ⟨d,rfl,rfl,h2,hdn,rfl,hd⟩;refine⟨_,rfl,_,rfl,mulL ⋯ ⋯,_,rfl,_,_,rfl,rfl,_,rfl,?_⟩;refine dM (λc2=>?_) (λc2=>?_)
   .have c2':(d:Int)*d<=n:=dec_true c2;have c2n:d*d<=n:=by exact_mod_cast c2'
    have hdl:d*1<=d*d:=uQ d ⋯;refine⟨_,λ_ _ z=>z,?_⟩;refine⟨_,rfl,_,rfl,_,_,rfl,rfl,(⋯:(0:Int)<(d:Int)),?_⟩;refine⟨_,rfl,?_⟩;refine dM (λc3=>?_) (λc3=>?_)
    .have wQ:(n:Int)%(d:Int)=0:=dec_true c3;have hdv:d∣n:=C9.mp (C8 wQ);exact q false ⟨λz=>absurd z ∅,λz=>absurd z (Om.anY h2 c2n hdv)⟩
    .have wQ:¬(n:Int)%(d:Int)=0:=dec_false c3;refine⟨_,rfl,?_⟩;exact⟨n+2-(d+1),⋯,d+1,by simp,rfl,⋯,⋯,rfl,λe h1 h3=>by
      rcases qb e d with z|z
      .exact hd e h1 z
      .have:e=d:=⋯;subst this;exactλz=>wQ (Int.emod_eq_zero_of_dvd (C9.mpr z))⟩
   .have c2':¬(d:Int)*d<=n:=dec_false c2;have c2n:¬d*d<=n:=λz=>c2' (by exact_mod_cast z);exact q true ⟨λ_=>Om.Qz ⋯ λe h1 h3 hdv=>by
     by_cases c4:e<d
     .exact hd e h1 c4 hdv
     .have:d*d<=e*e:=gM ⋯ ⋯;omega,λ_=>rfl⟩
theorem ao7(F:Fn K mg "prime_above" Qe ["number"])(Q5:adM P w K mg base):ad2 P w K mg base:=by
 refine F.cal Ly (λvs H Q E h=>?_) (λ_ _ _ _ _ H _ Q E hr h=>?_)
 .obtain⟨n,q,rfl,_⟩:=h;rfl
 .obtain⟨n,q',rfl,hq,hnq,hqb,q⟩:=h;refine⟨_,(aq (aG 1 Ly.nd (pad K (pv 0) ao)) (aq (qm PassesOwn.never (oR (lB (aO Q5 hr (ak (pv 1) aj)))) (aD (aG 1 Ly.nd (pad K (pv 1) ao)))) (aD (aZ (pv 1))))),?_⟩;refine⟨_,rfl,?_⟩;refine⟨λm σ' H'=>∃f:Nat,σ'=[some (.int n),some (.int (f:Int))]/\H'=H/\n<f/\f<=q'/\m=q'-f,⟨_,n+1,rfl,rfl,⋯,⋯,rfl⟩,?_⟩;rintro m σ' H' ⟨f,rfl,rfl,h1,h2,rfl⟩;refine⟨_,rfl,f,rfl,⋯,λb hb=>?_⟩;refine⟨b,rfl,?_⟩;cases b with
  |false=>
   refine⟨_,λ_ _ z=>z,?_⟩;refine⟨_,rfl,?_⟩;have hne:f≠q':=λe=>absurd (hb.mpr (e▸hq)) ∅;exact⟨q'-(f+1),⋯,f+1,rfl,rfl,⋯,⋯,rfl⟩
  |true=>
   refine⟨_,rfl,?_⟩;exact q f (hb.mp rfl) h1 h2
theorem aj1(F:Fn K mg "inverse" M7 ["prime","number"])(dG:nG P w K mg base):adV P w K mg base:=by
 refine F.cal xH (λvs H Q E h=>?_) (λ_ _ _ _ _ H _ Q E hr h=>?_)
 .obtain⟨P,a,rfl,_⟩:=h;rfl
 .obtain⟨P',a,rfl,hP,hPb,h0,h1,q⟩:=h;have hr2:2<=P'/\P'<2097152:=⟨hP.1,hPb⟩;refine⟨_,(aq (aG 2 xH.nd ao) (aq (aG 3 xH.nd (pv 1)) (aq (aG 4 xH.nd (aH cZ (pv 0) ao)) (aq (qm PassesOwn.never (cM qg (pv 4) ao) (aq (uE (dF (cM (iD K hr) (aH gK (pv 4) ao) ao) (aD (aG 2 xH.nd (aO dG hr (ak (pv 0) (eX (aH v_mul (pv 2) (pv 3)) aj))))) dW)) (aq (aG 3 xH.nd (aO dG hr (ak (pv 0) (eX (aH v_mul (pv 3) (pv 3)) aj)))) (aD (aG 4 xH.nd (aH xP (pv 4) ao)))))) (aD (aZ (pv 2))))))),?_⟩;refine⟨_,rfl,?_⟩;refine⟨_,rfl,_,_,rfl,rfl,?_⟩;have e0:((P':Int)-2).toNat=P'-2:=⋯;refine⟨λm σ' H'=>∃power square left:Int,σ'=[some (.int P'),some (.int a),some (.int power),some (.int square),some (.int left)]/\H'=H/\m=left.toNat/\0<=power/\power<2097152/\0<=square/\square<2097152/\0<=left/\Om.Keeps P' a (P'-2) power square left.toNat,
   ⟨_,1,a,(P':Int)-2,rfl,rfl,rfl,∅,∅,⋯,⋯,⋯,by rw[e0];exact Om.ajs _ _ _⟩,?_⟩
  rintro m σ' H' ⟨power,square,left,rfl,rfl,rfl,p0,p1,s0,s1,l0,hk⟩;refine⟨_,rfl,_,_,rfl,rfl,_,rfl,?_⟩;refine dM (λc=>?_) (λc=>?_)
  .have c':0<left:=dec_true c;refine⟨_,λ_ _ z=>z,?_⟩;have hpos:(0:Int)<(P':Int):=⋯;have jm:∀n,Rm.tk (P':Int) n=n%(P':Int):=λn=>Rm.jJ ⋯ n;refine qY.by (λσ' H2=>∃power':Int,σ'=[some (.int P'),some (.int a),some (.int power'),some (.int square),some (.int left)]/\H2=H'/\((left%2=1/\power'=power*square%(P':Int))∨(¬left%2=1/\power'=power))) (λN hN=>?_) ?_
   .refine⟨_,rfl,_,_,rfl,rfl,(∅:(0:Int)<2),_,rfl,?_⟩;refine dM (λc2=>?_) (λc2=>?_)
    .refine⟨_,rfl,_,rfl,_,rfl,mulL ⋯ ⋯,P',_,rfl,⋯,?_⟩;exact hN _ _ ⟨_,rfl,rfl,.inl ⟨dec_true c2,jm _⟩⟩
    .exact hN _ _ ⟨_,rfl,rfl,.inr ⟨dec_false c2,rfl⟩⟩
   rintro σ' H2 ⟨power',rfl,rfl,hp⟩;refine⟨_,rfl,_,rfl,_,rfl,mulL ⋯ ⋯,P',_,rfl,⋯,?_⟩;refine⟨_,rfl,_,_,rfl,rfl,⟨∅,∅⟩,?_⟩;have b1:=j4 (square*square) hpos;have b2:=j8 (square*square) hpos;have b3:=j4 (power*square) hpos;have b4:=j8 (power*square) hpos;have el:(left/2).toNat=left.toNat/2:=⋯;refine⟨_,?_,power',square*square%(P':Int),left/2,by rw[jm];rfl,rfl,rfl,?_,?_,b1,⋯,⋯,?_⟩
   .omega
   .rcases hp with⟨_,rfl⟩|⟨_,rfl⟩
    .exact b3
    .exact p0
   .rcases hp with⟨_,rfl⟩|⟨_,rfl⟩
    .omega
    .exact p1
   .rw[el];rcases hp with⟨hodd,rfl⟩|⟨hodd,rfl⟩
    .exact Om.awv hk ⋯
    .exact Om.ank hk ⋯
  .have c':left=0:=by have:=dec_false c;omega
   subst c';refine⟨_,rfl,?_⟩;exact q power p0 p1 (Om.aoA hk)
theorem agt(F:Fn K mg "over" Nq ["by","one","other"])(dG:nG P w K mg base)(U7:adV P w K mg base):Eb P w K mg base:=by
 refine F.cal avK (λvs H Q E h=>?_) (λ_ _ _ _ _ H _ Q E hr h=>?_)
 .obtain⟨P,one,other,rfl,_⟩:=h;rfl
 .obtain⟨P',one,other,rfl,hP,hPb,o0,o1,q⟩:=h;refine⟨_,(aq (dF (cM (iD K hr) (pv 0) ao) (aD adQ) dW) (aq (dF (cM (iD K hr) (aO dG hr (ak (pv 0) (ak (pv 2) aj))) ao) (aD adQ) dW) (aD (aZ (aO dG hr (ak (pv 0) (eX (aH v_mul (pv 1) (aO U7 hr (ak (pv 0) (ak (pv 2) aj)))) aj))))))),?_⟩;have hr2:2<=P'/\P'<2097152:=⟨hP.1,hPb⟩;refine⟨_,rfl,_,rfl,?_⟩;refine dM (λc=>absurd (dec_true c) ⋯) (λ_=>?_);have jm:∀n,Rm.tk (P':Int) n=n%(P':Int):=λn=>Rm.jJ ⋯ n;refine⟨_,rfl,_,rfl,P',other,rfl,⋯,_,rfl,?_⟩;have et:Rm.tk (P':Int) other=other:=by rw[jm];exact Ew ⋯ o1
  rw[et];refine dM (λc2=>absurd (dec_true c2) ⋯) (λ_=>?_);refine⟨_,rfl,_,rfl,_,rfl,_,rfl,P',other,rfl,hP,hPb,o0,o1,λx x0 x1 hx=>?_⟩;refine⟨mulR ⋯ ⋯,P',_,rfl,⋯,?_⟩;rw[jm,Om.mod_mul (rfl:one%(P':Int)=one%(P':Int)) hx];exact q
theorem ajC(F:Fn K mg "trimmed" Pq ["numbers"]):GZ P w K mg base:=by
 refine F.cal Oo (λvs H Q E h=>?_) (λ_ _ _ _ _ H _ Q E hr h=>?_)
 .obtain⟨l,xs,rfl,_⟩:=h;rfl
 .obtain⟨l,xs,rfl,hL,q⟩:=h;refine⟨_,(aq (aG 1 Oo.nd (cL K B.cN (ak (pv 0) aj))) (aq (qm PassesOwn.never (PW.pt (afI (cM qg (pv 1) ao) (Y0 (cM (iD K hr) (aM K (pv 0) (aH cZ (pv 1) ao)) ao)))) (aD (aG 1 Oo.nd (aH cZ (pv 1) ao)))) (aD (aZ (kZ (oZ K) rfl B.lZ boot_tuple (aN (rP (rF K) (pv 0) uK (pZ (pv 1))) aj)))))),?_⟩;have lL:(xs.map V.int).length=xs.length:=aB _;refine⟨_,rfl,.ref l,xs.length,rfl,.inl ⟨_,hL,lL.symm⟩,?_⟩;refine⟨λm σ' H'=>∃n:Nat,m=n/\n<=xs.length/\σ'=[some (.ref l),some (.int (n:Int))]/\H'=H/\Pm.trim (xs.take n)=Pm.trim xs,⟨_,xs.length,rfl,aJ _,rfl,rfl,by rw[ni]⟩,?_⟩;rintro m σ' H' ⟨n,e0,hn,rfl,rfl,ht⟩;refine⟨_,rfl,_,_,rfl,rfl,_,rfl,?_⟩;refine dM (λc=>?_) (λc=>gC ?_)
  .have h0:0<n:=by have:=dec_true c;omega
   have e1:((n:Int)-1).toNat=n-1:=⋯;refine⟨_,rfl,_,rfl,_,_,rfl,rfl,_,_,.inl hL,eG (ns:=xs) (⋯:(0:Int)<=(n:Int)-1) ⋯,_,rfl,?_⟩;refine dM (λc2=>?_) (λc2=>?_)
   .have hz:=dec_true c2;rw[e1]at hz;refine⟨_,λ_ _ z=>z,?_⟩;refine⟨_,rfl,_,_,rfl,rfl,?_⟩;refine⟨n-1,⋯,n-1,rfl,⋯,?_,rfl,as4 h0 hn ht hz⟩;rw[show((n-1:Nat):Int)=(n:Int)-1 by omega];rfl
   .have hz:=dec_false c2;rw[e1]at hz;refine⟨_,rfl,_,rfl,_,rfl,.inl ⟨_,hL,λp hp=>?_⟩⟩;refine⟨p,_,rfl,.inl ⟨au.of aC,λp2 hp2=>?_⟩⟩;refine q p2 _ ((Same.new hp _).trans (Same.new hp2 _)) ?_;rw[aC,Dz,<-vp,WH hn ht (.inr hz)]
  .have h0:n=0:=by have:=dec_false c;omega
   refine⟨_,rfl,_,rfl,_,rfl,.inl ⟨_,hL,λp hp=>?_⟩⟩;refine⟨p,_,rfl,.inl ⟨au.of aC,λp2 hp2=>?_⟩⟩;refine q p2 _ ((Same.new hp _).trans (Same.new hp2 _)) ?_;rw[aC,Dz,<-vp,WH hn ht (.inl h0)]
theorem asW(F:Fn K mg "divided" SQ ["by","one","other"])(dG:nG P w K mg base)(rz:GZ P w K mg base):Ey P w K mg base:=by
 refine F.cal wu (λvs H Q E h=>?_) (λ_ _ _ _ _ H _ Q E hr h=>?_)
 .obtain⟨b,a,c,P,M,rfl,_⟩:=h;rfl
 .obtain⟨b,a,c,P,M,rfl,hb,hb1,hA,hC,zA,zC,hM,nP,bA,bC,q⟩:=h;refine⟨_,(aq (aG 3 wu.nd (aH cZ (cL K B.cN (ak (pv 2) aj)) ao)) (aq (aG 4 wu.nd (aH v_mul (f9 (bZ ao aj)) (gY (ajD rfl) rfl B.auV boot_max (bZ ao (eX (aH cZ (cL K B.cN (ak (pv 1) aj)) (pv 3)) aj))))) (aq (aG 5 wu.nd (kZ (xlist K) rfl B.xJ boot_list (ak (pv 1) aj))) (aq (fY PassesOwn.never rfl (avF rfl B.gw (eX (aH cZ (cL K B.cN (ak (pv 4) aj)) ao) (Dr (tK tG ao) (Dr (tK tG ao) aj)))) (aY 6 wu.nd) (aq (aG 7 wu.nd (aM K (pv 5) (pad K (pv 6) (pv 3)))) (aq (v7 (pv 7) (yc (pv 4) (pv 6) set_list)) (aD (fY PassesOwn.never rfl (iB rfl B.gw (aN (cL K B.cN (ak (pv 2) aj)) aj)) (aY 8 wu.nd) (aD (v7 (aO dG hr (ak (pv 0) (eX (aH cZ (aM K (pv 5) (pad K (pv 6) (pv 8))) (aH v_mul (pv 7) (aM K (pv 2) (pv 8)))) aj))) (yc (pv 5) (pad K (pv 6) (pv 8)) set_list)))))))) (aD (aZ (gb (aN (aO rz hr (ak (pv 4) aj)) (aN (aO rz hr (ak (pv 5) aj)) aj))))))))),?_⟩;have lP:(P.map V.int).length=P.length:=aB _;have lM:(M.map V.int).length=M.length:=aB _;have hMp:=hM.pos;refine⟨_,rfl,.ref c,M.length,rfl,.inr ⟨_,aA.of hC,lM.symm⟩,_,_,rfl,rfl,?_⟩;refine⟨(by show 1<=sizeLine;decide),λl0 h0=>?_⟩;have g0:=Same.new h0 (.lst [.int 0]);refine⟨_,rfl,.ref a,P.length,rfl,.inr ⟨_,aA.of (g0 _ _ hA),lP.symm⟩,_,rfl,_,_,rfl,rfl,_,_,rfl,?_⟩;have en:(if(P.length:Int)-((M.length:Int)-1)>0 then(P.length:Int)-((M.length:Int)-1)else 0).toNat=P.length-(M.length-1):=(max_zero P.length M.length).resolve_right ⋯;refine⟨_,aC,?_,?_,?_,λlo hlo=>?_⟩
  .split<;>omega
  .split<;>omega
  .rw[en];show 1*(P.length-(M.length-1))<=sizeLine;rw[vW];exact iM (fH ⋯)
  rw[en,Ud];have aj8:H lo=none:=g0.free hlo;have g1:=g0.trans (Same.new hlo (.lst ((Pm.aP (P.length-(M.length-1)) λ_=>0).map V.int)));have Qx:(upd (upd H l0 (.lst [.int 0])) lo (.lst ((Pm.aP (P.length-(M.length-1)) λ_=>0).map V.int))) lo=some (.lst ((Pm.aP (P.length-(M.length-1)) λ_=>0).map V.int)):=aC;generalize upd (upd H l0 (.lst [.int 0])) lo (.lst ((Pm.aP (P.length-(M.length-1)) λ_=>0).map V.int))=H1 at g1 Qx;refine⟨_,rfl,a,_,rfl,.inr (aA.of (g1 _ _ hA)),λll hll=>?_⟩;have agP:H ll=none:=g1.free hll;have hne:lo≠ll:=nZ Qx hll;have Mg:=Same.new hll (.lst (P.map V.int));have g2:=g1.trans Mg;have Fb:=Mg _ _ Qx;have hL2:(upd H1 ll (.lst (P.map V.int))) ll=some (.lst (P.map V.int)):=aC;generalize upd H1 ll (.lst (P.map V.int))=H2 at Mg g2 Fb hL2;generalize hn:P.length-(M.length-1)=n at Fb;refine⟨_,rfl,.ref lo,n,rfl,.inl ⟨_,au.of Fb,by rw[aB,Pm.cu]⟩,_,_,rfl,rfl,_,rfl,_,rfl,(n:Int)-1,-1,rfl,⟨⋯,⋯,⋯,⋯⟩,?_⟩;refine avw (lo:=(n:Int)-1) (n:=((n:Int)-1-(-1)).toNat) (λi σ' H'=>∃o6 o7 o8 O L,σ'=[some (.int b),some (.ref a),some (.ref c),some (.int ((M.length:Int)-1)),some (.ref lo),some (.ref ll),o6,o7,o8]/\Same H H'/\H' lo=some (.lst (mY V.int O))/\H' ll=some (.lst (mY V.int L))/\Pm.qF b P M (n-i) O L/\(∀k,Rm.Bd (300000+i*124001) (Pm.co O k))/\∀k,Rm.Bd (300000+i*124001) (Pm.co L k))
   ⟨_,_,_,_,P,rfl,g2,Fb,hL2,(by rw[tV,<-hn];exact Pm.qF.start nP),λk=>by rw[Pm.dD];split<;>exact Rm.Bd.zero _,λk=>(Pm.jK bA k).mono ⋯⟩ ?_ ?_
  .rintro i σ' H' hi ⟨o6,o7,o8,O,L,rfl,g,hO,hL,I,bO,bL⟩;have hi':i<n:=⋯;have hs:n-i=n-(i+1)+1:=⋯;rw[hs]at I;generalize es:n-(i+1)=s at I;have esI:(n:Int)-1-(i:Int)=(s:Int):=⋯;rw[esI];have hlL:=I.ll;have hlO:=I.ol;have lO:(O.map V.int).length=O.length:=aB _;have e1:((s:Int)+((M.length:Int)-1)).toNat=s+(M.length-1):=⋯;refine⟨_,rfl,_,rfl,_,rfl,_,_,.inl (au.of hL),eG (ns:=L) (⋯:(0:Int)<=(s:Int)+((M.length:Int)-1)) ⋯,?_⟩;rw[e1];have hF:Rm.Bd (300000+i*124001) (L.getD (s+(M.length-1)) 0):=bL _;have eF:L.getD (s+(M.length-1)) 0=Pm.co L (s+(M.length-1)):=rfl;rw[eF]at hF⊢;generalize hf:Pm.co L (s+(M.length-1))=f at hF;refine⟨_,rfl,_,rfl,_,rfl,lo,_,_,s,rfl,rfl,hO,xr rfl (by rw[lO];omega),?_⟩;have hO3:(upd H' lo (.lst ((O.map V.int).set s (.int f)))) lo=some (.lst ((O.set s f).map V.int)):=by rw[aC,Gn]
   have m6:(upd H' lo (.lst ((O.map V.int).set s (.int f)))) ll=some (.lst (L.map V.int)):=by rw[bK hne.symm];exact hL
   have g3:=g.upd aj8 (.lst ((O.map V.int).set s (.int f)));generalize upd H' lo (.lst ((O.map V.int).set s (.int f)))=H3 at hO3 m6 g3;refine⟨_,rfl,.ref c,M.length,rfl,.inr ⟨_,aA.of (g3 _ _ hC),lM.symm⟩,?_⟩;refine⟨(M.length:Int),rfl,(⋯:-(2^62)<=(M.length:Int)),(⋯:(M.length:Int)<2^62),?_⟩;refine jH (lo:=0) (n:=(M.length:Int).toNat) (λt σ' H'=>∃o8 L',σ'=[some (.int b),some (.ref a),some (.ref c),some (.int ((M.length:Int)-1)),some (.ref lo),some (.ref ll),some (.int (s:Int)),some (.int f),o8]/\Same H H'/\H' lo=some (.lst ((O.set s f).map V.int))/\H' ll=some (.lst (mY V.int L'))/\L'.length=L.length/\∀k,Pm.co L' k=Pm.lf b f s t L M k)
    ⟨_,L,rfl,g3,hO3,m6,rfl,λk=>(Pm.alF ..).symm⟩ ?_ ?_
   .rintro t σ' H4 ht ⟨o8,L',rfl,g4,MN,vN,Ny,yU⟩;have ht':t<M.length:=⋯;have VB:(L'.map V.int).length=L'.length:=aB _;have e2:((s:Int)+(0+(t:Int))).toNat=s+t:=⋯;have e3:(0+(t:Int)).toNat=t:=⋯;refine⟨_,rfl,_,rfl,_,rfl,_,rfl,_,_,.inl (au.of vN),eG (ns:=L') (⋯:(0:Int)<=(s:Int)+(0+(t:Int))) ⋯,?_⟩;refine⟨_,rfl,_,rfl,_,rfl,_,_,.inr (aA.of (g4 _ _ hC)),eG (ns:=M) (⋯:(0:Int)<=0+(t:Int)) ⋯,?_⟩;refine⟨ql hF (Rm.Bd.getD bC _) (by have:i*124001<=40*124001:=qG _ ⋯;omega),_,_,rfl,rfl,?_⟩;refine⟨b,_,rfl,hb,?_⟩;refine⟨_,rfl,_,rfl,_,rfl,ll,_,_,s+t,rfl,rfl,vN,xr ⋯ (by rw[VB];omega),?_⟩;refine⟨_,L'.set (s+t) _,rfl,g4.upd agP _,(by rw[bK hne];exact MN),(by rw[aC,Gn]),(by rw[oJ];exact Ny),λk=>?_⟩;rw[Pm.Ay _ _ _ _ ⋯,Pm.awV,e2,e3,<-yU k];by_cases ek:k=s+t
    .rw[if_pos ek,if_pos ek,ek];rfl
    .rw[if_neg ek,if_neg ek]
   .rintro σ' H4 ⟨o8,L',rfl,g4,MN,vN,Ny,yU⟩;rw[fQ]at yU;refine⟨_,_,_,O.set s f,L',rfl,g4,MN,vN,?_,λk=>?_,λk=>?_⟩
    .rw[<-hf];rw[<-hf]at yU;exact I.step hM ⋯ Ny yU
    .rw[Pm.Ay _ _ _ _ ⋯];split
     .exact hF.mono ⋯
     .exact(bO k).mono ⋯
    .rw[yU k];exact(Pm.amW hb hb1 ⋯ hF bL bC k).mono ⋯
  .rintro σ' H' ⟨o6,o7,o8,O,L,rfl,g,hO,hL,I,bO,bL⟩;have e9:((n:Int)-1-(-1)).toNat=n:=⋯;rw[e9]at I bO bL;rw[pU]at I;refine⟨_,rfl,lo,O,rfl,au.of hO,λt1 H3 g3 h3=>?_⟩;refine⟨_,rfl,ll,L,rfl,au.of (g3 _ _ hL),λt2 H4 g4 h4=>?_⟩;refine⟨(by show 2<=sizeLine;decide),λt ht=>?_⟩;have gt:=Same.new ht (.tup [.ref t1,.ref t2]);have hz:300000+n*124001<=5300000:=by have:n*124001<=40*124001:=qG _ ⋯;omega
   refine q t t1 t2 (Pm.trim O) (Pm.trim L) _ (g.trans (g3.trans (g4.trans gt))) aC (gt _ _ (g4 _ _ h3)) (gt _ _ h4) (I.stop hM) (λz hz'=>(ae7 bO z hz').mono hz) (λz hz'=>(ae7 bL z hz').mono hz) ?_;have:=Pm.vB O;have:=I.ol;omega
theorem ak7(F:Fn K mg "monic" Ph ["prime","poly"])(oX:Eb P w K mg base):abB P w K mg base:=by
 refine F.cal aeC (λvs H Q E h=>?_) (λ_ _ _ _ _ H _ Q E hr h=>?_)
 .obtain⟨P,a,p,rfl,_⟩:=h;rfl
 .obtain⟨P',a,p,rfl,hP,hPb,hA,zA,pP,q⟩:=h;refine⟨_,(aq (dF (cM (iD K hr) (cL K B.cN (ak (pv 1) aj)) ao) (aD (aZ (gb aj))) dW) (aq (iZ (i:=2) aeC.nd rfl (gP rfl) (aM K (pv 1) (aH cZ (cL K B.cN (ak (pv 1) aj)) ao))) (aD (aZ (kZ (oZ K) rfl B.lZ boot_tuple (aN (gF (sc:=apx) (N:=["number","last","prime"]) (ix:=[none,some 2,some 0]) d7 rfl (gh K (pv 1)) (λcl C s₀ H₀ ex=>⟨(aY 0 dU),eV,(aO oX hr (ak (pv 2) (ak (pv 0) (ak (pv 1) aj))))⟩)) aj)))))),?_⟩;have hr2:2<=P'/\P'<2097152:=⟨hP.1,hPb⟩;have lP:(p.map V.int).length=p.length:=aB _;refine⟨_,rfl,.ref a,p.length,rfl,.inr ⟨_,aA.of hA,lP.symm⟩,_,rfl,?_⟩;refine dM (λc=>?_) (λc=>?_)
  .have c':(p.length:Int)=0:=dec_true c;have e:p=[]:=rE ⋯;subst e;exact⟨cj _,λt ht=>q t [] _ (Same.new ht _) aC (Pm.vQ.nil _)⟩
  .have c':¬(p.length:Int)=0:=dec_false c;have hn:p≠[]:=λe=>c' (by rw[e];rfl);have hpos:0<p.length:=⋯;have e1:((p.length:Int)-1).toNat=p.length-1:=⋯;refine⟨_,rfl,_,rfl,.ref a,p.length,rfl,.inr ⟨_,aA.of hA,lP.symm⟩,_,_,rfl,rfl,_,_,.inr (aA.of hA),eG (ns:=p) (⋯:(0:Int)<=(p.length:Int)-1) ⋯,?_⟩;rw[e1];have l0:=Pm.uc hn pP.tr;have l1:=pP.co (p.length-1);rw[Rm.jJ ⋯]at l1;have r0:0<=Pm.co p (p.length-1):=by rw[<-l1];exact rG _ ⋯
   have r1:Pm.co p (p.length-1)<(P':Int):=by rw[<-l1];exact sV _ ⋯
   refine⟨_,rfl,a,rfl,.inr ⟨⟨_,aA.of hA⟩,QW hA ⋯ rfl (λx=>x*(Pm.co p (p.length-1))^(P'-2)%(P':Int)) ?_ ?_⟩⟩
   .intro H2 x g2 hx k hk;exact⟨_,rfl,_,rfl,_,rfl,P',x,_,rfl,hP,hPb,by show 0<Pm.co p (p.length-1);omega,r1,hk⟩
   .intro D hD;refine⟨D,_,rfl,.inl ⟨au.of aC,λt ht=>?_⟩⟩;exact q t (Pm.sY P' p) _ ((Same.new hD _).trans (Same.new ht _)) aC (Pm.ash hP pP hn)
theorem ak8(F:Fn K mg "greatest" QK ["by","one","other"])(Ce:abB P w K mg base)(nR:Ey P w K mg base):Lb P w K mg base:=by
 refine F.cal zG (λvs H Q E h=>?_) (λ_ _ _ _ _ H _ Q E hr h=>?_)
 .obtain⟨P,a,c,p,r,rfl,_⟩:=h;rfl
 .obtain⟨P',a,c,p,r,rfl,hP,hPb,hA,hC,zA,zC,pP,pR,hne,q⟩:=h;refine⟨_,(aq (aG 3 zG.nd (aO Ce hr (ak (pv 0) (ak (pv 1) aj)))) (aq (aG 4 zG.nd (aO Ce hr (ak (pv 0) (ak (pv 2) aj)))) (aq (qm PassesOwn.never (cM qg (cL K B.cN (ak (pv 4) aj)) ao) (aq (aG 5 zG.nd (aM K (aO nR hr (ak (pv 0) (ak (pv 3) (ak (pv 4) aj)))) ao)) (aq (aG 3 zG.nd (pv 4)) (aD (aG 4 zG.nd (aO Ce hr (ak (pv 0) (ak (pv 5) aj)))))))) (aD (aZ (pv 3)))))),?_⟩;have hr2:2<=P'/\P'<2097152:=⟨hP.1,hPb⟩;refine⟨_,rfl,_,rfl,P',a,p,rfl,hP,hPb,hA,⋯,pP,λtg g0 H1 g1 hG mG=>?_⟩;refine⟨_,rfl,_,rfl,P',c,r,rfl,hP,hPb,g1 _ _ hC,⋯,pR,λts s0 H2 g2 hS' mS=>?_⟩;have lg0:=mG.len;have ls0:=mS.len;refine⟨λm σ' H'=>∃(o5:Option V) (tg ts:Addr) (g s:List Int),m=s.length/\σ'=[some (.int P'),some (.ref a),some (.ref c),some (.ref tg),some (.ref ts),o5]/\Same H H'/\H' tg=some (.tup (g.map V.int))/\H' ts=some (.tup (s.map V.int))/\Pm.uf P' p r g s/\g.length<=max p.length r.length/\s.length<=max p.length r.length,
   ⟨_,_,tg,ts,g0,s0,rfl,rfl,g1.trans g2,g2 _ _ hG,hS',Pm.uf.start mG mS hne,⋯,⋯⟩,?_⟩
  rintro m σ' H' ⟨o5,tg,ts,gg,ss,rfl,rfl,g,hG,hS',I,zg,zs⟩;have lS:(ss.map V.int).length=ss.length:=aB _;refine⟨_,rfl,.ref ts,ss.length,rfl,.inr ⟨_,aA.of hS',lS.symm⟩,_,_,rfl,rfl,_,rfl,?_⟩;refine dM (λcc=>?_) (λcc=>?_)
  .have hs:ss≠[]:=λe=>by have:=dec_true cc;rw[e]at this;simp at this
   have hMs:=I.sm_ hs;refine⟨_,λ_ _ z=>z,?_⟩;refine⟨_,rfl,_,rfl,_,rfl,P',tg,ts,gg,ss,rfl,⋯,⋯,hG,hS',⋯,⋯,hMs,I.gy.co,(λx hx=>(PJ hr2.1 hr2.2 I.gy x hx).mono ∅),PJ hr2.1 hr2.2 I.sy,λt x y o l H3 g3 hT hX hY D _ _ _=>?_⟩;refine⟨_,_,.inr (aA.of hT),rfl,?_⟩;refine⟨_,rfl,?_⟩;have hsh:=D.short;refine⟨_,rfl,_,rfl,P',y,l,rfl,hP,hPb,hY,⋯,D.ry,λtm m H4 g4 hM mM=>?_⟩;have lm:=mM.len;exact⟨m.length,⋯,_,ts,tm,ss,m,rfl,rfl,g.trans (g3.trans g4),(g3.trans g4) _ _ hS',hM,I.step hs D mM,zs,⋯⟩
  .have hs:ss=[]:=rE (by have:=dec_false cc;omega);refine⟨_,rfl,?_⟩;exact q tg gg H' g hG (I.stop hs) zg
theorem auh(F:Fn K mg "nearest" Ux ["modulus","number"]):Pj P w K mg base:=by
 refine F.cal V6 (λvs H Q E h=>?_) (λ_ _ _ _ _ H _ Q E hr h=>?_)
 .obtain⟨M,x,rfl,_⟩:=h;rfl
 .obtain⟨M,x,rfl,hM,q⟩:=h;refine⟨_,(aq (aG 2 V6.nd (aH gK (pv 1) (pv 0))) (aD (aZ (acC (cM qg (aH v_mul ao (pv 2)) (pv 0)) (aH cZ (pv 2) (pv 0)) (pv 2))))),?_⟩;refine⟨_,rfl,_,rfl,_,_,rfl,rfl,hM,?_⟩;refine⟨_,rfl,mulL ∅ ∅,_,rfl,_,_,rfl,rfl,_,rfl,?_⟩;refine dM (λc=>?_) (λc=>?_)
  .have c':2*(x%M)>M:=dec_true c;refine⟨_,rfl,_,rfl,_,_,rfl,rfl,?_⟩;have e:Pm.nr M x=x%M-M:=if_pos c';rw[e]at q;exact q
  .have c':¬2*(x%M)>M:=dec_false c;refine⟨_,rfl,?_⟩;have e:Pm.nr M x=x%M:=if_neg c';rw[e]at q;exact q
theorem ahx(F:Fn K mg "joined" Qn ["modulus","number","prime","rest"])(oX:Eb P w K mg base)(dG:nG P w K mg base)(zy:Pj P w K mg base):Ye P w K mg base:=by
 refine F.cal ae5 (λvs H Q E h=>?_) (λ_ _ _ _ _ H _ Q E hr h=>?_)
 .obtain⟨M,t,p,s,rfl,_⟩:=h;rfl
 .obtain⟨M,t,p,s',rfl,hp,hpb,hM,yh,q⟩:=h;refine⟨_,(aq (aG 4 ae5.nd (aO oX hr (ak (pv 2) (aN (aO dG hr (ak (pv 2) (eX (aH cZ (pv 3) (pv 1)) aj))) (aN (aO dG hr (ak (pv 2) (ak (pv 0) aj))) aj))))) (aD (aZ (aO zy hr (eX (aH v_mul (pv 0) (pv 2)) (eX (pad K (pv 1) (aH v_mul (pv 0) (pv 4))) aj)))))),?_⟩;have h2:=hp.1;have hp0:(p:Int)≠0:=⋯;have r0:=rG M hp0;have r1:=sV M (show(0:Int)<p by omega);have rn:M%(p:Int)≠0:=λz=>yh (C8 z);have et:Rm.tk (p:Int) M=M%(p:Int):=Rm.jJ hp0 M;refine⟨_,rfl,_,rfl,_,rfl,_,rfl,_,_,rfl,rfl,p,_,rfl,⋯,?_⟩;refine⟨_,rfl,_,rfl,p,M,rfl,⋯,?_⟩;refine⟨p,_,_,rfl,hp,hpb,by rw[et];omega,by rw[et];exact r1,?_⟩;have hw:=Pm.auS (M:=M) (t:=t) (s:=s') hp;refine⟨_,rfl,_,rfl,mulR ⋯ ⋯,?_⟩;refine⟨_,rfl,_,rfl,_,rfl,mulR (by show -(2^64)<Pm.jw M t p s';omega) (by show Pm.jw M t p s'<2^64;omega),?_⟩;exact⟨_,_,rfl,Int.mul_pos hM ⋯,q⟩
theorem aw8(F:Fn K mg "taken_poly" OX ["prime","poly"])(rz:GZ P w K mg base)(dG:nG P w K mg base):W5 P w K mg base:=by
 refine F.cal awn (λvs H Q E h=>?_) (λ_ _ _ _ _ H _ Q E hr h=>?_)
 .obtain⟨p,a,P,rfl,_⟩:=h;rfl
 .obtain⟨p,a,P',rfl,hp,hA,zA,q⟩:=h;refine⟨_,(aD (aZ (aO rz hr (aN (gF (sc:=aiM) (N:=["number","prime"]) (ix:=[none,some 0]) d7 rfl (gh K (pv 1)) (λcl C s₀ H₀ ex=>⟨(aY 0 dU),eV,(aO dG hr (ak (pv 1) (ak (pv 0) aj)))⟩)) aj)))),?_⟩;refine⟨_,rfl,a,rfl,.inr ⟨⟨_,aA.of hA⟩,QW hA ⋯ rfl (λx=>Rm.tk p x) ?_ ?_⟩⟩
  .intro H2 x g2 hx k hk;exact⟨_,rfl,_,rfl,p,x,rfl,⋯,hk⟩
  .intro D hD;refine⟨D,_,rfl,au.of aC,λt1 H3 g3 h3=>?_⟩;exact q t1 H3 ((Same.new hD _).trans g3) h3
theorem aj7(F:Fn K mg "divides" Sw ["monic_one","poly"])(nR:Ey P w K mg base):aeH P w K mg base:=by
 refine F.cal aqj (λvs H Q E h=>?_) (λ_ _ _ _ _ H _ Q E hr h=>?_)
 .obtain⟨m,a,M,P,rfl,_⟩:=h;rfl
 .obtain⟨m,a,M,P',rfl,hMm,hA,zM,zP,hM,bM,bP,q⟩:=h;refine⟨_,(aD (aZ (tM (iD K hr) (aM K (aO nR hr (bZ ao (ak (pv 1) (ak (pv 0) aj)))) ao) (gb aj) (sH _)))),?_⟩;refine⟨_,rfl,_,rfl,0,a,m,P',M,rfl,∅,∅,hA,hMm,zP,zM,hM,λk=>Rm.bw _,bP,bM,λt x y o l H3 g3 hT hX hY D _ _ _=>?_⟩;refine⟨_,_,.inr (aA.of hT),rfl,?_⟩;refine⟨cj _,λt0 ht0=>?_⟩;have g4:=Same.new ht0 (.tup []);refine Hl (ns:=l) (ms:=[]) (aA.of (g4 _ _ hY)) (aA.of aC) ?_;exact q _ _ (g3.trans g4) (by show decide (l=[])=true↔_;rw[decide_eq_true_iff];exact D.dv hM)
theorem ak3(F:Fn K mg "whole_greatest" QL ["one","other"])(HC:aeH P w K mg base)(Kq:ad2 P w K mg base)(Ad:Lb P w K mg base)(Gr:W5 P w K mg base)(zy:Pj P w K mg base)(Rn:Ye P w K mg base):aah P w K mg base:=by
 refine F.cal mH (λvs H Q E h=>?_) (λ_ _ _ _ _ H _ Q E hr h=>?_)
 .obtain⟨a,c,P,t,g,N,U,V',rfl,_⟩:=h;rfl
 .obtain⟨a,c,P',t,g,N,U,V',rfl,hA,hC,zP,zt,hP,bP,bt,G,hV,hU,hUV,q⟩:=h;refine⟨_,(aq (aG 2 mH.nd (pv 0)) (aq (iZ (i:=3) mH.nd rfl (gP rfl) ao) (aq (iZ (i:=4) mH.nd rfl (gP rfl) (afv rfl B.Li)) (aq (aG 5 mH.nd oB) (aq (qm PassesOwn.never (PW.pt (oM (oR (lB (pv 5))) (oM (oR (lB (aO HC hr (ak (pv 2) (ak (pv 0) aj))))) (B7 (oR (lB (aO HC hr (ak (pv 2) (ak (pv 1) aj))))))))) (aq (iZ (i:=4) mH.nd rfl (gP rfl) (aO Kq hr (ak (pv 4) aj))) (aq (iZ (i:=6) mH.nd rfl (gP rfl) (aO Ad hr (ak (pv 4) (aN (aO Gr hr (ak (pv 4) (ak (pv 0) aj))) (aN (aO Gr hr (ak (pv 4) (ak (pv 1) aj))) aj))))) (aD (dF (cM AK (cL K B.cN (ak (pv 6) aj)) (cL K B.cN (ak (pv 2) aj))) (aq (aG 2 mH.nd (kZ (oZ K) rfl B.lZ boot_tuple (aN (gF (sc:=aiD) (N:=["rest","prime"]) (ix:=[none,some 4]) d7 rfl (gh K (pv 6)) (λcl C s₀ H₀ ex=>⟨(aY 0 dU),eV,(aO zy hr (ak (pv 1) (ak (pv 0) aj)))⟩)) aj))) (aq (iZ (i:=3) mH.nd rfl (gP rfl) (pv 4)) (aD (aG 5 mH.nd oB)))) (aD (uE (dF (cM (iD K hr) (cL K B.cN (ak (pv 6) aj)) (cL K B.cN (ak (pv 2) aj))) (aq (iZ (i:=7) mH.nd rfl (gP rfl) (pv 2)) (aq (aG 2 mH.nd (kZ (oZ K) rfl B.lZ boot_tuple (aN (gF (sc:=atp) (N:=["k","before","modulus","prime","seen"]) (ix:=[none,some 7,some 3,some 4,some 6]) d7 rfl (iB rfl B.gw (aN (cL K B.cN (ak (pv 6) aj)) aj)) (λcl C s₀ H₀ ex=>⟨(aY 0 dU),eV,(aO Rn hr (ak (pv 2) (aN (aM K (pv 1) (pv 0)) (ak (pv 3) (aN (aM K (pv 4) (pv 0)) aj)))))⟩)) aj))) (aq (iZ (i:=3) mH.nd rfl (gP rfl) (aH v_mul (pv 3) (pv 4))) (aD (aG 5 mH.nd (tM (iD K hr) (pv 2) (pv 7) (sH _))))))) dW)))))))) (aD (aZ (pv 2)))))))),?_⟩;have hgP:g.length<=P'.length:=G.one.len rfl G.mon hP;refine⟨_,rfl,?_⟩;refine⟨aeT H a c P' g N,⟨_,_,_,a,P',1,1000000,true,0,0,rfl,rfl,Same.refl _,hA,Pm.kJ.start hP hgP _,Om.many,⋯,⋯⟩,?_⟩;rintro m σ' H' ⟨o6,o7,tt,told,M,prime,ripe,bad,good,rfl,rfl,gg,hT,I,Yl,hbig,akg⟩;have bT:=ato I bP akg;have zT:=I.le;refine⟨_,rfl,ripe,rfl,?_⟩;refine dM (λcr=>?b1) (λcr=>?n1)
  case' b1=>
   have hne:¬(ripe=true/\told=g):=λz=>by rw[z.1]at cr;exact absurd cr ∅
   have gx:=gg;have zK:=hT;generalize H'=Hx at gx zK⊢
  case' n1=>
   refine⟨_,rfl,_,rfl,tt,a,told,P',rfl,hT,gg _ _ hA,⋯,zP,I.mon,bT,(λx hx=>(bP x hx).mono ∅),λb1 H1 g1 e1=>?_⟩;refine⟨b1,rfl,?_⟩;refine dM (λc1=>?b2) (λc1=>?n2)
  case' b2=>
   have hne:¬(ripe=true/\told=g):=λz=>by
    have:b1=true:=e1.mpr (by rw[z.2];exact G.one);rw[this]at c1;exact absurd c1 ∅
   have gx:=gg.trans g1;have zK:=g1 _ _ hT;generalize H1=Hx at gx zK⊢
  case' n2=>
   refine⟨_,rfl,_,rfl,tt,c,told,t,rfl,g1 _ _ hT,(gg.trans g1) _ _ hC,⋯,zt,I.mon,bT,bt,λb2 H2 g2 e2=>?_⟩;refine⟨b2,rfl,?_⟩;refine dM (λc2=>?b3) (λc2=>?n3)
  case n3=>
   have hb1:b1=true:=by cases b1<;>first|rfl|exact absurd rfl c1
   have hb2:b2=true:=by cases b2<;>first|rfl|exact absurd rfl c2
   have e:=G.told I.mon (e1.mp hb1) (e2.mp hb2) I.ge;subst e;refine⟨_,rfl,?_⟩;exact q tt H2 (gg.trans (g1.trans g2)) ((g1.trans g2) _ _ hT)
  case' b3=>
   have hne:¬(ripe=true/\told=g):=λz=>by
    have:b2=true:=e2.mpr (by rw[z.2];exact G.two);rw[this]at c2;exact absurd c2 ∅
   have gx:=gg.trans (g1.trans g2);have zK:=(g1.trans g2) _ _ hT;generalize H2=Hx at gx zK⊢
  all_goals
   have hfew:=I.few G.ne hV hU hne;obtain⟨k,hk'⟩:∃k,500-(bad+good)=k+1:=⟨500-(bad+good)-1,⋯⟩;rw[hk']at Yl;obtain⟨q0,hq0,apm,axQ,hnext⟩:=Yl.next;refine⟨_,λ_ _ z=>z,?_⟩;refine⟨_,rfl,prime,q0,rfl,hq0,apm,⋯,λp hp hlt hle=>?_⟩;have hN:=hnext p hle;refine⟨_,rfl,_,rfl,_,rfl,p,a,P',rfl,⋯,gx _ _ hA,⋯,λt1 H3 g3 h3=>?_⟩;refine⟨_,rfl,_,rfl,p,c,t,rfl,⋯,(gx.trans g3) _ _ hC,⋯,λt2 H4 g4 h4=>?_⟩;have l1:=Zc p P';have l2:=Zc p t;refine⟨p,t1,t2,_,_,rfl,hp,⋯,g4 _ _ h3,h4,⋯,⋯,ad6 p P',ad6 p t,λ_=>anQ hp hP,λts s' H5 g5 hS hG hsl=>?_⟩;have sn:=G.seen hp (Nb p P') (Nb p t) hG;have lS:(s'.map V.int).length=s'.length:=aB _;have lT:(told.map V.int).length=told.length:=aB _;have gy:=gx.trans (g3.trans (g4.trans g5));have hTy:=(g3.trans (g4.trans g5)) _ _ zK;refine⟨_,rfl,.ref ts,s'.length,rfl,.inr ⟨_,aA.of hS,lS.symm⟩,_,rfl,.ref tt,told.length,rfl,.inr ⟨_,aA.of hTy,lT.symm⟩,_,_,rfl,rfl,_,rfl,?_⟩;refine dM (λd1=>?_) (λd1=>?_)
   .have d1':(s'.length:Int)<told.length:=dec_true d1;refine⟨_,rfl,ts,rfl,.inr ⟨⟨_,aA.of hS⟩,QW hS ⋯ rfl (λx=>Pm.nr p x) ?_ ?_⟩⟩
    .intro H6 x g6 hx kk hk;exact⟨_,rfl,_,rfl,p,x,rfl,⋯,hk⟩
    .intro D hD;refine⟨D,_,rfl,.inl ⟨au.of aC,λtn ht=>?_⟩⟩;obtain⟨qd,pL,Nz,I'⟩:=I.anew hp hlt ⋯ ⋯ sn ⋯;refine⟨_,rfl,?_⟩;exact⟨500-(qd+pL),⋯,_,_,tn,s'.map (Pm.nr p),p,p,true,qd,pL,rfl,rfl,gy.trans ((Same.new hD _).trans (Same.new ht _)),aC,I',(by rw[Nz,show 500-(bad+good+1)=k by omega];exact hN),⋯,⋯⟩
   .have d1':¬(s'.length:Int)<told.length:=dec_false d1;refine qY.by (λσ' H2=>∃m',m'<500-(bad+good)/\aeT H a c P' g N m' σ' H2) (λN0 ZL=>?_) (λσ' H2 z=>z);refine⟨_,rfl,.ref ts,s'.length,rfl,.inr ⟨_,aA.of hS,lS.symm⟩,_,rfl,.ref tt,told.length,rfl,.inr ⟨_,aA.of hTy,lT.symm⟩,_,rfl,?_⟩;refine dM (λd2=>?_) (λd2=>?_)
    .have d2':(s'.length:Int)=told.length:=dec_true d2;have hl:s'.length=told.length:=⋯;have yh:¬(p:Int)∣M:=λz=>by have:=I.div p hp z;omega
     refine⟨_,rfl,?_⟩;refine⟨_,rfl,.ref ts,s'.length,rfl,.inr ⟨_,aA.of hS,lS.symm⟩,?_⟩;refine⟨(s'.length:Int),rfl,(⋯:-(2^62)<=(s'.length:Int)),(⋯:(s'.length:Int)<2^62),?_⟩;rw[fQ];refine Dw (n:=s'.length) ⋯ rfl (λk=>Pm.jn M (told.getD k 0) p (s'.getD k 0)) ?_ ?_
     .intro H6 k6 g6 hk6 kk hk;have e1:(0+(k6:Int)).toNat=k6:=⋯;refine⟨_,rfl,_,rfl,_,rfl,_,_,.inr (aA.of (g6 _ _ hTy)),eG (ns:=told) (⋯:(0:Int)<=0+(k6:Int)) ⋯,?_⟩;refine⟨_,rfl,_,rfl,_,rfl,_,_,.inr (aA.of (g6 _ _ hS)),eG (ns:=s') (⋯:(0:Int)<=0+(k6:Int)) ⋯,?_⟩;rw[e1];exact⟨M,_,p,_,rfl,hp,⋯,I.pos,yh,hk⟩
     .intro D hD;refine⟨D,_,rfl,.inl ⟨au.of aC,λtn ht=>?_⟩⟩;have gn:=(Same.new hD (.lst ((Pm.aP s'.length λk=>Pm.jn M (told.getD k 0) p (s'.getD k 0)).map V.int))).trans (Same.new ht (.tup ((Pm.aP s'.length λk=>Pm.jn M (told.getD k 0) p (s'.getD k 0)).map V.int)));refine⟨_,rfl,_,rfl,mulR ⋯ ⋯,?_⟩;refine⟨_,rfl,_,rfl,?_⟩;refine Hl (ns:=Pm.aP s'.length λk=>Pm.jn M (told.getD k 0) p (s'.getD k 0)) (ms:=told) (aA.of aC) (aA.of (gn _ _ hTy)) ?_;obtain⟨qd,pL,Nz,I'⟩:=I.join (jz:=Pm.aP s'.length λk=>Pm.jn M (told.getD k 0) p (s'.getD k 0)) (Ni:=decide ((Pm.aP s'.length λk=>Pm.jn M (told.getD k 0) p (s'.getD k 0))=told)) hp hlt ⋯ ⋯ sn hl (by rw[Pm.cu];exact hl) (λk6 hk6=>⟨Pm.jw M (told.getD k6 0) p (s'.getD k6 0),Pm.auQ hp yh,by rw[Pm.dD,if_pos ⋯];rfl⟩) (decide_eq_true_iff);exact ZL _ _ ⟨500-(qd+pL),⋯,_,_,tn,_,M*p,p,_,qd,pL,rfl,rfl,gy.trans gn,aC,I',(by rw[Nz,show 500-(bad+good+1)=k by omega];exact hN),⋯,⋯⟩
    .have d2':¬(s'.length:Int)=told.length:=dec_false d2;have I':=I.stay hp hlt ⋯ sn ⋯;exact ZL _ _ ⟨500-(bad+1+good),⋯,_,_,tt,told,M,p,ripe,bad+1,good,rfl,rfl,gy,hTy,I',(by rw[show 500-(bad+1+good)=k by omega];exact hN),⋯,⋯⟩
theorem aj3(F:Fn K mg "of_rule" M5 ["by","rule"])(dG:nG P w K mg base):aee P w K mg base:=by
 refine F.cal SD (λvs H Q E h=>?_) (λ_ _ _ _ _ H _ Q E hr h=>?_)
 .obtain⟨b,a,c,rfl,_⟩:=h;rfl
 .obtain⟨b,a,c,rfl,hb,hA,zA,q⟩:=h;refine⟨_,(aq (iZ (i:=2) SD.nd rfl (gP rfl) (cL K B.cN (ak (pv 1) aj))) (aq (uL (i:=3) (hN:=SD.nd) (hi':=rfl) (hx:=(oF rfl)) (sc:=avv) (N:=["k","by","length","rule"]) (ix:=[none,some 0,some 2,some 1]) d7 rfl (iB rfl B.gw (ak (pv 2) aj)) (λcl C s₀ H₀ ex=>⟨(aY 0 dU),eV,(aO dG hr (ak (pv 1) (eX (aH cZ ao (aM K (pv 3) (aH cZ (aH cZ (pv 2) ao) (pv 0)))) aj)))⟩)) (aD (aZ (kZ (oZ K) rfl B.lZ boot_tuple (eX (pad K (pv 3) (f9 (bZ ao aj))) aj)))))),?_⟩;have lC:(c.map V.int).length=c.length:=aB _;refine⟨_,rfl,.ref a,c.length,rfl,.inr ⟨_,aA.of hA,lC.symm⟩,?_⟩;refine⟨_,rfl,(c.length:Int),rfl,(⋯:-(2^62)<=(c.length:Int)),(⋯:(c.length:Int)<2^62),?_⟩;rw[fQ];refine Dw (n:=c.length) ⋯ rfl (λk=>Rm.tk b (0-Pm.co c (c.length-1-k))) ?_ ?_
  .intro H2 k g2 hk kk hkk;have e1:((c.length:Int)-1-(0+(k:Int))).toNat=c.length-1-k:=⋯;refine⟨_,rfl,_,rfl,_,rfl,_,_,rfl,rfl,_,rfl,_,_,rfl,rfl,_,_,.inr (aA.of (g2 _ _ hA)),eG (ns:=c) (⋯:(0:Int)<=(c.length:Int)-1-(0+(k:Int))) ⋯,_,_,rfl,rfl,?_⟩;refine⟨b,_,rfl,hb,?_⟩;rw[e1];exact hkk
  .intro D hD;have g1:=Same.new hD (.lst ((Pm.aP c.length λk=>Rm.tk b (0-Pm.co c (c.length-1-k))).map V.int));refine⟨_,rfl,(by show 1<=sizeLine;decide),λl2 hl2=>?_⟩;have g2:=Same.new hl2 (.lst [.int 1]);refine .inl ⟨_,_,g2 _ _ aC,aC,?_,λl3 hl3=>?_⟩
   .rw[aB,Pm.cu];exact iM (fH (by show _+1<=1000;omega))
   refine⟨l3,_,rfl,.inl ⟨au.of aC,λt ht=>?_⟩⟩;refine q t _ (g1.trans (g2.trans ((Same.new hl3 _).trans (Same.new ht _)))) ?_;rw[aC,Pm.aR,DB]
theorem agx(F:Fn K mg "rule_of" Od ["by","poly"])(dG:nG P w K mg base):aaH P w K mg base:=by
 refine F.cal adN (λvs H Q E h=>?_) (λ_ _ _ _ _ H _ Q E hr h=>?_)
 .obtain⟨b,a,p,rfl,_⟩:=h;rfl
 .obtain⟨b,a,p,rfl,hb,hA,z0,zA,q⟩:=h;refine⟨_,(aq (iZ (i:=2) adN.nd rfl (gP rfl) (aH cZ (cL K B.cN (ak (pv 1) aj)) ao)) (aD (aZ (kZ (oZ K) rfl B.lZ boot_tuple (aN (gF (sc:=ar0) (N:=["k","by","length","poly"]) (ix:=[none,some 0,some 2,some 1]) d7 rfl (iB rfl B.gw (ak (pv 2) aj)) (λcl C s₀ H₀ ex=>⟨(aY 0 dU),eV,(aO dG hr (ak (pv 1) (eX (aH cZ ao (aM K (pv 3) (aH cZ (aH cZ (pv 2) ao) (pv 0)))) aj)))⟩)) aj))))),?_⟩;have lC:(p.map V.int).length=p.length:=aB _;refine⟨_,rfl,.ref a,p.length,rfl,.inr ⟨_,aA.of hA,lC.symm⟩,_,_,rfl,rfl,?_⟩;refine⟨_,rfl,(p.length:Int)-1,rfl,(⋯:-(2^62)<=(p.length:Int)-1),(⋯:(p.length:Int)-1<2^62),?_⟩;rw[show((p.length:Int)-1).toNat=p.length-1 by omega];refine Dw (n:=p.length-1) ⋯ rfl (λk=>Rm.tk b (0-Pm.co p (p.length-1-1-k))) ?_ ?_
  .intro H2 k g2 hk kk hkk;have e1:((p.length:Int)-1-1-(0+(k:Int))).toNat=p.length-1-1-k:=⋯;refine⟨_,rfl,_,rfl,_,rfl,_,_,rfl,rfl,_,rfl,_,_,rfl,rfl,_,_,.inr (aA.of (g2 _ _ hA)),eG (ns:=p) (⋯:(0:Int)<=(p.length:Int)-1-1-(0+(k:Int))) ⋯,_,_,rfl,rfl,?_⟩;refine⟨b,_,rfl,hb,?_⟩;rw[e1];exact hkk
  .intro D hD;refine⟨D,_,rfl,.inl ⟨au.of aC,λt ht=>?_⟩⟩;exact q t _ ((Same.new hD _).trans (Same.new ht _)) aC
theorem avE(F:Fn K mg "top_of" O7 ["row","poly"])(dG:nG P w K mg base)(rz:GZ P w K mg base):WY P w K mg base:=by
 refine F.cal zZ (λvs H Q E h=>?_) (λ_ _ _ _ _ H _ Q E hr h=>?_)
 .obtain⟨v,r,a,rfl,_⟩:=h;rfl
 .obtain⟨v,r,a,rfl,⟨a0,p,p2,rfl,hA,hR,hS⟩,ok,hP,q⟩:=h;refine⟨_,(aq (aG 2 zZ.nd (aM K (pv 0) ao)) (aq (iZ (i:=3) zZ.nd rfl (gP rfl) (aM K (pv 0) ao)) (aq (aG 4 zZ.nd (f9 aj)) (aq (fY PassesOwn.never rfl (iB rfl B.gw (aN (cL K B.cN (ak (pv 3) aj)) aj)) (SM (i:=5) zZ.nd rfl (gP rfl)) (aq (uL (i:=6) (hN:=zZ.nd) (hi':=rfl) (hx:=(oF rfl)) (sc:=ahN) (N:=["j","k","poly","starts"]) (ix:=[none,some 5,some 1,some 3]) d7 rfl (Yc rfl B.gw (eX (pad K (pv 5) ao) (aN (cL K B.cN (ak (pv 1) aj)) aj))) (λcl C s₀ H₀ ex=>⟨(aY 0 dU),eV,(aH v_mul (aM K (pv 2) (pv 0)) (aM K (pv 3) (aH cZ (aH cZ (pv 0) ao) (pv 1))))⟩)) (aD (nA (tE K (pv 4) (aO dG hr (ak (pv 2) (aN (gY (G5 K rfl) rfl B.G3 boot_sum (ak (pv 6) aj)) aj)))))))) (aD (aZ (aO rz hr (ak (pv 4) aj)))))))),?_⟩;have hl:=ok.len;have hs:=ok.short;have lS:(r.starts.map V.int).length=r.starts.length:=aB _;have lP:((Pm.aR r.b r.rule).map V.int).length=r.rule.length+1:=by rw[aB,Pm.j6]
  refine⟨_,rfl,_,_,.inr (aA.of hA),rfl,?_⟩;refine⟨_,rfl,_,_,.inr (aA.of hA),rfl,?_⟩;refine⟨cj _,λl0 h0=>?_⟩;have g0:=Same.new h0 (.lst []);refine⟨_,rfl,.ref p2,r.starts.length,rfl,.inr ⟨_,aA.of (g0 _ _ hS),lS.symm⟩,?_⟩;refine⟨(r.starts.length:Int),rfl,(⋯:-(2^62)<=(r.starts.length:Int)),(⋯:(r.starts.length:Int)<2^62),?_⟩;refine jH (lo:=0) (n:=(r.starts.length:Int).toNat) (λi σ' H'=>∃o5 o6,σ'=[some (.ref a0),some (.ref a),some (.int r.b),some (.ref p2),some (.ref l0),o5,o6]/\Same H H'/\H' l0=some (.lst ((Pm.aP i λk=>Rm.tk r.b (Pm.tp (Pm.aR r.b r.rule) r.at k)).map V.int)))
   ⟨_,_,rfl,g0,aC⟩ ?_ ?_
  .rintro i σ' H' hi ⟨o5,o6,rfl,g,hL⟩;have hi':i<r.starts.length:=⋯;refine⟨_,rfl,_,rfl,.ref a,r.rule.length+1,rfl,.inr ⟨_,aA.of (g _ _ hP),lP.symm⟩,?_⟩;refine⟨_,_,rfl,⟨⋯,⋯,⋯,⋯⟩,?_⟩;rw[show(((r.rule.length+1:Nat):Int)-(0+(i:Int)+1)).toNat=r.rule.length-i by omega];refine axa (lo:=0+(i:Int)+1) (n:=r.rule.length-i) ⋯ rfl (λk=>Pm.co (Pm.aR r.b r.rule) (i+1+k)*r.at k) ?_ ?_
   .intro H2 k g2 hk kk hkk;have e1:(0+(i:Int)+1+(k:Int)).toNat=i+1+k:=⋯;have e2:(0+(i:Int)+1+(k:Int)-1-(0+(i:Int))).toNat=k:=⋯;have lq:(Pm.aR r.b r.rule).length=r.rule.length+1:=Pm.j6 ..;refine⟨_,rfl,_,rfl,_,_,.inr (aA.of (g2 _ _ (g _ _ hP))),eG (ns:=Pm.aR r.b r.rule) (⋯:(0:Int)<=0+(i:Int)+1+(k:Int)) ⋯,?_⟩;refine⟨_,rfl,_,rfl,_,_,rfl,rfl,_,rfl,_,_,rfl,rfl,_,_,.inr (aA.of (g2 _ _ (g _ _ hS))),eG (ns:=r.starts) (⋯:(0:Int)<=0+(i:Int)+1+(k:Int)-1-(0+(i:Int))) ⋯,?_⟩;refine⟨ql (Rm.Bd.getD ok.Dk _) (Rm.Bd.getD ok.zQ _) ∅,?_⟩;rw[e1,e2];have e3:r.at k=r.starts.getD k 0:=Rm.wK ⋯;rw[e3]at hkk;exact hkk
   .intro D hD;have g3:=Same.new hD (.lst ((Pm.aP (r.rule.length-i) λk=>Pm.co (Pm.aR r.b r.rule) (i+1+k)*r.at k).map V.int));have m6:=g3 _ _ hL;have lL:((Pm.aP i λk=>Rm.tk r.b (Pm.tp (Pm.aR r.b r.rule) r.at k)).map V.int).length=i:=by rw[aB,Pm.cu]
    refine⟨_,rfl,.inl ⟨rfl,_,au.of m6⟩,_,rfl,_,rfl,D,_,rfl,au.of aC,r.b,_,rfl,ok.oU,?_⟩;refine⟨l0,_,_,rfl,rfl,m6,?_,?_⟩
    .rw[lL];exact fH ⋯
    .refine⟨_,_,rfl,(g.trans g3).upd h0 _,?_⟩;rw[aC,Pm.Tc,DB];have e4:Pm.tp (Pm.aR r.b r.rule) r.at i=(Pm.aP (r.rule.length-i) λk=>Pm.co (Pm.aR r.b r.rule) (i+1+k)*r.at k).sum:=by
      unfold Pm.tp;rw[Pm.aP,Pm.Xk,Pm.j6,fX]
     rw[e4]
  .rintro σ' H' ⟨o5,o6,rfl,g,hL⟩;refine⟨_,rfl,l0,_,rfl,au.of hL,λt1 H3 g3 h3=>?_⟩;refine q t1 H3 (g.trans g3) ?_;rw[h3,qI,hl,fQ]
theorem atb(F:Fn K mg "shared_divisor" LR ["by","one","other"])(SR:aah P w K mg base)(Ad:Lb P w K mg base):VG P w K mg base:=by
 refine F.cal aot (λvs H Q E h=>?_) (λ_ _ _ _ _ H _ Q E hr h=>?_)
 .obtain⟨b,a,c,P,t,rfl,_⟩:=h;rfl
 .obtain⟨b,a,c,P',t,rfl,hA,hC,zP,zt,hP,bP,bt,h⟩:=h;refine⟨_,(aD (aZ (acC (cM (iD K hr) (pv 0) ao) (aO SR hr (ak (pv 1) (ak (pv 2) aj))) (aO Ad hr (ak (pv 0) (ak (pv 1) (ak (pv 2) aj))))))),?_⟩;refine⟨_,rfl,_,rfl,?_⟩;refine dM (λc0=>?_) (λc0=>?_)
  .have c0':b=0:=dec_true c0;rcases h with⟨_,g,N,U,V',G,hV,hU,hUV,q⟩|⟨p,rfl,hp,_⟩
   .exact⟨_,rfl,_,rfl,a,c,P',t,g,N,U,V',rfl,hA,hC,zP,zt,hP,bP,bt,G,hV,hU,hUV,q⟩
   .have:=hp.1;omega
  .have c0':¬b=0:=dec_false c0;rcases h with⟨z,_⟩|⟨p,rfl,hp,hpb,yP,yt,q⟩
   .exact absurd z c0'
   .exact⟨_,rfl,_,rfl,_,rfl,p,a,c,P',t,rfl,hp,hpb,hA,hC,zP,zt,yP,yt,λ_ z=>by have:=hP.pos;rw[z]at this;exact absurd this ∅,q⟩
theorem alj(F:Fn K mg "least_of" Pa ["row"])(Rh:aee P w K mg base)(RJ:WY P w K mg base)(nR:Ey P w K mg base)(KY:VG P w K mg base):LY P w K mg base:=by
 refine F.cal GF (λvs H Q E h=>?_) (λ_ _ _ _ _ H _ Q E hr h=>?_)
 .obtain⟨v,r,rfl,_⟩:=h;rfl
 .obtain⟨v,r,rfl,⟨a0,p,p2,rfl,hA,hR,hS⟩,ok,hB,hT,q⟩:=h;refine⟨_,(aq (aG 1 GF.nd (aM K (pv 0) ao)) (aq (aG 2 GF.nd (aO Rh hr (ak (pv 1) (aN (aM K (pv 0) ao) aj)))) (aq (aG 3 GF.nd (aO RJ hr (ak (pv 0) (ak (pv 2) aj)))) (aD (aZ (aM K (aO nR hr (ak (pv 1) (ak (pv 2) (aN (aO KY hr (ak (pv 1) (ak (pv 2) (ak (pv 3) aj)))) aj)))) ao)))))),?_⟩;have hs:=ok.short;have hb1:=ok.Et;have hm:=Pm.yS r.b r.rule;have lq:(Pm.aR r.b r.rule).length=r.rule.length+1:=Pm.j6 ..;refine⟨_,rfl,_,_,.inr (aA.of hA),rfl,?_⟩;refine⟨_,rfl,_,rfl,_,_,.inr (aA.of hA),rfl,r.b,p,r.rule,rfl,ok.oU,hR,⋯,λtP H1 g1 hP=>?_⟩;refine⟨_,rfl,_,rfl,.ref a0,r,tP,rfl,⟨a0,p,p2,rfl,g1 _ _ hA,g1 _ _ hR,g1 _ _ hS⟩,ok,hP,λtT H2 g2 wF=>?_⟩;have hP2:=g2 _ _ hP;have lt:=aq3 r;refine⟨_,rfl,_,rfl,_,rfl,_,rfl,_,rfl,r.b,tP,tT,Pm.aR r.b r.rule,qI r,rfl,hP2,wF,⋯,⋯,hm,(λx hx=>(ok.Dk x hx).mono ∅),aks ok,?_⟩;have nP:=asv r.b r.rule hB.one;by_cases h0:r.b=0
  .obtain⟨d,ua,u,aha,hur,hQ0,hua,hLb,hd6,hsz⟩:=hT h0;have hK:=ok.kp;rw[h0]at hK;rw[h0]at hm lq;obtain⟨g,L,N,hL,Cy,hKL,hall,hlen,hE,G,hV,hU⟩:=Pm.alT hm hK hQ0 hua (u:=u) (B:=20) (U:=u+700) (λk=>by have:=Pm.SJ ok.oU ok.Et aha hur;rw[h0]at this;exact Pm.jK this k) (λL hL hKL hall=>hLb L ⟨hL,λk=>Rm.bw _,hKL,hall⟩) (by rw[lq];have:=gM (show r.rule.length+1<=25 by omega) (show 20+d+2<=28 by omega);omega);have eT:Pm.co (qI r)=Pm.tp (Pm.aR 0 r.rule) r.at:=funext λk=>by rw[Nu,h0,Rm.bw]
   refine .inl ⟨h0,g,N,_,_,by rw[h0,eT];exact G,hV,hU,⋯,λtg H3 g3 hg=>?_⟩;have hgl:g.length<=r.rule.length+1:=by have:=hL.pos;omega
   have bg:∀x∈g,Rm.Bd 124000 x:=λx hx=>by
    obtain⟨k,hk,e⟩:=jD.mp hx;have:=hU k;rw[Pm.jy hk,e]at this;exact this.mono ⋯
   refine⟨r.b,tP,tg,Pm.aR r.b r.rule,g,rfl,ok.oU,⋯,g3 _ _ hP2,hg,by rw[h0];omega,⋯,G.mon,nP,(λx hx=>(ok.Dk x hx).mono ∅),bg,λt x y o l H4 g4 ht hx hy D _ _ _=>?_⟩;refine⟨_,_,.inr (aA.of ht),rfl,?_⟩;have D':Pm.Div r.b (Pm.aR r.b r.rule) g L []:=⟨by rw[h0];exact Cy,Pm.Py.nil _,G.mon.pos,λk=>by rw[Pm.fV,dz,h0,hE k]⟩;obtain⟨eo,_⟩:=D.uniq G.mon D';subst eo;exact q x o H4 (g1.trans (g2.trans (g3.trans g4))) hx ⟨hL,λk=>by rw[h0];exact Rm.bw _,by rw[h0];exact hKL,by rw[h0];exact hall⟩ (by have:=G.mon.pos;omega)
  .obtain⟨P0,vZ,hb⟩:=hB.resolve_left h0;have hp:=aoH vZ;have hr:=zx P0 vZ;have yP:Pm.Py (P0:Int) (Pm.aR r.b r.rule):=by rw[<-hb];exact adv hm nP
   have yt:Pm.Py (P0:Int) (qI r):=by rw[<-hb];exact Pm.Py.aP ..
   refine .inr ⟨P0,hb,hp,⋯,yP,yt,λtg g H3 g3 hg hG hgl=>?_⟩;have bg:∀x∈g,Rm.Bd 124000 x:=PJ hr.1 ⋯ hG.py;refine⟨r.b,tP,tg,Pm.aR r.b r.rule,g,rfl,ok.oU,⋯,g3 _ _ hP2,hg,⋯,⋯,hG.mon,nP,(λx hx=>(ok.Dk x hx).mono ∅),bg,λt x y o l H4 g4 ht hx hy D _ _ _=>?_⟩;refine⟨_,_,.inr (aA.of ht),rfl,?_⟩;rw[hb]at D;rw[<-hb]at D;obtain⟨hl1,hl2⟩:=apB hp ok hb hG (by rw[hb]at D ⊢;exact D);exact q x o H4 (g1.trans (g2.trans (g3.trans g4))) hx hl1 hl2
theorem alL(F:Fn K mg "shortest" Uq ["row"])(zm:LY P w K mg base)(Oa:aaH P w K mg base):Y5 P w K mg base:=by
 refine F.cal O4 (λvs H Q E h=>?_) (λ_ _ _ _ _ H _ Q E hr h=>?_)
 .obtain⟨v,r,rfl,_⟩:=h;rfl
 .obtain⟨v,r,rfl,⟨a0,p,p2,rfl,hA,hR,hS⟩,ok,hB,hT,q⟩:=h;refine⟨_,(aq (aG 1 O4.nd (aO zm hr (ak (pv 0) aj))) (aq (aG 2 O4.nd (aO Oa hr (aN (aM K (pv 0) ao) (ak (pv 1) aj)))) (aD (aZ (gb (aN (aM K (pv 0) ao) (ak (pv 2) (aN (kZ (oZ K) rfl B.lZ boot_tuple (aN (rP (rF K) (aM K (pv 0) ao) uK (pZ (cL K B.cN (ak (pv 2) aj)))) aj)) aj)))))))),?_⟩;have hs:=ok.short;have hl:=ok.len;have lS:(r.starts.map V.int).length=r.starts.length:=aB _;refine⟨_,rfl,.ref a0,r,rfl,⟨a0,p,p2,rfl,hA,hR,hS⟩,ok,hB,hT,λtL L H1 g1 hL lst ll=>?_⟩;have Mt:=lst.mon.pos;refine⟨_,rfl,_,_,.inr (aA.of (g1 _ _ hA)),rfl,_,rfl,r.b,tL,L,rfl,ok.oU,hL,Mt,⋯,λtR H2 g2 UO=>?_⟩;have lR:((Pm.ju r.b L).map V.int).length=L.length-1:=by rw[aB,Pm.qW]
  have VN:=(g1.trans g2) _ _ hA;have hS2:=(g1.trans g2) _ _ hS;refine⟨_,rfl,_,_,.inr (aA.of VN),rfl,_,rfl,_,rfl,_,_,.inr (aA.of VN),rfl,?_⟩;refine⟨_,rfl,.ref tR,L.length-1,rfl,.inr ⟨_,aA.of UO,lR.symm⟩,?_⟩;refine⟨_,rfl,?_⟩;by_cases hw:r.starts.length<=L.length-1
  .refine .inr (.inr ⟨_,aA.of hS2,?_,?_⟩)
   .rw[HT.uI,HT.vD,lS];omega
   .refine⟨p2,_,rfl,.inr ⟨aA.of hS2,?_⟩⟩;refine⟨(by show 3<=sizeLine;decide),λt ht=>?_⟩;have g3:=Same.new ht (.tup [.int r.b,.ref tR,.ref p2]);refine q (.ref t) L _ (g1.trans (g2.trans g3)) ⟨t,tR,p2,rfl,aC,g3 _ _ UO,?_⟩ lst ll;show _=some (HO.tup ((r.starts.take (L.length-1)).map V.int));rw[vV hw];exact g3 _ _ hS2
  .refine .inr (.inl ⟨_,aA.of hS2,?_,λp3 hp3=>?_⟩)
   .rw[HT.uI,HT.vD,lS];omega
   .refine⟨p3,_,rfl,.inr ⟨aA.of aC,?_⟩⟩;have g3:=Same.new hp3 (.tup (jc (r.starts.map V.int) none (some ((L.length-1:Nat):Int))));refine⟨(by show 3<=sizeLine;decide),λt ht=>?_⟩;have g4:=Same.new ht (.tup [.int r.b,.ref tR,.ref p3]);refine q (.ref t) L _ (g1.trans (g2.trans (g3.trans g4))) ⟨t,tR,p3,rfl,aC,(g3.trans g4) _ _ UO,?_⟩ lst ll;show _=some (HO.tup ((r.starts.take (L.length-1)).map V.int));rw[vp,<-Dz];exact g4 _ _ aC
theorem amJ(F:Fn K mg "line_taken" OL ["by","line"])(dG:nG P w K mg base):aex P w K mg base:=by
 refine F.cal apI (λvs H Q E h=>?_) (λ_ _ _ _ _ H _ Q E hr h=>?_)
 .obtain⟨b,l,p,rfl,_⟩:=h;rfl
 .obtain⟨b,l,p,rfl,hb,hL,z,q⟩:=h;refine⟨_,(aD (aZ (gF (sc:=anz) (N:=["number","by"]) (ix:=[none,some 0]) d7 rfl (gh K (pv 1)) (λcl C s₀ H₀ ex=>⟨(aY 0 dU),eV,(aO dG hr (ak (pv 1) (ak (pv 0) aj)))⟩)))),?_⟩;refine⟨_,rfl,l,rfl,.inl ⟨⟨_,au.of hL⟩,GX hL z rfl (Rm.tk b) ?_ ?_⟩⟩
  .intro H2 x g2 hx k hk;exact⟨_,rfl,_,rfl,b,x,rfl,hb,hk⟩
  .intro D hD;exact q D _ (Same.new hD _) hD aC
theorem arL(F:Fn K mg "head_line" PB ["lines","begin","column"]):aeu P w K mg base:=by
 refine F.cal acQ (λvs H Q E h=>?_) (λ_ _ _ _ _ H _ Q E hr h=>?_)
 .obtain⟨ll,xs,L,W,r,c,cI,ex,rfl,_⟩:=h;rfl
 .obtain⟨ll,xs,L,W,r,c,cI,ex,rfl,rfl,hL,hx,hw,hc,z,hr',q1,q2⟩:=h;refine⟨_,(aq (fY PassesOwn.never rfl (Yc rfl B.gw (ak (pv 1) (aN (cL K B.cN (ak (pv 0) aj)) aj))) (aY 3 acQ.nd) (aD (dF (cM (mO K hr) (aM K (aM K (pv 0) (pv 3)) (pv 2)) ao) (aD (aZ (pv 3))) dW))) (aD (aZ Ld))),?_⟩;have lx:=hx.len;refine⟨_,rfl,_,rfl,.ref ll,L.length,rfl,.inl ⟨_,au.of hL,lx.symm⟩,?_⟩;refine⟨(r:Int),(L.length:Int),rfl,⟨⋯,⋯,⋯,⋯⟩,?_⟩;refine jH (lo:=(r:Int)) (n:=((L.length:Int)-(r:Int)).toNat) (λi σ' H'=>∃o,σ'=[some (.ref ll),some (.int r),some (.int c),o]/\H'=H/\∀j,r<=j->j<r+i->Pm.co (Dm.ln L j) c=0) ⟨_,rfl,rfl,λj h1 h2=>absurd h2 ⋯⟩ ?_ ?_
  .rintro i σ' H' hi ⟨o,rfl,rfl,hz⟩;have hi':r+i<L.length:=⋯;obtain⟨t,e1,_,e2⟩:=hx.get hi';have ei:(r:Int)+(i:Int)=((r+i:Nat):Int):=⋯;have wl:=hw (r+i) hi';refine⟨_,rfl,_,rfl,_,.ref t,.inl (au.of hL),ug (r+i) ei e1,_,rfl,_,_,.inl (au.of e2),eG (ns:=Dm.ln L (r+i)) (⋯:(0:Int)<=(c:Int)) ⋯,_,rfl,?_⟩;rw[fQ];by_cases hz':(Dm.ln L (r+i)).getD c 0=0
   .refine Px hz' ⟨_,rfl,rfl,λj h1 h2=>?_⟩;by_cases e:j=r+i
    .rw[e];exact hz'
    .exact hz j h1 ⋯
   .rw[decide_eq_false hz'];refine qj ⟨_,rfl,?_⟩;have:=q1 (r+i) ⋯ hi' hz';rw[<-ei]at this;exact this
  .rintro σ' H' ⟨o,rfl,rfl,hz⟩;exact q2 λi h1 h2=>hz i h1 ⋯
theorem amQ(F:Fn K mg "bring_up" QC ["by","lines","at","top"])(dG:nG P w K mg base):V7 P w K mg base:=by
 refine F.cal aeh (λvs H Q E h=>?_) (λ_ _ _ _ _ H _ Q E hr h=>?_)
 .obtain⟨b,ll,xs,L,a,r,ex,rfl,_⟩:=h;rfl
 .obtain⟨b,ll,xs,L,a,r,ex,rfl,hb,hL,hx,hm,hst,hra,ha,hz,q⟩:=h;refine⟨_,(aD (uE (dF (cM (mO K hr) (pv 2) (pv 3)) (aq (aG 4 aeh.nd (aM K (pv 1) (pv 3))) (aq (v7 (aM K (pv 1) (pv 2)) (yc (pv 1) (pv 3) set_list)) (aD (v7 (gF (sc:=ail) (N:=["number","by"]) (ix:=[none,some 0]) d7 rfl (gh K (pv 4)) (λcl C s₀ H₀ ex=>⟨(aY 0 dU),eV,(aO dG hr (ak (pv 1) (eX (aH cZ ao (pv 0)) aj)))⟩)) (yc (pv 1) (pv 2) set_list))))) dW))),?_⟩;have lx:=hx.len;refine⟨_,rfl,_,rfl,_,rfl,?_⟩;by_cases e:a=r
  .exact Px (by rw[e]) (q xs L H (Keep.refl _ _) hL hx (.inl ⟨e,rfl⟩))
  .have hne:¬(a:Int)=(r:Int):=⋯;rw[decide_eq_false hne];refine qj ?_;obtain⟨tr,r1,r2,r3⟩:=hx.get (show r<L.length by omega);obtain⟨ta,a1,a2,a3⟩:=hx.get ha;refine⟨_,rfl,_,rfl,_,.ref tr,.inl (au.of hL),ug r rfl r1,?_⟩;refine⟨_,rfl,_,rfl,_,.ref ta,.inl (au.of hL),ug a rfl a1,?_⟩;refine⟨_,rfl,_,rfl,ll,xs,_,r,rfl,rfl,hL,xr rfl (by rw[lx];omega),?_⟩;have kA:=Keep.upd ll H (.lst (xs.set r (.ref ta)));have hL1:(upd H ll (.lst (xs.set r (.ref ta)))) ll=some (.lst (xs.set r (.ref ta))):=aC;have r3':=kA _ _ (λ(z:tr=ll)=>r2 (by rw[z];exact hm)) r3;have hx1:=(bJ.set a2 a3 r hx).keep hm kA;have Zy:=hst.keep kA ⟨_,hL1⟩;generalize upd H ll (.lst (xs.set r (.ref ta)))=H1 at kA hL1 r3' hx1 Zy;refine⟨_,rfl,tr,rfl,.inl ⟨⟨_,au.of r3'⟩,GX r3' (hz r ⋯) rfl (λx=>Rm.tk b (0-x)) ?_ ?_⟩⟩
   .intro H2 x g2 hx k hk;exact⟨_,rfl,_,rfl,_,_,rfl,rfl,b,_,rfl,hb,hk⟩
   .intro D hD;have gD:=Same.new hD (.lst (((Dm.ln L r).map λx=>Rm.tk b (0-x)).map V.int));have hDl:D∉ex:=Zy.fresh hD;have CZ:(upd H1 D (.lst (((Dm.ln L r).map λx=>Rm.tk b (0-x)).map V.int))) D=some (.lst (((Dm.ln L r).map λx=>Rm.tk b (0-x)).map V.int)):=aC;have hL2:=gD _ _ hL1;have hx2:=hx1.same gD;have kB:=kA.trans (Keep.same gD);generalize upd H1 D (.lst (((Dm.ln L r).map λx=>Rm.tk b (0-x)).map V.int))=H2 at gD CZ hL2 hx2 kB;refine⟨_,rfl,_,rfl,ll,_,_,a,rfl,rfl,hL2,xr rfl (by rw[oJ,lx];omega),?_⟩;have kC:=Keep.upd ll H2 (.lst ((xs.set r (.ref ta)).set a (.ref D)));refine q _ ((L.set r (Dm.ln L a)).set a ((Dm.ln L r).map λx=>Rm.tk b (0-x))) _ (kB.trans kC) aC ((bJ.set hDl CZ a hx2).keep hm kC) (.inr ⟨⋯,by rw[oJ,oJ],?_,?_,?_⟩)
    .rw[wR _ (by rw[oJ];omega),if_neg ⋯,wR _ ⋯,if_pos rfl]
    .rw[wR _ (by rw[oJ];omega),if_pos rfl]
    .intro i h1 h2;rw[wR _ (by rw[oJ];omega),if_neg h2,wR _ ⋯,if_neg h1]
theorem anf(F:Fn K mg "freed" NS ["by","line","head","column","last"])(oX:Eb P w K mg base)(dG:nG P w K mg base):ac7 P w K mg base:=by
 refine F.cal CF (λvs H Q E h=>?_) (λ_ _ _ _ _ H _ Q E hr h=>?_)
 .obtain⟨b,last,l1,l2,p,r,c,cI,rfl,_⟩:=h;rfl
 .obtain⟨b,last,l1,l2,p,r,c,cI,rfl,rfl,hZ,h1,h2,hl,hc,hz,n0,nt,bl,b1,b2,hx,q⟩:=h;refine⟨_,(aq (iZ (i:=5) CF.nd rfl (gP rfl) (aM K (pv 2) (pv 3))) (aq (iZ (i:=6) CF.nd rfl (gP rfl) (aM K (pv 1) (pv 3))) (aq (uL (i:=7) (hN:=CF.nd) (hi':=rfl) (hx:=(oF rfl)) (sc:=atJ) (N:=["k","factor","head","line","pivot"]) (ix:=[none,some 6,some 2,some 1,some 5]) d7 rfl (iB rfl B.gw (aN (cL K B.cN (ak (pv 1) aj)) aj)) (λcl C s₀ H₀ ex=>⟨(aY 0 dU),eV,(aH cZ (aH v_mul (pv 4) (aM K (pv 3) (pv 0))) (aH v_mul (pv 1) (aM K (pv 2) (pv 0))))⟩)) (aq (dF (cM (iD K hr) (pv 0) ao) (aD (aZ (gF (sc:=alX) (N:=["number","last"]) (ix:=[none,some 4]) d7 rfl (gh K (pv 7)) (λcl C s₀ H₀ ex=>⟨(aY 0 dU),eV,(aH Nj (pv 0) (pv 1))⟩)))) dW) (aq (iZ (i:=8) CF.nd rfl (gP rfl) (aO oX hr (ak (pv 0) (bZ ao (ak (pv 4) aj))))) (aD (aZ (gF (sc:=asy) (N:=["number","by","share"]) (ix:=[none,some 0,some 8]) d7 rfl (gh K (pv 7)) (λcl C s₀ H₀ ex=>⟨(aY 0 dU),eV,(aO dG hr (ak (pv 1) (eX (aH v_mul (pv 0) (pv 2)) aj)))⟩))))))))),?_⟩;have lP:(p.map V.int).length=p.length:=aB _;refine⟨_,rfl,_,rfl,_,_,.inl (au.of h2),eG (ns:=r) (⋯:(0:Int)<=(c:Int)) ⋯,?_⟩;refine⟨_,rfl,_,rfl,_,_,.inl (au.of h1),eG (ns:=p) (⋯:(0:Int)<=(c:Int)) ⋯,?_⟩;rw[fQ];have e1:r.getD c 0=Pm.co r c:=rfl;have e2:p.getD c 0=Pm.co p c:=rfl;rw[e1,e2];refine⟨_,rfl,.ref l1,p.length,rfl,.inl ⟨_,au.of h1,lP.symm⟩,(p.length:Int),rfl,(⋯:-(2^62)<=(p.length:Int)),(⋯:(p.length:Int)<2^62),?_⟩;rw[fQ];refine Dw (n:=p.length) hz rfl (λk=>Pm.co r c*Pm.co p k-Pm.co p c*Pm.co r k) ?_ ?_
  .intro H2 k g2 hk kk hkk;have ek:(0+(k:Int)).toNat=k:=⋯;refine⟨_,rfl,_,rfl,_,rfl,_,_,.inl (au.of (g2 _ _ h1)),eG (ns:=p) (⋯:(0:Int)<=0+(k:Int)) ⋯,ql (Pm.jK b2 c) (Rm.Bd.getD b1 _) ∅,?_⟩;refine⟨_,rfl,_,rfl,_,rfl,_,_,.inl (au.of (g2 _ _ h2)),eG (ns:=r) (⋯:(0:Int)<=0+(k:Int)) ⋯,ql (Pm.jK b1 c) (Rm.Bd.getD b2 _) ∅,_,_,rfl,rfl,?_⟩;rw[ek];exact hkk
  .intro D hD;obtain⟨H1,uu,gD,CZ⟩:=nw hD (.lst ((Pm.aP p.length λk=>Pm.co r c*Pm.co p k-Pm.co p c*Pm.co r k).map V.int));rw[uu];have zO:(Pm.aP p.length λk=>Pm.co r c*Pm.co p k-Pm.co p c*Pm.co r k).length<=1000:=by rw[Pm.cu];exact hz
   refine⟨_,rfl,_,rfl,?_⟩;refine dM (λcc=>?_) (λcc=>?_)
   .have hb:b=0:=dec_true cc;refine⟨_,rfl,D,rfl,.inl ⟨⟨_,au.of CZ⟩,GX CZ zO rfl (λx=>x.fdiv last) ?_ ?_⟩⟩
    .intro H2 x g2 hx' k hk;exact⟨_,rfl,_,rfl,_,_,rfl,rfl,⟨n0,Bl (ake n0 bl) ∅⟩,hk⟩
    .intro D2 hD2;refine q D2 _ _ (gD.trans (Same.new hD2 _)) (gD.free hD2) aC (by rw[aB,Pm.cu]) λk hk=>?_;rw[Pm.lY (by simp),Pm.dD,if_pos hk,hb,Rm.bw,Rm.bw,Rm.bw];obtain⟨e,he⟩:=hx hb k hk;rw[he,MZ _ n0];exact⟨rfl,rfl⟩
   .exact absurd hZ (dec_false cc)
theorem ang(F:Fn K mg "clear" Mq ["by","wide","lines"])(O6:aeu P w K mg base)(Ks:V7 P w K mg base)(Sg:ac7 P w K mg base):Wt P w K mg base:=by
 refine F.cal uW (λvs H Q E h=>?_) (λ_ _ _ _ _ H _ Q E hr h=>?_)
 .obtain⟨b,wide,ll,xs,L,W,u,ex,rfl,_⟩:=h;rfl
 .obtain⟨b,wide,ll,xs,L,W,u,ex,rfl,hZ,hL,hx,hmx,hst,hwW,hW,hn,hu,hw,hnu,hbd,q⟩:=h;refine⟨_,(aq (aG 3 uW.nd (f9 aj)) (aq (aG 4 uW.nd ao) (aq (fY PassesOwn.never rfl (iB rfl B.gw (ak (pv 1) aj)) (aY 5 uW.nd) (aq (aG 6 uW.nd (cL K B.cN (ak (pv 3) aj))) (aq (aG 7 uW.nd (aO O6 hr (ak (pv 2) (ak (pv 6) (ak (pv 5) aj))))) (aD (dF (HW (aiL (pv 7))) (aq (nA (aO Ks hr (ak (pv 0) (ak (pv 2) (ak (pv 7) (ak (pv 6) aj)))))) (aq (fY PassesOwn.never rfl (iB rfl B.gw (aN (cL K B.cN (ak (pv 2) aj)) aj)) (aY 8 uW.nd) (aD (uE (dF (cM (mO K hr) (pv 8) (pv 6)) (aD (v7 (aO Sg hr (ak (pv 0) (aN (aM K (pv 2) (pv 8)) (aN (aM K (pv 2) (pv 6)) (ak (pv 5) (ak (pv 4) aj)))))) (yc (pv 2) (pv 8) set_list))) dW)))) (aq (aG 4 uW.nd (aM K (aM K (pv 2) (pv 6)) (pv 5))) (aD (nA (tE K (pv 3) (pv 5))))))) dW))))) (aD (aZ (gb (ak (pv 3) (ak (pv 4) aj)))))))),?_⟩;have hB:nJ b:= .inl hZ;obtain⟨hb0,hb1,hb2⟩:=hB.range;have hD:=hB.dom;refine⟨cj _,λlh Cd=>?_⟩;have kh:=Same.new Cd (.lst []);have hm:ll∈lh::ex:=cO _ hmx;have hml:lh∈lh::ex:=bN;have st:∀{H':Hp} {o o':HO},Keep ll H H'->H' ll=some o->H' lh=some o'->Stand H' (lh::ex):=λk e e' a ha=>by
   rcases bH.mp ha with z|z
   .rw[z];exact⟨_,e'⟩
   .exact(hst.keep k ⟨_,e⟩) a z
  have hne:lh≠ll:=λz=>by rw[z,hL]at Cd;cases Cd
  refine⟨_,rfl,(wide:Int),rfl,(⋯:-(2^62)<=(wide:Int)),(⋯:(wide:Int)<2^62),?_⟩;refine jH (lo:=0) (n:=(wide:Int).toNat) (λc σ' H'=>∃(o5 o6 o7 o8:Option V) (A:Nat->Nat->Int) (hd:Nat->Nat) (r:Nat) (L':List (List Int)) (last:Int) (xs':List V),σ'=[some (.int b),some (.int wide),some (.ref ll),some (.ref lh),some (.int last),o5,o6,o7,o8]/\Keep ll H H'/\H' lh=some (.lst ((Pm.aP r λh=>((hd h:Nat):Int)).map V.int))/\H' ll=some (.lst xs')/\bJ H' (lh::ex) xs' L'/\Dm.dH b L.length W u (λi k=>Pm.co (Dm.ln L i) k) c A hd r L' last)
   ⟨_,_,_,_,_,_,0,L,1,xs,rfl,Keep.same kh,aC,kh _ _ hL,(hx.more Cd).same kh,Dm.dH.start hB.one hw hnu hbd⟩ ?_ ?_
  .rintro c σ' H1 hc ⟨o5,o6,o7,o8,A,hd,r,L1,last,xs1,rfl,k1,hH1,hL1,hx1,I⟩;have m8:c<W:=⋯;have hrn:=I.rn;have len1:=I.len;have lh1:((Pm.aP r λh=>((hd h:Nat):Int)).map V.int).length=r:=by rw[aB,Pm.cu]
   refine⟨_,rfl,.ref lh,r,rfl,.inl ⟨_,au.of hH1,lh1.symm⟩,?_⟩;refine⟨_,rfl,_,rfl,_,rfl,ll,xs1,L1,W,r,c,0+(c:Int),_,rfl,⋯,hL1,hx1,λi hi=>I.wd i ⋯,m8,⋯,⋯,λa h1 h2 h3=>?_,λhz=>?_⟩
   ·-- a head
    refine⟨_,rfl,_,rfl,?_⟩;rw[decide_eq_false (show ¬V.int (a:Int)=V.non fromλz=>by cases z)];refine qj ?_;refine⟨_,rfl,_,rfl,_,rfl,_,rfl,b,ll,xs1,L1,a,r,_,rfl,hb0,hL1,hx1,hm,st k1 hL1 hH1,h1,h2,λi hi=>by rw[I.wd i ⋯];omega,λxs2 L2 H2 k2 hL2 hx2 br=>?_⟩;obtain⟨A2,I2,hp⟩:∃A2,Dm.dH b L.length W u (λi k=>Pm.co (Dm.ln L i) k) c A2 hd r L2 last/\Pm.co (Dm.ln L2 r) c≠0:=by
     rcases br with⟨e1,e2⟩|⟨e0,e1,e2,e3,e4⟩
     .exact⟨A,by rw[e2];exact I,by rw[e2,<-e1];exact h3⟩
     .exact⟨_,I.bring e0 ⋯ ⋯ e2 e3 e4,by rw[e2];exact h3⟩
    have hrl:r<L.length:=⋯;have k12:=k1.trans k2;have hH2:=k2 _ _ hne hH1;have len2:=I2.len;have lx2:=hx2.len;obtain⟨bl,be⟩:=hu _ _ _ _ _ _ (iM m8) I2;have aoQ:last≠0:=by rw[I2.la];exact I2.nz
    have atO:last=Rm.tk b last:=by
     have:=I2.la;rw[this,Rm.gJ]
    refine⟨_,rfl,.ref ll,L.length,rfl,.inl ⟨_,au.of hL2,by rw[lx2,len2]⟩,(L.length:Int),rfl,(⋯:-(2^62)<=(L.length:Int)),(⋯:(L.length:Int)<2^62),?_⟩;refine jH (lo:=0) (n:=(L.length:Int).toNat) (λi σ' H'=>∃(o8:Option V) (L3:List (List Int)) (vC:List V),σ'=[some (.int b),some (.int wide),some (.ref ll),some (.ref lh),some (.int last),some (.int (0+(c:Int))),some (.int r),some (.int a),o8]/\Keep ll H H'/\H' lh=some (.lst ((Pm.aP r λh=>((hd h:Nat):Int)).map V.int))/\H' ll=some (.lst vC)/\bJ H' (lh::ex) vC L3/\L3.length=L.length/\
      (∀j,i<=j∨j=r->Dm.ln L3 j=Dm.ln L2 j)/\∀j,j<i->j≠r->(Dm.ln L3 j).length=W/\∀k,k<W->Pm.co (Dm.ln L3 j) k=Rm.tk b (Pm.co (Dm.ln L3 j) k)/\Rm.tk b (last*Pm.co (Dm.ln L3 j) k)=Rm.tk b (Pm.co (Dm.ln L2 r) c*Pm.co (Dm.ln L2 j) k-Pm.co (Dm.ln L2 j) c*Pm.co (Dm.ln L2 r) k))
     ⟨_,L2,xs2,rfl,k12,hH2,hL2,hx2,len2,λ_ _=>rfl,λj hj=>absurd hj (jP _)⟩ ?_ ?_
    .rintro i σ' H3 hi ⟨o8,L3,vC,rfl,k3,AX,m6,pI,Jz,eq3,C0⟩;have hi':i<L.length:=⋯;have Qw:=pI.len;refine⟨_,rfl,_,rfl,_,rfl,?_⟩;by_cases e:i=r
     .refine Px ⋯ ⟨_,L3,vC,rfl,k3,AX,m6,pI,Jz,λj hj=>eq3 j ⋯,λj hj hj'=>C0 j ⋯ hj'⟩
     .have hne':¬(0+(i:Int))=(r:Int):=⋯;rw[decide_eq_false hne'];refine qj ?_;obtain⟨ti,i1,i2,i3⟩:=pI.get (show i<L3.length by omega);obtain⟨tr,r1,r2,r3⟩:=pI.get (show r<L3.length by omega);rw[eq3 i ⋯]at i3;rw[eq3 r ⋯]at r3;have wi:=I2.wd i hi';have wr:=I2.wd r hrl;refine⟨_,rfl,_,rfl,_,rfl,_,.ref ti,.inl (au.of m6),ug i ⋯ i1,?_⟩;refine⟨_,rfl,_,rfl,_,.ref tr,.inl (au.of m6),ug r rfl r1,_,rfl,_,rfl,?_⟩;refine⟨b,last,ti,tr,_,_,c,0+(c:Int),rfl,⋯,hZ,i3,r3,⋯,⋯,⋯,aoQ,atO,bl,λx hx=>(be i hi' x hx).mono ∅,λx hx=>(be r hrl x hx).mono ∅,λhb k hk=>?_,λt m H4 g4 ht4 h4 lm hmm=>?_⟩
      .have hen:=λj (hj:j<L.length) k (hk:k<W)=>I2.en j k hj hk;have s:=Dm.DQ (A:=A2) (hd:=hd) (r:=r) (c:=c) (λz=>hp (by rw[hen r hrl c m8,z];exact Pm.tk0 b)) (show i≠r by omega) k;refine⟨Dm.En A2 (Dm.more hd r c) (r+1) i k,?_⟩;rw[hen r hrl c m8,hen i hi' k ⋯,hen i hi' c m8,hen r hrl k ⋯,I2.la,hb];simp only[Rm.bw];exact s.symm
      .have tl:t∉lh::ex:=(st k3 m6 AX).fresh ht4;have vN:=g4 _ _ m6;have QD:=pI.same g4;refine⟨_,rfl,_,rfl,ll,_,_,i,rfl,rfl,vN,xr ⋯ (by rw[Qw];omega),?_⟩;have k5:=Keep.upd ll H4 (.lst (vC.set i (.ref t)));refine⟨_,L3.set i m,vC.set i (.ref t),rfl,(k3.trans (Keep.same g4)).trans k5,k5 _ _ hne (g4 _ _ AX),aC,(bJ.set tl h4 i QD).keep hm k5,by rw[oJ];exact Jz,λj hj=>?_,λj hj hj'=>?_⟩
       .rw[wR _ ⋯,if_neg ⋯];exact eq3 j ⋯
       .rw[wR _ ⋯];by_cases ej:j=i
        .rw[if_pos ej,ej,lm,wi];exact⟨rfl,λk hk=>hmm k ⋯⟩
        .rw[if_neg ej];exact C0 j ⋯ hj'
    .rintro σ' H3 ⟨o8,L3,vC,rfl,k3,AX,m6,pI,Jz,eq3,C0⟩;rw[fQ]at eq3 C0;have axD:=pI;obtain⟨tr,r1,r2,r3⟩:=pI.get (show r<L3.length by omega);rw[eq3 r (.inr rfl)]at r3;have wr:=I2.wd r hrl;refine⟨_,rfl,_,rfl,_,.ref tr,.inl (au.of m6),ug r rfl r1,_,rfl,_,_,.inl (au.of r3),eG (ns:=Dm.ln L2 r) (⋯:(0:Int)<=0+(c:Int)) ⋯,?_⟩;refine⟨_,rfl,.inl ⟨rfl,_,au.of AX⟩,_,rfl,lh,_,_,rfl,rfl,AX,by rw[lh1];exact fH ⋯,?_⟩;have I3:=I2.free hD m8 hrl hp Jz (eq3 r (.inr rfl)) λj hj hj'=>C0 j hj hj';have ec:(0+(c:Int)).toNat=c:=⋯;refine⟨some (.int (0+(c:Int))),some (.int r),some (.int a),o8,A2,Dm.more hd r c,r+1,L3,Pm.co (Dm.ln L2 r) c,vC,?_,λx v nx hv=>?_,?_,?_,?_,I3⟩
     .rw[ec];rfl
     .by_cases z:x=lh
      .rw[z,Cd]at hv;cases hv
      .rw[bK z];exact k3 _ _ nx hv
     .rw[aC,Pm.Tc,DB];have e1:(Pm.aP r λh=>((Dm.more hd r c h:Nat):Int))=Pm.aP r λh=>((hd h:Nat):Int):=m7 λh hh=>by
       have:=iQ.mp hh;unfold Dm.more;rw[if_neg ⋯]
      have e2:((Dm.more hd r c r:Nat):Int)=0+(c:Int):=by unfold Dm.more;rw[if_pos rfl];omega
      rw[e1,e2]
     .rw[bK hne.symm];exact m6
     .exact pI.keep hml (Keep.upd lh H3 _)
   ·-- none
    refine⟨_,rfl,_,rfl,?_⟩;rw[decide_eq_true rfl];exact gC ⟨_,_,_,_,A,hd,r,L1,last,xs1,rfl,k1,hH1,hL1,hx1,I.skip hD m8 λi h1 h2=>hz i h1 ⋯⟩
  .rintro σ' H1 ⟨o5,o6,o7,o8,A,hd,r,L1,last,xs1,rfl,k1,hH1,hL1,hx1,I⟩;rw[fQ]at I;refine⟨_,rfl,_,rfl,(by show 2<=sizeLine;decide),λt ht=>?_⟩;have kt:=Same.new ht (.tup [.ref lh,.int last]);exact q t lh A hd r L1 last xs1 _ (k1.trans (Keep.same kt)) aC (kt _ _ hH1) (kt _ _ hL1) ((hx1.less λa ha=>cO _ ha).same kt) I
theorem asj(F:Fn K mg "common_divisor" QH ["one","other"]):V2 P w K mg base:=by
 refine F.cal yI (λvs H Q E h=>?_) (λ_ _ _ _ _ H _ Q E hr h=>?_)
 .obtain⟨x,y,rfl,_⟩:=h;rfl
 .obtain⟨x,y,rfl,q⟩:=h;refine⟨_,(aq (aG 2 yI.nd (gY wz rfl B.wG boot_abs (ak (pv 0) aj))) (aq (aG 3 yI.nd (gY wz rfl B.wG boot_abs (ak (pv 1) aj))) (aq (qm PassesOwn.never (cM qg (pv 3) ao) (aq (aG 4 yI.nd (aH gK (pv 2) (pv 3))) (aq (aG 2 yI.nd (pv 3)) (aD (aG 3 yI.nd (pv 4)))))) (aD (aZ (pv 2)))))),?_⟩;refine⟨_,rfl,x,rfl,?_⟩;refine⟨_,rfl,y,rfl,?_⟩;rw[Dj,Dj];refine⟨λt σ' H'=>∃(g w:Nat) (o4:Option V),w=t/\jT g w=jT x.natAbs y.natAbs/\σ'=[some (.int x),some (.int y),some (.int g),some (.int w),o4]/\H=H',⟨_,x.natAbs,y.natAbs,_,rfl,rfl,rfl,rfl⟩,?_⟩;rintro t σ' H' ⟨g,w,o4,rfl,hg,rfl,rfl⟩;refine⟨_,rfl,_,_,rfl,rfl,_,rfl,?_⟩;refine dM (λc=>?_) (λc=>?_)
  .have hw:0<w:=by have:=dec_true c;omega
   refine⟨_,λ_ _ z=>z,?_⟩;refine⟨_,rfl,_,rfl,_,_,rfl,rfl,(⋯:(0:Int)<(w:Int)),?_⟩;refine⟨_,rfl,?_⟩;refine⟨_,rfl,?_⟩;refine⟨g%w,Nt _ hw,w,g%w,some (.int ((g%w:Nat):Int)),rfl,?_,?_,rfl⟩
   .rw[<-hg,Ia w,<-Nat.gcd_rec,Ia]
   .rw[Cv];rfl
  .have hw:w=0:=by have:=dec_false c;omega
   subst hw;rw[abt]at hg;rw[<-hg]at q;exact⟨_,rfl,q⟩
theorem akE(F:Fn K mg "lowest" Ss ["by","bottom","tops"])(oX:Eb P w K mg base)(RQ:V2 P w K mg base):Ub P w K mg base:=by
 refine F.cal Bv (λvs H Q E h=>?_) (λ_ _ _ _ _ H _ Q E hr h=>?_)
 .obtain⟨bt,l,ts,rfl,_⟩:=h;rfl
 .obtain⟨bt,l,ts,rfl,n0,hL,hz,bb,q⟩:=h;refine⟨_,(aq (dF (cM (mO K hr) (pv 0) ao) (aD (aZ (gb (bZ ao (aN (gF (sc:=aoU) (N:=["top","bottom","by"]) (ix:=[none,some 1,some 0]) d7 rfl (gh K (pv 2)) (λcl C s₀ H₀ ex=>⟨(aY 0 dU),eV,(aO oX hr (ak (pv 2) (ak (pv 0) (ak (pv 1) aj))))⟩)) aj))))) dW) (aq (iZ (i:=4) Bv.nd rfl (gP rfl) (gY wz rfl B.wG boot_abs (ak (pv 1) aj))) (aq (fY PassesOwn.never rfl (gh K (pv 2)) (aY 3 Bv.nd) (aD (iZ (i:=4) Bv.nd rfl (gP rfl) (aO RQ hr (ak (pv 4) (ak (pv 3) aj)))))) (aq (uE (dF (cM AK (pv 1) ao) (aD (iZ (i:=4) Bv.nd rfl (gP rfl) (aH cZ ao (pv 4)))) dW)) (aD (aZ (gb (eX (aH Nj (pv 1) (pv 4)) (aN (gF (sc:=apw) (N:=["top","divisor"]) (ix:=[none,some 4]) d7 rfl (gh K (pv 2)) (λcl C s₀ H₀ ex=>⟨(aY 0 dU),eV,(aH Nj (pv 0) (pv 1))⟩)) aj))))))))),?_⟩;refine⟨_,rfl,_,rfl,?_⟩
  .refine gC ?_;refine⟨_,rfl,bt,rfl,?_⟩;rw[Dj];refine⟨_,rfl,l,rfl,.inl ⟨⟨_,au.of hL⟩,?_⟩⟩;refine DF (qx (au.of hL)) (λi σ' H'=>∃o3,σ'=[some (.int 0),some (.int bt),some (.ref l),o3,some (.int (Lm.fL bt.natAbs (ts.take i):Nat))]/\H=H') ⟨_,rfl,rfl⟩ (λi σ' H' ⟨_,_,z⟩=>z▸Same.refl _) ?_ ?_
   .rintro i x σ' H' hx ⟨o3,rfl,rfl⟩;obtain⟨rfl,hi⟩:=M9 hx;refine⟨_,rfl,_,rfl,_,_,rfl,some (.int (Pm.co ts i)),?_,rfl⟩;rw[G6 (xs:=ts) (n:=i+1) ⋯ ⋯,fX,Lm.W8,zB];rfl
   rintro σ' H' ⟨o3,rfl,rfl⟩;rw[aB,ni];refine qY.by (λσ' H'=>σ'=[some (.int 0),some (.int bt),some (.ref l),o3,some (.int (Lm.low bt ts))]/\H=H') (λNN mX=>?_) ?_
   .refine⟨_,rfl,_,_,rfl,rfl,_,rfl,?_⟩;refine dM (λc=>?_) (λc=>?_)
    .refine⟨_,rfl,_,_,rfl,rfl,mX _ _ ⟨?_,rfl⟩⟩;unfold Lm.low;rw[if_pos (dec_true c)];rfl
    .refine mX _ _ ⟨?_,rfl⟩;unfold Lm.low;rw[if_neg (dec_false c)]
   .rintro _ _ ⟨rfl,rfl⟩;have afq:=al7 (ts:=ts) n0 bb;have hne:=Lm.low_ne n0 ts;refine⟨_,rfl,_,rfl,_,_,rfl,rfl,⟨hne,afq⟩,?_⟩;refine⟨_,rfl,l,rfl,.inl ⟨⟨_,au.of hL⟩,?_⟩⟩;refine GX hL ⋯ rfl (λt=>t.fdiv (Lm.low bt ts)) ?_ ?_
    .intro H2 x g2 hx k hk;exact⟨_,rfl,_,rfl,_,_,rfl,rfl,⟨hne,afq⟩,hk⟩
    .intro D hD;have gD:=Same.new hD (.lst ((ts.map λt=>t.fdiv (Lm.low bt ts)).map V.int));refine⟨(by show 2<=sizeLine;decide),λt ht=>?_⟩;have gt:=Same.new ht (.tup [.int (bt.fdiv (Lm.low bt ts)),.ref D]);exact q t D _ _ _ (gD.trans gt) aC (gt _ _ aC) hD ⟨λP e h=>by have:=(zx P h).1;omega,λ_=>⟨rfl,rfl⟩,aB _⟩
theorem ao1(F:Fn K mg "free_numbers" MS ["by","wide","lines","heads","last"])(dG:nG P w K mg base)(Bq:Ub P w K mg base):Ws P w K mg base:=by
 refine F.cal ar7 (λvs H Q E h=>?_) (λ_ _ _ _ _ H _ Q E hr h=>?_)
 .exact False.elim h
 .exact False.elim h
theorem apv(F:Fn K mg "solution" OJ ["by","wide","table","wished"])(TX:aex P w K mg base)(Lq:Wt P w K mg base)(Bq:Ub P w K mg base)(N8:Ws P w K mg base):Ql P w K mg base:=by
 refine F.cal vg (λvs H Q E h=>?_) (λ_ _ _ _ _ H _ Q E hr h=>?_)
 .obtain⟨u,wide,ta,tw,xs,L,ws,ex,rfl,_⟩:=h;rfl
 .obtain⟨u,wide,ta,tw,xs,L,ws,ex,rfl,hT,hx,hW,lw,hn,hw,hsz,DV,bL,bW,⟨sx,sb,hs0,hs⟩,hI,qo⟩:=h;refine⟨_,(aq (uL (i:=4) (hN:=vg.nd) (hi':=rfl) (hx:=(oF rfl)) (sc:=aro) (N:=["i","by","table","wished"]) (ix:=[none,some 0,some 2,some 3]) d7 rfl (iB rfl B.gw (aN (cL K B.cN (ak (pv 2) aj)) aj)) (λcl C s₀ H₀ ex=>⟨(aY 0 dU),eV,(aO TX hr (ak (pv 1) (eX (pad K (aM K (pv 2) (pv 0)) (f9 (aN (aM K (pv 3) (pv 0)) aj))) aj)))⟩)) (aq (aG 6 vg.nd (aO Lq hr (ak (pv 0) (ak (pv 1) (ak (pv 4) aj))))) (aq (aG 7 vg.nd (aM K (pv 6) ao)) (aq (aG 8 vg.nd (aM K (pv 6) ao)) (aq (dF (lB (gY (K2 K rfl) rfl B.Uj boot_any (aN (gF (sc:=alp) (N:=["line","wide"]) (ix:=[none,some 1]) d7 rfl (gh K (rP (rF K) (pv 4) (pZ (cL K B.cN (ak (pv 7) aj))) uK)) (λcl C s₀ H₀ ex=>⟨(aY 0 dU),eV,(tM (mO K hr) (aM K (pv 0) (pv 1)) ao (sH _))⟩)) aj))) (aD (aZ Ld)) dW) (aq (aG 9 vg.nd (aH v_mul (f9 (bZ ao aj)) (pv 1))) (aq (fY PassesOwn.never rfl (iB rfl B.gw (aN (cL K B.cN (ak (pv 7) aj)) aj)) (aY 5 vg.nd) (aD (v7 (aM K (aM K (pv 4) (pv 5)) (pv 1)) (yc (pv 9) (aM K (pv 7) (pv 5)) set_list)))) (aq (aG 10 vg.nd (aO Bq hr (ak (pv 0) (ak (pv 8) (ak (pv 9) aj))))) (aq (dF (cM (iD K hr) (cL K B.cN (ak (pv 7) aj)) (pv 1)) (aD (aZ (gb (bZ Eu (aN (aM K (pv 10) ao) (aN (aM K (pv 10) ao) aj)))))) dW) (aD (aZ (gb (bZ Eu (aN (aM K (pv 10) ao) (aN (aM K (pv 10) ao) (aN (aO N8 hr (ak (pv 0) (ak (pv 1) (ak (pv 4) (ak (pv 7) (ak (pv 8) aj)))))) aj)))))))))))))))),?_⟩;have hB:nJ 0:= .inl rfl;have hDm:=hB.dom;have hb0:(0:Int)<=0:=Int.le_refl 0;have lx:=hx.len;have lWm:(ws.map V.int).length=ws.length:=aB _;refine⟨_,rfl,.ref ta,L.length,rfl,.inl ⟨_,au.of hT,⋯⟩,?_⟩;refine⟨(L.length:Int),rfl,(⋯:-(2^62)<=(L.length:Int)),(⋯:(L.length:Int)<2^62),?_⟩;rw[fQ];refine ady EG (by rw[aB,oO];omega) rfl (JF λi=>(Dm.ln L i++[Pm.co ws i]).map (Rm.tk 0)) ?_ ?_
  .intro H2 x g2 hx2 k hk;obtain⟨j,hj,rfl⟩:=cB.mp hx2;have hj':=iQ.mp hj;obtain⟨t,e1,_,e2⟩:=(hx.same g2).get (i:=j) hj';refine⟨_,rfl,_,rfl,_,rfl,_,.ref t,.inl (au.of (g2 _ _ hT)),ug j ⋯ e1,?_⟩;refine⟨_,rfl,_,rfl,_,_,.inl (au.of (g2 _ _ hW)),eG (ns:=ws) (⋯:(0:Int)<=0+(j:Int)) ⋯,(by show 1<=sizeLine;decide),λl1 hl1=>?_⟩;have ej:(0+(j:Int)).toNat=j:=⋯;rw[ej];obtain⟨H3,uu,g3,h1⟩:=nw hl1 (.lst [.int (ws.getD j 0)]);rw[uu];have e3:=g3 _ _ e2;refine .inl ⟨_,_,e3,h1,?_,λl2 hl2=>?_⟩
   .rw[aB,DV j hj'];exact iM (fH (by show wide+1<=1000;omega))
   have g4:=Same.new hl2 (.lst ((Dm.ln L j).map V.int++[.int (ws.getD j 0)]));refine⟨0,l2,Dm.ln L j++[Pm.co ws j],rfl,hb0,by rw[aC,gO];rfl,by rw[fO,DV j hj'];show wide+1<=1000;omega,λt' H5 g5 hn5 h5=>?_⟩;refine hk t' H5 ((g3.trans g4).trans g5) ((g3.trans g4).free hn5) ?_;show H5 t'=some (.lst (((Dm.ln L (0+(j:Int)).toNat++[Pm.co ws (0+(j:Int)).toNat]).map (Rm.tk 0)).map V.int));rw[ej];exact h5
  intro D ys H1 hD g1 hD1 hy;rw[auU]at hy;have ly:=hy.len;rw[Dm.wj]at ly;have amS:∀i k,Rm.Bd u (Dm.aug 0 L ws i k):=λi k=>by
   by_cases hi:i<L.length
   .unfold Dm.aug;rw[Dm.B6 hi,Pm.lY (Pm.tk0 0)];refine Rm.pY hb0 (Rm.Bd.zero _) (Pm.jK (λx hx=>?_) k);rcases fM.mp hx with hx|hx
    .exact bL _ (agd hi) x hx
    .rw[dj.mp hx];exact Pm.jK bW i
   .have e:Dm.ln (Dm.qD 0 L ws) i=[]:=by
     unfold Dm.ln;rw[List.getD_eq_getElem?_getD,List.getElem?_eq_none (by rw[Dm.wj];omega)];rfl
    unfold Dm.aug;rw[e,Pm.fV];exact Rm.Bd.zero _
  refine⟨_,rfl,_,rfl,_,rfl,0,wide,D,ys,Dm.qD 0 L ws,wide+1,u,[D],rfl,rfl,hD1,hy,dj.mpr rfl,(λa' ha=>by rw[dj.mp ha];exact⟨_,hD1⟩),⋯,⋯,by rw[Dm.wj];omega,by rw[Dm.wj];exact hsz.2,λi hi=>?_,λi k=>Dm.amg i k,λi k=>amS i k,λt th A hd r L' last xs' H2 k2 hTt hTh hL' hx' I=>?_⟩
  .rw[Dm.wj]at hi;rw[Dm.B6 hi,aB,fO,DV i hi];rfl
  rw[Dm.wj]at I;have gS:Same H H2:=λc u hu=>k2 _ _ (λz=>by rw[z,hD]at hu;cases hu) (g1 _ _ hu);have lh:((Pm.aP r λh=>((hd h:Nat):Int)).map V.int).length=r:=by rw[aB,Pm.cu]
  have lh0:(Pm.aP r λh=>((hd h:Nat):Int)).length=r:=Pm.cu ..;have lx':=hx'.len;have VB:=I.len;have hrn:=I.rn;refine⟨_,rfl,_,_,.inr (aA.of hTt),rfl,?_⟩;refine⟨_,rfl,_,_,.inr (aA.of hTt),rfl,?_⟩;refine⟨_,rfl,_,rfl,.ref th,r,rfl,.inl ⟨_,au.of hTh,lh.symm⟩,_,rfl,.inl ⟨_,au.of hL',λps hps=>?_⟩⟩;rw[ap3 xs' ⋯];obtain⟨H3,uu,gp,hp3⟩:=nw hps (.lst (xs'.drop r));rw[uu];have pI:=(bJ.drop r hx').same gp;refine⟨ps,rfl,.inl ⟨⟨_,au.of hp3⟩,?_⟩⟩;refine ahq hp3 pI (by rw[oA];omega) rfl (λp=> .bl (not (decide (p.getD wide 0=0)))) ?_ ?_
  .intro H4 t p g4 hp sJ k hk;obtain⟨i,h1,h2,rfl⟩:=Xh hp;have:=I.wd i ⋯;refine⟨_,rfl,_,rfl,_,_,.inl (au.of sJ),eG (ns:=Dm.ln L' i) (⋯:(0:Int)<=(wide:Int)) ⋯,?_⟩;rw[fQ];exact hk _ (Same.refl _)
  intro D2 H4 hD2 g4 hD4;have gg:=(gS.trans gp).trans g4;have hbs:((L'.drop r).map λp=>V.bl (not (decide (p.getD wide 0=0))))=((L'.drop r).map λp=>not (decide (p.getD wide 0=0))).map V.bl:=by rw[cH];rfl
  rw[hbs]at hD4;refine⟨D2,_,rfl,au.of hD4,_,rfl,?_⟩;refine dM (λc=>?_) (λc=>?_)
  .obtain⟨x,hx1,hx2⟩:=tQ.mp c;obtain⟨p,hp,rfl⟩:=cB.mp hx1;obtain⟨i,h1,h2,rfl⟩:=Xh hp;have hne:Rm.tk 0 (Dm.En A hd r i wide)≠0:=by
    rw[<-I.en i wide ⋯ ⋯];intro z;have z':(Dm.ln L' i).getD wide 0=0:=z;rw[decide_eq_true z']at hx2;cases hx2
   exact absurd (I.auo hDm hs0 hs i h1 ⋯) hne
  have hz:∀i,r<=i->i<L.length->Rm.tk 0 (Dm.En A hd r i wide)=0:=λi h1 h2=>by
   rw[<-I.en i wide ⋯ ⋯];by_cases z:Pm.co (Dm.ln L' i) wide=0
   .exact z
   .refine absurd (tQ.mpr ⟨true,cB.mpr ⟨_,agN h1 ⋯,?_⟩,rfl⟩) c;have z':¬(Dm.ln L' i).getD wide 0=0:=z;rw[decide_eq_false z'];rfl
  have vN:=g4 _ _ (gp _ _ hL');have QD:=(hx'.same gp).same g4;have Ra:=g4 _ _ (gp _ _ hTh);refine⟨(by show 1<=sizeLine;decide),λl1 hl1=>?_⟩;obtain⟨H5,uu,g5,h1⟩:=nw hl1 (.lst [.int 0]);rw[uu];refine⟨_,rfl,_,h1,⋯,⋯,?_,λl2 hl2=>?_⟩
  .show 1*(wide:Int).toNat<=sizeLine;rw[vW];exact iM (fH ⋯)
  rw[fQ,Ud];have g6:=Same.new hl2 (.lst ((Pm.aP wide λ_=>0).map V.int));have h2:(upd H5 l2 (.lst ((Pm.aP wide λ_=>0).map V.int))) l2=some (.lst ((Dm.pJ (λh=>Rm.tk 0 (Dm.En A hd r h wide)) hd wide 0).map V.int)):=by rw[aC,Dm.aqo]
  have Lz:=g5.trans g6;have f2:H4 l2=none:=g5.free hl2;generalize upd H5 l2 (.lst ((Pm.aP wide λ_=>0).map V.int))=H6 at g6 h2 Lz;refine⟨_,rfl,.ref th,r,rfl,.inl ⟨_,au.of (Lz _ _ Ra),lh.symm⟩,?_⟩;refine⟨(r:Int),rfl,(⋯:-(2^62)<=(r:Int)),(⋯:(r:Int)<2^62),?_⟩;refine jH (lo:=0) (n:=(r:Int).toNat) (λi σ' H'=>∃(o5:Option V),σ'=[some (.int 0),some (.int wide),some (.ref ta),some (.ref tw),some (.ref D),o5,some (.ref t),some (.ref th),some (.int last),some (.ref l2),none]/\Same H4 H'/\H' l2=some (.lst ((Dm.pJ (λh=>Rm.tk 0 (Dm.En A hd r h wide)) hd wide i).map V.int))) ⟨_,rfl,Lz,h2⟩ ?_ ?_
  .rintro i σ' H' hi ⟨o5,rfl,g,hU⟩;have hi':i<r:=⋯;obtain⟨t4,e1,_,e2⟩:=(QD.same g).get (i:=i) ⋯;have hwi:=I.wd i ⋯;refine⟨_,rfl,_,rfl,_,.ref t4,.inl (au.of (g _ _ vN)),ug i ⋯ e1,_,rfl,_,_,.inl (au.of e2),eG (ns:=Dm.ln L' i) (⋯:(0:Int)<=(wide:Int)) ⋯,?_⟩;refine⟨_,rfl,_,rfl,_,rfl,_,_,.inl (au.of (g _ _ Ra)),eG (ns:=Pm.aP r λh=>((hd h:Nat):Int)) (⋯:(0:Int)<=0+(i:Int)) (by rw[lh0];omega),?_⟩;have eh:(Pm.aP r λh=>((hd h:Nat):Int)).getD (0+(i:Int)).toNat 0=((hd i:Nat):Int):=by
    rw[show(0+(i:Int)).toNat=i by omega];have:=Pm.dD r (λh=>((hd h:Nat):Int)) i;rw[if_pos hi']at this;exact this
   rw[eh,fQ];have hc:=I.hc i hi';refine⟨l2,_,_,hd i,rfl,rfl,hU,xr rfl (by rw[aB,Dm.Ai];exact hc),?_⟩;rw[Gn];refine⟨_,rfl,g.upd f2 _,?_⟩;have en:(Dm.ln L' i).getD wide 0=Rm.tk 0 (Dm.En A hd r i wide):=I.en i wide ⋯ ⋯;rw[aC,en,Dm.am1 hc (λh hh e=>by have:=I.up h i hh hi';omega)]
  rintro σ' H7 ⟨o5,rfl,g7,hU⟩;rw[fQ]at hU;refine⟨_,rfl,_,rfl,_,rfl,last,l2,_,rfl,I.uc.1,hU,by rw[Dm.Ai];omega,(hsz.2 _ _ _ _ _ _ ⋯ I).1,λtl lt bot us H8 g8 htl hlt frl low=>?_⟩;have so:Dm.xX u 0 L.length wide (Dm.aug 0 L ws) bot us:=⟨A,hd,r,L',last,I,hz,low⟩;have auG:=g8 _ _ (g7 _ _ Ra);have gA:=(gg.trans g7).trans g8;refine⟨_,rfl,.ref th,r,rfl,.inl ⟨_,au.of auG,lh.symm⟩,_,rfl,_,rfl,?_⟩;rw[(I.aiw hI).1,decide_eq_true rfl];refine qj ?_;refine⟨_,rfl,_,_,.inr (aA.of htl),rfl,_,rfl,_,_,.inr (aA.of htl),rfl,(by show 3<=sizeLine;decide),λt2 su=>?_⟩;have g9:=Same.new su (.tup [.str ("one" : Str),.int bot,.ref lt]);exact qo _ _ so t2 lt _ (gA.trans g9) aC (g9 _ _ hlt)
theorem aob(F:Fn K mg "refuse_big" UW ["poly"]):Zk P w K mg base dN:=by
 refine F.Gb auH (λvs H Q E h=>?_) (λ_ _ _ _ _ H _ Q E hr h=>?_)
 .obtain⟨a,P,rfl,_⟩:=h;rfl
 .obtain⟨a,P',rfl,hA,zP,q1,q2⟩:=h;refine⟨_,(aD (dF (lB (gY (K2 K rfl) rfl B.Uj boot_any (aN (gF (sc:=apj) (N:=["number"]) (ix:=[none]) d7 rfl (gh K (pv 0)) (λcl C s₀ H₀ ex=>⟨(aY 0 dU),eV,(tM ard (gY wz rfl B.wG boot_abs (ak (pv 0) aj)) (afv rfl B.Mx) (sH _))⟩)) aj))) (aD (Vi M.awU rfl (bZ Eu aj))) dW)),?_⟩;refine⟨_,rfl,a,rfl,.inr ⟨⟨_,aA.of hA⟩,?_⟩⟩;refine qw (RG (aA.of hA)) (by rw[aB];exact iM (fH ⋯)) rfl (λ_=>true) (λx=>match x with | .int k=> .bl (decide ((1000000:Int)<=(if k<0 then -k else k)))|_=> .non) ?_ ?_ ?_
  .intro H2 x g2 hx k hk;exact hk
  .intro H2 x g2 hx _ k hk;obtain⟨y,hy,rfl⟩:=cB.mp hx;exact⟨_,rfl,y,rfl,_,_,rfl,rfl,hk⟩
  intro D hD;have el:(((P'.map V.int).filter λ_=>true).map λx=>match x with | .int k=>V.bl (decide ((1000000:Int)<=(if k<0 then -k else k)))|_=>V.non)=(P'.map λk=>decide ((1000000:Int)<=(if k<0 then -k else k))).map V.bl:=by
   rw[qP.mpr (by simp),cH,cH];rfl
  rw[el];refine⟨D,_,rfl,au.of aC,_,rfl,?_⟩;refine dM (λc=>⟨(by show 1<=sizeLine;decide),q2 ?_ _ (Same.new hD _)⟩) (λc=>q1 (λx hx=>?_) _ (Same.new hD _))
  .obtain⟨b,hb,e⟩:=tQ.mp c;obtain⟨x,hx,rfl⟩:=cB.mp hb;refine⟨x,hx,?_⟩;have:(1000000:Int)<=(if x<0 then -x else x):=of_decide_eq_true e;split at this<;>omega
  .by_cases z:x.natAbs<1000000
   .exact z
   .refine absurd (tQ.mpr ⟨true,cB.mpr ⟨x,hx,decide_eq_true ?_⟩,rfl⟩) c;split<;>omega
theorem ara(F:Fn K mg "whole_divisors" Np ["number"]):Vh P w K mg base:=by
 refine F.cal C5 (λvs H Q E h=>?_) (λ_ _ _ _ _ H _ Q E hr h=>?_)
 .obtain⟨n,rfl,_⟩:=h;rfl
 .obtain⟨n,rfl,hn,q⟩:=h;refine⟨_,(aq (aG 1 C5.nd (f9 aj)) (aq (aG 2 C5.nd (f9 aj)) (aq (aG 3 C5.nd ao) (aq (qm PassesOwn.never (cM Lg (aH v_mul (pv 3) (pv 3)) (pv 0)) (aq (dF (cM (iD K hr) (aH gK (pv 0) (pv 3)) ao) (aq (nA (tE K (pv 1) (pv 3))) (aD (dF (cM AK (aH v_mul (pv 3) (pv 3)) (pv 0)) (aD (nA (tE K (pv 2) (aH xP (pv 0) (pv 3))))) dW))) dW) (aD (aG 3 C5.nd (pad K (pv 3) ao))))) (aD (aZ (pad K (pv 1) (aju rfl rfl B.xJ rfl B.Ax (ak (pv 2) aj))))))))),?_⟩;refine⟨cj _,λls hls=>?_⟩;have g1:=Same.new hls (.lst []);refine⟨cj _,λlg HM=>?_⟩;have hne:ls≠lg:=λz=>by rw[z,aC]at HM;cases HM
  have g2:=Same.new HM (.lst []);have h1:(upd (upd H ls (.lst [])) lg (.lst [])) ls=some (.lst (([]:List Int).map V.int)):=g2 _ _ aC;have h2:(upd (upd H ls (.lst [])) lg (.lst [])) lg=some (.lst (([]:List Int).map V.int)):=aC;have alD:H lg=none:=g1.free HM;have jZ:=g1.trans g2;generalize upd (upd H ls (.lst [])) lg (.lst [])=H2 at h1 h2 jZ;refine⟨λm σ' H'=>∃(t:Nat) (s g:List Int),m=n+2-t/\1<=t/\t<=n+1/\σ'=[some (.int n),some (.ref ls),some (.ref lg),some (.int (t:Int))]/\Same H H'/\H' ls=some (.lst (s.map V.int))/\H' lg=some (.lst (g.map V.int))/\s.length+g.length<=2*t/\s.length<=t/\g.length<=t/\(t-1)*(t-1)<=n/\Pm.qJ n (n+2-t) t s g=Pm.divs n,
   ⟨_,1,[],[],rfl,aJ _,⋯,rfl,jZ,h1,h2,∅,∅,∅,⋯,rfl⟩,?_⟩
  rintro m σ' H' ⟨t,s1,g,rfl,ht1,htn,rfl,gg,hs,hg,lsg,Df,lgg,Wb,hw⟩;have Zt:t<=1001:=by
   by_cases c:t<=1001
   .exact c
   .have:1001*1001<=(t-1)*(t-1):=gM ⋯ ⋯;omega
  refine⟨_,rfl,_,rfl,mulR ⋯ ⋯,_,rfl,_,_,rfl,rfl,_,rfl,?_⟩;obtain⟨f,hf⟩:∃f,n+2-t=f+1:=⟨n+1-t,⋯⟩;have hf2:n+2-(t+1)=f:=⋯;rw[hf]at hw;unfold Pm.qJ at hw;have htt:((t:Int)*(t:Int))=((t*t:Nat):Int):=(aav ..).symm;have hts:t<=t*t:=KC t ht1;rw[htt];refine dM (λc=>?_) (λc=>?_)
  .have c':t*t<=n:=by have:=dec_true c;omega
   rw[if_pos c']at hw;have tn:t<=n:=⋯;refine⟨_,λ_ _ z=>z,?_⟩;refine⟨_,rfl,_,rfl,_,_,rfl,rfl,(⋯:(0:Int)<(t:Int)),_,rfl,?_⟩;have em:((n:Int)%(t:Int))=((n%t:Nat):Int):=(Cv ..).symm;rw[em];have UH:(t+1-1)*(t+1-1)<=n:=by rw[fX];exact c'
   refine dM (λc2=>?_) (λc2=>?_)
   .have c2':n%t=0:=by have:=dec_true c2;omega
    rw[if_pos c2']at hw;refine⟨_,rfl,.inl ⟨rfl,_,au.of hs⟩,_,rfl,ls,_,_,rfl,rfl,hs,(by rw[aB];exact sE Df (sE Zt ∅)),?_⟩;dsimp only;rw[<-DB];have ga:=gg.upd hls (.lst ((s1++[(t:Int)]).map V.int));have hs2:(upd H' ls (.lst ((s1++[(t:Int)]).map V.int))) ls=some (.lst ((s1++[(t:Int)]).map V.int)):=aC;have hg2:(upd H' ls (.lst ((s1++[(t:Int)]).map V.int))) lg=some (.lst (g.map V.int)):=by rw[bK hne.symm];exact hg
    generalize upd H' ls (.lst ((s1++[(t:Int)]).map V.int))=H3 at ga hs2 hg2;refine⟨_,rfl,_,rfl,mulR ⋯ ⋯,_,rfl,_,_,rfl,rfl,_,rfl,?_⟩;rw[htt];refine dM (λc3=>?_) (λc3=>?_)
    .have wQ:t*t<n:=by have:=dec_true c3;omega
     rw[if_pos wQ]at hw;refine⟨_,rfl,.inl ⟨rfl,_,au.of hg2⟩,_,rfl,_,rfl,_,_,rfl,rfl,⟨(⋯:(0:Int)<(t:Int)),(⋯:(t:Int)<1073741824)⟩,lg,_,_,rfl,rfl,hg2,(by rw[aB];exact sE lgg (sE Zt ∅)),?_⟩;dsimp only;have ed:((n:Int)/(t:Int))=((n/t:Nat):Int):=(Int.natCast_ediv ..).symm;rw[ed,<-DB];refine⟨_,rfl,?_⟩;refine⟨f,⋯,t+1,s1++[(t:Int)],g++[((n/t:Nat):Int)],⋯,⋯,⋯,rfl,ga.upd alD _,(by rw[bK hne];exact hs2),aC,?_,?_,?_,UH,(by rw[hf2];exact hw)⟩
     .rw[fO,fO];show s1.length+1+(g.length+1)<=_;omega
     .rw[fO];show s1.length+1<=_;omega
     .rw[fO];show g.length+1<=_;omega
    .have wQ:¬t*t<n:=by have:=dec_false c3;omega
     rw[if_neg wQ]at hw;refine⟨_,rfl,?_⟩;refine⟨f,⋯,t+1,s1++[(t:Int)],g,⋯,⋯,⋯,rfl,ga,hs2,hg2,?_,?_,⋯,UH,(by rw[hf2];exact hw)⟩
     .rw[fO];show s1.length+1+g.length<=_;omega
     .rw[fO];show s1.length+1<=_;omega
   .have c2':¬n%t=0:=by have:=dec_false c2;omega
    rw[if_neg c2']at hw;refine⟨_,rfl,?_⟩;exact⟨f,⋯,t+1,s1,g,⋯,⋯,⋯,rfl,gg,hs,hg,⋯,⋯,⋯,UH,(by rw[hf2];exact hw)⟩
  .have c':¬t*t<=n:=by have:=dec_false c;omega
   rw[if_neg c']at hw;refine⟨_,rfl,_,rfl,lg,_,rfl,hg,λl1 hl1=>?_⟩;have g3:=Same.new hl1 (.lst (g.map V.int).reverse);have hs3:=g3 _ _ hs;have h3:(upd H' l1 (.lst (g.map V.int).reverse)) l1=some (.lst (g.reverse.map V.int)):=by rw[aC,Gz]
   generalize upd H' l1 (.lst (g.map V.int).reverse)=H3 at g3 hs3 h3;refine .inl ⟨_,_,hs3,h3,?_,λl2 hl2=>?_⟩
   .rw[aB,aB,gU];exact fG (show s1.length+g.length<=5000 by omega) ∅
   refine q l2 _ (gg.trans (g3.trans (Same.new hl2 _))) ?_ ?_
   .rw[aC,<-gO,hw]
   .rw[<-hw,fO,gU];omega
theorem arZ(F:Fn K mg "perhaps_roots" OD ["poly"])(RN:Vh P w K mg base):afe P w K mg base:=by
 refine F.cal Jb (λvs H Q E h=>?_) (λ_ _ _ _ _ H _ Q E hr h=>?_)
 .obtain⟨a,P,rfl,_⟩:=h;rfl
 .obtain⟨a,P',rfl,hA,zP,hx,hs,q⟩:=h;refine⟨_,(aq (aG 1 Jb.nd (aM K (gF (sc:=av3) (N:=["number"]) (ix:=[none]) d7 rfl (gh K (pv 0)) (λcl C s₀ H₀ ex=>⟨(aY 0 dU),(Wz (cM (mO K hr) (pv 0) ao)),(pv 0)⟩)) ao)) (aq (aG 2 Jb.nd (aO RN hr (aN (gY wz rfl B.wG boot_abs (ak (pv 1) aj)) aj))) (aq (uL (i:=3) (hN:=Jb.nd) (hi':=rfl) (hx:=(oF rfl)) (sc:=auN) (N:=["divisor"]) (ix:=[none]) d7 rfl (Io K rfl B.Ax (ak (pv 2) aj)) (λcl C s₀ H₀ ex=>⟨(aY 0 dU),eV,(aH cZ ao (pv 0))⟩)) (aD (aZ (pad K (pad K (pv 3) (f9 (bZ ao aj))) (pv 2))))))),?_⟩;refine⟨_,rfl,a,rfl,.inr ⟨⟨_,aA.of hA⟩,?_⟩⟩;refine qw (RG (aA.of hA)) (by rw[aB];exact iM (fH ⋯)) rfl (λx=>match x with | .int k=>decide (k≠0)|_=>false) (λx=>x) ?_ ?_ ?_
  .intro H2 x g2 hx k hk;obtain⟨y,hy,rfl⟩:=cB.mp hx;refine⟨_,rfl,_,rfl,?_⟩;have e:(not (decide (y=0)))=decide (y≠0):=by by_cases z:y=0<;>simp[z]
   rw[e];exact hk
  .intro H2 x g2 hx _ k hk;exact⟨_,rfl,hk⟩
  intro D hD;have el:(((P'.map V.int).filter λx=>match x with | .int k=>decide (k≠0)|_=>false).map λx=>x)=(P'.filter λx=>decide (x≠0)).map V.int:=by
   rw[Wx,ab7];rfl
  rw[el];have hlow:Pm.iV P'=(P'.filter λx=>decide (x≠0)).headD 0:=rfl;obtain⟨y0,ys,hf⟩:∃y0 ys,(P'.filter λx=>decide (x≠0))=y0::ys:=by
   cases e:P'.filter λx=>decide (x≠0)with
   |nil=>
    obtain⟨x,hx1,hx2⟩:=hx;exact absurd (decide_eq_true hx2) (List.filter_eq_nil_iff.mp e x hx1)
   |cons y ys=>exact⟨y,ys,rfl⟩
  have hy0:y0∈P':=(qR.mp (hf▸bN ..:y0∈P'.filter λx=>decide (x≠0))).1;rw[hf,List.headD_cons]at hlow;rw[hf];have g1:=Same.new hD (.lst ((y0::ys).map V.int));refine⟨_,.int y0,.inl (au.of aC),eG (ns:=y0::ys) ∅ (by show(0:Int)<((ys.length+1:Nat):Int);omega),?_⟩;generalize upd H D (.lst ((y0::ys).map V.int))=H1 at g1;have hsm:=hs y0 hy0;have ea:(if y0<0 then -y0 else y0)=((y0.natAbs:Nat):Int):=by split<;>omega
  refine⟨_,rfl,y0,rfl,?_⟩;refine⟨y0.natAbs,(by rw[ea];rfl),⋯,λla H2 g2 h2 ld=>?_⟩;have ln2:((Pm.divs y0.natAbs).map V.int).reverse.length=(Pm.divs y0.natAbs).length:=by rw[gU,aB]
  refine⟨_,rfl,la,(Pm.divs y0.natAbs).map V.int,rfl,au.of h2,?_⟩;refine qw (V1 (au.of h2)) (by rw[ln2];exact fG ld ∅) rfl (λ_=>true) (λx=>match x with | .int k=> .int (0-k)|_=> .non) ?_ ?_ ?_
  .intro H3 x g3 hx k hk;exact hk
  .intro H3 x g3 hx _ k hk;obtain⟨y,hy,rfl⟩:=cB.mp (jC.mp hx);exact⟨_,rfl,_,_,rfl,rfl,hk⟩
  intro D2 hD2;have el2:((((Pm.divs y0.natAbs).map V.int).reverse.filter λ_=>true).map λx=>match x with | .int k=>V.int (0-k)|_=>V.non)=((Pm.divs y0.natAbs).reverse.map λx=>0-x).map V.int:=by
   rw[qP.mpr (by simp),<-Gz,cH,cH];rfl
  rw[el2];obtain⟨H3,uu,g3,h3⟩:=nw hD2 (.lst (((Pm.divs y0.natAbs).reverse.map λx=>0-x).map V.int));rw[uu];have h23:=g3 _ _ h2;refine⟨_,rfl,(by show 1<=sizeLine;decide),λl0 hl0=>?_⟩;obtain⟨H4,uu,g4,h4⟩:=nw hl0 (.lst [.int 0]);rw[uu];have h34:=g4 _ _ h3;have h24:=g4 _ _ h23;have lb:(((Pm.divs y0.natAbs).reverse.map λx=>0-x).map V.int).length=(Pm.divs y0.natAbs).length:=by rw[aB,aB,gU]
  refine .inl ⟨_,_,h34,h4,?_,λl1 hl1=>?_⟩
  .rw[lb];exact fG (show _+1<=5000 by omega) ∅
  obtain⟨H5,uu,g5,h5⟩:=nw hl1 (.lst (((Pm.divs y0.natAbs).reverse.map λx=>0-x).map V.int++[.int 0]));rw[uu];have h25:=g5 _ _ h24;refine⟨_,rfl,.inl ⟨_,_,h5,h25,?_,λl2 hl2=>?_⟩⟩
  .rw[fO,lb,aB];exact fG (show(Pm.divs y0.natAbs).length+1+(Pm.divs y0.natAbs).length<=5000 by omega) ∅
  have ec:Pm.cands P'=((Pm.divs y0.natAbs).reverse.map λx=>0-x)++[0]++Pm.divs y0.natAbs:=by unfold Pm.cands;rw[hlow]
  refine q l2 _ (g1.trans (g2.trans (g3.trans (g4.trans (g5.trans (Same.new hl2 _)))))) ?_ ?_
  .rw[aC,ec,gO,gO];rfl
  .rw[ec,fO,fO,aB,gU];show _+1+_<=_;omega
theorem akv(F:Fn K mg "divided_out" Sq ["poly","root"])(nR:Ey P w K mg base):VD P w K mg base:=by
 refine F.cal wH (λvs H Q E h=>?_) (λ_ _ _ _ _ H _ Q E hr h=>?_)
 .obtain⟨a,r,P,u,rfl,_⟩:=h;rfl
 .obtain⟨a,r,P',u,rfl,hA,zP,hP,hrb,bP,hu,q⟩:=h;refine⟨_,(aq (aG 2 wH.nd ao) (aq (aG 3 wH.nd (pv 0)) (aq (aG 4 wH.nd (aO nR hr (bZ ao (ak (pv 3) (aaM (gb (eX (aH cZ ao (pv 1)) (bZ ao aj))) aj))))) (aq (qm PassesOwn.never (cM (iD K hr) (aM K (pv 4) ao) (gb aj)) (aq (aG 2 wH.nd (pad K (pv 2) ao)) (aq (aG 3 wH.nd (aM K (pv 4) ao)) (aD (aG 4 wH.nd (aO nR hr (bZ ao (ak (pv 3) (aaM (gb (eX (aH cZ ao (pv 1)) (bZ ao aj))) aj))))))))) (aD (aZ (gb (ak (pv 2) (ak (pv 3) aj))))))))),?_⟩;have hM:Pm.Mon [0-r,1]:=⟨by show 0<2;decide,rfl⟩;have bM:∀x∈[0-r,1],Rm.Bd 124000 x:=λx hx=>by
   rcases bH.mp hx with rfl|hx
   .have:Rm.Bd 40 (0-r):=by unfold Rm.Bd at hrb ⊢;omega
    exact this.mono ∅
   .rw[dj.mp hx];exact(Rm.Bd.of (n:=10) ⋯ ⋯).mono ∅
  have one:∀{H1:Hp} {tl:Addr} {L:List Int} {Q1:VK} {E1:XK} {tm:Addr},H1 tl=some (.tup (L.map V.int))->H1 tm=some (.tup ([0-r,1].map V.int))->L.length<=40->(∀x∈L,Rm.Bd 200000 x)->(∀t x y H2,Same H1 H2->H2 t=some (.tup [.ref x,.ref y])->H2 x=some (.tup ((Pm.iC L r).map V.int))->H2 y=some (.tup ((Pm.trim [Pm.pB L r]).map V.int))->Q1 (.ref t) H2)->VX [.int 0,.ref tl,.ref tm] H1 Q1 E1:=λ{H1 tl L Q1 E1 tm} h1 h2 zL bL hq=>by
   refine⟨0,tl,tm,L,[0-r,1],rfl,∅,∅,h1,h2,zL,(by show 2<=40;decide),hM,λk=>Rm.bw _,(λx hx=>(bL x hx).mono ∅),bM,λt x y o l H2 g2 hT hX hY D _ _ _=>?_⟩;obtain⟨rfl,rfl⟩:=D.uniq hM (Pm.QB L r);exact hq t x y H2 g2 hT hX hY
  refine⟨_,rfl,?_⟩;refine⟨_,rfl,_,rfl,_,_,rfl,rfl,(by show 2<=sizeLine;decide),λtm NQ=>?_⟩;have g0:=Same.new NQ (.tup ([0-r,1].map V.int));refine one (g0 _ _ hA) aC zP (λx hx=>(bP x hx).mono ⋯) λtt x y H1 g1 hT hX hY=>?_;refine⟨λm σ' H'=>∃(i:Nat) (L:List Int) (tl tt x y:Addr),m=L.length/\σ'=[some (.ref a),some (.int r),some (.int (i:Int)),some (.ref tl),some (.ref tt)]/\Same H H'/\H' tl=some (.tup (L.map V.int))/\H' tt=some (.tup [.ref x,.ref y])/\H' x=some (.tup ((Pm.iC L r).map V.int))/\H' y=some (.tup ((Pm.trim [Pm.pB L r]).map V.int))/\Pm.Mon L/\L.length+i=P'.length/\(Pm.outF P'.length P' r).1=(Pm.outF L.length L r).1+i/\(Pm.outF P'.length P' r).2=(Pm.outF L.length L r).2/\∀z∈L,Rm.Bd (u+i*1640) z,
   ⟨_,0,P',a,tt,x,y,rfl,rfl,g0.trans g1,g1 _ _ (g0 _ _ hA),hT,hX,hY,hP,rfl,rfl,rfl,λz hz=>(bP z hz).mono ⋯⟩,?_⟩
  rintro m σ' H' ⟨i,L,tl,tt,x,y,rfl,rfl,gg,hL,hT,hX,hY,Xp,hlen,o1,o2,bL⟩;have hi:u+i*1640<=200000:=by
   have:i*1640<=P'.length*1640:=qG _ ⋯;omega
  refine⟨_,rfl,_,_,.inr (aA.of hT),rfl,?_⟩;refine⟨cj _,λt0 ht0=>?_⟩;have g2:=Same.new ht0 (.tup []);refine Hl (ns:=Pm.trim [Pm.pB L r]) (ms:=[]) (aA.of (g2 _ _ hY)) (aA.of aC) ⟨_,rfl,?_⟩;have hX2:=g2 _ _ hX;have hT2:=g2 _ _ hT;have hL2:=g2 _ _ hL;have Qv:=gg.trans g2;generalize upd H' t0 (.tup [])=H2 at hX2 hT2 hL2 Qv;have et:Pm.trim [Pm.pB L r]=[]↔Pm.pB L r=0:=by
   rw[Pm.trim,Pm.trim];by_cases z:Pm.pB L r=0
   .rw[if_pos ⟨z,rfl⟩];exact⟨λ_=>z,λ_=>rfl⟩
   .rw[if_neg (λw=>z w.1)];exact⟨λw=>(by cases w),λw=>absurd w z⟩
  refine dM (λc=>?_) (λc=>?_)
  .have hz:=et.mp (dec_true c);have h2:2<=L.length:=by
    by_cases z:2<=L.length
    .exact z
    .exact absurd hz (Pm.J3 Xp ⋯ r)
   obtain⟨m1,l1⟩:=Pm.Hu (r:=r) Xp h2;have bQ:∀z∈Pm.iC L r,Rm.Bd (u+(i+1)*1640) z:=λz hz=>(Pm.YZ hrb bL z hz).mono (by
    have:L.length*(40+1)<=40*41:=qG _ ⋯;rw[um];omega)
   have hi1:u+(i+1)*1640<=200000:=by
    have:(i+1)*1640<=P'.length*1640:=qG _ ⋯;omega
   have eo:Pm.outF L.length L r=((Pm.outF (Pm.iC L r).length (Pm.iC L r) r).1+1,(Pm.outF (Pm.iC L r).length (Pm.iC L r) r).2):=by
    obtain⟨k,hk⟩:∃k,L.length=k+1:=⟨L.length-1,⋯⟩;rw[l1,hk,fX,Pm.outF,if_pos hz]
   refine⟨_,λ_ _ z=>z,?_⟩;refine⟨_,rfl,?_⟩;refine⟨_,rfl,_,_,.inr (aA.of hT2),rfl,?_⟩;refine⟨_,rfl,_,rfl,_,_,rfl,rfl,(by show 2<=sizeLine;decide),λtm NQ=>?_⟩;have g3:=Same.new NQ (.tup ([0-r,1].map V.int));refine one (g3 _ _ hX2) aC ⋯ (λz hz=>(bQ z hz).mono hi1) λtt' x' y' H3 g4 hT' hX' hY'=>?_;refine⟨(Pm.iC L r).length,⋯,i+1,Pm.iC L r,x,tt',x',y',rfl,?_,Qv.trans (g3.trans g4),g4 _ _ (g3 _ _ hX2),hT',hX',hY',m1,⋯,?_,?_,bQ⟩
   .rw[aan];rfl
   .rw[o1,eo];show _+1+i=_+(i+1);omega
   .rw[o2,eo]
  .have hz:¬Pm.pB L r=0:=λw=>(dec_false c) (et.mpr w);have eo:Pm.outF L.length L r=(0,L):=by
    cases hl:L.length with
    |zero=>rfl
    |succ k=>rw[Pm.outF,if_neg hz]
   rw[eo]at o1 o2;refine⟨_,rfl,_,rfl,(by show 2<=sizeLine;decide),λtz uF=>?_⟩;have gz:=Same.new uF (.tup [.int (i:Int),.ref tl]);refine q tz tl _ (Qv.trans gz) ?_ ?_
   .rw[aC,o1];show some (HO.tup [V.int (i:Int),V.ref tl])=some (HO.tup [V.int ((0+i:Nat):Int),V.ref tl]);rw[Hi]
   .rw[o2];exact gz _ _ hL2
theorem aoc(F:Fn K mg "whole_roots" Vb ["poly"])(Rx:Zk P w K mg base dN)(K5:afe P w K mg base)(Uw:VD P w K mg base):aam P w K mg base dN:=by
 refine F.Gb Ao (λvs H Q E h=>?_) (λ_ _ _ _ _ H _ Q E hr h=>?_)
 .obtain⟨a,P,rfl,_⟩:=h;rfl
 .obtain⟨a,P',rfl,hA,zP,hP,q1,q2⟩:=h;refine⟨_,(aq (nA (SN Rx hr rfl (ak (pv 0) aj))) (aq (aG 1 Ao.nd (f9 aj)) (aq (aG 2 Ao.nd (pv 0)) (aq (fY PassesOwn.leaving rfl (gh K (aO K5 hr (ak (pv 0) aj))) (aY 3 Ao.nd) (aq (aG 4 Ao.nd (aO Uw hr (ak (pv 2) (ak (pv 3) aj)))) (aD (dF (cM qg (aM K (pv 4) ao) ao) (aq (nA (tE K (pv 1) (gb (ak (pv 3) (aN (aM K (pv 4) ao) aj))))) (aD (aG 2 Ao.nd (aM K (pv 4) ao)))) dW)))) (aD (aZ (gb (ak (pv 1) (ak (pv 2) aj))))))))),?_⟩;have hx1:∃x∈P',x≠0:=⟨Pm.co P' (P'.length-1),Pm.xM (by have:=hP.pos;omega),by rw[hP.one];decide⟩;refine⟨_,rfl,a,P',rfl,hA,⋯,λhs H1 g1=>?_,λhb H1 g1=>q2 hb H1 g1⟩;refine⟨cj _,λlr hlr=>?_⟩;obtain⟨H2,uu,g2,h2⟩:=nw hlr (.lst []);rw[uu];have jZ:=g1.trans g2;have Z8:H lr=none:=g1.free hlr;refine⟨_,rfl,?_⟩;refine⟨_,rfl,a,P',rfl,jZ _ _ hA,⋯,hx1,hs,λlc H3 g3 h3 hcl=>?_⟩;refine⟨lc,rfl,.inl ⟨⟨_,au.of h3⟩,?_⟩⟩;have h23:=g3 _ _ h2;have lD:=jZ.trans g3;have b0:∀z∈P',Rm.Bd 20 z:=λz hz=>by
   have:=hs z hz;exact Rm.Bd.of ⋯ ⋯
  have hcm:∀z∈Pm.cands P',Rm.Bd 40 z:=avQ hs;refine Hf (xs:=(Pm.cands P').map V.int) (λi σ' H'=>∃(o3 o4:Option V) (tl:Addr) (L:List Int) (rs:List (List Int)) (xs:List V),σ'=[some (.ref a),some (.ref lr),some (.ref tl),o3,o4]/\Same H H'/\H' lc=some (.lst ((Pm.cands P').map V.int))/\H' lr=some (.lst xs)/\cC H' xs rs/\H' tl=some (.tup (L.map V.int))/\Pm.Mon L/\L.length<=P'.length/\(∀z∈L,Rm.Bd (20+(P'.length-L.length)*1640) z)/\xs.length<=i/\Pm.oN ((Pm.cands P').drop i) rs L=Pm.wr P')
   ⟨_,_,a,P',[],[],rfl,lD,h3,h23,.nil,lD _ _ hA,hP,aJ _,λz hz=>(b0 z hz).mono ⋯,aJ _,rfl⟩ (λi σ' H' ⟨_,_,_,_,_,_,_,_,z,_⟩=>au.of z) ?_ ?_
  .rintro i x σ' H4 hx ⟨o3,o4,tl,L,rs,xs,rfl,g4,hc4,Oe,sJ,Ei,Aa,hle,Ae,hxl,hw⟩;obtain⟨rfl,hi⟩:=M9 hx;obtain⟨c,hcd⟩:∃c,c=Pm.co (Pm.cands P') i:=⟨_,rfl⟩;rw[<-hcd];have hcB:Rm.Bd 40 c:=hcm c (hcd▸Pm.xM hi);have ed:(Pm.cands P').drop i=c::(Pm.cands P').drop (i+1):=by
    rw[hcd,aap hi,<-Pm.jy hi]
   rw[ed,Pm.oN]at hw;have hu:20+(P'.length-L.length)*1640+L.length*1640<=200000:=by
    have:(P'.length-L.length)*1640+L.length*1640<=13*1640:=by rw[<-D5];exact qG _ ⋯
    omega
   have hok:=Pm.Yd hcB L.length (u:=20+(P'.length-L.length)*1640) Aa ⋯ Ae;refine⟨_,rfl,_,rfl,tl,c,L,20+(P'.length-L.length)*1640,rfl,Ei,⋯,Aa,hcB,Ae,hu,λt tl' H5 g5 ht htl=>?_⟩;generalize ho:Pm.outF L.length L c=oo at hw hok ht htl;obtain⟨o1,o2⟩:=oo;obtain⟨ok1,ok2,ok3⟩:=hok;replace ok2:o2.length+o1=L.length:=ok2;have Fg:=g5 _ _ Oe;refine⟨_,rfl,_,_,.inr (aA.of ht),rfl,_,_,rfl,rfl,_,rfl,?_⟩;have ayg:∀b ts,H5 b=some (HO.tup ts)->b≠lr:=λb ts e z=>by rw[z,Fg]at e;cases e
   refine dM (λcc=>?_) (λcc=>?_)
   .have c':0<o1:=by have:=dec_true cc;omega
    rw[if_pos c']at hw;refine⟨_,rfl,.inl ⟨rfl,_,au.of Fg⟩,_,rfl,_,rfl,_,_,.inr (aA.of ht),rfl,(by show 2<=sizeLine;decide),λtp htp=>?_⟩;obtain⟨H6,uu,g6,h6⟩:=nw htp (.tup [.int c,.int (o1:Int)]);rw[uu];have Dp:=g6 _ _ Fg;have wZ:=g6 _ _ ht;have Ur:=g6 _ _ htl;have hc6:=g6 _ _ (g5 _ _ hc4);have yq:=(sJ.same g5).same g6;have qQ:=g4.trans (g5.trans g6);have hlc:lc≠lr:=λz=>by
     rw[z,h23]at h3;have e1:(Pm.cands P').map V.int=[]:=by injection h3 with h3;injection h3 with h3;exact h3.symm
     have e2:=congrArg Cm e1;rw[aB]at e2;simp at e2;rw[e2]at hi;exact absurd hi (by simp)
    refine⟨lr,_,_,rfl,rfl,Dp,(sE hxl (jt hi (fG hcl ∅))),?_⟩;have Cr:cC (upd H6 lr (.lst (xs++[.ref tp]))) (xs++[.ref tp]) (rs++[[c,(o1:Int)]]):=cC.append (yq.set Dp) (.cons (by rw[bK (λz=>by rw[z,Dp]at h6;cases h6)];exact h6) .nil);refine⟨_,rfl,_,_,.inr (aA.of (by rw[bK (λz=>by rw[z,Dp]at wZ;cases wZ)];exact wZ)),rfl,?_⟩;refine⟨some (.int c),some (.ref t),tl',o2,rs++[[c,(o1:Int)]],xs++[.ref tp],rfl,qQ.upd Z8 _,(by rw[bK hlc];exact hc6),aC,Cr,(by rw[bK (λz=>by rw[z,Dp]at Ur;cases Ur)];exact Ur),ok1,⋯,λz hz=>(ok3 z hz).mono ?_,by rw[fO];show xs.length+1<=_;omega,hw⟩;have:o1*1640+(P'.length-L.length)*1640=(P'.length-o2.length)*1640:=by rw[<-D5];congr 1;omega
    omega
   .have c':¬0<o1:=by have:=dec_false cc;omega
    rw[if_neg c']at hw;exact⟨some (.int c),some (.ref t),tl,L,rs,xs,rfl,g4.trans g5,g5 _ _ hc4,Fg,sJ.same g5,g5 _ _ Ei,Aa,hle,Ae,⋯,hw⟩
  .rintro σ' H4 ⟨o3,o4,tl,L,rs,xs,rfl,g4,hc4,Oe,sJ,Ei,Aa,hle,Ae,hxl,hw⟩;rw[aB,YG,Pm.oN]at hw;refine⟨_,rfl,_,rfl,(by show 2<=sizeLine;decide),λtz uF=>?_⟩;have gz:=Same.new uF (.tup [.ref lr,.ref tl]);refine q1 hs tz lr tl xs _ (g4.trans gz) aC (gz _ _ Oe) Z8 ?_ ?_
   .rw[<-hw];exact sJ.same gz
   .rw[<-hw];exact gz _ _ Ei
theorem ap4(F:Fn K mg "refuse_prime" Qc ["row"]):Yr P w K mg base d9:=by
 refine F.Gb anJ (λvs H Q E h=>?_) (λ_ _ _ _ _ H _ Q E hr h=>?_)
 .obtain⟨v,r,rfl,_⟩:=h;rfl
 .obtain⟨v,r,rfl,⟨a,p,p2,rfl,hA,hR,hS⟩,q1,q2⟩:=h;refine⟨_,(aD (dF (cM (mO K hr) (aM K (pv 0) ao) ao) (aD (Vi M.arW rfl (bZ Eu aj))) dW)),?_⟩;refine⟨_,rfl,_,_,.inr (aA.of hA),rfl,_,rfl,?_⟩;refine dM (λc=>⟨(by show 1<=sizeLine;decide),q2 λz=>?_⟩) (λc=>q1 ?_)
  .rw[z]at c;exact absurd c ∅
  .by_cases z:r.b=0
   .exact z
   .exact absurd (by rw[decide_eq_false z];rfl) c
theorem awl(F:Fn K mg "power" Nh ["number","exponent"]):abA P w K mg base:=by
 refine F.cal J5 (λvs H Q E h=>?_) (λ_ _ _ _ _ H _ Q E hr h=>?_)
 .obtain⟨a,e,u,rfl,_⟩:=h;rfl
 .obtain⟨a,e,u,rfl,e0,e1,hb,hu,q⟩:=h;refine⟨_,(aq (aG 2 J5.nd ao) (aq (fY PassesOwn.never rfl (iB rfl B.gw (ak (pv 1) aj)) (aY 3 J5.nd) (aD (aG 2 J5.nd (aH v_mul (pv 2) (pv 0))))) (aD (aZ (pv 2))))),?_⟩;refine⟨_,rfl,e,rfl,(⋯:-(2^62)<=e),(⋯:e<2^62),?_⟩;refine jH (lo:=0) (n:=e.toNat) (λi σ' H'=>∃o,σ'=[some (.int a),some (.int e),some (.int (a^i)),o]/\H=H') ⟨_,by rw[qT];rfl,rfl⟩ ?_ ?_
  .rintro i σ' H' hi ⟨o,rfl,rfl⟩;exact⟨_,rfl,_,rfl,agD hb hu ⋯,some (.int (0+(i:Int))),by rw[jd];rfl,rfl⟩
  .rintro σ' H' ⟨o,rfl,rfl⟩;exact⟨_,rfl,q⟩
theorem ave(F:Fn K mg "form_line" R9 ["roots","n"])(HD:abA P w K mg base):aeZ P w K mg base:=by
 refine F.cal UU (λvs H Q E h=>?_) (λ_ _ _ _ _ H _ Q E hr h=>?_)
 .obtain⟨lr,n,xs,l,rfl,_⟩:=h;rfl
 .obtain⟨lr,n,xs,l,rfl,hR,hT,n0,n1,hl,hb,q⟩:=h;refine⟨_,(aq (aG 2 UU.nd (f9 aj)) (aq (fY PassesOwn.never rfl (gh K (pv 0)) (SM (i:=3) UU.nd rfl (gP rfl)) (aD (nA (avX K (pv 2) (gF (sc:=agV) (N:=["j","n","pair"]) (ix:=[none,some 1,some 3]) d7 rfl (iB rfl B.gw (aN (aM K (pv 3) ao) aj)) (λcl C s₀ H₀ ex=>⟨(aY 0 dU),eV,(aH v_mul (aO HD hr (aN (aM K (pv 2) ao) (ak (pv 1) aj))) (aO HD hr (ak (pv 1) (ak (pv 0) aj))))⟩)))))) (aD (aZ (pv 2))))),?_⟩;have lx:=hT.len;rw[aB]at lx;refine⟨cj _,λD hD=>?_⟩;obtain⟨H0,uu,g0,h0⟩:=nw hD (.lst []);rw[uu];refine⟨_,rfl,lr,rfl,.inl ⟨⟨_,au.of (g0 _ _ hR)⟩,?_⟩⟩;refine Hf (xs:=xs) (λi σ' H'=>∃o3,σ'=[some (.ref lr),some (.int n),some (.ref D),o3]/\Same H H'/\H' D=some (.lst ((Cf.gG (l.take i) n.toNat).map V.int))) ⟨_,rfl,g0,h0⟩ (λi σ' H' ⟨_,_,g,_⟩=>au.of (g _ _ hR)) ?_ ?_
  .rintro i x σ' H1 hx ⟨o3,rfl,g1,h1⟩;obtain⟨t,p,rfl,ep,ht⟩:=hT.get hx;obtain⟨⟨r,m⟩,el,rfl⟩:=Vr ep;have hm:=hb _ (List.mem_of_getElem? el);have hrb:Rm.Bd 20 r:=hm.1;have axB:m<=10:=hm.2;have ht1:H1 t=some (.tup [.int r,.int (m:Int)]):=g1 _ _ ht;refine⟨_,rfl,.inl ⟨rfl,_,au.of h1⟩,?_⟩;refine⟨_,rfl,_,_,.inr (aA.of ht1),rfl,(m:Int),rfl,(⋯:-(2^62)<=(m:Int)),(⋯:(m:Int)<2^62),?_⟩;rw[fQ];refine Dw (n:=m) ⋯ rfl (λj=>r^n.toNat*n^j) ?_ ?_
   .intro H2 k g2 hk kk hkk;refine⟨_,rfl,_,_,.inr (aA.of (g2 _ _ ht1)),rfl,_,rfl,r,n,20,rfl,n0,⋯,hrb,∅,?_⟩;refine⟨_,rfl,_,rfl,n,0+(k:Int),10,rfl,⋯,⋯,Rm.Bd.of ⋯ ⋯,∅,?_⟩;rw[show(0+(k:Int)).toNat=k by omega];refine⟨ql (Cf.yd hrb _) (Cf.yd (n:=10) (Rm.Bd.of ⋯ ⋯) k) ⋯,hkk⟩
   intro D2 hD2;obtain⟨H2,uu,g2,h2⟩:=nw hD2 (.lst ((Pm.aP m λj=>r^n.toNat*n^j).map V.int));rw[uu];have h12:=g2 _ _ h1;have jZ:=g1.trans g2;refine⟨D,D2,_,_,rfl,rfl,h12,h2,?_,_,rfl,jZ.upd hD _,?_⟩
   .rw[aB,aB,Pm.cu];have:=ahK n.toNat (l:=l.take i) (by rw[jO];omega) λx hx=>hb x (Jj hx);exact iM (fH ⋯)
   .rw[aC,take_one el,Xe,gO];congr 3;refine congrArg (mY V.int) ?_;show _=((eO m).map λj=>r^n.toNat*((n.toNat:Nat):Int)^j)++[];rw[Aw,abQ n0];rfl
  .rintro σ' H1 ⟨o3,rfl,g1,h1⟩;rw[vV ⋯]at h1;exact⟨_,rfl,q D H1 g1 hD h1⟩
theorem asu(F:Fn K mg "parts_of" RV ["roots","tops"]):aaP P w K mg base:=by
 refine F.cal za (λvs H Q E h=>?_) (λ_ _ _ _ _ H _ Q E hr h=>?_)
 .obtain⟨lr,lt,xs,l,us,rfl,_⟩:=h;rfl
 .obtain⟨lr,lt,xs,l,us,rfl,hR,hT,hU,lu,hl,q⟩:=h;refine⟨_,(aq (aG 2 za.nd (f9 aj)) (aq (aG 3 za.nd ao) (aq (fY PassesOwn.never rfl (gh K (pv 0)) (aY 4 za.nd) (aq (aG 5 za.nd (pad K (pv 3) (aM K (pv 4) ao))) (aq (nA (tE K (pv 2) (gb (aN (aM K (pv 4) ao) (aN (rP (rF K) (pv 1) (pZ (pv 3)) (pZ (pv 5))) aj))))) (aD (aG 3 za.nd (pv 5)))))) (aD (aZ (pv 2)))))),?_⟩;have lx:=hT.len;rw[aB]at lx;have lU:(us.map V.int).length=us.length:=aB _;refine⟨cj _,λD hD=>?_⟩;obtain⟨H0,uu,g0,h0⟩:=nw hD (.lst []);rw[uu];refine⟨_,rfl,lr,rfl,.inl ⟨⟨_,au.of (g0 _ _ hR)⟩,?_⟩⟩;refine Hf (xs:=xs) (λi σ' H'=>∃o4 o5 ys,σ'=[some (.ref lr),some (.ref lt),some (.ref D),some (.int (Cf.aL (l.take i):Nat)),o4,o5]/\Same H H'/\H' D=some (.lst ys)/\dg H' [D] ys (Cf.cT (l.take i) us)/\ys.length=i) ⟨_,_,[],rfl,g0,h0,.nil,rfl⟩ (λi σ' H' ⟨_,_,_,_,g,_⟩=>au.of (g _ _ hR)) ?_ ?_
  .rintro i x σ' H1 hx ⟨o4,o5,ys,rfl,g1,h1,hy,ly⟩;obtain⟨t,p,rfl,ep,ht⟩:=hT.get hx;obtain⟨⟨r,m⟩,el,rfl⟩:=Vr ep;have hi:i<l.length:=by
    have:=(List.getElem?_eq_some_iff.mp el).1;exact this
   have ht1:H1 t=some (.tup [.int r,.int (m:Int)]):=g1 _ _ ht;have e2:Cf.aL (l.take (i+1))=Cf.aL (l.take i)+m:=by rw[take_one el,afM];rfl
   have e3:=avU l (i+1);refine⟨_,rfl,_,rfl,_,_,.inr (aA.of ht1),rfl,?_⟩;refine⟨_,rfl,.inl ⟨rfl,_,au.of h1⟩,?_⟩;refine⟨_,rfl,_,_,.inr (aA.of ht1),rfl,?_⟩;refine⟨_,rfl,_,rfl,_,rfl,_,rfl,_,rfl,.inl ⟨_,au.of (g1 _ _ hU),λa ha=>?_⟩⟩;have ec:jc (us.map V.int) (some ((Cf.aL (l.take i):Nat):Int)) (some (((Cf.aL (l.take i):Nat):Int)+(m:Int)))=((us.drop (Cf.aL (l.take i))).take m).map V.int:=by
    rw[show((Cf.aL (l.take i):Nat):Int)+(m:Int)=((Cf.aL (l.take i)+m:Nat):Int)by omega,au1 _ ⋯,show Cf.aL (l.take i)+m-Cf.aL (l.take i)=m by omega,vp,List.map_drop]
   rw[ec];obtain⟨H2,uu,g2,h2⟩:=nw ha (.lst (((us.drop (Cf.aL (l.take i))).take m).map V.int));rw[uu];have na:a≠D:=λz=>by rw[z,h1]at ha;cases ha
   have h12:=g2 _ _ h1;have jZ:=g1.trans g2;have hy2:=hy.same g2;refine⟨(by show 2<=sizeLine;decide),λt2 su=>?_⟩;obtain⟨H3,uu,g3,h3⟩:=nw su (.tup [.int r,.ref a]);rw[uu];have h13:=g3 _ _ h12;have h23:=g3 _ _ h2;have lD:=jZ.trans g3;have hy3:=hy2.same g3;refine⟨D,_,_,rfl,rfl,h13,fH ⋯,?_⟩;refine⟨_,rfl,?_⟩;refine⟨some (.ref t),some (.int (((Cf.aL (l.take i):Nat):Int)+(m:Int))),ys++[.ref t2],?_,lD.upd hD _,aC,?_,by rw[fO];show ys.length+1=i+1;omega⟩
   .rw[e2,aan];rfl
   .rw[take_one el,Xn];exact(hy3.append (.cons h3 (λz=>na (dj.mp z)) h23 .nil)).set h13 (dj.mpr rfl)
  .rintro σ' H1 ⟨o4,o5,ys,rfl,g1,h1,hy,ly⟩;rw[vV ⋯]at hy;exact⟨_,rfl,q D ys H1 g1 hD h1 hy⟩
theorem apG(F:Fn K mg "column_of" Mw ["table","column"]):acL P w K mg base:=by
 refine F.cal am0 (λvs H Q E h=>?_) (λ_ _ _ _ _ H _ Q E hr h=>?_)
 .exact False.elim h
 .exact False.elim h
theorem alM(F:Fn K mg "paper_against" Qy ["by","wide","table","wished"])(W6:acL P w K mg base)(BQ:Ql P w K mg base):aey P w K mg base:=by
 refine F.cal aon (λvs H Q E h=>?_) (λ_ _ _ _ _ H _ Q E hr h=>?_)
 .exact False.elim h
 .exact False.elim h
theorem agc(F:Fn K mg "solved" UY ["by","wide","table","wished"])(BQ:Ql P w K mg base)(Tw:aey P w K mg base):aa5 P w K mg base:=by
 refine F.cal adP (λvs H Q E h=>?_) (λ_ _ _ _ _ H _ Q E hr h=>?_)
 .obtain⟨u,wide,ta,tw,xs,L,ws,ex,rfl,_⟩:=h;rfl
 .obtain⟨u,wide,ta,tw,xs,L,ws,ex,rfl,hA,hx,hW,lw,lL,hw,cap,DV,bL,bW,hI,q⟩:=h;refine⟨_,(aq (aG 4 adP.nd (aO BQ hr (ak (pv 0) (ak (pv 1) (ak (pv 2) (ak (pv 3) aj)))))) (aq (dF (HW (ak2 (pv 4))) (aD (aZ (gb (bZ Eu (aN (aO Tw hr (ak (pv 0) (ak (pv 1) (ak (pv 2) (ak (pv 3) aj))))) aj))))) dW) (aD (aZ (pv 4))))),?_⟩;refine⟨_,rfl,_,rfl,_,rfl,_,rfl,u,wide,ta,tw,xs,L,ws,ex,rfl,hA,hx,hW,⋯,⋯,⋯,by rw[lL];exact cap,DV,bL,bW,by rw[lL];exact Cf.apd hI,by rw[lL];exact hI,λbot us so t lt H' g ht hlt=>?_⟩;rw[lL]at so;refine⟨_,rfl,_,rfl,gC ?_⟩;exact⟨_,rfl,q bot us so t lt H' g ht hlt⟩
theorem ahO(F:Fn K mg "closed" KD ["row"])(Nf:Yr P w K mg base d9)(Tg:aam P w K mg base dN)(zm:LY P w K mg base)(PF:aeZ P w K mg base)(K4:aa5 P w K mg base)(Td:aaP P w K mg base):adW P w K mg base d9 dN:=by
 refine F.Gb zq (λvs H Q E h=>?_) (λ_ _ _ _ _ H _ Q E hr h=>?_)
 .obtain⟨v,r,rfl,_⟩:=h;rfl
 .obtain⟨v,r,rfl,hR,h0,ok,tm,hat,hsm,qn,qf⟩:=h;refine⟨_,(aq (nA (SN Nf hr rfl (ak (pv 0) aj))) (aq (aG 1 zq.nd (SN Tg hr rfl (aN (aO zm hr (ak (pv 0) aj)) aj))) (aq (iZ (i:=2) zq.nd rfl (gP rfl) (aM K (pv 1) ao)) (aq (dF (PW.pt (oM (cM (mO K hr) (aM K (pv 1) ao) (gb (bZ ao aj))) (B7 (lB (gY (K2 K rfl) rfl B.Uj boot_any (aN (gF (sc:=amO) (N:=["pair"]) (ix:=[none]) d7 rfl (gh K (pv 2)) (λcl C s₀ H₀ ex=>⟨(aY 0 dU),eV,(tM (iD K hr) (aM K (pv 0) ao) ao (sH _))⟩)) aj)))))) (aD (aZ Ld)) dW) (aq (aG 3 zq.nd (gY (G5 K rfl) rfl B.G3 boot_sum (aN (gF (sc:=aiK) (N:=["pair"]) (ix:=[none]) d7 rfl (gh K (pv 2)) (λcl C s₀ H₀ ex=>⟨(aY 0 dU),eV,(aM K (pv 0) ao)⟩)) aj))) (aq (uL (i:=4) (hN:=zq.nd) (hi':=rfl) (hx:=(oF rfl)) (sc:=agr) (N:=["n","roots"]) (ix:=[none,some 2]) d7 rfl (iB rfl B.gw (ak (pv 3) aj)) (λcl C s₀ H₀ ex=>⟨(aY 0 dU),eV,(aO PF hr (ak (pv 1) (ak (pv 0) aj)))⟩)) (aq (aG 5 zq.nd (aO K4 hr (bZ ao (ak (pv 3) (ak (pv 4) (aN (kZ (xlist K) rfl B.xJ boot_list (aN (rP (rF K) (aM K (pv 0) ao) uK (pZ (pv 3))) aj)) aj)))))) (aD (aZ (gb (aN (aM K (pv 5) ao) (aN (aO Td hr (ak (pv 2) (aN (aM K (pv 5) ao) aj))) aj)))))))))))),?_⟩;have hB:nJ r.b:=by rw[h0];exact .inl rfl
  refine⟨_,rfl,v,r,rfl,hR,λ_=>?_,λhne=>absurd h0 hne⟩;refine⟨_,rfl,v,r,rfl,hR,ok,hB,tm,λtL L H1 g1 hL lst ll=>?_⟩;rw[h0]at lst;obtain⟨l7,s7⟩:=hsm L lst;refine⟨tL,L,rfl,hL,⋯,lst.mon,λ_ t lr tl xs H2 g2 ht hlr _ hT htl=>?_,λ⟨x,hx,hx2⟩ H2 g2=>absurd (s7 x hx) ⋯⟩;obtain⟨l,w1,w2,w3,w4,w5,w6,w7⟩:=Pm.Za lst.mon;have jZ:=g1.trans g2;refine⟨_,rfl,_,_,.inr (aA.of ht),rfl,?_⟩;refine⟨_,rfl,_,_,.inr (aA.of ht),rfl,(by show 1<=sizeLine;decide),λt1 ht1=>?_⟩;have g3:=Same.new ht1 (.tup [.int 1]);refine Hl (ns:=(Pm.wr L).2) (ms:=[1]) (aA.of (g3 _ _ htl)) (aA.of aC) ⟨_,rfl,?_⟩;by_cases c:(Pm.wr L).2=[1];case neg=>
   rw[decide_eq_false c];refine qj ?_;exact qn L lst (.inl c) _ (jZ.trans g3)
  rw[decide_eq_true c];refine gC ?_;have FQ:=g3 _ _ hlr;have CB:=hT.same g3;have lD:=jZ.trans g3;generalize upd H2 t1 (.tup [.int 1])=H3 at g3 FQ CB lD;rw[c]at w2;rw[w1]at CB;have hlen:(Pm.RP l [1]).length=Cf.aL l+1:=(Cf.qC l).2;have hN:Cf.aL l<=6:=by rw[<-w2]at hlen;omega
  have hl6:=acJ w5;have Qw:=CB.len;rw[aB]at Qw;have two:∀{c:List Int},c∈l.map Pm.dX->∃x∈l,c=[x.1,(x.2:Int)]:=λ{c} hc=>by
   obtain⟨x,hx,rfl⟩:=cB.mp hc;exact⟨x,hx,rfl⟩
  refine⟨_,rfl,lr,rfl,.inl ⟨⟨_,au.of FQ⟩,?_⟩⟩;refine aqb FQ CB (iM (fH ⋯)) rfl (λx=>decide (x.headD 0=0)) ?_ ?_
  .intro H4 tt cc g4 hcc htt k hk;obtain⟨x,_,rfl⟩:=two hcc;exact⟨_,rfl,_,_,.inr (aA.of htt),rfl,hk⟩
  intro D hD;have g4:=Same.new hD (.lst (((l.map Pm.dX).map λx=>decide (x.headD 0=0)).map V.bl));refine⟨D,_,rfl,au.of aC,_,rfl,?_⟩;by_cases c2:((l.map Pm.dX).map λx=>decide (x.headD 0=0)).any id=true
  .rw[c2];refine qj ?_;refine qn L lst (.inr ?_) _ (lD.trans g4);obtain⟨b,hb,e⟩:=tQ.mp c2;obtain⟨x,hx,rfl⟩:=cB.mp hb;exact⟨x,by rw[w1];exact hx,of_decide_eq_true e⟩
  have c2':((l.map Pm.dX).map λx=>decide (x.headD 0=0)).any id=false:=by
   cases e:((l.map Pm.dX).map λx=>decide (x.headD 0=0)).any id with
   |false=>rfl
   |true=>exact absurd e c2
  rw[c2'];refine gC ?_;have hne:∀x∈l,x.1≠0:=λx hx z=>c2 (tQ.mpr ⟨true,cB.mpr ⟨Pm.dX x,jr hx,decide_eq_true z⟩,rfl⟩);have hrb:=arG s7 w7;have GD:=g4 _ _ FQ;have sJ:=CB.same g4;have g14:=lD.trans g4;generalize upd H3 D (.lst (((l.map Pm.dX).map λx=>decide (x.headD 0=0)).map V.bl))=H4 at g4 GD sJ g14;refine⟨_,rfl,lr,rfl,.inl ⟨⟨_,au.of GD⟩,?_⟩⟩;refine aqA GD sJ (iM (fH ⋯)) rfl (λx=>x.getD 1 0) ?_ ?_
  .intro H5 tt cc g5 hcc htt k hk;obtain⟨x,_,rfl⟩:=two hcc;exact⟨_,rfl,_,_,.inr (aA.of htt),rfl,hk⟩
  intro D2 hD2;obtain⟨H5,uu,g5,h5⟩:=nw hD2 (.lst (((l.map Pm.dX).map λx=>x.getD 1 0).map V.int));rw[uu];have afT:=g5 _ _ GD;have hT5:=sJ.same g5;have Dt:=g14.trans g5;have es:=aoN l;refine⟨D2,_,rfl,au.of h5,?_⟩;rw[es];refine⟨_,rfl,(Cf.aL l:Int),rfl,(⋯:-(2^62)<=((Cf.aL l:Nat):Int)),(⋯:((Cf.aL l:Nat):Int)<2^62),?_⟩;rw[fQ];refine ady EG (by rw[aB,oO];omega) rfl (JF λi=>Cf.gG l i) ?_ ?_
  .intro H6 x g6 hx k hk;obtain⟨j,hj,rfl⟩:=cB.mp hx;have hj':=iQ.mp hj;refine⟨_,rfl,_,rfl,lr,0+(j:Int),xs,l,rfl,g6 _ _ afT,hT5.same g6,⋯,⋯,⋯,λx hx=>⟨hrb x hx,?_⟩,λD3 H7 g7 hn7 h7=>hk D3 H7 g7 hn7 h7⟩;have:=K6 hx;omega
  intro D3 ys H6 hD3 g6 h6 hy;have et:((eO (Cf.aL l)).map λi=>V.int (0+(i:Nat))).map (JF λi=>Cf.gG l i)=Cf.qp l:=by
   rw[cH];refine m7 λi _=>?_;show Cf.gG l (0+(i:Int)).toNat=_;rw[show(0+(i:Int)).toNat=i by omega]
  rw[et]at hy;have qQ:=Dt.trans g6;obtain⟨xa,xp,xq,rfl,hxA,hxR,ML⟩:=hR.same qQ;have lS:(r.starts.map V.int).length=r.rule.length:=by rw[aB];exact ok.len.symm
  have hLr:Cf.aL l<=r.starts.length:=by
   rw[<-w2]at hlen;have:=ok.len;omega
  have LX:(r.starts.take (Cf.aL l)).length=Cf.aL l:=by rw[jO];omega
  have hco:∀n,n<Cf.aL l->Pm.co (r.starts.take (Cf.aL l)) n=r.at n:=λn hn=>by
   have e:r.at n=r.starts.getD n 0:=Rm.wK ⋯;rw[e];unfold Pm.co;rw[List.getD_eq_getElem?_getD,List.getElem?_take,if_pos hn,<-List.getD_eq_getElem?_getD]
  have hd:=Cf.qK w4;have hI:=Cf.ai8 (ws:=r.starts.take (Cf.aL l)) hd hne;have hSz:Dm.yD (Cf.aL l) 600:=⟨∅,by
   have:(Cf.aL l+1)*(600+(Cf.aL l+1))<=7*607:=gM ⋯ ⋯;omega⟩
  have hcap:Rj 0 (Cf.aL l) (Cf.aL l+1) 600 (Dm.aug 0 (Cf.qp l) (r.starts.take (Cf.aL l))):=⟨∅,aun (.inl rfl) (l:=6) (λc A hd r L last hc I=>by have:=I.rn;omega) ∅⟩;have bL:∀p∈Cf.qp l,∀x∈p,Rm.Bd 600 x:=λp hp=>by
   obtain⟨n,hn,rfl⟩:=cB.mp hp;have:=iQ.mp hn;exactλx hx=>(avo ⋯ hrb (λx hx=>by have:=K6 hx;omega) x hx).mono ∅
  have bW:∀x∈r.starts.take (Cf.aL l),Rm.Bd 600 x:=λx hx=>by
   obtain⟨n,hn,e⟩:=jD.mp hx;rw[LX]at hn;have:=hco n hn;rw[Pm.jy (by rw[LX];exact hn),e]at this;rw[this];exact(hat n ⋯).mono ∅
  have fin:∀(H7:Hp) (lw:Addr) (Q7:VK) (E7:XK),Same H6 H7->H7 lw=some (.lst ((r.starts.take (Cf.aL l)).map V.int))->(∀bot us,Form r.at L l bot us->∀t lt H8,Same H7 H8->H8 t=some (.tup [.str ("one" : Str),.int bot,.ref lt])->H8 lt=some (.lst (us.map V.int))->Q7 (.ref t) H8)->ZD [.int 0,.int ((Cf.aL l:Nat):Int),.ref D3,.ref lw] H7 Q7 E7:=λH7 lw Q7 E7 g7 hlw hq=>by
   refine⟨600,Cf.aL l,D3,lw,ys,Cf.qp l,r.starts.take (Cf.aL l),[D3],rfl,g7 _ _ h6,hy.same g7,hlw,LX,Cf.HB l,⋯,hcap,λi hi=>?_,bL,bW,hI,λbot us so t lt H8 g8 ht hlt=>hq bot us ?_ t lt H8 g8 ht hlt⟩
   .rw[Cf.HB]at hi;rw[Cf.FP hi];exact Cf.Bb l i
   .have k:=so.ok (.inl rfl);obtain⟨b1,b2⟩:=so.bd (.inl rfl) hSz;refine⟨lst,Fw w1 c,w2,w4,w5,hne,hrb,hN,k.len,k.pos,k.ze rfl,λn=>?_,b1,b2⟩;exact Cf.aip (Cf.qC l).1 (Cf.qC l).2 k.len (λn=>by have:=lst.kp n;rwa [w2,Rm.bw]at this) (Cf.asd k.len hco k.sums) n
  have fin2:∀(H8:Hp) (t lt:Addr) (bot:Int) (us:List Int),Form r.at L l bot us->Same H6 H8->H8 t=some (.tup [.str ("one" : Str),.int bot,.ref lt])->H8 lt=some (.lst (us.map V.int))->∀lp yp H9,Same H8 H9->H9 lp=some (.lst yp)->dg H9 [lp] yp (Cf.cT l us)->∀tz,H9 tz=none->Q (.ref tz) (upd H9 tz (.tup [.int bot,.ref lp])):=λH8 t lt bot us F g8 ht hlt lp yp H9 g9 hlp hp tz uF=>by
   have gz:=Same.new uF (.tup [.int bot,.ref lp]);exact qf L l bot us F tz lp yp [lp] _ (qQ.trans (g8.trans (g9.trans gz))) aC (gz _ _ hlp) (hp.same gz)
  have WT:=g6 _ _ afT;have yq:=hT5.same g6;refine⟨_,rfl,_,rfl,_,rfl,_,_,.inr (aA.of hxA),rfl,_,rfl,_,rfl,?_⟩;by_cases hw:r.starts.length<=Cf.aL l
  .refine .inr (.inr ⟨_,aA.of ML,?_,?_⟩)
   .rw[HT.uI,HT.vD,aB];omega
   refine⟨xq,_,rfl,.inr (aA.of ML),λl8 Dg=>?_⟩;have g8:=Same.new Dg (.lst (r.starts.map V.int));refine fin _ l8 _ _ g8 (by rw[aC,vV hw]) λbot us F ta lt H9 g9 xW hlt=>?_;refine⟨_,rfl,_,_,.inr (aA.of xW),rfl,_,rfl,_,rfl,_,_,.inr (aA.of xW),rfl,lr,lt,xs,l,us,rfl,g9 _ _ (g8 _ _ WT),(yq.same g8).same g9,hlt,F.len,⋯,λlp yp wY CG _ hlp hp=>?_⟩;exact⟨(by show 2<=sizeLine;decide),λtz uF=>fin2 H9 ta lt bot us F (g8.trans g9) xW hlt lp yp wY CG hlp hp tz uF⟩
  .refine .inr (.inl ⟨_,aA.of ML,?_,λp3 hp3=>?_⟩)
   .rw[HT.uI,HT.vD,aB];omega
   rw[Dz,<-vp];have g7:=Same.new hp3 (.tup ((r.starts.take (Cf.aL l)).map V.int));refine⟨p3,_,rfl,.inr (aA.of aC),λl8 Dg=>?_⟩;have g8:=Same.new Dg (.lst ((r.starts.take (Cf.aL l)).map V.int));have IW:=g7.trans g8;refine fin _ l8 _ _ IW aC λbot us F ta lt H9 g9 xW hlt=>?_;refine⟨_,rfl,_,_,.inr (aA.of xW),rfl,_,rfl,_,rfl,_,_,.inr (aA.of xW),rfl,lr,lt,xs,l,us,rfl,g9 _ _ (IW _ _ WT),(yq.same IW).same g9,hlt,F.len,⋯,λlp yp wY CG _ hlp hp=>?_⟩;exact⟨(by show 2<=sizeLine;decide),λtz uF=>fin2 H9 ta lt bot us F (IW.trans g9) xW hlt lp yp wY CG hlp hp tz uF⟩
theorem avb(F:Fn K mg "_law_times" KL ["_law_one","_law_other"]):R3 P w K mg base:=by
 refine F.cal IL (λvs H Q E h=>?_) (λ_ _ _ _ _ H _ Q E hr h=>?_)
 .obtain⟨a,c,p,r,rfl,_⟩:=h;rfl
 .obtain⟨a,c,p,r,rfl,hA,hC,p1,ZV,r1,r10,bA,bC,q⟩:=h;refine⟨_,(aq (aG 2 IL.nd (aH v_mul (f9 (bZ ao aj)) (aH cZ (pad K (cL K B.cN (ak (pv 0) aj)) (cL K B.cN (ak (pv 1) aj))) ao))) (aq (fY PassesOwn.never rfl (iB rfl B.gw (aN (cL K B.cN (ak (pv 0) aj)) aj)) (aY 3 IL.nd) (aD (fY PassesOwn.never rfl (iB rfl B.gw (aN (cL K B.cN (ak (pv 1) aj)) aj)) (aY 4 IL.nd) (aD (v7 (pad K (aM K (pv 2) (pad K (pv 3) (pv 4))) (aH v_mul (aM K (pv 0) (pv 3)) (aM K (pv 1) (pv 4)))) (yc (pv 2) (pad K (pv 3) (pv 4)) set_list)))))) (aD (aZ (pv 2))))),?_⟩;have lP:(p.map V.int).length=p.length:=aB _;have lR:(r.map V.int).length=r.length:=aB _;refine⟨(by show 1<=sizeLine;decide),λl0 h0=>?_⟩;have g0:=Same.new h0 (.lst [.int 0]);refine⟨_,rfl,.ref a,p.length,rfl,.inl ⟨_,au.of (g0 _ _ hA),lP.symm⟩,_,rfl,.ref c,r.length,rfl,.inl ⟨_,au.of (g0 _ _ hC),lR.symm⟩,_,_,rfl,rfl,?_⟩;have en:((p.length:Int)+(r.length:Int)-1).toNat=p.length+r.length-1:=⋯;refine⟨_,aC,(⋯:-(2^63)<=(p.length:Int)+(r.length:Int)-1),(⋯:(p.length:Int)+(r.length:Int)-1<2^63),?_,λl hl=>?_⟩
  .rw[en];show 1*(p.length+r.length-1)<=sizeLine;rw[vW];exact iM (fH ⋯)
  have g1:=g0.trans (Same.new hl (.lst (iK ((p.length:Int)+(r.length:Int)-1).toNat [V.int 0]).flatten));have hl0:H l=none:=g0.free hl;refine⟨_,rfl,.ref a,p.length,rfl,.inl ⟨_,au.of (g1 _ _ hA),lP.symm⟩,?_⟩;refine⟨(p.length:Int),rfl,(⋯:-(2^62)<=(p.length:Int)),(⋯:(p.length:Int)<2^62),?_⟩;refine jH (lo:=0) (n:=(p.length:Int).toNat) (λi σ' H'=>∃o4 o5 L,σ'=[some (.ref a),some (.ref c),some (.ref l),o4,o5]/\Same H H'/\H' l=some (.lst (L.map V.int))/\L.length=p.length+r.length-1/\∀k,Pm.co L k=Pm.W (Pm.co p) (Pm.co r) i 0 k)
   ⟨_,_,Pm.aP (p.length+r.length-1) (λ_=>0),rfl,g1,(by rw[aC,en,Ud]),Pm.cu _ _,λk=>by rw[Pm.dD,Pm.akI];split<;>rfl⟩ ?_ ?_
  .rintro i σ' H' hi ⟨o4,o5,L,rfl,g,hL,zL,hW⟩;have hi':i<p.length:=⋯;refine⟨_,rfl,.ref c,r.length,rfl,.inl ⟨_,au.of (g _ _ hC),lR.symm⟩,?_⟩;refine⟨(r.length:Int),rfl,(⋯:-(2^62)<=(r.length:Int)),(⋯:(r.length:Int)<2^62),?_⟩;refine jH (lo:=0) (n:=(r.length:Int).toNat) (λk σ' H'=>∃o5 L,σ'=[some (.ref a),some (.ref c),some (.ref l),some (.int (0+(i:Int))),o5]/\Same H H'/\H' l=some (.lst (L.map V.int))/\L.length=p.length+r.length-1/\∀j,Pm.co L j=Pm.W (Pm.co p) (Pm.co r) i k j)
    ⟨_,L,rfl,g,hL,zL,hW⟩ ?_ ?_
   .rintro k σ' H2 hk ⟨o5,L,rfl,g,hL,zL,hW⟩;have hk':k<r.length:=⋯;have lL:(L.map V.int).length=L.length:=aB _;have e1:(0+(i:Int)+(0+(k:Int))).toNat=i+k:=⋯;have e2:(0+(i:Int)).toNat=i:=⋯;have e3:(0+(k:Int)).toNat=k:=⋯;refine⟨_,rfl,_,rfl,_,rfl,_,_,.inl (au.of hL),eG (ns:=L) (⋯:(0:Int)<=0+(i:Int)+(0+(k:Int))) ⋯,?_⟩;refine⟨_,rfl,_,rfl,_,_,.inl (au.of (g _ _ hA)),eG (ns:=p) (⋯:(0:Int)<=0+(i:Int)) ⋯,?_⟩;refine⟨_,rfl,_,rfl,_,_,.inl (au.of (g _ _ hC)),eG (ns:=r) (⋯:(0:Int)<=0+(k:Int)) ⋯,?_⟩;refine⟨ql (Rm.Bd.getD bA _) (Rm.Bd.getD bC _) ∅,?_⟩;refine⟨_,rfl,_,rfl,_,rfl,l,_,_,i+k,rfl,rfl,hL,xr ⋯ (by rw[lL];omega),?_⟩;refine⟨_,L.set (i+k) _,rfl,g.upd hl0 _,(by rw[aC,Gn]),(by rw[oJ];exact zL),λj=>?_⟩;rw[Pm.Ay _ _ _ _ ⋯,Pm.ai4,e1,e2,e3];by_cases ej:j=i+k
    .have hw:=hW j;rw[if_pos ej,if_pos ej];rw[ej]at hw⊢;rw[<-hw];rfl
    .rw[if_neg ej,if_neg ej,dz];exact hW j
   .rintro σ' H2 ⟨o5,L,rfl,g,hL,zL,hW⟩;refine⟨_,_,L,rfl,g,hL,zL,λk=>?_⟩;rw[hW k,fQ,Pm.awL λk hk=>Pm.aX hk]
  .rintro σ' H' ⟨o4,o5,L,rfl,g,hL,zL,hW⟩;have e:L=Pm.rH p r:=by
    refine Pm.rA (by rw[zL,Pm.rH,Pm.cu]) λk=>?_;rw[Pm.rH,Pm.dD];split
    .rw[hW k,fQ,Pm.Rq λk hk=>Pm.aX hk]
    .exact Pm.aX ⋯
   exact⟨_,rfl,q l H' g (e▸hL)⟩
theorem alw(F:Fn K mg "_law_at" Uk ["_law_script","_law_k"]):BW P w K mg base:=by
 refine F.cal Ln (λvs H Q E h=>?_) (λ_ _ _ _ _ H _ Q E hr h=>?_)
 .obtain⟨a,ns,k,rfl,_⟩:=h;rfl
 .obtain⟨a,ns,k,rfl,hS,hl,k0,k1,q⟩:=h;refine⟨_,(aq (dF (cM AK (pv 1) (cL K B.cN (ak (pv 0) aj))) (aD (aZ (aM K (pv 0) (pv 1)))) dW) (aq (aG 2 Ln.nd (pad K ao (aH v_mul (aH v_mul ao (pv 1)) (pv 1)))) (aq (uE (dF (cM qg (cL K B.cN (ak (pv 0) aj)) ao) (aD (aG 2 Ln.nd (pad K (pv 2) (aH v_mul (aH gK (aM K (pv 0) (aH gK (pv 1) (cL K B.cN (ak (pv 0) aj)))) ao) (pad K (aH xP (pv 1) (cL K B.cN (ak (pv 0) aj))) ao))))) dW)) (aD (aZ (aH gK (aH v_mul (pv 2) ao) ao)))))),?_⟩;have lL:(ns.map V.int).length=ns.length:=aB _;refine⟨_,rfl,_,rfl,.ref a,ns.length,rfl,.inl ⟨_,hS,lL.symm⟩,_,_,rfl,rfl,_,rfl,?_⟩;refine dM (λc=>?_) (λc=>?_)
  .have c':=dec_true c;refine⟨_,rfl,_,rfl,_,_,.inl hS,eG (ns:=ns) k0 c',?_⟩;rw[d8,if_pos c']at q;exact q
  .refine⟨_,rfl,mulR ⋯ ⋯,_,rfl,mulR ⋯ ⋯,?_⟩;refine qY.by (λσ' H'=>σ'=[some (.ref a),some (.int k),some (.int (Il ns k))]/\H'=H) (λNN mX=>?_) ?_
   .refine⟨_,rfl,.ref a,ns.length,rfl,.inl ⟨_,hS,lL.symm⟩,_,_,rfl,rfl,_,rfl,?_⟩;refine dM (λc2=>?_) (λc2=>mX _ _ ⟨by rw[Il,if_neg (by have:=dec_false c2;omega)];rfl,rfl⟩);have c2':(0:Int)<(ns.length:Int):=by have:=dec_true c2;omega
    have e0:=j4 k c2';have e1:=j8 k c2';have d0:0<=k/(ns.length:Int):=Int.ediv_nonneg k0 ⋯;have d1:k/(ns.length:Int)<=k:=Int.ediv_le_self _ k0;refine⟨_,rfl,_,rfl,_,rfl,_,rfl,.ref a,ns.length,rfl,.inl ⟨_,hS,lL.symm⟩,_,_,rfl,rfl,c2',_,_,.inl hS,eG (ns:=ns) e0 e1,_,_,rfl,rfl,(∅:(0:Int)<1000133),?_⟩;refine⟨_,rfl,_,rfl,.ref a,ns.length,rfl,.inl ⟨_,hS,lL.symm⟩,_,_,rfl,rfl,⟨c2',(⋯:(ns.length:Int)<1073741824)⟩,mulR ⋯ ⋯,?_⟩;exact mX _ _ ⟨by rw[Il,if_pos c2'];rfl,rfl⟩
   rintro _ _ ⟨rfl,rfl⟩;rw[d8,if_neg (dec_false c)]at q;exact⟨_,rfl,mulR ∅ ∅,_,_,rfl,rfl,(∅:(0:Int)<2147483647),q⟩
theorem ai5(F:Fn K mg "_law_roots" Ro ["_law_script","_law_at_here","_law_most","_law_wide"])(jg:BW P w K mg base):Pr P w K mg base:=by
 refine F.cal Bp (λvs H Q E h=>?_) (λ_ _ _ _ _ H _ Q E hr h=>?_)
 .obtain⟨a,ns,rfl,_⟩:=h;rfl
 .obtain⟨a,ns,rfl,hS,hl,q⟩:=h;refine⟨_,(aq (iZ (i:=4) Bp.nd rfl (gP rfl) arK) (aq (fY PassesOwn.never rfl (iB rfl B.gw (eX (aH gK (aO jg hr (ak (pv 0) (ak (pv 1) aj))) ao) aj)) (aY 5 Bp.nd) (aq (aG 6 Bp.nd (aO jg hr (ak (pv 0) (eX (pad K (pad K (pv 1) ao) (pv 5)) aj)))) (aq (aG 7 Bp.nd (aH cZ (aH gK (pv 6) (pad K (aH v_mul ao (pv 3)) ao)) (pv 3))) (aq (aG 8 Bp.nd (pad K ao (aH gK (aH xP (pv 6) (pad K (aH v_mul ao (pv 3)) ao)) ao))) (aD (uE (dF (PW.pt (afI (HW (aeM hr.hu (pv 7) (pv 4))) (Y0 (cM Lg (pad K (gY (G5 K rfl) rfl B.G3 boot_sum (aN (Ru (gF (sc:=ago) (N:=["_law_one","_law_found"]) (ix:=[none,some 4]) d7 rfl (PX (pv 4)) (λcl C s₀ H₀ ex=>⟨(aY 0 dU),eV,(Nx hr.hu (pv 1) (pv 0) (λ_ _=>rfl))⟩))) aj)) (pv 8)) (pv 2))))) (aD (asF hr.hu (pv 4) (pv 7) (pv 8) rfl)) dW))))))) (aD (aZ (gY Vm rfl B.UG ae8 (aN (Ru (gF (sc:=ajz) (N:=["_law_root","_law_found"]) (ix:=[none,some 4]) d7 rfl (PX (pv 4)) (λcl C s₀ H₀ ex=>⟨(aY 0 dU),eV,(gb (ak (pv 0) (aN (Nx hr.hu (pv 1) (pv 0) (λ_ _=>rfl)) aj)))⟩))) aj)))))),?_⟩;refineλd hd=>?_;have gd:=Same.new hd (.dK []);refine⟨_,rfl,_,rfl,a,ns,0,rfl,gd.seq hS,hl,∅,∅,?_⟩;obtain⟨c0,ec0⟩:∃c0,c0=d8 ns 0:=⟨_,rfl⟩;rw[<-ec0];have m0:=j4 c0 (show(0:Int)<5 by decide);have m1:=j8 c0 (show(0:Int)<5 by decide);refine⟨_,_,rfl,rfl,(∅:(0:Int)<5),?_⟩;obtain⟨n,Wo⟩:∃n,n=c0%5:=⟨_,rfl⟩;rw[<-Wo]at m0 m1⊢;refine⟨n,rfl,⋯,⋯,?_⟩;refine jH (lo:=0) (n:=n.toNat) (λi σ' H'=>∃(o5 o6 o7 o8:Option V) (M':List (Int×Nat)),σ'=[some (.ref a),some (.int 0),some (.int 5),some (.int 4),some (.ref d),o5,o6,o7,o8]/\Same H H'/\H' d=some (.dK (bh M'))/\uU M'/\M'.length<=i/\M'=Br ns i)
   ⟨_,_,_,_,[],rfl,gd,aC,⟨.nil,λx hx=>absurd hx gR,∅⟩,aJ _,rfl⟩ ?_ ?_
  .rintro i σ' H1 hi ⟨o5,o6,o7,o8,M',rfl,g1,hD,hM,hz,UQ⟩;refine⟨_,rfl,_,rfl,_,rfl,a,ns,0+1+(0+(i:Int)),rfl,g1.seq hS,hl,⋯,⋯,?_⟩;obtain⟨c,ec⟩:∃c,c=d8 ns (0+1+(0+(i:Int))):=⟨_,rfl⟩;rw[<-ec];have eN:Br ns (i+1)=yR M' c:=by rw[Br,<-UQ,<-ec]
   refine⟨_,rfl,_,rfl,mulL ∅ ∅,_,_,rfl,rfl,(∅:(0:Int)<9),_,rfl,_,_,rfl,rfl,?_⟩;refine⟨_,rfl,_,rfl,mulL ∅ ∅,_,_,rfl,rfl,⟨(∅:(0:Int)<9),(∅:(9:Int)<1073741824)⟩,_,_,rfl,rfl,(∅:(0:Int)<3),?_⟩;have r0:=j4 c (show(0:Int)<9 by decide);have r1:=j8 c (show(0:Int)<9 by decide);have s0:=j4 (c/9) (show(0:Int)<3 by decide);have s1:=j8 (c/9) (show(0:Int)<3 by decide);obtain⟨r,er⟩:∃r:Int,r=c%9-4:=⟨_,rfl⟩;obtain⟨m,em⟩:∃m:Nat,(m:Int)=1+c/9%3:=⟨(1+c/9%3).toNat,⋯⟩;have e7:c%(2*4+1)-4=r:=er.symm;have e8:1+c/(2*4+1)%3=(m:Int):=em.symm;rw[e7];change ig 8 (V.int (1+c/(2*4+1)%3)) _ _ _;rw[e8];obtain⟨M0,Ke⟩:∃M0,M0=M':=⟨_,rfl⟩;rw[<-Ke]at eN;refine qY.by (λσ' H'=>∃(o5 o6 o7 o8:Option V) (M':List (Int×Nat)),σ'=[some (.ref a),some (.int 0),some (.int 5),some (.int 4),some (.ref d),o5,o6,o7,o8]/\Same H H'/\H' d=some (.dK (bh M'))/\uU M'/\M'.length<=i+1/\M'=yR M0 c) (λNN mX=>?_) ?_
   .refine⟨_,rfl,_,rfl,d,_,rfl,rm.k (k:= .inl r) hD,_,rfl,?_⟩;by_cases cr:r∈M'.map (·.1)
    .rw[show(!(eU (bh M') (.inl r)).isSome)=false by rw[aut hM.nd cr];rfl];exact gC (gC (mX _ _ ⟨_,_,_,_,M',rfl,g1,hD,hM,⋯,by rw[Ke,yR,<-er,if_pos cr]⟩))
    .rw[show(!(eU (bh M') (.inl r)).isSome)=true by rw[Vt cr];rfl];refine qj ?_;refine⟨d,bh M',hD,λo=>?_⟩;have hf:(upd H1 d (.dw o (.dK (bh M')))) d=some (.dw o (.dK (bh M'))):=aC;refine⟨_,rfl,d,o,bh M',rfl,hf,?_⟩;refine qw (N6 hf) (by rw[aB,TR];exact iM (fH ⋯)) rfl (λ_=>true) (λx=>match x with | .int k=>(eU (bh M') (.inl k)).getD .non|_=> .non) ?_ ?_ ?_
     .intro H2 x g2 hx k hk;exact hk
     .intro H2 x g2 hx _ k hk;obtain⟨kv,hkv,rfl⟩:=cB.mp hx;obtain⟨y,hy,rfl⟩:=cB.mp hkv;refine⟨_,rfl,_,rfl,d,.int (y.2:Int),rfl,.inl ⟨bh M',.inl y.1,.inr ⟨o,g2 _ _ hf⟩,rfl,(uq hM.nd hy).symm⟩,?_⟩;have e:(match(kV (.inl y.1:Key))with | .int k=>(eU (bh M') (.inl k)).getD .non|_=>V.non) = .int (y.2:Int):=by
       show(eU (bh M') (.inl y.1)).getD .non=_;rw[uq hM.nd hy];rfl
      rw[<-e];exact hk
     intro D hD';have Ez:D≠d:=λz=>by rw[z,aC]at hD';cases hD'
     have el:((((bh M').map λkv=>kV kv.1).filter λ_=>true).map λx=>match x with | .int k=>(eU (bh M') (.inl k)).getD .non|_=>V.non)=(M'.map λx=>(x.2:Int)).map V.int:=by
      rw[qP.mpr (by simp)];unfold bh;rw[cH,cH,cH];refine m7 λy hy=>?_;show(eU (bh M') (.inl y.1)).getD .non = .int (y.2:Int);rw[uq hM.nd hy];rfl
     rw[el];have gf:Same (upd H1 d (.dw o (.dK (bh M')))) (upd (upd H1 d (.dw o (.dK (bh M')))) D (.lst ((M'.map λx=>(x.2:Int)).map V.int))):=Same.new hD' _;refine⟨gf _ _ hf,?_⟩;have g2:=Same.MP hD gf;have hS2:(upd (upd (upd H1 d (.dw o (.dK (bh M')))) D (.lst ((M'.map λx=>(x.2:Int)).map V.int))) d (.dK (bh M'))) D=some (.lst ((M'.map λx=>(x.2:Int)).map V.int)):=by rw[bK Ez,aC]
     generalize upd (upd (upd H1 d (.dw o (.dK (bh M')))) D (.lst ((M'.map λx=>(x.2:Int)).map V.int))) d (.dK (bh M'))=H2 at g2 hS2;refine⟨D,_,rfl,au.of hS2,?_⟩;rw[ade];refine⟨_,rfl,_,rfl,_,_,rfl,rfl,_,rfl,?_⟩;have hD2:=g2 _ _ hD;refine dM (λcc=>?_) (λcc=>?_)
     .have cc':(Pm.many M':Int)+(m:Int)<=5:=dec_true cc;refine⟨_,rfl,_,rfl,_,rfl,d,_,rfl,Bu.k (k:= .inl r) hD2 (by rw[TR];exact fH ⋯),mX _ _ ?_⟩;refine⟨_,_,_,_,M'++[(r,m)],rfl,(g1.trans g2).upd hd _,?_,⟨?_,λx hx=>?_,by rw[MQ];show Pm.many M'+m<=5;omega⟩,by rw[fO];show M'.length+1<=_;omega,by rw[Ke,yR,<-er,if_neg cr,<-em,if_pos cc',fQ]⟩
      .rw[aC,U9 cr]
      .rw[gO];exact RM.mpr ⟨hM.nd,vL ..,λx hx y hy=>λz=>cr (by have hy':y=r:=dj.mp hy;rw[<-hy',<-z];exact hx)⟩
      .rcases fM.mp hx with hx|hx
       .exact hM.lo x hx
       .rw[dj.mp hx];exact⟨by show 1<=m;omega,by show m<=3;omega,by show -4<=r;omega,by show r<=4;omega⟩
     .exact mX _ _ ⟨_,_,_,_,M',rfl,g1.trans g2,hD2,hM,⋯,by rw[Ke,yR,<-er,if_neg cr,<-em,if_neg (dec_false cc)]⟩
   .rintro _ _ ⟨o5,o6,o7,o8,M',z1,z2,z3,z4,z5,z6⟩;exact⟨o5,o6,o7,o8,M',z1,z2,z3,z4,z5,by rw[z6,eN]⟩
  .rintro σ' H1 ⟨o5,o6,o7,o8,M',rfl,g1,hD,hM,hz,UQ⟩;refine⟨d,bh M',hD,λo=>?_⟩;have hf:(upd H1 d (.dw o (.dK (bh M')))) d=some (.dw o (.dK (bh M'))):=aC;refine⟨_,rfl,d,o,bh M',rfl,hf,?_⟩;refine Zw (N6 hf) (by rw[aB,TR];omega) rfl (λx=>match x with | .int k=>[k,match eU (bh M') (.inl k)with|some (.int m)=>m|_=>0]|_=>[]) ?_ ?_
   .intro H2 x g2 hx k hk;obtain⟨kv,hkv,rfl⟩:=cB.mp hx;obtain⟨y,hy,rfl⟩:=cB.mp hkv;refine⟨_,rfl,_,rfl,_,rfl,d,.int (y.2:Int),rfl,.inl ⟨bh M',.inl y.1,.inr ⟨o,g2 _ _ hf⟩,rfl,(uq hM.nd hy).symm⟩,(by show 2<=sizeLine;decide),λt ht=>?_⟩;refine hk t _ (Same.new ht _) ?_;rw[aC];show _=some (HO.tup ([y.1,match eU (bh M') (.inl y.1)with|some (.int m)=>m|_=>0].map V.int))
    rw[uq hM.nd hy];rfl
   intro D H2 ys hD' g2 hl' hT;have eM:(((bh M').map λkv=>kV kv.1).map λx=>match x with | .int k=>[k,match eU (bh M') (.inl k)with|some (.int m)=>m|_=>0]|_=>([]:List Int))=M'.map Pm.dX:=by
    unfold bh;rw[cH,cH];refine m7 λy hy=>?_;show[y.1,match eU (bh M') (.inl y.1)with|some (.int m)=>m|_=>0]=Pm.dX y
    rw[uq hM.nd hy];rfl
   rw[eM]at hT;have Ez:D≠d:=λz=>by rw[z,aC]at hD';cases hD'
   refine⟨g2 _ _ hf,?_⟩;have g3:=Same.MP hD g2;have hl2:(upd H2 d (.dK (bh M'))) D=some (.lst ys):=by rw[bK Ez];exact hl'
   have hT2:cC (upd H2 d (.dK (bh M'))) ys (M'.map Pm.dX):=hT.up λb ts e=>by rw[bK λz=>by rw[z,g2 _ _ hf]at e;cases e];exact e
   generalize upd H2 d (.dK (bh M'))=H3 at g3 hl2 hT2;have en:((M'.map λx=>(x.1,(x.2:Int))).map (·.1))=M'.map (·.1):=by rw[cH];rfl
   have hzz:M'.length<=4:=⋯;refine⟨D,ys,M'.map (λx=>(x.1,(x.2:Int))),rfl,hl2,hT2.prs,by rw[en];exact hM.nd,by rw[aB];omega,λl' π hp hw hn=>?_⟩;rw[aB]at hp;have hin:∀i∈π,i<M'.length:=λi hi=>iQ.mp (hp.mem_iff.mp hi);have e1:(π.map λi=>(M'.map Pm.dX).getD i [])=(π.map λi=>M'.getD i (0,0)).map Pm.dX:=by
    rw[cH];exact m7 λi hi=>Ho (hin i hi)
   have e2:(π.map λi=>((M'.map λx=>(x.1,(x.2:Int))).getD i (0,0)).1)=(π.map λi=>M'.getD i (0,0)).map (·.1):=by
    rw[cH];exact m7 λi hi=>congrArg NK (Ho (d:=(0,0)) (hin i hi))
   have e3:(π.map λi=>M'.getD i (0,0)).Perm M':=by
    have h2:=hp.map λi=>M'.getD i (0,0)
    rwa [ZJ]at h2
   rw[e2]at hw;have wF:=hT2.pick (π:=π) (λi hi=>by rw[aB];exact hin i hi);rw[e1]at wF;have g4:=Same.new hn (.lst (π.map λi=>ys.getD i V.non));refine q l' _ _ _ ((g1.trans g3).trans g4) aC (wF.same g4) ⟨?_,λx hx=>hM.lo x (e3.mem_iff.mp hx),?_⟩ (by rw[e3.length_eq];exact hzz) ⟨e3.trans (by rw[UQ,SV,<-ec0,<-Wo]),hw⟩
   .exact(e3.map _).nodup_iff.mpr hM.nd
   .rw[afF e3];exact hM.all
theorem awm(F:Fn K mg "_law_product" R8 ["_law_roots_here"])(Af:R3 P w K mg base):Qd P w K mg base:=by
 refine F.cal Ba (λvs H Q E h=>?_) (λ_ _ _ _ _ H _ Q E hr h=>?_)
 .obtain⟨l,xs,M',rfl,_⟩:=h;rfl
 .obtain⟨l,xs,M',rfl,hL,hT,zM,zA,bM,q⟩:=h;refine⟨_,(aq (aG 1 Ba.nd (f9 (bZ ao aj))) (aq (fY PassesOwn.never rfl (gh K (pv 0)) (xR K (n:=2) rfl (lW (aY 2 Ba.nd) (lW (aY 3 Ba.nd) wW))) (aD (fY PassesOwn.never rfl (iB rfl B.gw (ak (pv 3) aj)) (aY 4 Ba.nd) (aD (aG 1 Ba.nd (aO Af hr (ak (pv 1) (xQ (f9 (eX (aH cZ ao (pv 2)) (bZ ao aj))) aj)))))))) (aD (aZ (pv 1))))),?_⟩;refine⟨(by show 1<=sizeLine;decide),λl0 h0=>?_⟩;have g0:=Same.new h0 (.lst [.int 1]);have hL0:=g0 _ _ hL;refine⟨_,rfl,l,rfl,.inl ⟨⟨_,au.of hL0⟩,?_⟩⟩;refine DF (qx (au.of hL0)) (λi σ' H'=>∃(lp:Addr) (o2 o3 o4:Option V),σ'=[some (.ref l),some (.ref lp),o2,o3,o4]/\Same (upd H l0 (.lst [.int 1])) H'/\H' lp=some (.lst ((Pm.j7 (M'.take i) [1]).map V.int))/\∀z∈Pm.j7 (M'.take i) [1],Rm.Bd (1+50*Pm.many (M'.take i)) z)
   ⟨l0,_,_,_,rfl,Same.refl _,aC,λz hz=>by rw[dj.mp hz];exact(Rm.Bd.of (n:=1) ∅ ∅).mono ⋯⟩ (λi σ' H' ⟨_,_,_,_,_,g,_⟩=>g) ?_ ?_
  .rintro i x σ' H1 hx ⟨lp,o2,o3,o4,rfl,g1,hp,bz⟩;obtain⟨t,p,rfl,ep,ht⟩:=hT.get hx;have ht1:=g1 _ _ (g0 _ _ ht);rw[List.getElem?_map]at ep;obtain⟨y,ey,rfl⟩:=aa4.mp ep;have hyM:y∈M':=List.mem_of_getElem? ey;have et:M'.take (i+1)=M'.take i++[y]:=by rw[qU,ey];rfl
   have em:Pm.many (M'.take (i+1))=Pm.many (M'.take i)+y.2:=by rw[et,MQ]
   have el:Pm.many (M'.take (i+1))<=Pm.many M':=by
    have:Pm.many M'=Pm.many (M'.take (i+1))+Pm.many (M'.drop (i+1)):=by
     unfold Pm.many;rw[<-DW,<-gO,DN]
    omega
   obtain⟨mA,Te⟩:=Pm.Km (M'.take i) Pm.Dq;replace Te:(Pm.j7 (M'.take i) [1]).length=1+Pm.many (M'.take i):=Te;refine⟨t,_,rfl,aA.of ht1,rfl,_,_,rfl,_,_,rfl,rfl,?_⟩;refine⟨_,rfl,(y.2:Int),rfl,⋯,⋯,?_⟩;rw[et,adx,MQ];generalize Pm.j7 (M'.take i) [1]=AA at hp bz mA Te;refine jH (lo:=0) (n:=(y.2:Int).toNat) (λj σ' H'=>∃(lp:Addr) (o4:Option V),σ'=[some (.ref l),some (.ref lp),some (.int y.1),some (.int (y.2:Int)),o4]/\Same (upd H l0 (.lst [.int 1])) H'/\H' lp=some (.lst ((Pm.cX y.1 j AA).map V.int))/\∀z∈Pm.cX y.1 j AA,Rm.Bd (1+50*(Pm.many (M'.take i)+j)) z)
    ⟨lp,_,rfl,g1,hp,bz⟩ ?_ ?_
   .rintro j σ' H2 hj ⟨lp,o4,rfl,g2,hp,bz⟩;have hj':j<y.2:=⋯;obtain⟨mJ,zJ⟩:=Pm.JX (r:=y.1) mA j;refine⟨_,rfl,_,rfl,_,_,rfl,rfl,(by show 2<=sizeLine;decide),λl1 h1=>?_⟩;have g3:=Same.new h1 (.lst [.int (0-y.1),.int 1]);refine⟨lp,l1,Pm.cX y.1 j AA,Pm.lin y.1,rfl,g3 _ _ hp,aC,mJ.pos,⋯,(by show 1<=2;decide),(by show 2<=10;decide),λz hz=>(bz z hz).mono ⋯,λz hz=>?_,λl2 H3 g4 h2=>?_⟩
    .have hb:=bM y hyM;rcases bH.mp hz with e|hz
     .have hb2:Rm.Bd 40 (0-y.1):=by unfold Rm.Bd at hb ⊢;rw[show(0-y.1).natAbs=y.1.natAbs by omega];exact hb
      rw[e];exact hb2.mono ∅
     .rw[dj.mp hz];exact(Rm.Bd.of (n:=1) ∅ ∅).mono ⋯
    .have ee:=(Pm.UJ mJ (Pm.Mf y.1)).1;rw[ee]at h2;exact⟨l2,_,rfl,(g2.trans g3).trans g4,h2,λz hz=>(atl bz (bM y hyM) z hz).mono ⋯⟩
   .rintro σ' H2 ⟨lp,o4,rfl,g2,hp,bz⟩;rw[fQ]at hp bz;exact⟨lp,_,_,_,rfl,g2,hp,bz⟩
  .rintro σ' H1 ⟨lp,o2,o3,o4,rfl,g1,hp,bz⟩;have e:=hT.len;rw[aB]at e;rw[e,ni]at hp bz;refine⟨_,rfl,q lp H1 (g0.trans g1) hp λz hz=>(bz z hz).mono ⋯⟩
theorem amv(F:Fn K mg "_law_whole" QV ["_law_found"]):WR P w K mg base:=by
 refine F.cal arO (λvs H Q E h=>?_) (λ_ _ _ _ _ H _ Q E hr h=>?_)
 .obtain⟨i,rfl,_⟩:=h;rfl
 .obtain⟨i,rfl,q⟩:=h;refine⟨_,(aD (aZ (R6 (gY yN rfl B.zR boot_isinstance (ak (pv 0) (ak (Ab rfl B.amx boot_int) aj))) (aeD (anF (gY yN rfl B.zR boot_isinstance (ak (pv 0) (ak (Ab rfl B.aqp boot_bool) aj)))))))),?_⟩;refine⟨_,rfl,.int i,"int","int",rfl,rfl,by simp,_,rfl,?_⟩;refine qj ?_;exact⟨_,rfl,.int i,"bool","int",rfl,rfl,by simp,_,rfl,q⟩
theorem ape(F:Fn K mg "_law_going" RD ["_law_row","_law_count"]):aac P w K mg base:=by
 refine F.cal tO (λvs H Q E h=>?_) (λ_ _ _ _ _ H _ Q E hr h=>?_)
 .obtain⟨v,r,c,rfl,_⟩:=h;rfl
 .obtain⟨v,r,c,rfl,⟨a,p,p2,rfl,hA,hR,hS⟩,ok,hc0,hc1,q⟩:=h;refine⟨_,(aq (v7 (pv 0) (xR K (n:=3) rfl (lW (aY 2 tO.nd) (lW (aY 3 tO.nd) (lW (aY 4 tO.nd) wW))))) (aq (aG 5 tO.nd (rP (rF K) (kZ (xlist K) rfl B.xJ boot_list (ak (pv 4) aj)) uK (pZ (pv 1)))) (aq (qm PassesOwn.never (cM AK (cL K B.cN (ak (pv 5) aj)) (pv 1)) (aq (aG 6 tO.nd ao) (aq (fY PassesOwn.never rfl (iB rfl B.gw (aN (cL K B.cN (ak (pv 3) aj)) aj)) (aY 7 tO.nd) (aD (aG 6 tO.nd (pad K (pv 6) (aH v_mul (aM K (pv 3) (pv 7)) (aM K (pv 5) (aH cZ (aH cZ (cL K B.cN (ak (pv 5) aj)) ao) (pv 7)))))))) (aq (uE (dF (cM qg (pv 2) ao) (aD (aG 6 tO.nd (aH gK (pv 6) (pv 2)))) dW)) (aD (nA (tE K (pv 5) (pv 6)))))))) (aD (aZ (pv 5)))))),?_⟩;have hl:=ok.len;have hl2:=ok.short;have lS:(r.starts.map V.int).length=r.starts.length:=aB _;have lR:(r.rule.map V.int).length=r.rule.length:=aB _;refine⟨_,rfl,a,_,rfl,aA.of hA,rfl,_,_,rfl,_,_,rfl,_,_,rfl,rfl,?_⟩;have au4:jc (r.starts.map V.int) none (some c)=(r.row (min c.toNat r.starts.length)).map V.int:=by
   have e:r.row (min c.toNat r.starts.length)=r.starts.take (min c.toNat r.starts.length):=Rm.aaW (aen _ _);rw[e];have e2:c=((c.toNat:Nat):Int):=⋯;unfold jc;rw[e2,HT.uI,HT.vD,G9,tV,lS,vp,fQ]
  refine⟨_,rfl,p2,_,rfl,.inr (aA.of hS),λl0 hl0=>?_⟩;have g0:=Same.new hl0 (.lst (r.starts.map V.int));refine⟨_,rfl,_,rfl,.inl ⟨_,au.of aC,λl hl1=>?_⟩⟩;rw[au4];have g1:=g0.trans (Same.new hl1 (.lst ((r.row (min c.toNat r.starts.length)).map V.int)));have hr1:(upd (upd H l0 (.lst (r.starts.map V.int))) l (.lst ((r.row (min c.toNat r.starts.length)).map V.int))) l=some (.lst ((r.row (min c.toNat r.starts.length)).map V.int)):=aC;have hl1':=g0.free hl1;generalize upd (upd H l0 (.lst (r.starts.map V.int))) l (.lst ((r.row (min c.toNat r.starts.length)).map V.int))=H1 at g1 hr1;refine⟨λm σ' H'=>∃(n:Nat) (o6 o7:Option V),m=c.toNat-n/\min c.toNat r.starts.length<=n/\n<=c.toNat/\σ'=[some (.ref a),some (.int c),some (.int r.b),some (.ref p),some (.ref p2),some (.ref l),o6,o7]/\Same H H'/\H' l=some (.lst ((r.row n).map V.int)),
   ⟨_,min c.toNat r.starts.length,_,_,rfl,aJ _,Nat.min_le_left _ _,rfl,g1,hr1⟩,?_⟩
  rintro m σ' H' ⟨n,o6,o7,rfl,h1,h2,rfl,g,hL⟩;have lL:((r.row n).map V.int).length=n:=by rw[aB,Rw.jY]
  have lN:(r.row n).length=n:=Rw.jY ..;refine⟨_,rfl,.ref l,n,rfl,.inl ⟨_,au.of hL,lL.symm⟩,_,rfl,_,_,rfl,rfl,_,rfl,?_⟩;refine dM (λcc=>?_) (λcc=>?_)
  .have hn:n<c.toNat:=by have:=dec_true cc;omega
   refine⟨_,λ_ _ z=>z,?_⟩;refine⟨_,rfl,.ref p,r.rule.length,rfl,.inr ⟨_,aA.of (g _ _ hR),lR.symm⟩,?_⟩;refine⟨(r.rule.length:Int),rfl,(⋯:-(2^62)<=(r.rule.length:Int)),(⋯:(r.rule.length:Int)<2^62),?_⟩;rw[fQ];refine jH (lo:=0) (n:=r.rule.length) (λi σ' H2=>∃(o7:Option V),σ'=[some (.ref a),some (.int c),some (.int r.b),some (.ref p),some (.ref p2),some (.ref l),some (.int (Rm.S r.rule (λi=>(r.row n).getD i 0) n i)),o7]/\H'=H2) ⟨_,rfl,rfl⟩ ?_ ?_
   .rintro i σ' H2 hi ⟨o7,rfl,rfl⟩;have e1:(0+(i:Int)).toNat=i:=⋯;refine⟨_,rfl,_,rfl,_,rfl,_,_,.inr (aA.of (g _ _ hR)),eG (ns:=r.rule) (⋯:(0:Int)<=0+(i:Int)) ⋯,?_⟩;refine⟨_,rfl,_,rfl,.ref l,n,rfl,.inl ⟨_,au.of hL,lL.symm⟩,_,_,rfl,rfl,_,rfl,_,_,rfl,rfl,_,_,.inl (au.of hL),eG (ns:=r.row n) (⋯:(0:Int)<=(n:Int)-1-(0+(i:Int))) ⋯,?_⟩;refine⟨ql (Rm.Bd.getD ok.pN _) (Rm.Bd.getD (ok.YF n ⋯) _) ∅,?_⟩;refine⟨some (.int (0+(i:Int))),?_,rfl⟩;rw[e1,show((n:Int)-1-(0+(i:Int))).toNat=n-1-i by omega];rfl
   rintro σ' H2 ⟨o7,rfl,rfl⟩;refine qY.by (λσ' H2=>σ'=[some (.ref a),some (.int c),some (.int r.b),some (.ref p),some (.ref p2),some (.ref l),some (.int (Rm.tk r.b (Rm.S r.rule (λi=>(r.row n).getD i 0) n r.rule.length))),o7]/\H'=H2) (λN hN=>?_) ?_
   .refine⟨_,rfl,_,_,rfl,rfl,_,rfl,?_⟩;refine dM (λd=>?_) (λd=>hN _ _ ⟨?_,rfl⟩)
    .have d':0<r.b:=dec_true d;refine⟨_,rfl,_,rfl,_,_,rfl,rfl,d',hN _ _ ⟨?_,rfl⟩⟩;rw[Rm.jJ ⋯];rfl
    .have d':¬0<r.b:=dec_false d;have b0:=ok.oU;rw[show r.b=0 by omega,Rm.bw]
   rintro _ _ ⟨rfl,rfl⟩;refine⟨_,rfl,.inl ⟨rfl,_,au.of hL⟩,_,rfl,?_⟩;refine⟨l,_,_,rfl,rfl,hL,?_,?_⟩
   .rw[lL];exact fH ⋯
   .refine⟨c.toNat-(n+1),⋯,n+1,_,_,rfl,⋯,⋯,rfl,g.upd hl1' _,?_⟩;rw[aC];have e:r.row (n+1)=r.row n++[Rm.tk r.b (Rm.S r.rule (λi=>(r.row n).getD i 0) n r.rule.length)]:=by
     show _++[if n<r.starts.length then r.starts.getD n 0 else _]=_;rw[if_neg ⋯];rfl
    rw[e,gO];rfl
  .have hn:n=c.toNat:=by have:=dec_false cc;omega
   subst hn;exact⟨_,rfl,q l H' g hl1' hL⟩
theorem avJ(F:Fn K mg "_law_closed_row" Le ["_law_script","_law_at_here"])(zE:Pr P w K mg base)(AJ:Qd P w K mg base)(jg:BW P w K mg base):Zi P w K mg base:=by
 refine F.cal wD (λvs H Q E h=>?_) (λ_ _ _ _ _ H _ Q E hr h=>?_)
 .obtain⟨a,ns,rfl,_⟩:=h;rfl
 .obtain⟨a,ns,rfl,hS,hl,q⟩:=h;refine⟨_,(aq (uL (i:=2) (hN:=wD.nd) (hi':=rfl) (hx:=(oF rfl)) (sc:=akF) (N:=["_law_one"]) (ix:=[none]) d7 rfl (gh K (aO zE hr (ak (pv 0) (ak (pv 1) (bZ ao (bZ ao aj)))))) (λcl C s₀ H₀ ex=>⟨(aY 0 dU),(Wz (cM (mO K hr) (aM K (pv 0) ao) ao)),(pv 0)⟩)) (aq (aG 3 wD.nd (aO AJ hr (ak (pv 2) aj))) (aq (aG 4 wD.nd (kZ (oZ K) rfl B.lZ boot_tuple (aN (gF (sc:=ahD) (N:=["_law_number"]) (ix:=[none]) d7 rfl (Io K rfl B.Ax (aN (rP (rF K) (pv 3) uK (pZ (tK tG ao))) aj)) (λcl C s₀ H₀ ex=>⟨(aY 0 dU),eV,(aH cZ ao (pv 0))⟩)) aj))) (aq (aG 5 wD.nd (f9 aj)) (aq (fY PassesOwn.never rfl (iB rfl B.gw (aN (cL K B.cN (ak (pv 4) aj)) aj)) (aY 6 wD.nd) (aq (aG 7 wD.nd (aO jg hr (ak (pv 0) (eX (pad K (pad K (pv 1) ao) (pv 6)) aj)))) (aD (nA (tE K (pv 5) (aM K (f9 (eX (aH cZ (aH gK (pv 7) ao) ao) (eX (aH cZ (aH gK (pv 7) (aH v_mul ao (aH U8 ao ao))) (aH U8 ao ao)) aj))) (aH xP (aH gK (aH xP (pv 7) ao) ao) ao))))))) (aD (aZ (gb (bZ ao (ak (pv 4) (aN (kZ (oZ K) rfl B.lZ boot_tuple (ak (pv 5) aj)) aj))))))))))),?_⟩;refine⟨_,rfl,_,rfl,a,ns,rfl,hS,hl,λl xs M1 H1 g1 h1 hT hM Aa ahn=>?_⟩;have lxs:=hT.len;rw[aB]at lxs;refine⟨l,rfl,.inl ⟨⟨_,au.of h1⟩,?_⟩⟩;refine anR h1 hT ⋯ rfl (λc=>!decide (c.headD 0=0)) ?_ ?_ ?_
  .intro H2 t c g2 hc ht kk hkk;obtain⟨x,_,rfl⟩:=cB.mp hc;exact⟨_,rfl,_,_,.inr (aA.of ht),rfl,_,rfl,hkk _ (Same.refl _)⟩
  .intro H2 t k hk;exact⟨_,rfl,hk⟩
  intro D H2 ys hD g2 h2 hT2;rw[avC]at hT2;have hm5:Pm.many (fP M1)<=5:=fG (Ml _ M1) hM.all;have Ei:(fP M1).length<=4:=fG (Jq _ _) Aa;refine⟨_,rfl,D,ys,fP M1,rfl,h2,hT2,⋯,⋯,λx hx=>?_,λlp H3 g3 h3 _=>?_⟩
  .have:=hM.lo x (qR.mp hx).1;exact(Rm.Bd.of (n:=3) ⋯ ⋯).mono ∅
  rw[afD]at h3;have lP:=(Cf.qC (fP M1)).2;have hN:Cf.aL (fP M1)<=5:=hm5;refine⟨_,rfl,1,rfl,_,rfl,.inl ⟨_,au.of h3,λl1 hl1=>?_⟩⟩;rw[TQ];obtain⟨H4,uu,g4,h4⟩:=nw hl1 (.lst ((Pm.RP (fP M1) [1]).dropLast.map V.int));rw[uu];refine⟨l1,_,rfl,au.of h4,?_⟩;refine Ut h4 ⋯ rfl ?_;intro D2 hD2;have g5:=Same.new hD2 (.lst ((cU (Pm.RP (fP M1) [1])).map V.int));refine⟨D2,_,rfl,.inl ⟨au.of aC,λt ht=>?_⟩⟩;have g6:=Same.new ht (.tup ((cU (Pm.RP (fP M1) [1])).map V.int));have h6:(upd (upd H4 D2 (.lst ((cU (Pm.RP (fP M1) [1])).map V.int))) t (.tup ((cU (Pm.RP (fP M1) [1])).map V.int))) t=some (.tup ((cU (Pm.RP (fP M1) [1])).map V.int)):=aC;have Lf:=g1.trans (g2.trans (g3.trans (g4.trans (g5.trans g6))));generalize upd (upd H4 D2 (.lst ((cU (Pm.RP (fP M1) [1])).map V.int))) t (.tup ((cU (Pm.RP (fP M1) [1])).map V.int))=H6 at h6 Lf;have lR:((cU (Pm.RP (fP M1) [1])).map V.int).length=Cf.aL (fP M1):=by rw[aB,xK,lP];rfl
  generalize mX:Cf.aL (fP M1)=N at lR hN;refine⟨cj _,λls hls=>?_⟩;have g7:=Same.new hls (.lst []);have ali:=Lf.free hls;refine⟨_,rfl,.ref t,N,rfl,.inr ⟨_,aA.of (g7 _ _ h6),lR.symm⟩,?_⟩;refine⟨(N:Int),rfl,(⋯:-(2^62)<=(N:Int)),(⋯:(N:Int)<2^62),?_⟩;rw[fQ];refine jH (lo:=0) (n:=N) (λi σ' H'=>∃(o6 o7:Option V) (ss:List Int),σ'=[some (.ref a),some (.int 0),some (.ref D),some (.ref lp),some (.ref t),some (.ref ls),o6,o7]/\Same H H'/\H' t=some (.tup ((cU (Pm.RP (fP M1) [1])).map V.int))/\H' ls=some (.lst (ss.map V.int))/\ss.length=i/\∀x∈ss,Rm.Bd 60 x)
   ⟨_,_,[],rfl,Lf.trans g7,g7 _ _ h6,aC,rfl,λx hx=>absurd hx gR⟩ ?_ ?_
  .rintro i σ' H8 hi ⟨o6,o7,ss,rfl,g8,u5,hL8,Df,Pu⟩;refine⟨_,rfl,_,rfl,_,rfl,a,ns,0+6+(0+(i:Int)),rfl,g8.seq hS,hl,⋯,⋯,?_⟩;generalize d8 ns (0+6+(0+(i:Int)))=c;refine⟨_,rfl,.inl ⟨rfl,_,au.of hL8⟩,?_⟩;refine⟨_,rfl,_,_,rfl,rfl,(∅:(0:Int)<19),_,_,rfl,rfl,?_⟩;refine⟨_,rfl,_,_,rfl,rfl,⟨∅,∅,∅⟩,mulR ∅ ∅,_,_,rfl,rfl,(∅:(0:Int)<2*10^(9:Int).toNat),?_⟩;refine⟨_,_,rfl,rfl,⟨∅,∅,∅⟩,_,_,rfl,rfl,(by show 2<=sizeLine;decide),λlz hlz=>?_⟩;have g9:=Same.new hlz (.lst [.int (c%19-9),.int (c%(2*10^(9:Int).toNat)-10^(9:Int).toNat)]);refine⟨_,rfl,_,_,rfl,rfl,⟨∅,∅⟩,_,_,rfl,rfl,(∅:(0:Int)<5),_,_,rfl,rfl,⟨∅,∅⟩,?_⟩;have d0:=j4 (c/19) (show(0:Int)<5 by decide);have d1:=j8 (c/19) (show(0:Int)<5 by decide);have e0:=j4 c (show(0:Int)<19 by decide);have e1:=j8 c (show(0:Int)<19 by decide);have f0:=j4 c (show(0:Int)<2000000000 by decide);have f1:=j8 c (show(0:Int)<2000000000 by decide);refine⟨_,_,.inl (au.of (xs:=[c%19-9,c%2000000000-1000000000].map V.int) aC),eG (ns:=[c%19-9,c%2000000000-1000000000]) (⋯:(0:Int)<=c/19%5/4) (by show c/19%5/4<2;omega),?_⟩;have bx:Rm.Bd 60 (([c%19-9,c%2000000000-1000000000]:List Int).getD (c/19%5/4).toNat 0):=Rm.Bd.getD (λx hx=>by
    rcases bH.mp hx with e|hx
    .exact(Rm.Bd.of (n:=5) ⋯ ⋯).mono ∅
    .rw[dj.mp hx];exact(Rm.Bd.of (n:=30) ⋯ ⋯).mono ∅) _
   generalize ([c%19-9,c%2000000000-1000000000]:List Int).getD (c/19%5/4).toNat 0=x at bx;refine⟨ls,_,_,rfl,rfl,g9 _ _ hL8,by rw[aB];exact fH ⋯,?_⟩;have nt:t≠ls:=λz=>by rw[z,hL8]at u5;cases u5
   refine⟨_,_,ss++[x],rfl,(g8.trans g9).upd ali _,by rw[bK nt];exact g9 _ _ u5,by rw[aC,gO];rfl,by rw[fO,Df];rfl,λy hy=>?_⟩;rcases fM.mp hy with hy|hy
   .exact Pu y hy
   .rw[dj.mp hy];exact bx
  .rintro σ' H8 ⟨o6,o7,ss,rfl,g8,u5,hL8,Df,Pu⟩;refine⟨_,rfl,_,rfl,ls,_,rfl,.inl ⟨au.of hL8,λt5 ht5=>?_⟩⟩;have k5:=Same.new ht5 (.tup (ss.map V.int));refine⟨(by show 3<=sizeLine;decide),λt6 wZ=>?_⟩;have k6:=Same.new wZ (.tup [.int 0,.ref t,.ref t5]);refine q (.ref t6) ⟨0,cU (Pm.RP (fP M1) [1]),ss⟩ M1 _ (g8.trans (k5.trans k6)) ⟨t6,t,t5,rfl,aC,(k5.trans k6) _ _ u5,k6 _ _ aC⟩ ahn hM (hM.base (by rw[Df,mX]) Pu)
theorem aiV(F:Fn K mg "_law_shared" RX ["_law_one","_law_other"]):abn P w K mg base:=by
 refine F.cal GR (λvs H Q E h=>?_) (λ_ _ _ _ _ H _ Q E hr h=>?_)
 .obtain⟨x,y,rfl,_⟩:=h;rfl
 .obtain⟨x,y,rfl,q⟩:=h;refine⟨_,(aq (aG 0 GR.nd (gY wz rfl B.wG boot_abs (ak (pv 0) aj))) (aq (aG 1 GR.nd (gY wz rfl B.wG boot_abs (ak (pv 1) aj))) (aq (qm PassesOwn.never (cM qg (pv 1) ao) (aD (alI (i:=0) (j:=1) rfl GR.nd rfl rfl ∅ rfl rfl (ak (pv 1) (eX (aH gK (pv 0) (pv 1)) aj)) (by rfl)))) (aD (aZ (pv 0)))))),?_⟩;refine⟨_,rfl,x,rfl,?_⟩;refine⟨_,rfl,y,rfl,?_⟩;rw[Dj,Dj];refine⟨λt σ' H'=>∃(g w:Nat),w=t/\jT g w=jT x.natAbs y.natAbs/\σ'=[some (.int g),some (.int w)]/\H=H',⟨_,x.natAbs,y.natAbs,rfl,rfl,rfl,rfl⟩,?_⟩;rintro t σ' H' ⟨g,w,rfl,hg,rfl,rfl⟩;refine⟨_,rfl,_,_,rfl,rfl,_,rfl,?_⟩;refine dM (λc=>?_) (λc=>?_)
  .have hw:0<w:=by have:=dec_true c;omega
   refine⟨_,λ_ _ z=>z,?_⟩;refine⟨_,rfl,_,rfl,_,rfl,_,_,rfl,rfl,(⋯:(0:Int)<(w:Int)),?_⟩;refine⟨_,_,rfl,?_⟩;refine⟨g%w,Nt _ hw,w,g%w,rfl,?_,?_,rfl⟩
   .rw[<-hg,Ia w,<-Nat.gcd_rec,Ia]
   .rw[Cv];rfl
  .have hw:w=0:=by have:=dec_false c;omega
   subst hw;rw[abt]at hg;rw[<-hg]at q;exact⟨_,rfl,q⟩
theorem aj6(F:Fn K mg "_law_sum" Qg ["_law_parts","_law_n"]):aei P w K mg base:=by
 refine F.cal qZ (λvs H Q E h=>?_) (λ_ _ _ _ _ H _ Q E hr h=>?_)
 .obtain⟨lp,n,ys,ps,ex,rfl,_⟩:=h;rfl
 .obtain⟨lp,n,ys,ps,ex,rfl,hL,hp,n0,n30,hok,q⟩:=h;refine⟨_,(aq (aG 2 qZ.nd ao) (aq (fY PassesOwn.never rfl (gh K (pv 0)) (xR K (n:=2) rfl (lW (aY 3 qZ.nd) (lW (aY 4 qZ.nd) wW))) (aq (aG 5 qZ.nd ao) (aq (fY PassesOwn.never rfl (iB rfl B.gw (aN (cL K B.cN (ak (pv 4) aj)) aj)) (aY 6 qZ.nd) (aD (aG 5 qZ.nd (pad K (aH v_mul (pv 5) (pv 1)) (aM K (pv 4) (aH cZ (aH cZ (cL K B.cN (ak (pv 4) aj)) ao) (pv 6))))))) (aq (fY PassesOwn.never rfl (iB rfl B.gw (ak (pv 1) aj)) (aY 7 qZ.nd) (aD (aG 5 qZ.nd (aH v_mul (pv 5) (pv 3))))) (aD (aG 2 qZ.nd (pad K (pv 2) (pv 5)))))))) (aD (aZ (pv 2))))),?_⟩;have ly:=hp.len;have bn:Rm.Bd 10 n:=Rm.Bd.of ⋯ ⋯;refine⟨_,rfl,lp,rfl,.inl ⟨⟨_,au.of hL⟩,?_⟩⟩;refine DF (qx (au.of hL)) (λi σ' H'=>∃o3 o4 o5 o6 o7,σ'=[some (.ref lp),some (.int n),some (.int (Cf.cY (ps.take i) n.toNat)),o3,o4,o5,o6,o7]/\H=H') ⟨_,_,_,_,_,rfl,rfl⟩ (λi σ' H' ⟨_,_,_,_,_,_,z⟩=>z▸Same.refl _) ?_ ?_
  .rintro i x σ' H1 hx ⟨o3,o4,o5,o6,o7,rfl,rfl⟩;obtain⟨t,a,r,ts,rfl,ep,ht,ha⟩:=hp.get hx;obtain⟨b1,b2,b3⟩:=hok.2 _ (List.mem_of_getElem? ep);replace b1:Rm.Bd 20 r:=b1;replace b2:ts.length<=10:=b2;replace b3:∀c∈ts,Rm.Bd 8000 c:=b3;have lt:(ts.map V.int).length=ts.length:=aB _;refine⟨t,[.int r,.ref a],rfl,aA.of ht,rfl,_,_,rfl,_,_,rfl,rfl,?_⟩;refine⟨_,rfl,.ref a,ts.length,rfl,.inl ⟨_,au.of ha,lt.symm⟩,?_⟩;refine⟨(ts.length:Int),rfl,(⋯:-(2^62)<=(ts.length:Int)),(⋯:(ts.length:Int)<2^62),?_⟩;rw[fQ];refine jH (lo:=0) (n:=ts.length) (λj σ' H'=>∃o6 o7,σ'=[some (.ref lp),some (.int n),some (.int (Cf.cY (ps.take i) n.toNat)),some (.int r),some (.ref a),some (.int (Cf.pv (ts.drop (ts.length-j)) n)),o6,o7]/\H=H') ⟨_,_,by rw[tV,YG];rfl,rfl⟩ ?_ ?_
   .rintro j σ' H2 hj ⟨o6,o7,rfl,rfl⟩;have bI:Rm.Bd 9000 (Cf.pv (ts.drop (ts.length-j)) n):=(Ob bn λc hc=>b3 c (Wi hc)).mono (by rw[oA];omega);refine⟨_,rfl,_,rfl,ql bI bn ∅,?_⟩;refine⟨_,rfl,_,rfl,.ref a,ts.length,rfl,.inl ⟨_,au.of ha,lt.symm⟩,_,_,rfl,rfl,_,rfl,_,_,rfl,rfl,_,_,.inl (au.of ha),eG (ns:=ts) (⋯:(0:Int)<=(ts.length:Int)-1-(0+(j:Int))) ⋯,?_⟩;refine⟨some (.int (0+(j:Int))),o7,?_,rfl⟩;rw[R4 hj,show((ts.length:Int)-1-(0+(j:Int))).toNat=ts.length-1-j by omega];rfl
   rintro σ' H2 ⟨o6,o7,rfl,rfl⟩;rw[pU,G9];refine⟨_,rfl,n,rfl,(⋯:-(2^62)<=n),(⋯:n<2^62),?_⟩;refine jH (lo:=0) (n:=n.toNat) (λk σ' H'=>∃o7,σ'=[some (.ref lp),some (.int n),some (.int (Cf.cY (ps.take i) n.toNat)),some (.int r),some (.ref a),some (.int (Cf.pv ts n*r^k)),o6,o7]/\H=H') ⟨_,by rw[qT,jh],rfl⟩ ?_ ?_
   .rintro k σ' H2 hk ⟨o7,rfl,rfl⟩;have bI:Rm.Bd (8120+(20*30+1)) (Cf.pv ts n*r^k):=by
     have h1:Rm.Bd 8120 (Cf.pv ts n):=(Ob bn b3).mono ⋯;have h2:20*k<=20*30:=uQ _ ⋯;exact h1.mul ((Cf.yd b1 k).mono ⋯)
    refine⟨_,rfl,_,rfl,ql bI b1 ∅,some (.int (0+(k:Int))),?_,rfl⟩;rw[jd,<-bV];rfl
   rintro σ' H2 ⟨o7,rfl,rfl⟩;refine⟨_,rfl,_,rfl,some (.int r),some (.ref a),some (.int (Cf.pv ts n*r^n.toNat)),o6,o7,?_,rfl⟩;rw[take_one ep,ahT,abQ n0,bR];rfl
  .rintro σ' H1 ⟨o3,o4,o5,o6,o7,rfl,rfl⟩;rw[vV ⋯];exact⟨_,rfl,q H (Same.refl _)⟩
theorem apz(F:Fn K mg "_law_formed" SX ["_law_found","_law_roots_here"])(D7:WR P w K mg base)(Rf:abn P w K mg base):YL P w K mg base:=by
 refine F.cal zc (λvs H Q E h=>?_) (λ_ _ _ _ _ H _ Q E hr h=>?_)
 .obtain⟨t,lp,d,ys,ps,ex,D,bot,rfl,_⟩:=h;rfl
 .obtain⟨t,lp,d,ys,ps,ex,D,bot,rfl,hT,hL,hp,hd,R,q⟩:=h;refine⟨_,(aq (dF (PW.pt (oM (oR (lB (gY yN rfl B.zR boot_isinstance (ak (pv 0) (ak (Ab rfl B.lZ boot_tuple) aj))))) (oM (cM (mO K hr) (cL K B.cN (ak (pv 0) aj)) ao) (oM (oR (lB (aO D7 hr (aN (aM K (pv 0) ao) aj)))) (B7 (oR (lB (gY yN rfl B.zR boot_isinstance (aN (aM K (pv 0) ao) (ak (Ab rfl B.xJ boot_list) aj)))))))))) (aD (aZ oB)) dW) (aq (aG 2 zc.nd (aM K (pv 0) ao)) (aq (fY PassesOwn.never rfl (gh K (aM K (pv 0) ao)) (aY 3 zc.nd) (aq (dF (PW.pt (oM (oR (lB (gY yN rfl B.zR boot_isinstance (ak (pv 3) (ak (Ab rfl B.lZ boot_tuple) aj))))) (oM (cM (mO K hr) (cL K B.cN (ak (pv 3) aj)) ao) (oM (oR (lB (gY yN rfl B.zR boot_isinstance (aN (aM K (pv 3) ao) (ak (Ab rfl B.xJ boot_list) aj))))) (B7 (HW (aeM hr.hu (aM K (pv 3) ao) (pv 1)))))))) (aD (aZ oB)) dW) (aq (dF (PW.pt (oM (oR (lB (aO D7 hr (aN (aM K (pv 3) ao) aj)))) (oM (cM (iD K hr) (aM K (pv 3) ao) (f9 aj)) (oM (cM qg (cL K B.cN (aN (aM K (pv 3) ao) aj)) (Nx hr.hu (pv 1) (aM K (pv 3) ao) (λ_ _=>rfl))) (B7 (cM (iD K hr) (aM K (aM K (pv 3) ao) (tK tG ao)) ao)))))) (aD (aZ oB)) dW) (aD (fY PassesOwn.never rfl (gh K (aM K (pv 3) ao)) (aY 4 zc.nd) (aq (dF (oR (lB (aO D7 hr (ak (pv 4) aj)))) (aD (aZ oB)) dW) (aD (aG 2 zc.nd (aO Rf hr (ak (pv 2) (ak (pv 4) aj))))))))))) (aq (uL (i:=5) (hN:=zc.nd) (hi':=rfl) (hx:=(oF rfl)) (sc:=axv) (N:=["_law_root","_law_tops"]) (ix:=[none,none]) d7 rfl (gh K (aM K (pv 0) ao)) (λcl C s₀ H₀ ex=>⟨(xR K (n:=2) rfl (lW (aY 0 dU) (lW (aY 1 dU) wW))),eV,(pv 0)⟩)) (aD (aZ (R6 (tM qg (aM K (pv 0) ao) ao (sH _)) (R6 (tM (iD K hr) (pv 2) ao (sH _)) (aeD (tM (iD K hr) (pv 5) (apK rfl rfl B.UG rfl B.anL (ak (pv 5) aj)) (sH _))))))))))),?_⟩;have ly:=hp.len;have b1:=R.pos;have few:=R.ok.1;have ty:qN H (.ref t)=some "tuple" := by simp only[qN,hT]
  have ty2:qN H (.ref lp)=some "list" := by simp only[qN,hL]
  refine⟨_,rfl,.ref t,"tuple","tuple",rfl,ty,by simp,_,rfl,gC ?_⟩;refine⟨_,rfl,.ref t,2,rfl,.inr ⟨_,aA.of hT,rfl⟩,_,rfl,gC ?_⟩;refine⟨_,rfl,_,_,.inr (aA.of hT),rfl,bot,rfl,_,rfl,gC ?_⟩;refine⟨_,rfl,_,_,.inr (aA.of hT),rfl,.ref lp,"list","list",rfl,ty2,by simp,_,rfl,gC ?_⟩;refine⟨_,rfl,_,_,.inr (aA.of hT),rfl,?_⟩;refine⟨_,rfl,_,_,.inr (aA.of hT),rfl,lp,rfl,.inl ⟨⟨_,au.of hL⟩,?_⟩⟩;have nb:((bot.natAbs:Nat):Int)=bot:=⋯;refine DF (qx (au.of hL)) (λi σ' H'=>∃(o3 o4:Option V),σ'=[some (.ref t),some (.ref d),some (.int (Lm.fL bot.natAbs (n8 (ps.take i)):Nat)),o3,o4,none]/\Same H H') ⟨_,_,by rw[show n8 (ps.take 0)=[]from rfl];show _=[some (V.ref t),some (V.ref d),some (V.int ((bot.natAbs:Nat):Int)),_,_,none];rw[nb];rfl,Same.refl _⟩ (λi σ' H' ⟨_,_,_,z⟩=>z) ?_ ?_
  .rintro i x σ' H1 hx ⟨o3,o4,rfl,g1⟩;obtain⟨t1,a,r,ts,rfl,ep,ht,ha⟩:=(hp.same g1).get hx;have hmem:=List.mem_of_getElem? ep;obtain⟨n2,n3⟩:=R.ne _ hmem;replace n2:ts≠[]:=n2;replace n3:Pm.co ts (ts.length-1)≠0:=n3;obtain⟨m,Pk,Xl⟩:=R.inD _ hmem;replace Pk:(r,m)∈D:=Pk;replace Xl:ts.length<=m:=Xl;have lt:=vP.mpr n2;have lt10:ts.length<=10:=(R.ok.2 _ hmem).2.1;have hd1:=g1 _ _ hd;have tyt:qN H1 (.ref t1)=some "tuple" := by simp only[qN,ht]
   have tya:qN H1 (.ref a)=some "list" := by simp only[qN,ha]
   have hv:eU (bh D) (.inl r)=some (.int (m:Int)):=uq R.nd Pk;refine⟨_,rfl,.ref t1,"tuple","tuple",rfl,tyt,by simp,_,rfl,gC ?_⟩;refine⟨_,rfl,.ref t1,2,rfl,.inr ⟨_,aA.of ht,rfl⟩,_,rfl,gC ?_⟩;refine⟨_,rfl,_,_,.inr (aA.of ht),rfl,.ref a,"list","list",rfl,tya,by simp,_,rfl,gC ?_⟩;refine⟨_,rfl,_,_,.inr (aA.of ht),rfl,_,rfl,d,_,rfl,rm.k (k:= .inl r) hd1,_,rfl,?_⟩;rw[show(!(eU (bh D) (.inl r)).isSome)=false by rw[hv];rfl];refine gC ?_;refine⟨_,rfl,_,_,.inr (aA.of ht),rfl,r,rfl,_,rfl,gC ?_⟩;refine⟨_,rfl,_,_,.inr (aA.of ht),rfl,cj _,λe1 he1=>?_⟩;obtain⟨H2,uu,g2,h2⟩:=nw he1 (.lst []);rw[uu];replace h2:H2 e1=some (.lst (([]:List Int).map V.int)):=h2;have ha2:=g2 _ _ ha;have su:=g2 _ _ ht;have hd2:=g2 _ _ hd1;have jZ:=g1.trans g2;refine aeo (ns:=ts) (ms:=[]) (au.of ha2) (au.of h2) ⟨_,rfl,?_⟩;rw[decide_eq_false n2];refine gC ?_;refine⟨_,rfl,_,_,.inr (aA.of su),rfl,.ref a,ts.length,rfl,.inl ⟨_,au.of ha2,(aB _).symm⟩,?_⟩;refine⟨_,rfl,_,rfl,_,_,.inr (aA.of su),rfl,d,.int (m:Int),rfl,by have z:=rm.k (k:= .inl r) hd2;rw[hv]at z;exact z,_,_,rfl,rfl,_,rfl,?_⟩;rw[decide_eq_false (⋯:¬(m:Int)<(ts.length:Int))];refine gC ?_;refine⟨_,rfl,_,_,.inr (aA.of su),rfl,_,rfl,_,_,.inl (au.of ha2),ahi (ns:=ts) (ts.length-1) ∅ ⋯,_,rfl,?_⟩;rw[decide_eq_false (show ¬ts.getD (ts.length-1) 0=0 from n3)];refine gC ?_;refine⟨_,rfl,_,_,.inr (aA.of su),rfl,a,rfl,.inl ⟨⟨_,au.of ha2⟩,?_⟩⟩;refine DF (qx (au.of ha2)) (λj σ' H'=>∃(o4:Option V),σ'=[some (.ref t),some (.ref d),some (.int (Lm.fL bot.natAbs (n8 (ps.take i)++ts.take j):Nat)),some (.ref t1),o4,none]/\H2=H') ⟨_,by rw[show ts.take 0=[]from rfl,Aw];rfl,rfl⟩ (λj σ' H' ⟨_,_,z⟩=>z▸Same.refl _) ?_ ?_
   .rintro j y σ' H3 hy ⟨o4,rfl,rfl⟩;obtain⟨rfl,hj⟩:=M9 hy;refine⟨_,rfl,_,rfl,_,rfl,gC ?_⟩;refine⟨_,rfl,_,rfl,_,_,rfl,some (.int (Pm.co ts j)),?_,rfl⟩;rw[G6 (xs:=ts) (n:=j+1) ⋯ ⋯,fX,<-Ht,Lm.W8,zB];rfl
   .rintro σ' H3 ⟨o4,rfl,rfl⟩;rw[aB,ni];refine⟨some (.ref t1),o4,?_,jZ⟩;rw[take_one ep];have e2:n8 (ps.take i++[(r,ts)])=n8 (ps.take i)++ts:=by unfold n8;rw[List.flatMap_append];show _++(ts++[])=_;rw[Aw]
    rw[e2]
  .rintro σ' H1 ⟨o3,o4,rfl,g1⟩;rw[vV ⋯,R.gcd];refine⟨_,rfl,_,_,.inr (aA.of (g1 _ _ hT)),rfl,lp,rfl,.inl ⟨⟨_,au.of (g1 _ _ hL)⟩,?_⟩⟩;refine Yj (g1 _ _ hL) (hp.same g1) ⋯ rfl (·.1) ?_ ?_
   .intro H2 r ts b g2 hb _ k hk;exact⟨_,rfl,hk⟩
   intro D2 H2 hD2 g2 h2;refine⟨_,rfl,_,_,.inr (aA.of ((g1.trans g2) _ _ hT)),rfl,_,_,rfl,rfl,_,rfl,?_⟩;rw[decide_eq_true (⋯:(0:Int)<bot)];refine qj ?_;refine⟨_,rfl,_,rfl,?_⟩;refine qj ?_;refine⟨_,rfl,_,rfl,D2,ps.map (·.1),rfl,h2,qK R.up,by rw[aB];omega,R.good,λl' ns' hperm hle hn=>?_⟩;obtain rfl:=ahk R.up hperm hle;have g3:=Same.new hn (.lst ((ps.map (·.1)).map V.int));refine aeo (ns:=ps.map (·.1)) (ms:=ps.map (·.1)) (au.of (g3 _ _ h2)) (au.of aC) ?_;rw[decide_eq_true rfl];exact q _ (g1.trans (g2.trans g3))
theorem apn(F:Fn K mg "_law_longer" Ot ["_law_script","_law_row","_law_going_here"])(jg:BW P w K mg base)(Af:R3 P w K mg base):abF P w K mg base:=by
 refine F.cal Aj (λvs H Q E h=>?_) (λ_ _ _ _ _ H _ Q E hr h=>?_)
 .obtain⟨a,lg,ns,v,r,rs,rfl,_⟩:=h;rfl
 .obtain⟨a,lg,ns,v,r,rs,rfl,hS,hl,⟨ra,p,p2,rfl,hA,hR,hSt⟩,hB,hG,q⟩:=h;refine⟨_,(aq (aG 3 Aj.nd (pad K (gF (sc:=asC) (N:=["_law_number"]) (ix:=[none]) d7 rfl (avf K rfl B.Ax (aN (aM K (pv 1) ao) aj)) (λcl C s₀ H₀ ex=>⟨(aY 0 dU),eV,(aH cZ ao (pv 0))⟩)) (f9 (bZ ao aj)))) (aq (fY PassesOwn.never rfl (iB rfl B.gw (eX (pad K ao (aH gK (aO jg hr (ak (pv 0) (bZ ao aj))) ao)) aj)) (aY 4 Aj.nd) (aq (aG 5 Aj.nd (aM K (f9 (xQ (f9 (bZ ao (bZ ao (bZ ao aj)))) (xQ (f9 (bZ ao (bZ ao aj))) (xQ (f9 (Dr (tK tG ao) (bZ ao aj))) (xQ (f9 (bZ ao (bZ ao (bZ ao aj)))) (xQ (f9 (Dr (tK tG ao) (bZ ao (bZ ao aj)))) (xQ (f9 (eX (aH cZ (aH cZ ao (aH U8 ao ao)) ao) (bZ ao aj))) aj))))))) (aH gK (aO jg hr (ak (pv 0) (eX (pad K ao (pv 4)) aj))) ao))) (aD (aG 3 Aj.nd (aO Af hr (ak (pv 3) (ak (pv 5) aj))))))) (aq (aG 6 Aj.nd (kZ (oZ K) rfl B.lZ boot_tuple (aN (gF (sc:=ami) (N:=["_law_number"]) (ix:=[none]) d7 rfl (Io K rfl B.Ax (aN (rP (rF K) (pv 3) uK (pZ (tK tG ao))) aj)) (λcl C s₀ H₀ ex=>⟨(aY 0 dU),eV,(aH cZ ao (pv 0))⟩)) aj))) (aD (aZ (gb (bZ ao (ak (pv 6) (aN (kZ (oZ K) rfl B.lZ boot_tuple (aN (rP (rF K) (pv 2) uK (pZ (cL K B.cN (ak (pv 6) aj)))) aj)) aj))))))))),?_⟩;have l6:=hB.short;have lr:(r.rule.map V.int).length=r.rule.length:=aB _;refine⟨_,rfl,_,_,.inr (aA.of hA),rfl,p,_,rfl,aA.of hR,?_⟩;refine qw (agI (aA.of hR)) (by rw[gU,lr];exact iM (fH ⋯)) rfl (λ_=>true) E4 ?_ ?_ ?_
  .intro H5 x g5 hx k hk;exact hk
  .intro H5 x g5 hx _ k hk;obtain⟨y,hy,rfl⟩:=cB.mp (jC.mp hx);exact⟨_,rfl,_,_,rfl,rfl,hk⟩
  intro D1 hD1;have e1:((r.rule.map V.int).reverse.filter λ_=>true).map E4=(r.rule.reverse.map λx=>0-x).map V.int:=by
   rw[qP.mpr (by simp),<-Gz,cH,cH];rfl
  rw[e1];obtain⟨H1,uu,g1,h1⟩:=nw hD1 (.lst ((r.rule.reverse.map λx=>0-x).map V.int));rw[uu];refine⟨(by show 1<=sizeLine;decide),λl0 hl0=>?_⟩;obtain⟨H2,uu,g2,h2⟩:=nw hl0 (.lst [.int 1]);rw[uu];have h12:=g2 _ _ h1;refine .inl ⟨_,_,h12,h2,?_,λlp hlp=>?_⟩
  .rw[aB,aB,gU];exact iM (fH (by show r.rule.length+1<=1000;omega))
  have ep:(r.rule.reverse.map λx=>0-x).map V.int++[V.int 1]=(Pm.aR 0 r.rule).map V.int:=by rw[<-agm,gO];rfl
  rw[ep];obtain⟨H3,uu,g3,h3⟩:=nw hlp (.lst ((Pm.aR 0 r.rule).map V.int));rw[uu];have uG:=g1.trans (g2.trans g3);refine⟨_,rfl,a,ns,30,rfl,uG.seq hS,hl,∅,∅,?_⟩;generalize d8 ns 30=c0;have m0:=j4 c0 (show(0:Int)<2 by decide);have m1:=j8 c0 (show(0:Int)<2 by decide);refine⟨_,_,rfl,rfl,(∅:(0:Int)<2),?_⟩;generalize c0%2=c1 at m0 m1;refine⟨1+c1,rfl,⋯,⋯,?_⟩;have bO:∀x∈Pm.aR 0 r.rule,Rm.Bd 30 x:=Pm.SJ ∅ ∅ ∅ λx hx=>(hB.pN x hx).mono ∅;refine jH (lo:=0) (n:=(1+c1).toNat) (λi σ' H'=>∃(lw:Addr) (o4 o5:Option V) (W:List Int),σ'=[some (.ref a),some (.ref ra),some (.ref lg),some (.ref lw),o4,o5,none]/\Same H H'/\H' lw=some (.lst (W.map V.int))/\Pm.Mon W/\Pm.Kp 0 W r.at/\W.length<=r.rule.length+1+2*i/\∀x∈W,Rm.Bd (30+40*i) x)
   ⟨lp,_,_,Pm.aR 0 r.rule,rfl,uG,h3,Pm.yS _ _,hB.kp,by rw[Pm.j6];omega,bO⟩ ?_ ?_
  .rintro i σ' H4 hi ⟨lw,o4,o5,W,rfl,g4,hW,mW,kW,zW,bW⟩;refine⟨(by show 3<=sizeLine;decide),λf1 hf1=>?_⟩;have k1:=Same.new hf1 (.lst [.int 1,.int 0,.int 1]);refine⟨(by show 2<=sizeLine;decide),λf2 hf2=>?_⟩;have k2:=Same.new hf2 (.lst [.int 0,.int 1]);refine⟨5,rfl,(by show 2<=sizeLine;decide),λf3 hf3=>?_⟩;have k3:=Same.new hf3 (.lst [.int (-5),.int 1]);refine⟨(by show 3<=sizeLine;decide),λf4 hf4=>?_⟩;have k4:=Same.new hf4 (.lst [.int 1,.int 1,.int 1]);refine⟨2,rfl,(by show 3<=sizeLine;decide),λf5 hf5=>?_⟩;have k5:=Same.new hf5 (.lst [.int (-2),.int 0,.int 1]);refine⟨_,_,rfl,rfl,⟨∅,∅,∅⟩,_,_,rfl,rfl,_,_,rfl,rfl,(by show 2<=sizeLine;decide),λf6 hf6=>?_⟩;have k6:=Same.new hf6 (.lst [.int (0-10^(6:Int).toNat-7),.int 1]);refine⟨(by show 6<=sizeLine;decide),λf7 hf7=>?_⟩;have k7:=Same.new hf7 (.lst [.ref f1,.ref f2,.ref f3,.ref f4,.ref f5,.ref f6]);have hL:bJ (upd (upd (upd (upd (upd (upd (upd H4 f1 (.lst [.int 1,.int 0,.int 1])) f2 (.lst [.int 0,.int 1])) f3 (.lst [.int (-5),.int 1])) f4 (.lst [.int 1,.int 1,.int 1])) f5 (.lst [.int (-2),.int 0,.int 1])) f6 (.lst [.int (0-10^(6:Int).toNat-7),.int 1])) f7 (.lst [.ref f1,.ref f2,.ref f3,.ref f4,.ref f5,.ref f6])) [] [.ref f1,.ref f2,.ref f3,.ref f4,.ref f5,.ref f6] vf:=
    .cons gR (k7 _ _ (k6 _ _ (k5 _ _ (k4 _ _ (k3 _ _ (k2 _ _ aC)))))) (.cons gR (k7 _ _ (k6 _ _ (k5 _ _ (k4 _ _ (k3 _ _ aC))))) (.cons gR (k7 _ _ (k6 _ _ (k5 _ _ (k4 _ _ aC)))) (.cons gR (k7 _ _ (k6 _ _ (k5 _ _ aC))) (.cons gR (k7 _ _ (k6 _ _ aC)) (.cons gR (k7 _ _ aC) .nil)))))
   have Iv:=k1.trans (k2.trans (k3.trans (k4.trans (k5.trans (k6.trans k7)))));have afL:=aC (H:=(upd (upd (upd (upd (upd (upd H4 f1 (.lst [.int 1,.int 0,.int 1])) f2 (.lst [.int 0,.int 1])) f3 (.lst [.int (-5),.int 1])) f4 (.lst [.int 1,.int 1,.int 1])) f5 (.lst [.int (-2),.int 0,.int 1])) f6 (.lst [.int (0-10^(6:Int).toNat-7),.int 1]))) (a:=f7) (o:= .lst [.ref f1,.ref f2,.ref f3,.ref f4,.ref f5,.ref f6]);generalize upd (upd (upd (upd (upd (upd (upd H4 f1 (.lst [.int 1,.int 0,.int 1])) f2 (.lst [.int 0,.int 1])) f3 (.lst [.int (-5),.int 1])) f4 (.lst [.int 1,.int 1,.int 1])) f5 (.lst [.int (-2),.int 0,.int 1])) f6 (.lst [.int (0-10^(6:Int).toNat-7),.int 1])) f7 (.lst [.ref f1,.ref f2,.ref f3,.ref f4,.ref f5,.ref f6])=H5 at hL Iv afL;refine⟨_,rfl,_,rfl,a,ns,31+(0+(i:Int)),rfl,(g4.trans Iv).seq hS,hl,⋯,⋯,_,_,rfl,rfl,(∅:(0:Int)<6),?_⟩;have x0:=j4 (d8 ns (31+(0+(i:Int)))) (show(0:Int)<6 by decide);have x1:=j8 (d8 ns (31+(0+(i:Int)))) (show(0:Int)<6 by decide);obtain⟨j,ej⟩:∃j:Nat,d8 ns (31+(0+(i:Int)))%6=(j:Int):=⟨(d8 ns (31+(0+(i:Int)))%6).toNat,⋯⟩;rw[ej]at x0 x1;obtain⟨t,e1',_,e2'⟩:=hL.get (i:=j) (show j<6 by omega);refine⟨_,.ref t,.inl (au.of afL),ug j ej e1',?_⟩;have fk:=adB j ⋯;have fm:=ajo (i:=j) ⋯;generalize Dm.ln vf j=FF at e2' fk fm;have bF:∀x∈FF,Rm.Bd 20 x:=λx hx=>fk.2.2.2 x hx;refine⟨_,rfl,_,rfl,lw,t,W,FF,rfl,Iv _ _ hW,e2',mW.pos,⋯,⋯,⋯,λx hx=>(bW x hx).mono ⋯,λx hx=>(bF x hx).mono ∅,λl8 H8 g8 h8=>?_⟩;obtain⟨le,lm,ll⟩:=Pm.UJ mW fm;refine⟨l8,_,_,Pm.rH W FF,rfl,g4.trans (Iv.trans g8),h8,lm,by rw[le];exact kW.av9 FF,⋯,λx hx=>?_⟩;rw[le]at hx;exact(Pm.al8 ∅ ∅ ⋯ bW bF x hx).mono ⋯
  .rintro σ' H4 ⟨lw,o4,o5,W,rfl,g4,hW,mW,kW,zW,bW⟩;have hc:(1+c1).toNat<=2:=⋯;have pW:=mW.pos;refine⟨_,rfl,1,rfl,_,rfl,.inl ⟨_,au.of hW,λl1 hl1=>?_⟩⟩;rw[TQ];obtain⟨H5,uu,g5,h5⟩:=nw hl1 (.lst (W.dropLast.map V.int));rw[uu];refine⟨l1,_,rfl,au.of h5,?_⟩;refine Ut h5 ⋯ rfl ?_;intro D2 hD2;have g6:=Same.new hD2 (.lst ((cU W).map V.int));refine⟨D2,_,rfl,.inl ⟨au.of aC,λt ht=>?_⟩⟩;have g7:=Same.new ht (.tup ((cU W).map V.int));have h7:(upd (upd H5 D2 (.lst ((cU W).map V.int))) t (.tup ((cU W).map V.int))) t=some (.tup ((cU W).map V.int)):=aC;have BH:=g4.trans (g5.trans (g6.trans g7));generalize upd (upd H5 D2 (.lst ((cU W).map V.int))) t (.tup ((cU W).map V.int))=H7 at h7 BH;have lR:((cU W).map V.int).length=W.length-1:=by rw[aB,xK]
   have lG:((r.row (2*r.rule.length+4)).map V.int).length=2*r.rule.length+4:=by rw[aB,Rw.jY]
   refine⟨_,rfl,_,rfl,_,rfl,.ref t,W.length-1,rfl,.inr ⟨_,aA.of h7,lR.symm⟩,_,rfl,.inl ⟨_,au.of (BH _ _ hG),λl8 Dg=>?_⟩⟩;rw[Dz,<-vp,atn r ⋯];have g8:=Same.new Dg (.lst ((r.row (W.length-1)).map V.int));refine⟨l8,_,rfl,.inl ⟨au.of aC,λt9 ht9=>?_⟩⟩;have g9:=Same.new ht9 (.tup ((r.row (W.length-1)).map V.int));refine⟨(by show 3<=sizeLine;decide),λt6 wZ=>?_⟩;have k6:=Same.new wZ (.tup [.int 0,.ref t,.ref t9]);exact q (.ref t6) ⟨0,cU W,r.row (W.length-1)⟩ _ (BH.trans (g8.trans (g9.trans k6))) ⟨t6,t,t9,rfl,aC,(g8.trans (g9.trans k6)) _ _ h7,k6 _ _ aC⟩ (pO.mk' hB.by_ mW kW ⋯ λx hx=>(bW x hx).mono ⋯)
theorem aio{f:Addr}{fd:FuncData}(F:uJ K "law" "law" xZ f fd)(M6:Zi P w K mg base)(zE:Pr P w K mg base)(jg:BW P w K mg base)(AJ:Qd P w K mg base)(DR:adW P w K mg base d9 dN)(Uo:YL P w K mg base)(Qs:aac P w K mg base)(Tn:aei P w K mg base)(Lh:Y5 P w K mg base)(MB:abF P w K mg base):sI P w K mg base (sW P w) KN f fd ["_law_script"] (Oi K):=by
 refine F.okN (k:=11) mz (λvs H Q E h=>?_) (λcdv A outer s H vs Q E hr h=>?_)
 .obtain⟨a,ns,rfl,_⟩:=h;rfl
 .obtain⟨a,ns,rfl,hS,hlen,q⟩:=h;refine⟨_,(aq (aG 1 mz.nd (aO M6 hr (ak (pv 0) (bZ ao aj)))) (aq (aG 2 mz.nd (aso rfl rfl B.arp (aN (aO zE hr (ak (pv 0) (bZ ao (bZ ao (bZ ao aj))))) aj))) (aq (uE (dF (cM (iD K hr) (aH gK (aO jg hr (ak (pv 0) (bZ ao aj))) ao) ao) (aq (aG 3 mz.nd (aH v_mul (pad K ao (aH gK (aO jg hr (ak (pv 0) (bZ ao aj))) ao)) (aM K (f9 (bZ ao (Dr (tK tG ao) aj))) (aH gK (aH xP (aO jg hr (ak (pv 0) (bZ ao aj))) ao) ao)))) (aq (aG 2 mz.nd (aqY (Vx (pv 3) ao (Vx (pad K ao (aH gK (aO jg hr (ak (pv 0) (bZ ao aj))) ao)) ao asU)) rfl rfl (List.cons_ne_nil _ _) ∅)) (aq (aG 4 mz.nd (aO AJ hr (aN (gY Vm rfl B.UG ae8 (aN (Ru (gF (sc:=axm) (N:=["_law_root"]) (ix:=[none]) d7 rfl (PX (pv 2)) (λcl C s₀ H₀ ex=>⟨(aY 0 dU),eV,(gb (ak (pv 0) (bZ ao aj)))⟩))) aj)) aj))) (aq (aG 6 mz.nd (gb (eX (aH cZ (aH gK (aO jg hr (ak (pv 0) (bZ ao aj))) ao) ao) (eX (aH cZ (aH gK (aO jg hr (ak (pv 0) (bZ ao aj))) ao) ao) aj)))) (aD (aG 1 mz.nd (gb (bZ ao (aN (kZ (oZ K) rfl B.lZ boot_tuple (aN (gF (sc:=atz) (N:=["_law_number"]) (ix:=[none]) d7 rfl (Io K rfl B.Ax (aN (rP (rF K) (pv 4) uK (pZ (tK tG ao))) aj)) (λcl C s₀ H₀ ex=>⟨(aY 0 dU),eV,(aH cZ ao (pv 0))⟩)) aj)) (ak (pv 6) aj)))))))))) dW)) (aq (aG 7 mz.nd (aO DR hr (ak (pv 1) aj))) (aq (dF (oR (lB (aO Uo hr (ak (pv 7) (ak (pv 2) aj))))) (aD (aZ oB)) dW) (aq (aG 8 mz.nd (aO Qs hr (ak (pv 1) (eX (pad K (aH v_mul ao (cL K B.cN (aN (aM K (pv 1) ao) aj))) ao) aj)))) (aq (fY PassesOwn.never rfl (iB rfl B.gw (aN (cL K B.cN (ak (pv 8) aj)) aj)) (aY 9 mz.nd) (aD (dF (cM (mO K hr) (aH v_mul (aM K (pv 7) ao) (aM K (pv 8) (pv 9))) (aO Tn hr (aN (aM K (pv 7) ao) (ak (pv 9) aj)))) (aD (aZ oB)) dW))) (aq (dF (cM (mO K hr) (gY (G5 K rfl) rfl B.G3 boot_sum (aN (gF (sc:=axA) (N:=["_law_root","_law_tops"]) (ix:=[none,none]) d7 rfl (gh K (aM K (pv 7) ao)) (λcl C s₀ H₀ ex=>⟨(xR K (n:=2) rfl (lW (aY 0 dU) (lW (aY 1 dU) wW))),eV,(cL K B.cN (ak (pv 1) aj))⟩)) aj)) (cL K B.cN (aN (aM K (aO Lh hr (ak (pv 1) aj)) ao) aj))) (aD (aZ oB)) dW) (aq (dF (cM (mO K hr) (aO DR hr (aN (aO MB hr (ak (pv 0) (ak (pv 1) (ak (pv 8) aj)))) aj)) (pv 7)) (aD (aZ oB)) dW) (aq (uL (i:=11) (hN:=mz.nd) (hi':=rfl) (hx:=(oF rfl)) (sc:=asQ) (N:=["_law_root","_law_tops"]) (ix:=[none,none]) d7 rfl (gh K (aM K (pv 7) ao)) (λcl C s₀ H₀ ex=>⟨(xR K (n:=2) rfl (lW (aY 0 dU) (lW (aY 1 dU) wW))),eV,(gb (ak (pv 0) (aN (kZ (xlist K) rfl B.xJ boot_list (ak (pv 1) aj)) aj)))⟩)) (aq (fY PassesOwn.never rfl (gh K (aM K (pv 7) ao)) (xR K (n:=2) rfl (lW (aY 5 mz.nd) (lW (aY 10 mz.nd) wW))) (aD (nA (tE K (pv 10) ao)))) (aD (aZ (tM (iD K hr) (aO DR hr (ak (pv 1) aj)) (gb (aN (aM K (pv 7) ao) (ak (pv 11) aj))) (sH _))))))))))))))),?_⟩;refine⟨_,rfl,a,ns,rfl,hS,hlen,λv1 r1 M1 H1 g1 hR1 hs1 AZ hB1=>?_⟩;refine⟨_,rfl,a,ns,rfl,g1.seq hS,hlen,λl xs M2 H2 g2 h2 hT2 hM2 h4 hs2=>?_⟩;obtain rfl:=hs1.uniq hs2;have en:((M1.map λx=>(x.1,(x.2:Int))).map (·.1))=M1.map (·.1):=by rw[cH];rfl
  refine⟨l,xs,M1.map (λx=>(x.1,(x.2:Int))),rfl,h2,hT2.prs,by rw[en];exact AZ.nd,by rw[aB];omega,λd hd=>?_⟩;have ed:((M1.map λx=>(x.1,(x.2:Int))).map λp=>((.inl p.1:Key),V.int p.2))=bh M1:=by rw[cH];rfl
  rw[ed];obtain⟨H3,uu,g3,h3⟩:=nw hd (.dK (bh M1));rw[uu];have uG:=g1.trans (g2.trans g3);have hR3:=hR1.same (g2.trans g3);have I3:=AZ.agw h4 hs1 hR3 hB1 h3;refine qY.by (λσ' H'=>∃v d r M D o3 o4 o6,σ'=[some (.ref a),some v,some (.ref d),o3,o4,none,o6,none,none,none,none,none]/\Same H H'/\yx H' v d r M D) (λNN mX=>?_) ?_
  .refine⟨_,rfl,a,ns,34,rfl,uG.seq hS,hlen,∅,∅,_,_,rfl,rfl,(∅:(0:Int)<6),_,rfl,?_⟩;refine dM (λcc=>?_) (λcc=>mX _ _ ⟨v1,d,r1,_,_,_,_,_,rfl,uG,I3⟩);refine⟨_,rfl,a,ns,35,rfl,uG.seq hS,hlen,∅,∅,_,_,rfl,rfl,(∅:(0:Int)<995),?_⟩;have f0:=j4 (d8 ns 35) (show(0:Int)<995 by decide);have f1:=j8 (d8 ns 35) (show(0:Int)<995 by decide);obtain⟨n,en⟩:∃n:Nat,d8 ns 35%995=(n:Int):=⟨(d8 ns 35%995).toNat,⋯⟩;rw[en]at f0 f1⊢;refine⟨1,rfl,(by show 2<=sizeLine;decide),λlz hlz=>?_⟩;obtain⟨H4,uu,k1,hz1⟩:=nw hlz (.lst [.int 1,.int (-1)]);rw[uu];replace hz1:H4 lz=some (.lst (([1,-1]:List Int).map V.int)):=hz1;refine⟨_,rfl,a,ns,34,rfl,(uG.trans k1).seq hS,hlen,∅,∅,_,_,rfl,rfl,⟨∅,∅⟩,_,_,rfl,rfl,(∅:(0:Int)<2),?_⟩;have e0:=j4 (d8 ns 34/6) (show(0:Int)<2 by decide);have e1:=j8 (d8 ns 34/6) (show(0:Int)<2 by decide);refine⟨_,_,.inl (au.of hz1),eG (ns:=[1,-1]) e0 (by show _<((2:Nat):Int);omega),?_⟩;obtain⟨sg,esg,hsg⟩:∃sg:Int,([1,-1]:List Int).getD (d8 ns 34/6%2).toNat 0=sg/\(sg=1∨sg=-1):=by
    rcases(⋯:d8 ns 34/6%2=0∨d8 ns 34/6%2=1)with e|e
    .exact⟨1,by rw[e];rfl,.inl rfl⟩
    .exact⟨-1,by rw[e];rfl,.inr rfl⟩
   rw[esg];refine⟨mulR ⋯ ⋯,?_⟩;obtain⟨far,alG⟩:∃far:Int,(5+(n:Int))*sg=far:=⟨_,rfl⟩;have ajU:far=(n:Int)+5∨far=-((n:Int)+5):=by
    rcases hsg with rfl|rfl
    .left;omega
    .right;omega
   rw[alG];refineλd2 hd2=>?_;have k2:=Same.new hd2 (.dK []);refine⟨_,rfl,?_⟩;refine⟨_,rfl,a,ns,36,rfl,(uG.trans (k1.trans k2)).seq hS,hlen,∅,∅,_,_,rfl,rfl,(∅:(0:Int)<4),?_⟩;have c0:=j4 (d8 ns 36) (show(0:Int)<4 by decide);have c1:=j8 (d8 ns 36) (show(0:Int)<4 by decide);obtain⟨c,ec⟩:∃c:Int,1+d8 ns 36%4=c:=⟨_,rfl⟩;refine⟨aC,[(.inl far,.int 1),(.inl (1+d8 ns 36%4),.int 1)],rfl,(∅:2<=15),?_⟩;have hfc:far≠c:=⋯;have em:yW [] [((.inl far:Key),V.int 1),(.inl c,V.int 1)]=bh [(far,1),(c,1)]:=by
    show putK (putK (bh []) (.inl far) (.int ((1:Nat):Int))) (.inl c) (.int ((1:Nat):Int))=_;rw[U9 (by simp),U9 (by simpa using hfc.symm)];rfl
   rw[ec,em,Xy];obtain⟨H5,uu,k3,h5⟩:=nw hd2 (.dK (bh [(far,1),(c,1)]));rw[uu];have g05:=uG.trans (k1.trans k3);refine⟨d2,bh [(far,1),(c,1)],h5,λo=>?_⟩;have hf:(upd H5 d2 (.dw o (.dK (bh [(far,1),(c,1)])))) d2=some (.dw o (.dK (bh [(far,1),(c,1)]))):=aC;refine⟨_,rfl,d2,o,bh [(far,1),(c,1)],rfl,hf,?_⟩;refine Zw (N6 hf) (by show 2<=1000;decide) rfl YT ?_ ?_
   .intro H6 x g6 hx k hk;obtain⟨kv,hkv,rfl⟩:=cB.mp hx;obtain⟨y,hy,rfl⟩:=cB.mp hkv;refine⟨_,rfl,(by show 2<=sizeLine;decide),λt ht=>?_⟩;exact hk t _ (Same.new ht _) aC
   intro D6 H6 ys Yh g6 hl6 yq;have eM:((bh [(far,1),(c,1)]).map λkv=>kV kv.1).map YT=([(far,1),(c,1)]:List (Int×Nat)).map Pm.dX:=rfl;rw[eM]at yq;have Ez:D6≠d2:=λz=>by rw[z,aC]at Yh;cases Yh
   refine⟨g6 _ _ hf,?_⟩;have k6:=Same.MP h5 g6;have CV:(upd H6 d2 (.dK (bh [(far,1),(c,1)]))) D6=some (.lst ys):=by rw[bK Ez];exact hl6
   have Cr:cC (upd H6 d2 (.dK (bh [(far,1),(c,1)]))) ys (([(far,1),(c,1)]:List (Int×Nat)).map Pm.dX):=yq.up λb ts e=>by rw[bK λz=>by rw[z,g6 _ _ hf]at e;cases e];exact e
   generalize upd H6 d2 (.dK (bh [(far,1),(c,1)]))=H7 at k6 CV Cr;refine⟨D6,ys,([(far,1),(c,1)]:List (Int×Nat)).map (λx=>(x.1,(x.2:Int))),rfl,CV,Cr.prs,by simpa using hfc,(by show 2<5;decide),λl8 π hp hw hn=>?_⟩;obtain⟨hT8,hp8,hw8⟩:=aiE Cr hp hw;have k8:=Same.new hn (.lst (π.map λi=>ys.getD i V.non));generalize (π.map λi=>([(far,1),(c,1)]:List (Int×Nat)).getD i (0,0))=N at hT8 hp8 hw8;have lN:N.length=2:=hp8.length_eq;have mN:Pm.many N=2:=(afF hp8).trans rfl;refine⟨l8,_,N,rfl,aC,hT8.same k8,⋯,⋯,λx hx=>?_,λlp H9 g9 h9 _=>?_⟩
   .have:=hp8.mem_iff.mp hx;rcases bH.mp this with e|e
    .rw[e];exact(Rm.Bd.of (n:=10) (by show -(2^10)<far;omega) (by show far<2^10;omega)).mono ∅
    .rw[dj.mp e];exact(Rm.Bd.of (n:=3) (by show -(2^3)<c;omega) (by show c<2^3;omega)).mono ∅
   rw[afD]at h9;have lP:(Pm.RP N [1]).length=3:=by rw[(Cf.qC N).2];show Pm.many N+1=3;omega
   have Kw:=g05.trans (k6.trans (k8.trans g9));refine⟨_,rfl,a,ns,37,rfl,Kw.seq hS,hlen,∅,∅,_,_,rfl,rfl,(∅:(0:Int)<41),_,_,rfl,rfl,?_⟩;refine⟨_,rfl,a,ns,38,rfl,Kw.seq hS,hlen,∅,∅,_,_,rfl,rfl,(∅:(0:Int)<2001),_,_,rfl,rfl,(by show 2<=sizeLine;decide),λts hts=>?_⟩;have s0:=j4 (d8 ns 37) (show(0:Int)<41 by decide);have s1:=j8 (d8 ns 37) (show(0:Int)<41 by decide);have s2:=j4 (d8 ns 38) (show(0:Int)<2001 by decide);have s3:=j8 (d8 ns 38) (show(0:Int)<2001 by decide);obtain⟨ss,ess⟩:∃ss:List Int,ss=[d8 ns 37%41-20,d8 ns 38%2001-1000]:=⟨_,rfl⟩;have hss:∀z∈ss,Rm.Bd 60 z:=λz hz=>by
    rw[ess]at hz;rcases bH.mp hz with e|hz
    .exact(Rm.Bd.of (n:=10) ⋯ ⋯).mono ∅
    .rw[dj.mp hz];exact(Rm.Bd.of (n:=10) ⋯ ⋯).mono ∅
   have k10:=Same.new hts (.tup (ss.map V.int));have h10:(upd H9 ts (.tup (ss.map V.int))) ts=some (.tup (ss.map V.int)):=aC;have e10:(upd H9 ts (.tup [.int (d8 ns 37%41-20),.int (d8 ns 38%2001-1000)]))=upd H9 ts (.tup (ss.map V.int)):=by rw[ess];rfl
   rw[e10];have Wu:=k10 _ _ h9;generalize upd H9 ts (.tup (ss.map V.int))=wY at k10 h10 Wu;refine⟨_,rfl,1,rfl,_,rfl,.inl ⟨_,au.of Wu,λl1 hl1=>?_⟩⟩;rw[TQ];obtain⟨TN,uu,k11,h11⟩:=nw hl1 (.lst ((Pm.RP N [1]).dropLast.map V.int));rw[uu];refine⟨l1,_,rfl,au.of h11,?_⟩;refine Ut h11 ⋯ rfl ?_;intro D2 hD2;have k12:=Same.new hD2 (.lst ((cU (Pm.RP N [1])).map V.int));refine⟨D2,_,rfl,.inl ⟨au.of aC,λtr htr=>?_⟩⟩;have k13:=Same.new htr (.tup ((cU (Pm.RP N [1])).map V.int));refine⟨_,rfl,(by show 3<=sizeLine;decide),λtv htv=>?_⟩;have k14:=Same.new htv (.tup [.int 0,.ref tr,.ref ts]);have R5:=k11.trans (k12.trans (k13.trans k14));obtain⟨r',M',I'⟩:=amz (H:=upd (upd (upd TN D2 (.lst ((cU (Pm.RP N [1])).map V.int))) tr (.tup ((cU (Pm.RP N [1])).map V.int))) tv (.tup [.int 0,.ref tr,.ref ts])) (v:= .ref tv) (d:=d2) ajU ⋯ ⋯ ⋯ hp8 hw8 (ss:=ss) (by rw[ess];rfl) hss ⟨tv,tr,ts,rfl,aC,k14 _ _ aC,R5 _ _ h10⟩ (R5 _ _ (k10 _ _ (g9 _ _ (k8 _ _ (k6 _ _ h5)))));exact mX _ _ ⟨.ref tv,d2,r',M',_,_,_,_,rfl,Kw.trans (k10.trans R5),I'⟩
  rintro σ' H4 ⟨v,d,r,M,D,o3,o4,o6,rfl,g4,I4⟩;have B4:=I4.base;have Cw:=B4.ok;have Sd:=(pO.refl B4).tame B4;have Ae:nJ r.b:=by rw[B4.by_];exact .inl rfl
  have l6:=B4.short;have hS4:=g4.seq hS;refine⟨_,rfl,v,r,rfl,I4.row,B4.by_,Cw,Sd,λn hn=>B4.CW ⋯,λL lst=>B4.small lst,λL lst hc H7 g7=>(B4.some_ lst hc).elim,λL l bot us Fo t lp ys ex H5 g5 ht hlp hp=>?_⟩;have I5:=I4.same g5;have hS5:=(g4.trans g5).seq hS;have RT:=Fo.aek;have few:=RT.1;have ly:=hp.len;refine⟨_,rfl,_,rfl,t,lp,d,ys,Cf.cT l us,ex,D,bot,rfl,ht,hlp,hp,I5.XC,Fo.fmd B4 I4.sub I4.NV I4.ndD (λled i hi=>I4.good _ Fo.up (Fo.rin B4 I4.NV) led i hi),λH6 g6=>?_⟩;refine⟨_,rfl,gC ?_⟩;have I6:=I5.same g6;obtain⟨ra,p,p2,rfl,hA,hR,hSt⟩:=id I6.row;have lr:(r.rule.map V.int).length=r.rule.length:=aB _;refine⟨_,rfl,_,rfl,_,_,.inr (aA.of hA),rfl,.ref p,r.rule.length,rfl,.inr ⟨_,aA.of hR,lr.symm⟩,mulL ∅ ∅,?_⟩;refine⟨.ref ra,r,2*(r.rule.length:Int)+4,rfl,I6.row,Cw,⋯,⋯,λlg H7 g7 _ h7=>?_⟩;have eN:(2*(r.rule.length:Int)+4).toNat=2*r.rule.length+4:=⋯;rw[eN]at h7;have lG:((r.row (2*r.rule.length+4)).map V.int).length=2*r.rule.length+4:=by rw[aB,Rw.jY]
  have FD:=g6.trans g7;have Dy:=FD _ _ ht;have aep:=FD _ _ hlp;have VJ:=hp.same FD;have BH:=g4.trans (g5.trans FD);have I7:=I6.same g7;refine⟨_,rfl,.ref lg,2*r.rule.length+4,rfl,.inl ⟨_,au.of h7,lG.symm⟩,?_⟩;refine⟨((2*r.rule.length+4:Nat):Int),rfl,⋯,⋯,?_⟩;rw[fQ];refine jH (lo:=0) (n:=2*r.rule.length+4) (λi σ' H'=>∃o9,σ'=[some (.ref a),some (.ref ra),some (.ref d),o3,o4,none,o6,some (.ref t),some (.ref lg),o9,none,none]/\Same H7 H') ⟨_,rfl,Same.refl _⟩ ?_ ?_
  .rintro i σ' H8 hi ⟨o9,rfl,g8⟩;have hn:(r.row (2*r.rule.length+4)).length=2*r.rule.length+4:=Rw.jY ..;refine⟨_,rfl,_,_,.inr (aA.of (g8 _ _ Dy)),rfl,_,rfl,_,rfl,_,_,.inl (au.of (g8 _ _ h7)),eG (ns:=r.row (2*r.rule.length+4)) (⋯:(0:Int)<=0+(i:Int)) ⋯,ql Fo.bb (Rm.Bd.getD (Cw.YF _ ⋯) _) ∅,?_⟩;refine⟨_,rfl,_,_,.inr (aA.of (g8 _ _ Dy)),rfl,_,rfl,lp,0+(i:Int),ys,Cf.cT l us,ex,rfl,g8 _ _ aep,VJ.same g8,⋯,⋯,RT,λH9 g9=>?_⟩;refine⟨_,rfl,?_⟩;rw[show(0+(i:Int)).toNat=i by omega];rw[decide_eq_true (show bot*(r.row (2*r.rule.length+4)).getD i 0=Cf.cY (Cf.cT l us) i by rw[Fo.sum];exact congrArg (bot * ·) (Rm.zH _ _ _ hi))];exact gC ⟨_,rfl,g8.trans g9⟩
  rintro σ' H8 ⟨o9,rfl,g8⟩;have u5:=g8 _ _ Dy;have Vc:=g8 _ _ aep;have hp8:=VJ.same g8;have I8:=I7.same g8;have lrp:(Cf.cT l us).map (λp=>(p.2.length:Int))=(l.map λx=>(x.2:Int)):=by
   have:=congrArg (mY λx:Int×Nat=>(x.2:Int)) (Cf.Kh l us Fo.len);rw[cH]at this;exact this
  have hsum:((Cf.cT l us).map (λp=>(p.2.length:Int))).sum=(Cf.aL l:Int):=by rw[lrp];exact ade l
  have lL:L.length=Cf.aL l+1:=by rw[Fo.rp];exact(Cf.qC l).2
  refine⟨_,rfl,_,_,.inr (aA.of u5),rfl,lp,rfl,.inl ⟨⟨_,au.of Vc⟩,?_⟩⟩;refine Yj Vc hp8 ⋯ rfl (λp=>(p.2.length:Int)) ?_ ?_
  .intro H9 r' ts b g9 hb _ k hk;exact⟨_,rfl,.ref b,ts.length,rfl,.inl ⟨_,au.of hb,(aB _).symm⟩,hk⟩
  intro D9 H9 hD9 g9 h9;refine⟨D9,_,rfl,au.of h9,?_⟩;rw[hsum];refine⟨_,rfl,.ref ra,r,rfl,I8.row.same g9,Cw,Ae,Sd,λv10 L' wY CG asb lst ll=>?_⟩;obtain⟨a10,ZV,q10,rfl,aly,amG,axY⟩:=asb;rw[B4.by_]at lst;obtain rfl:=Fo.least.uniq rfl lst;have lrl:(Ry r L).rule.length=L.length-1:=Pm.qW ..;have lrm:((Ry r L).rule.map V.int).length=Cf.aL l:=by rw[aB,lrl,lL];rfl
  refine⟨_,_,.inr (aA.of aly),rfl,.ref ZV,Cf.aL l,rfl,.inr ⟨_,aA.of amG,lrm.symm⟩,_,rfl,?_⟩;rw[decide_eq_true rfl];refine gC ?_;have IX:=g9.trans CG;have Kz:=I8.same IX;have atX:=BH.trans (g8.trans IX);refine⟨_,rfl,_,rfl,_,rfl,a,lg,ns,.ref ra,r,Cf.fR M,rfl,atX.seq hS,hlen,Kz.row,B4,(g8.trans IX) _ _ h7,λv11 r11 TN g11 ah9 EA=>?_⟩;have ea:r11.at=r.at:=funext EA.same;refine⟨v11,r11,rfl,ah9,EA.by_,EA.ok B4,EA.tame B4,λn hn=>by rw[EA.same];exact B4.CW ⋯,λL' lst=>B4.small (ea▸lst),λL' lst hc H7 g7=>(B4.some_ (ea▸lst) hc).elim,λL' l' bot' us' EJ t' lp' ys' ex' H12 jZ ht' LN hp'=>?_⟩;rw[ea]at EJ;obtain⟨rfl,Qf⟩:=Fo.uniq EJ;rw[<-Qf]at hp';have HX:=IX.trans (g11.trans jZ);have Tz:=HX _ _ u5;have Du:=HX _ _ Vc;have Rz:=hp8.same HX;have I12:=I8.same HX;refine⟨_,rfl,acg ht' LN hp' Tz Du Rz ⟨_,rfl,gC ?_⟩⟩;obtain⟨bs,inn⟩:=Rz.inn;have hbs:=inn.lst;refine⟨_,rfl,_,_,.inr (aA.of Tz),rfl,lp,rfl,.inl ⟨⟨_,au.of Du⟩,?_⟩⟩;refine aiU Du Rz ⋯ rfl bs (λb hb=>by obtain⟨ts,h,_⟩:=hbs b hb;exact⟨_,h⟩) ?_ ?_
  .intro H18 r' ts b g18 hb k hk;refine⟨_,rfl,_,rfl,b,_,rfl,.inl (au.of hb),λl7 CV=>?_⟩;have j1:=Same.new CV (.lst (ts.map V.int));refine⟨(by show 2<=sizeLine;decide),λt7 Dy=>?_⟩;have j2:=Same.new Dy (.tup [.int r',.ref l7]);exact hk t7 l7 _ (j1.trans j2) CV aC (j2 _ _ aC)
  intro N7 Ko zs V8 lD h13 aol;have UL:=lD _ _ Tz;have Zh:=lD _ _ Du;have I13:=I12.same lD;have XY:∀b∈bs,∃xs,Ko b=some (.lst xs)/\xs.length<=10:=λb hb=>by
   obtain⟨ts,h,p,hpp,e⟩:=hbs b hb;exact⟨_,lD _ _ h,by rw[aB,<-e];exact(RT.2 p hpp).2.1⟩
  have ED:∀b∈bs,∃xs,Ko b=some (.lst xs):=λb hb=>let⟨xs,h,_⟩:=XY b hb;⟨xs,h⟩;have nlp:lp∉bs:=λz=>by
   obtain⟨ts,h,p,hpp,e⟩:=hbs _ z;rw[Du]at h;have ey:ys=ts.map V.int:=by injection h with h;injection h
   have hpos:0<ys.length:=by
    have:=vP.mpr (Fo.last p hpp).1;rw[ey,aB,<-e];exact this
   obtain⟨t2,b2,r2,ts2,e2,_⟩:=inn.at_ 0 _ (List.getElem?_eq_getElem hpos);have e3:ys[0]?=some (.ref t2):=by rw[List.getElem?_eq_getElem hpos,e2]
   rw[ey,List.getElem?_map]at e3;cases e4:ts[0]? with
   |none=>rw[e4]at e3;cases e3
   |some n=>rw[e4]at e3;cases e3
  refine⟨_,rfl,_,_,.inr (aA.of UL),rfl,lp,rfl,.inl ⟨⟨_,au.of Zh⟩,?_⟩⟩;refine Hf (xs:=ys) (λi σ' H'=>∃(o5 Mp:Option V),σ'=[some (.ref a),some (.ref ra),some (.ref d),o3,o4,o5,o6,some (.ref t),some (.ref lg),o9,Mp,some (.ref N7)]/\Cu bs Ko H'/\∀b∈bs,∃xs,H' b=some (.lst xs)/\xs.length<=10+i)
   ⟨_,_,rfl,λb o _ h=>h,XY⟩ (λi σ' H' ⟨_,_,_,k,_⟩=>au.of (k _ _ nlp Zh)) ?_ ?_
  .rintro i x σ' H14 hx ⟨o5,Mp,rfl,k14,U0⟩;obtain⟨t2,b2,r2,ts2,rfl,eb,_,h2t,h2b⟩:=inn.at_ i x hx;have hi:i<ys.length:=(List.getElem?_eq_some_iff.mp hx).1;have nt2:t2∉bs:=λz=>by
    obtain⟨ys',hy⟩:=ED _ z;rw[lD _ _ h2t]at hy;cases hy
   have su:=k14 _ _ nt2 (lD _ _ h2t);have hmb:=List.mem_of_getElem? eb;obtain⟨zs2,hzs,lzs⟩:=U0 b2 hmb;refine⟨t2,[.int r2,.ref b2],rfl,aA.of su,rfl,_,_,rfl,_,_,rfl,rfl,?_⟩;refine⟨_,rfl,.inl ⟨rfl,_,au.of hzs⟩,b2,_,_,rfl,rfl,hzs,fH ⋯,?_⟩;refine⟨_,_,rfl,λb o nb ho=>?_,λb hb=>?_⟩
   .rw[bK (λz:b=b2=>nb (by rw[z];exact hmb))];exact k14 b o nb ho
   .by_cases c:b=b2
    .subst c;exact⟨_,aC,by rw[fO];show zs2.length+1<=_;omega⟩
    .obtain⟨xs,hx',lx⟩:=U0 b hb;exact⟨xs,by rw[bK c];exact hx',⋯⟩
  rintro σ' H14 ⟨o5,Mp,rfl,k14,U0⟩;have nt:t∉bs:=λz=>by
   obtain⟨ys',hy⟩:=ED _ z;rw[UL]at hy;cases hy
  have nD:N7∉bs:=λz=>by
   obtain⟨ts,h,_⟩:=hbs _ z;rw[h]at V8;cases V8
  have avS:=k14 _ _ nt UL;have h14:=k14 _ _ nD h13;have aqr:=k14.pts ED aol;have ajJ:=k14.row ED I13.row;refine⟨_,rfl,.ref ra,r,rfl,ajJ,B4.by_,Cw,Sd,λn hn=>B4.CW ⋯,λL lst=>B4.small lst,λL lst hc H7 g7=>(B4.some_ lst hc).elim,λL' l' bot' us' EJ t' lp' ys' ex' H15 Dt ht' LN hp'=>?_⟩;obtain⟨rfl,Qf⟩:=Fo.uniq EJ;rw[<-Qf]at hp';refine⟨_,rfl,_,_,.inr (aA.of (Dt _ _ avS)),rfl,_,rfl,(by show 2<=sizeLine;decide),λB3 aq1=>?_⟩;have qQ:=Same.new aq1 (.tup [.int bot,.ref N7]);refine acg (qQ _ _ ht') (qQ _ _ LN) (hp'.same qQ) aC ((Dt.trans qQ) _ _ h14) (aqr.same (Dt.trans qQ)) ?_;exact q _
end
def all_mk{P:Program}{w:World}{K:aF}{h:Heap}{mg:Str->Option Value}{fa:Addr}(X:K.In h)(G:h.Ns mainGlobals mg)(hfa:mg "law" = some (.ref fa))
  (F0:bG K "is_prime" Rk) (F1:bG K "taken" TV) (F2:bG K "inverse" M7) (F3:bG K "over" Nq) (F4:bG K "refuse_prime" Qc) (F5:bG K "trimmed" Pq) (F6:bG K "divided" SQ) (F7:bG K "monic" Ph) (F8:bG K "greatest" QK) (F9:bG K "of_rule" M5) (F10:bG K "rule_of" Od) (F11:bG K "prime_above" Qe) (F12:bG K "divides" Sw) (F13:bG K "taken_poly" OX) (F14:bG K "nearest" Ux) (F15:bG K "joined" Qn) (F16:bG K "whole_greatest" QL) (F17:bG K "shared_divisor" LR) (F18:bG K "top_of" O7) (F19:bG K "least_of" Pa) (F20:bG K "shortest" Uq) (F21:bG K "line_taken" OL) (F22:bG K "head_line" PB) (F23:bG K "bring_up" QC) (F24:bG K "freed" NS) (F25:bG K "clear" Mq) (F26:bG K "common_divisor" QH) (F27:bG K "lowest" Ss) (F28:bG K "free_numbers" MS) (F29:bG K "solution" OJ) (F30:bG K "column_of" Mw) (F31:bG K "paper_against" Qy) (F32:bG K "solved" UY) (F33:bG K "refuse_big" UW) (F34:bG K "whole_divisors" Np) (F35:bG K "perhaps_roots" OD) (F36:bG K "divided_out" Sq) (F37:bG K "whole_roots" Vb) (F38:bG K "power" Nh) (F39:bG K "form_line" R9) (F40:bG K "parts_of" RV) (F41:bG K "closed" KD) (F42:bG K "_law_at" Uk) (F43:bG K "_law_times" KL) (F44:bG K "_law_roots" Ro) (F45:bG K "_law_product" R8) (F46:bG K "_law_closed_row" Le) (F47:bG K "_law_going" RD) (F48:bG K "_law_whole" QV) (F49:bG K "_law_shared" RX) (F50:bG K "_law_sum" Qg) (F51:bG K "_law_formed" SX) (F52:bG K "_law_longer" Ot) (FL:bG K "law" xZ) (ava:iy K mainGlobals "abs" = some none) (alg:iy K mainGlobals "all" = some none) (al3:iy K mainGlobals "any" = some none) (am5:iy K mainGlobals "bool" = some none) (awE:iy K mainGlobals "dict" = some none) (ag9:iy K mainGlobals "int" = some none) (alZ:iy K mainGlobals "isinstance" = some none) (aus:iy K mainGlobals "len" = some none) (an1:iy K mainGlobals "list" = some none) (asD:iy K mainGlobals "max" = some none) (aic:iy K mainGlobals "range" = some none) (an9:iy K mainGlobals "reversed" = some none) (ajL:iy K mainGlobals "set" = some none) (auZ:iy K mainGlobals "sorted" = some none) (alk:iy K mainGlobals "sum" = some none) (arM:iy K mainGlobals "tuple" = some none) (Mx:∃t,iy K mainGlobals "ABOVE_ALL_NUMBERS" = some (some (.int 1000000 t))) (Li:∃t,iy K mainGlobals "BELOW_THE_PRIMES" = some (some (.int 1000000 t))) {d9:Addr} (aay:iy K mainGlobals "NoBy" = some (some (.ref d9))) {dN:Addr} (aaz:iy K mainGlobals "TooBig" = some (some (.ref dN))) (akQ:E3 K d9 [.type "ValueError",.type "Exception",.type "BaseException",.type "object"] "ValueError.__new__" = true) (alQ:qM K (.ref d9) "__getattribute__" = some (some (.builtin "BaseException.__getattribute__"))) (ag6:qM K (.ref d9) "__getattr__" = some none) (akT:qM K (.ref d9) "__class__" = some (some (.builtin "object.__class__"))) (alH:wA K d9 (.type "BaseException")=some true) (al1:wA K d9 (.type "object")=some true) (asN:(W.clsIn K d9).isSome=true) (Ze:mR K (.ref d9) (.ref d9)=some true) (ae6:mR K (.ref d9) (.ref dN)=some false) (abC:mR K (.ref d9) (.type "ValueError")=some true) (avH:E3 K dN [.type "ValueError",.type "Exception",.type "BaseException",.type "object"] "ValueError.__new__" = true) (avi:qM K (.ref dN) "__getattribute__" = some (some (.builtin "BaseException.__getattribute__"))) (amZ:qM K (.ref dN) "__getattr__" = some none) (aqn:qM K (.ref dN) "__class__" = some (some (.builtin "object.__class__"))) (aox:wA K dN (.type "BaseException")=some true) (awb:wA K dN (.type "object")=some true) (awD:(W.clsIn K dN).isSome=true) (afc:mR K (.ref dN) (.ref d9)=some false) (ac0:mR K (.ref dN) (.ref dN)=some true) (acK:mR K (.ref dN) (.type "ValueError")=some true):
  ∃fd:FuncData,(∀(s:Shared) (v:Value),BindsTo s fd ⟨[v],[]⟩ [("_law_script",v)])/\∀base:Heap,K.In base->base.Ns mainGlobals mg->sI P w K mg base (sW P w) KN fa fd ["_law_script"] (Oi K):=by
 obtain⟨f,oc,od,kV,doc,pm,an,cdv,ct,sl,e1,e2,e3,e4⟩:=FL.ex;have e:=hfa.symm.trans (yr X G e1);cases e;have FF:=aeA (st:=xZ) e2 e3 e4;have B:Bt mg:=⟨lA X G ava,lA X G alg,lA X G al3,lA X G am5,lA X G awE,lA X G ag9,lA X G alZ,lA X G aus,lA X G an1,lA X G asD,lA X G aic,lA X G an9,lA X G ajL,lA X G auZ,lA X G alk,lA X G arM,(let⟨t,q⟩:=Mx;⟨t,yr X G q⟩),(let⟨t,q⟩:=Li;⟨t,yr X G q⟩)⟩;refine⟨qH "law" "law" (qe xZ) (lE xZ) (aW xZ) .none kV doc pm an cdv ct,λs v=> .of_eq rfl,λbase kB gB=>?_⟩;have M:Ms K mg base d9 dN:=⟨yr X G aay,yr X G aaz,YV kB gB aay akQ MG ∅,⟨alQ,ag6,akT,alH,al1,asN⟩,Ze,ae6,abC,YV kB gB aaz avH MG ∅,⟨avi,amZ,aqn,aox,awb,awD⟩,afc,ac0,acK⟩;have Q5:=anm (P:=P) (w:=w) B M (F0.bY X G);have dG:=aqk (P:=P) (w:=w) B M (F1.bY X G);have U7:=aj1 (P:=P) (w:=w) B M (F2.bY X G) dG;have oX:=agt (P:=P) (w:=w) B M (F3.bY X G) dG U7;have Nf:=ap4 (P:=P) (w:=w) B M (F4.bY X G);have rz:=ajC (P:=P) (w:=w) B M (F5.bY X G);have nR:=asW (P:=P) (w:=w) B M (F6.bY X G) dG rz;have Ce:=ak7 (P:=P) (w:=w) B M (F7.bY X G) oX;have Ad:=ak8 (P:=P) (w:=w) B M (F8.bY X G) Ce nR;have Rh:=aj3 (P:=P) (w:=w) B M (F9.bY X G) dG;have Oa:=agx (P:=P) (w:=w) B M (F10.bY X G) dG;have Kq:=ao7 (P:=P) (w:=w) B M (F11.bY X G) Q5;have HC:=aj7 (P:=P) (w:=w) B M (F12.bY X G) nR;have Gr:=aw8 (P:=P) (w:=w) B M (F13.bY X G) rz dG;have zy:=auh (P:=P) (w:=w) B M (F14.bY X G);have Rn:=ahx (P:=P) (w:=w) B M (F15.bY X G) oX dG zy;have SR:=ak3 (P:=P) (w:=w) B M (F16.bY X G) HC Kq Ad Gr zy Rn;have KY:=atb (P:=P) (w:=w) B M (F17.bY X G) SR Ad;have RJ:=avE (P:=P) (w:=w) B M (F18.bY X G) dG rz;have zm:=alj (P:=P) (w:=w) B M (F19.bY X G) Rh RJ nR KY;have Lh:=alL (P:=P) (w:=w) B M (F20.bY X G) zm Oa;have TX:=amJ (P:=P) (w:=w) B M (F21.bY X G) dG;have O6:=arL (P:=P) (w:=w) B M (F22.bY X G);have Ks:=amQ (P:=P) (w:=w) B M (F23.bY X G) dG;have Sg:=anf (P:=P) (w:=w) B M (F24.bY X G) oX dG;have Lq:=ang (P:=P) (w:=w) B M (F25.bY X G) O6 Ks Sg;have RQ:=asj (P:=P) (w:=w) B M (F26.bY X G);have Bq:=akE (P:=P) (w:=w) B M (F27.bY X G) oX RQ;have N8:=ao1 (P:=P) (w:=w) B M (F28.bY X G) dG Bq;have BQ:=apv (P:=P) (w:=w) B M (F29.bY X G) TX Lq Bq N8;have W6:=apG (P:=P) (w:=w) B M (F30.bY X G);have Tw:=alM (P:=P) (w:=w) B M (F31.bY X G) W6 BQ;have K4:=agc (P:=P) (w:=w) B M (F32.bY X G) BQ Tw;have Rx:=aob (P:=P) (w:=w) B M (F33.bY X G);have RN:=ara (P:=P) (w:=w) B M (F34.bY X G);have K5:=arZ (P:=P) (w:=w) B M (F35.bY X G) RN;have Uw:=akv (P:=P) (w:=w) B M (F36.bY X G) nR;have Tg:=aoc (P:=P) (w:=w) B M (F37.bY X G) Rx K5 Uw;have HD:=awl (P:=P) (w:=w) B M (F38.bY X G);have PF:=ave (P:=P) (w:=w) B M (F39.bY X G) HD;have Td:=asu (P:=P) (w:=w) B M (F40.bY X G);have DR:=ahO (P:=P) (w:=w) B M (F41.bY X G) Nf Tg zm PF K4 Td;have jg:=alw (P:=P) (w:=w) B M (F42.bY X G);have Af:=avb (P:=P) (w:=w) B M (F43.bY X G);have zE:=ai5 (P:=P) (w:=w) B M (F44.bY X G) jg;have AJ:=awm (P:=P) (w:=w) B M (F45.bY X G) Af;have M6:=avJ (P:=P) (w:=w) B M (F46.bY X G) zE AJ jg;have Qs:=ape (P:=P) (w:=w) B M (F47.bY X G);have D7:=amv (P:=P) (w:=w) B M (F48.bY X G)
 have Rf:=aiV (P:=P) (w:=w) B M (F49.bY X G);have Tn:=aj6 (P:=P) (w:=w) B M (F50.bY X G);have Uo:=apz (P:=P) (w:=w) B M (F51.bY X G) D7 Rf;have MB:=apn (P:=P) (w:=w) B M (F52.bY X G) jg Af;exact aio B M FF M6 zE jg AJ DR Uo Qs Tn Lh MB
end K47
namespace L2
open PySem PySem.W W.X
def aqK{q:Program}{loose:List Str}{XP:(Str->Option Value)->Heap->Prop}{K:Params->Frag}{as:List Addr}{n t:Nat}{r:RowW}{d:DefRec}{kwd:List (Str×PySem.Expr)}{run:Value->List Value->Sem Value}(keys:∀P,as=(K P).map (·.1))
  (W:WalkO q loose XP (λw h=>(K w.params).In h) r d kwd run):WalkX q loose XP (obsZ as) (valZ K n t) r d kwd run:=
 λw s0 s1 mg mb G y a o pm cd doc dV kV h1 h2 h3 h4 h5 h6 args vals as' L p1 p2 p3 p4 p5=>W w s0 s1 mg mb G (InK.keeps w _ _ (z_facts keys y).2.1 L.keeps) a o pm cd doc dV kV h1 h2 h3 h4 h5 h6 args vals as' p1 p2 p3 p4 p5
end L2
namespace K47
def topF(i:Nat):PySem.Stmt:=PySem.Challenge.pw_nextbyrule_k47_closed_forms.main.body.getD i (.Pass ⟨0,0,0,0⟩)
def pwL:PySem.Program:={ PySem.Challenge.pw_nextbyrule_k47_closed_forms with main:={ PySem.Challenge.pw_nextbyrule_k47_closed_forms.main with body:=[topF 0,topF 1,topF 2,topF 3,topF 4,topF 5,topF 6,topF 7,topF 8,topF 9,topF 10,topF 11,topF 12,topF 13,topF 14,topF 15,topF 16,topF 17,topF 18,topF 19,topF 20,topF 21,topF 22,topF 23,topF 24,topF 25,topF 26,topF 27,topF 28,topF 29,topF 30,topF 31,topF 32,topF 33,topF 34,topF 35,topF 36,topF 37,topF 38,topF 39,topF 40,topF 41,topF 42,topF 43,topF 44,topF 45,topF 46,topF 47,topF 48,topF 49,topF 50,topF 51,topF 52,topF 53,topF 54,topF 55,topF 56,topF 57,topF 58,topF 59,topF 60,topF 61,topF 62,topF 63,topF 64,topF 65,topF 66,topF 67,topF 68,topF 69,topF 70] } }
def rwL:PySem.W.OpenLaw:={ PySem.Challenge.rw_nextbyrule_k47_closed_forms with prog:=pwL }
end K47
namespace K47
namespace H
noncomputable section
open PySem PySem.W PySem.Calls PyProof.Rows
theorem warm:(K47.pwL.main.body.isEmpty||true)=true:=by k_qdec
abbrev kh:=PyData.keyHash
abbrev tt(i:Nat):Stmt:=PySem.W.Fast.tw5771050556377195807 i
def zs(n:Nat):Str:=⟨⟨Nat.rec (motive:=λ_=>Nat->List Nat) (λ_=>[]) (λ_ f n=>cond (Ft n 0) [] (Nat.mod n 128::f (Nat.div n 128))) 64 n⟩⟩
def z0:=zs 53901559791857631
def z1:=zs 190645811224729947285567987834079617166293541874276377554963001580
def z2:=zs 421105403244511
def z3:=zs 113039760542812094607327
def z4:=zs 883130438894441148383
def z5:=zs 53901488956436447
def z6:=zs 30344151541145318921183520387039
def z7:=zs 14469218985635115783729119
def z8:=zs 53901559540068319
def z9:=zs 2357460733860917196365705647
def Gi:=zs 883122557733039566815
def je:=zs 8277558478201633490
def vU:=zs 64623894148134862
def vd:=zs 254851022
def u0:=zs 3567379019732
def HY:=zs 57340970975885801
def GY:=zs 29741478132
def Iz:=zs 448184882935657
def Jk:=zs 240745327
def Gv:=zs 15392349691394191890428658
def IY:=zs 443304474474868
def IB:=zs 443302050378980
def J4:=zs 26797127661
def Ju:=zs 65811471622830439
def Jd:=zs 447945196958575
def Gw:=zs 452440390056690
def z26:=zs 3388939034338339719930224380682946
def Iu:=zs 120336165584743079508336
def Ji:=zs 509272748045540
def JK:=zs 1123873219935479722228
def FY:=zs 514152117859054
def Jt:=zs 3463318239210
def G8:=zs 289441913161409316528838145143
def Ij:=zs 284414884579460083709784913011
def JW:=zs 3534690727924
def Ja:=zs 57912373968138988
def Gs:=zs 65811471658644595
def E8:=zs 1021909407318828365036
def GQ:=zs 7340207024155161320
def GC:=zs 63568258281404770
def Hz:=zs 27057027430
def IZ:=zs 30806734435
def Gp:=zs 284414884579460084056056362979
def Hs:=zs 4016813504492
def EY:=zs 17513834785821938975078758
def FN:=zs 62416317197268979
def Gx:=zs 7412783660194805731
def IK:=zs 2261275470442055200019329264
def HJ:=zs 3463335065587
def WX:=zs 434308986316663104229769186100109633
def Ii:=zs 957628957581328888562
def JQ:=zs 286948200321414495131064333431
def IG:=zs 2242085010208081143823905520
def GV:=zs 138035814848017555371236
def Ge:=zs 136846008923829311370359
def CP:=zs 30815418352
def JV:=zs 7340207024174315494
def Hv:=zs 57912373702078704
def JG:=zs 3463328822883
def Jh:=zs 513532042442335
def E6:=zs 1068027428587418711647
def Hw:=zs 940052543510452663903
def J0:=zs 1069109444717454063199
def J9:=zs 17647389358143558729102943
def Fy:=zs 37989647601199336359529683646047
def HS:=zs 957993256633291535967
def Hj:=zs 939405744834656892511
def Gj:=zs 939330326377170237023
def Iw:=zs 118998992280703227950687
def Fv:=zs 61880093487167071
def JZ:=zs 118998641593221895452255
def GN:=zs 135526489686107770877535
def JL:=zs 1962220
def z73:=zs 35350842279982780
def z74:=zs 53901867955744735
def jR:=zs 883123151916293124063
def lQ:=zs 601773989896021678643699154943881966
def vh:=zs 14469089781839015725264863
def kj:=zs 30344074158132277796980072755167
def jW:=zs 133454983862861831018029446609853876543483871
def LD:=zs 113039831549272488013791
def u6:=zs 3944329476846
def z82:=zs 505222325449956
def G4:=zs 77026659975835991945842263041131819758
def vK:=zs 15586
def z85:=zs 27342305648
def z86:=zs 3501140572403
def zV:=zs 244953836
def Ec:=zs 1668975
def DP:=zs 30815173231
def R7:=zs 1964018
def z91:=zs 36741748820606704607921507807982
def z92:=zs 509719678253806
def z93:=zs 1652581
def wN:=zs 4703570198577737512948329283990254
def MD:=zs 1849332
def z96:=zs 29741626223
def z97:=zs 31354156147
def z98:=zs 3947051413734
def z99:=zs 107
def LV:=zs 31343606119
def RW:=zs 29219124979
def MK:=zs 27076163558
def vo:=zs 601245688890028280284136002178396910
def apT:=zs 7340232966842071021
def Jp:=zs 255539184
def aaU:=zs 509824676214765
def ZX:=zs 245166834
def axy:=zs 213694445
def LZ:=zs 9945148414371482049252864243888973296366
def aoZ:=zs 31381287660
def alJ:=zs 213596914
def nY:=zs 601245656567734219885054901293560558
def afy:=zs 31083705580
def adi:=zs 29749801698
def Vy:=zs 3809077835747
def ad0:=zs 105
def Ve:=zs 213464311
def aul:=zs 31081394920
def agX:=zs 245166316
def akz:=zs 14945
def ajy:=zs 27340091636
def aji:=zs 3463305819383
def uN:=zs 4701993063269919393381765093405422
def X5:=zs 27057092980
def abS:=zs 245102578
def aeI:=zs 31115180018
def anI:=zs 65789479809203301
def ajV:=zs 513606627883376
def apR:=zs 232569588
def aif:=zs 243021812
def au5:=zs 31115227376
def aor:=zs 240808176
def amV:=zs 137989276334399845594719
def yL:=zs 3702244537951
def akb:=zs 929683040243566540383
def XH:=zs 57345570095265375
def abk:=zs 1058801290007509759583
def Tt:=zs 930329895887808525919
def abu:=zs 3667884799583
def aew:=zs 8780259530764744287
def ahE:=zs 135526128861644626359903
def Q9:=zs 1003179560991236585055
def an0:=zs 32292397438105324734265880507999
def acp:=zs 8421660479154845279
def amU:=zs 8781323754941216351
def amm:=zs 67483170382575199
def ag3:=zs 1077903848374405723743
def ahR:=zs 535556634736223
def aw7:=zs 7339134107004728927
def ar8:=zs 136846217224793777272415
def ahB:=zs 1069111071925943694943
def auP:=zs 3805323753055
def akY:=zs 8350165903789815391
def apV:=zs 1058804641112792790623
noncomputable abbrev t0:String:=PySem.W.SL.s14018661285674007319x4
noncomputable abbrev t1:String:=PySem.W.SL.s7097527257260152453x26
noncomputable abbrev t2:String:=PySem.W.SL.s2766695959194262286x5
noncomputable abbrev t3:String:=PySem.W.SL.s5856160107412720595x4
noncomputable abbrev t4:String:=PySem.W.SL.s658472552662922059x5
noncomputable abbrev t5:String:=PySem.W.SL.s6070975301684473832x10
noncomputable abbrev t6:String:=PySem.W.SL.s11030030927630378310x26
noncomputable abbrev t7:String:=PySem.W.SL.s10062305145149207511x16
noncomputable abbrev t8:String:=PySem.W.SL.s17162191345867700912x4
noncomputable abbrev t9:String:=PySem.W.SL.s4209523147560561109x18
noncomputable abbrev t10:String:=PySem.W.SL.s5946037652744460706x9
noncomputable abbrev t11:String:=PySem.W.SL.s4278001404047624695x13
noncomputable abbrev wB:String:=PySem.W.SL.s2742458400755230247x6
noncomputable abbrev t13:String:=PySem.W.SL.s14755015743595814543x17
noncomputable abbrev t14:String:=PySem.W.SL.s10220274742760427390x26
noncomputable abbrev Ik:String:=PySem.W.SL.s4290257624100764138x5
noncomputable abbrev B3:String:=PySem.W.SL.s4860613602091757760x24
noncomputable abbrev t17:String:=PySem.W.SL.s7174869446012820540x8
def cd(z:Str)(i:Nat):Obj:=⟨.none,.none,.func ⟨z,z,L2.qe (tt i),.stmts (L2.lE (tt i)),L2.aW (tt i),0,[],.none,.none,.none,.none,.none,.none,.none,0⟩,⟨[]⟩⟩
def fo(z:Str)(i:Nat)(y:Str)(t c:Nat):Obj:=⟨.type t17,.none,.func ⟨z,z,L2.qe (tt i),.stmts (L2.lE (tt i)),L2.aW (tt i),3,[],.none,.none,.none,.str y t,.none,.ref c,.none,0⟩,⟨[]⟩⟩
def cf(z:Str)(a:Nat)(l n:Int)(r:Nat)(x y:Value)(c e:Nat):Obj:=⟨.type t3,.none,.fields ⟨[.str z a,.str z (a+1),.str z9 (a+2),.int l 0,.int n 0,.int 0 0,.int 0 0,.int 3 0,.ref r,.bool true,.int 181 0,.ref (r+1),.none,x,y,.ref c,.int e 0,.int l 0,.str z9 (e+1)]⟩,⟨[]⟩⟩
def cg(z:Str)(a:Nat)(l n:Int)(r c e:Nat):Obj:=cf z a l n r (.ref (r+2)) (.ref (r+3)) c e
def ts(l:List Str)(a:Nat):Obj:=⟨.type t2,.none,.seq ⟨List.rec (motive:=λ_=>Nat->List Value) (λ_=>[]) (λz _ f a=> .str z a::f (a+1)) l a⟩ 0,⟨[]⟩⟩
def er(P:Params)(z:Str)(t r:Nat):DictEntry:=⟨kh P z,.str z t,.ref r⟩
def l3(P:Params):List DictEntry:=[⟨kh P z0,.str z0 165,.str z1 624⟩,⟨kh P z2,.str z2 166,.none⟩,⟨kh P z3,.str z3 167,.none⟩,⟨kh P z4,.str z4 168,.builtin t1⟩,⟨kh P z5,.str z5 169,.none⟩,er P z6 170 6,er P z7 171 4,⟨kh P z8,.str z8 173,.str z9 172⟩,⟨kh P Gi,.str Gi 174,.none⟩,er P je 206 24,er P vU 222 37,er P vd 238 49,er P u0 254 61,er P HY 264 70,er P GY 272 77,er P Iz 283 84,er P Jk 292 91,er P Gv 301 98,er P IY 311 105,er P IB 326 112,er P J4 332 117,er P Ju 344 124,er P Jd 350 129,er P Gw 356 134,⟨kh P z26,.str z26 360,.int 1000000 359⟩,er P Iu 368 141,er P Ji 376 148,er P JK 382 153,er P FY 391 160,er P Jt 402 167,er P G8 408 172,er P Ij 417 179,er P JW 425 184,er P Ja 435 191,er P Gs 444 198,er P E8 452 203,er P GQ 462 210,er P GC 468 215,er P Hz 474 220,er P IZ 489 227,er P Gp 500 234,er P Hs 506 239,er P EY 512 244,er P FN 518 249,er P Gx 524 254,er P IK 530 259,er P HJ 541 266,⟨kh P WX,.str WX 545,.int 1000000 544⟩,er P Ii 551 271,er P JQ 561 278,er P IG 567 283,er P GV 578 290,er P Ge 589 297,er P CP 599 304,er P JV 605 309,er P Hv 617 316,er P JG 623 321,er P Jh 634 328,er P E6 645 335,er P Hw 655 342,er P J0 661 347,er P J9 672 354,er P Fy 678 359,er P HS 692 366,er P Hj 699 373,er P Gj 705 378,er P Iw 713 385,er P Fv 727 392,er P JZ 733 397,er P GN 739 402,er P JL 745 407]
def hv(P:Params)(z:Str)(t n:Nat):Obj:=⟨.type t0,.none,.dict ⟨⟨kh P z0,.str z0 165,.str z t⟩::((l3 P).take n).drop 1⟩ n,⟨[]⟩⟩
def o3(P:Params):Obj:=⟨.type t0,.none,.dict ⟨l3 P⟩ 71,⟨[]⟩⟩
def agU(P:Params):=hv P lQ 187 10
def aqs(P:Params):=hv P lQ 187 11
def aq5(P:Params):=hv P lQ 187 12
def ajk(P:Params):=hv P wN 302 18
def ahl(P:Params):=hv P vo 357 31
def apS(P:Params):=hv P nY 445 44
def alv(P:Params):Obj:=⟨.type t0,.none,.dict ⟨(l3 P).take 57⟩ 57,⟨[]⟩⟩
def akc(P:Params):Obj:=⟨.type t0,.none,.dict ⟨(l3 P).take 70⟩ 70,⟨[]⟩⟩
def aK:Obj:=⟨.type t2,.none,.seq ⟨[]⟩ 0,⟨[]⟩⟩
def fl(l:List (Int×Nat)):List Value:=l.flatMap λx=>[.int x.1 0,.int 0 0,.ref x.2]
def rB:=fl [(2,20),(4,33),(6,45),(8,57),(11,69),(20,76),(24,83),(34,90),(41,97),(45,104),(50,111),(60,116),(65,123),(73,128),(77,133),(82,140),(87,147),(89,152),(91,159),(94,166),(97,171),(115,178),(118,183),(126,190),(131,197),(136,202),(138,209),(143,214),(148,219),(156,226),(170,233),(178,238),(187,243),(194,248),(208,253),(210,258),(216,265),(223,270),(226,277),(237,282),(242,289),(251,296),(261,303),(266,308),(271,315),(279,320),(290,327),(297,334),(303,341),(308,346),(317,353),(323,358),(332,365),(343,372),(345,377),(351,384),(357,391),(367,396),(382,401),(389,406)]
def Yw:Obj:=⟨.none,.none,.fields ⟨rB⟩,⟨[]⟩⟩
def ad7:Obj:=⟨.none,.none,.fields ⟨rB.take 0⟩,⟨[]⟩⟩
def av5:Obj:=⟨.none,.none,.fields ⟨rB.take 3⟩,⟨[]⟩⟩
def ai0:Obj:=⟨.none,.none,.fields ⟨rB.take 6⟩,⟨[]⟩⟩
def akP:Obj:=⟨.none,.none,.fields ⟨rB.take 9⟩,⟨[]⟩⟩
def aqW:Obj:=⟨.none,.none,.fields ⟨rB.take 27⟩,⟨[]⟩⟩
def ahX:Obj:=⟨.none,.none,.fields ⟨rB.take 63⟩,⟨[]⟩⟩
def ate:Obj:=⟨.none,.none,.fields ⟨rB.take 102⟩,⟨[]⟩⟩
def ap2:Obj:=⟨.none,.none,.fields ⟨rB.take 138⟩,⟨[]⟩⟩
def aoS:Obj:=⟨.none,.none,.fields ⟨rB.take 177⟩,⟨[]⟩⟩
def O3:Obj:=⟨.type t3,.none,.fields ⟨[.str z73 182,.str z73 183,.str z9 184,.int 1 0,.int 0 0,.int 0 0,.int 0 0,.int 0 0,.ref 11,.bool false,.int 181 0,.ref 12,.none,.none,.none,.none,.int 185 0,.int 1 0,.str z9 186]⟩,⟨[]⟩⟩
def LC:Obj:=⟨.type t4,.none,.plain,⟨[.some (.ref 13),.some (.ref 3),.some (.ref 3),.none,.some (.str z74 164),.none,.some (.ref 0)]⟩⟩
def Xi:Obj:=⟨.type t2,.none,.seq ⟨[.type t5]⟩ 0,⟨[]⟩⟩
def JT:Obj:=⟨.type t6,.none,.fields ⟨[.builtin t7,.type t8]⟩,⟨[]⟩⟩
def o17(P:Params):Obj:=⟨.type t0,.none,.dict ⟨[⟨kh P jR,.str jR 196,.str lQ 187⟩,⟨kh P vh,.str vh 198,.str je 197⟩,⟨kh P kj,.str kj 200,.int 2 199⟩,⟨kh P jW,.str jW 201,.ref 22⟩]⟩ 4,⟨[]⟩⟩
def bD:Obj:=⟨.none,.none,.fields ⟨[]⟩,⟨[]⟩⟩
def o20:Obj:=⟨.type t3,.none,.fields ⟨[.str je 191,.str je 192,.str z9 193,.int 2 0,.int 0 0,.int 0 0,.int 0 0,.int 0 0,.ref 18,.bool false,.int 181 0,.ref 19,.none,.none,.none,.none,.int 194 0,.int 2 0,.str z9 195]⟩,⟨[]⟩⟩
def o21:Obj:=⟨.type t4,.none,.plain,⟨[.some (.ref 20),.some (.ref 3),.some (.ref 17),.none,.some (.str lQ 187),.none,.some (.ref 0)]⟩⟩
def o23(P:Params):Obj:=⟨.type t0,.none,.dict ⟨[⟨kh P jR,.str jR 196,.str lQ 187⟩,⟨kh P kj,.str kj 200,.int 2 199⟩,⟨kh P jW,.str jW 201,.ref 22⟩,⟨kh P LD,.str LD 203,.ref 25⟩,⟨kh P z2,.str z2 204,.none⟩]⟩ 3,⟨[]⟩⟩
def Vv:Obj:=⟨.type t8,.none,.cls ⟨je,[.type t5],[.ref 24,.type t5,.type t10,.type t11,.type wB],23,je,true,[],[.ref 37,.ref 49,.ref 61],false,.none,false⟩,⟨[.some (.ref 15),.none,.some (.str je 189),.some (.str je 197),.some (.builtin t9),.some (.bool true)]⟩⟩
def amR:Obj:=⟨.type t8,.none,.cls ⟨je,[.type t5],[.ref 24,.type t5,.type t10,.type t11,.type wB],23,je,true,[],[],false,.none,false⟩,⟨[.some (.ref 15),.none,.some (.str je 189),.some (.str je 197),.some (.builtin t9),.some (.bool true)]⟩⟩
def amY:Obj:=⟨.type t8,.none,.cls ⟨je,[.type t5],[.ref 24,.type t5,.type t10,.type t11,.type wB],23,je,true,[],[.ref 37],false,.none,false⟩,⟨[.some (.ref 15),.none,.some (.str je 189),.some (.str je 197),.some (.builtin t9),.some (.bool true)]⟩⟩
def alS:Obj:=⟨.type t8,.none,.cls ⟨je,[.type t5],[.ref 24,.type t5,.type t10,.type t11,.type wB],23,je,true,[],[.ref 37,.ref 49],false,.none,false⟩,⟨[.some (.ref 15),.none,.some (.str je 189),.some (.str je 197),.some (.builtin t9),.some (.bool true)]⟩⟩
def Xq:Obj:=⟨.type t13,.none,.fields ⟨[.str LD 202,.ref 24,.builtin t14,.none]⟩,⟨[]⟩⟩
def o26:Obj:=⟨.type Ik,.none,.fields ⟨[.ref 24,.ref 24,.ref 24]⟩,⟨[]⟩⟩
def o27:Obj:=⟨.type t6,.none,.fields ⟨[.builtin B3,.ref 24]⟩,⟨[]⟩⟩
def yQ:Obj:=⟨.type t2,.none,.seq ⟨[.ref 24]⟩ 0,⟨[]⟩⟩
def o30(P:Params):Obj:=⟨.type t0,.none,.dict ⟨[⟨kh P jR,.str jR 214,.str lQ 187⟩,⟨kh P vh,.str vh 216,.str vU 215⟩,⟨kh P kj,.str kj 218,.int 4 217⟩,⟨kh P jW,.str jW 219,.ref 35⟩]⟩ 4,⟨[]⟩⟩
def o33:Obj:=⟨.type t3,.none,.fields ⟨[.str vU 209,.str vU 210,.str z9 211,.int 4 0,.int 0 0,.int 0 0,.int 0 0,.int 0 0,.ref 31,.bool false,.int 181 0,.ref 32,.none,.none,.none,.none,.int 212 0,.int 4 0,.str z9 213]⟩,⟨[]⟩⟩
def o34:Obj:=⟨.type t4,.none,.plain,⟨[.some (.ref 33),.some (.ref 3),.some (.ref 30),.none,.some (.str lQ 187),.none,.some (.ref 0)]⟩⟩
def Vo(P:Params):Obj:=⟨.type t0,.none,.dict ⟨[⟨kh P jR,.str jR 214,.str lQ 187⟩,⟨kh P kj,.str kj 218,.int 4 217⟩,⟨kh P jW,.str jW 219,.ref 35⟩,⟨kh P z2,.str z2 220,.none⟩]⟩ 2,⟨[]⟩⟩
def o37:Obj:=⟨.type t8,.none,.cls ⟨vU,[.ref 24],[.ref 37,.ref 24,.type t5,.type t10,.type t11,.type wB],36,vU,true,[],[],false,.none,false⟩,⟨[.some (.ref 28),.none,.some (.str vU 207),.some (.str vU 215),.some (.builtin t9),.some (.bool true)]⟩⟩
def o38:Obj:=⟨.type Ik,.none,.fields ⟨[.ref 37,.ref 37,.ref 37]⟩,⟨[]⟩⟩
def o39:Obj:=⟨.type t6,.none,.fields ⟨[.builtin B3,.ref 37]⟩,⟨[]⟩⟩
def o42(P:Params):Obj:=⟨.type t0,.none,.dict ⟨[⟨kh P jR,.str jR 230,.str lQ 187⟩,⟨kh P vh,.str vh 232,.str vd 231⟩,⟨kh P kj,.str kj 234,.int 6 233⟩,⟨kh P jW,.str jW 235,.ref 47⟩]⟩ 4,⟨[]⟩⟩
def o45:Obj:=⟨.type t3,.none,.fields ⟨[.str vd 225,.str vd 226,.str z9 227,.int 6 0,.int 0 0,.int 0 0,.int 0 0,.int 0 0,.ref 43,.bool false,.int 181 0,.ref 44,.none,.none,.none,.none,.int 228 0,.int 6 0,.str z9 229]⟩,⟨[]⟩⟩
def o46:Obj:=⟨.type t4,.none,.plain,⟨[.some (.ref 45),.some (.ref 3),.some (.ref 42),.none,.some (.str lQ 187),.none,.some (.ref 0)]⟩⟩
def o48(P:Params):Obj:=⟨.type t0,.none,.dict ⟨[⟨kh P jR,.str jR 230,.str lQ 187⟩,⟨kh P kj,.str kj 234,.int 6 233⟩,⟨kh P jW,.str jW 235,.ref 47⟩,⟨kh P z2,.str z2 236,.none⟩]⟩ 2,⟨[]⟩⟩
def Wy:Obj:=⟨.type t8,.none,.cls ⟨vd,[.ref 24],[.ref 49,.ref 24,.type t5,.type t10,.type t11,.type wB],48,vd,true,[],[],false,.none,false⟩,⟨[.some (.ref 40),.none,.some (.str vd 223),.some (.str vd 231),.some (.builtin t9),.some (.bool true)]⟩⟩
def o50:Obj:=⟨.type Ik,.none,.fields ⟨[.ref 49,.ref 49,.ref 49]⟩,⟨[]⟩⟩
def o51:Obj:=⟨.type t6,.none,.fields ⟨[.builtin B3,.ref 49]⟩,⟨[]⟩⟩
def o54(P:Params):Obj:=⟨.type t0,.none,.dict ⟨[⟨kh P jR,.str jR 246,.str lQ 187⟩,⟨kh P vh,.str vh 248,.str u0 247⟩,⟨kh P kj,.str kj 250,.int 8 249⟩,⟨kh P jW,.str jW 251,.ref 59⟩]⟩ 4,⟨[]⟩⟩
def o57:Obj:=⟨.type t3,.none,.fields ⟨[.str u0 241,.str u0 242,.str z9 243,.int 8 0,.int 0 0,.int 0 0,.int 0 0,.int 0 0,.ref 55,.bool false,.int 181 0,.ref 56,.none,.none,.none,.none,.int 244 0,.int 8 0,.str z9 245]⟩,⟨[]⟩⟩
def o58:Obj:=⟨.type t4,.none,.plain,⟨[.some (.ref 57),.some (.ref 3),.some (.ref 54),.none,.some (.str lQ 187),.none,.some (.ref 0)]⟩⟩
def o60(P:Params):Obj:=⟨.type t0,.none,.dict ⟨[⟨kh P jR,.str jR 246,.str lQ 187⟩,⟨kh P kj,.str kj 250,.int 8 249⟩,⟨kh P jW,.str jW 251,.ref 59⟩,⟨kh P z2,.str z2 252,.none⟩]⟩ 2,⟨[]⟩⟩
def Xa:Obj:=⟨.type t8,.none,.cls ⟨u0,[.ref 24],[.ref 61,.ref 24,.type t5,.type t10,.type t11,.type wB],60,u0,true,[],[],false,.none,false⟩,⟨[.some (.ref 52),.none,.some (.str u0 239),.some (.str u0 247),.some (.builtin t9),.some (.bool true)]⟩⟩
def o62:Obj:=⟨.type Ik,.none,.fields ⟨[.ref 61,.ref 61,.ref 61]⟩,⟨[]⟩⟩
def o63:Obj:=⟨.type t6,.none,.fields ⟨[.builtin B3,.ref 61]⟩,⟨[]⟩⟩
def o66:=ts [u6,z82] 260
def o68:=cd HY 6
def o69:=cg HY 257 11 1 64 68 262
def YX:=fo HY 6 G4 255 69
def o73:=ts [vK,u6] 268
def o75:=cd GY 7
def o76:=cg GY 265 20 2 71 75 270
def o77:=fo GY 7 G4 255 76
def o80:=ts [z85,u6,CP,z86,zV] 276
def o82:=cd Iz 8
def o83:=cg Iz 273 24 2 78 82 281
def o84:=fo Iz 8 G4 255 83
def o87:=ts [vK,Ec,DP] 287
def o89:=cd Jk 9
def o90:=cg Jk 284 34 3 85 89 290
def X3:=fo Jk 9 G4 255 90
def o94:=ts [R7] 298
def o96:=cd Gv 11
def o97:=cg Gv 295 41 1 92 96 299
def XQ:=fo Gv 11 z91 293 97
def aoB:=ts [z92,z93] 307
def ajB:=cd IY 13
def Vn:=cg IY 304 45 1 99 103 309
def V0:=fo IY 13 wN 302 104
def arQ:=ts [vK,Ec,DP,MD,z96,zV,z97,z98,z99] 315
def ajj:=cd IB 14
def o111:=cg IB 312 50 3 106 110 324
def aaC:=fo IB 14 wN 302 111
def arB:=cd J4 15
def VF:=cf J4 327 60 2 113 .none .none 115 330
def WQ:=fo J4 15 wN 302 116
def akG:=ts [vK,Ec,DP,LV,RW,zV] 336
def am8:=cd Ju 16
def Vq:=cg Ju 333 65 3 118 122 342
def aaS:=fo Ju 16 wN 302 123
def arf:=cd Jd 17
def acO:=cf Jd 345 73 2 125 .none .none 127 348
def aar:=fo Jd 17 wN 302 128
def apE:=cd Gw 18
def WV:=cf Gw 351 77 2 130 .none .none 132 354
def ad5:=fo Gw 18 wN 302 133
def anh:=ts [u6,MK] 364
def ahv:=cd Iu 21
def aec:=cg Iu 361 82 1 135 139 366
def V4:=fo Iu 21 vo 357 140
def ao8:=ts [apT,Jp] 372
def alY:=cd Ji 22
def ZP:=cg Ji 369 87 2 142 146 374
def aea:=fo Ji 22 vo 357 147
def anp:=cd JK 23
def Ym:=cf JK 377 89 2 149 .none .none 151 380
def Y9:=fo JK 23 vo 357 152
def aiG:=ts [aaU,u6,ZX] 386
def akR:=cd FY 24
def afm:=cg FY 383 91 2 154 158 389
def afs:=fo FY 24 vo 357 159
def awB:=ts [aaU,u6,z85,ZX,axy] 395
def al6:=cd Jt 25
def V5:=cg Jt 392 94 4 161 165 400
def acw:=fo Jt 25 vo 357 166
def arl:=cd G8 26
def acs:=cf G8 403 97 2 168 .none .none 170 406
def adt:=fo G8 26 vo 357 171
def axu:=ts [vK,Ec,DP] 412
def aoq:=cd Ij 27
def Xr:=cg Ij 409 115 3 173 177 415
def aem:=fo Ij 27 vo 357 178
def ajr:=cd JW 29
def Zd:=cf JW 420 118 2 180 .none .none 182 423
def acG:=fo JW 29 LZ 418 183
def awq:=ts [R7,vK,Jp,MD] 429
def aqf:=cd Ja 30
def afU:=cg Ja 426 126 1 185 189 433
def acv:=fo Ja 30 LZ 418 190
def aqO:=ts [R7,aoZ,alJ] 439
def aqD:=cd Gs 31
def afh:=cg Gs 436 131 1 192 196 442
def aeU:=fo Gs 31 LZ 418 197
def aoP:=cd E8 33
def aeG:=cf E8 447 136 2 199 .none .none 201 450
def afZ:=fo E8 33 nY 445 202
def ai3:=ts [afy,adi,Vy,ad0] 456
def ah4:=cd GQ 34
def adU:=cg GQ 453 138 3 204 208 460
def afA:=fo GQ 34 nY 445 209
def ahZ:=cd GC 35
def Yq:=cf GC 463 143 4 211 .none .none 213 466
def Vp:=fo GC 35 nY 445 214
def ama:=cd Hz 36
def XI:=cf Hz 469 148 5 216 .none .none 218 472
def abG:=fo Hz 36 nY 445 219
def ano:=ts [vK,Ve,afy,aul,agX,Vy,MD,akz,ad0] 478
def atA:=cd IZ 37
def aev:=cg IZ 475 156 3 221 225 487
def abX:=fo IZ 37 nY 445 226
def alN:=ts [Ec,DP,LV,RW,zV] 493
def amF:=cd Gp 38
def aeJ:=cg Gp 490 170 2 228 232 498
def Wd:=fo Gp 38 nY 445 233
def awh:=cd Hs 39
def Zf:=cf Hs 501 178 3 235 .none .none 237 504
def ab3:=fo Hs 39 nY 445 238
def asz:=cd EY 40
def acd:=cf EY 507 187 5 240 .none .none 242 510
def Zq:=fo EY 40 nY 445 243
def atu:=cd FN 41
def Vg:=cf FN 513 194 4 245 .none .none 247 516
def aeK:=fo FN 41 nY 445 248
def ajn:=cd Gx 42
def YJ:=cf Gx 519 208 2 250 .none .none 252 522
def Yv:=fo Gx 42 nY 445 253
def aw9:=cd IK 43
def aaR:=cf IK 525 210 4 255 .none .none 257 528
def Yb:=fo IK 43 nY 445 258
def apt:=ts [vK,Ve,ajy,aji,MK] 534
def aqq:=cd HJ 44
def ada:=cg HJ 531 216 4 260 264 539
def Zg:=fo HJ 44 nY 445 265
def as9:=cd Ii 47
def aax:=cf Ii 546 223 1 267 .none .none 269 549
def abM:=fo Ii 47 uN 542 270
def ahs:=ts [u6,RW,LV,X5] 555
def als:=cd JQ 48
def ael:=cg JQ 552 226 1 272 276 559
def acD:=fo JQ 48 uN 542 277
def ah1:=cd IG 49
def ZR:=cf IG 562 237 1 279 .none .none 281 565
def W7:=fo IG 49 uN 542 282
def aoR:=ts [Jp,abS,z96,zV,X5] 571
def ata:=cd GV 50
def af6:=cg GV 568 242 2 284 288 576
def ace:=fo GV 50 uN 542 289
def ai2:=ts [Jp,aeI,zV,abS,MK] 582
def aoK:=cd Ge 51
def Xv:=cg Ge 579 251 1 291 295 587
def acW:=fo Ge 51 uN 542 296
def o300:=ts [u6,anI,ajV,apR] 593
def ahS:=cd CP 52
def acZ:=cg CP 590 261 2 298 302 597
def adR:=fo CP 52 uN 542 303
def alK:=cd JV 53
def acS:=cf JV 600 266 2 305 .none .none 307 603
def Yg:=fo JV 53 uN 542 308
def am9:=ts [aeI,aif,au5,adi,aor,z93] 609
def anb:=cd Hv 54
def aeY:=cg Hv 606 271 2 310 314 615
def Wj:=fo Hv 54 uN 542 315
def asB:=cd JG 55
def Z7:=cf JG 618 279 1 317 .none .none 319 621
def abj:=fo JG 55 uN 542 320
def aqN:=ts [amV,yL,akb] 629
def agp:=cd Jh 57
def aaG:=cg Jh 626 290 2 322 326 632
def aby:=fo Jh 57 z1 624 327
def agn:=ts [XH,abk,Tt,yL,abu] 638
def ajN:=cd E6 58
def WG:=cg E6 635 297 2 329 333 643
def afC:=fo E6 58 z1 624 334
def ajW:=ts [aew,ahE,Q9,yL] 649
def alx:=cd Hw 59
def ar3:=cg Hw 646 303 2 336 340 653
def agL:=fo Hw 59 z1 624 341
def aiv:=cd J0 60
def VR:=cf J0 656 308 4 343 .none .none 345 659
def Wn:=fo J0 60 z1 624 346
def ak4:=ts [an0,aew,acp,amU,yL] 665
def anT:=cd J9 61
def Wa:=cg J9 662 317 1 348 352 670
def afj:=fo J9 61 z1 624 353
def aiF:=cd Fy 62
def WK:=cf Fy 673 323 2 355 .none .none 357 676
def ae1:=fo Fy 62 z1 624 358
def asJ:=ts [amm,ag3,ahR,aw7,ar8,Tt,Q9,yL] 682
def ahW:=cd HS 63
def aau:=cg HS 679 332 2 360 364 690
def acX:=fo HS 63 z1 624 365
def an8:=ts [Tt] 696
def alz:=cd Hj 64
def Zu:=cg Hj 693 343 1 367 371 697
def ZS:=fo Hj 64 z1 624 372
def avR:=cd Gj 65
def o377:=cf Gj 700 345 2 374 .none .none 376 703
def ait:=fo Gj 65 z1 624 377
def aqm:=ts [XH,abk] 709
def aqE:=cd Iw 66
def afw:=cg Iw 706 351 2 379 383 711
def afp:=fo Iw 66 z1 624 384
def agi:=ts [ahB,auP,Q9,acp,akY,apV,abu,yL] 717
def axt:=cd Fv 67
def af3:=cg Fv 714 357 2 386 390 725
def aaO:=fo Fv 67 z1 624 391
def ajc:=cd JZ 68
def adS:=cf JZ 728 367 2 393 .none .none 395 731
def afi:=fo JZ 68 z1 624 396
def o400:=cd GN 69
def Xz:=cf GN 734 382 3 398 .none .none 400 737
def Z4:=fo GN 69 z1 624 401
def aiZ:=cd JL 70
def Vs:=cf JL 740 389 1 403 .none .none 405 743
def adY:=fo JL 70 z1 624 406
def HL(P:Params):List Obj:=[PySem.W.boot_o_0 P,PySem.W.boot_o_1 P,PySem.W.boot_o_2 P,o3 P,PySem.W.boot_o_4 P,PySem.W.boot_o_5 P,PySem.W.boot_o_6 P,PySem.W.boot_o_7 P,PySem.W.boot_o_8 P,PySem.W.boot_o_9 P,PySem.W.boot_o_10 P,aK,Yw,O3,LC,Xi,JT,o17 P,aK,bD,o20,o21,aK,o23 P,Vv,Xq,o26,o27,yQ,JT,o30 P,aK,bD,o33,o34,aK,Vo P,o37,o38,o39,yQ,JT,o42 P,aK,bD,o45,o46,aK,o48 P,Wy,o50,o51,yQ,JT,o54 P,aK,bD,o57,o58,aK,o60 P,Xa,o62,o63,aK,bD,o66,aK,o68,o69,YX,aK,bD,o73,aK,o75,o76,o77,aK,bD,o80,aK,o82,o83,o84,aK,bD,o87,aK,o89,o90,X3,aK,bD,o94,aK,o96,o97,XQ,aK,bD,aoB,aK,ajB,Vn,V0,aK,bD,arQ,aK,ajj,o111,aaC,aK,bD,arB,VF,WQ,aK,bD,akG,aK,am8,Vq,aaS,aK,bD,arf,acO,aar,aK,bD,apE,WV,ad5,aK,bD,anh,aK,ahv,aec,V4,aK,bD,ao8,aK,alY,ZP,aea,aK,bD,anp,Ym,Y9,aK,bD,aiG,aK,akR,afm,afs,aK,bD,awB,aK,al6,V5,acw,aK,bD,arl,acs,adt,aK,bD,axu,aK,aoq,Xr,aem,aK,bD,ajr,Zd,acG,aK,bD,awq,aK,aqf,afU,acv,aK,bD,aqO,aK,aqD,afh,aeU,aK,bD,aoP,aeG,afZ,aK,bD,ai3,aK,ah4,adU,afA,aK,bD,ahZ,Yq,Vp,aK,bD,ama,XI,abG,aK,bD,ano,aK,atA,aev,abX,aK,bD,alN,aK,amF,aeJ,Wd,aK,bD,awh,Zf,ab3,aK,bD,asz,acd,Zq,aK,bD,atu,Vg,aeK,aK,bD,ajn,YJ,Yv,aK,bD,aw9,aaR,Yb,aK,bD,apt,aK,aqq,ada,Zg,aK,bD,as9,aax,abM,aK,bD,ahs,aK,als,ael,acD,aK,bD,ah1,ZR,W7,aK,bD,aoR,aK,ata,af6,ace,aK,bD,ai2,aK,aoK,Xv,acW,aK,bD,o300,aK,ahS,acZ,adR,aK,bD,alK,acS,Yg,aK,bD,am9,aK,anb,aeY,Wj,aK,bD,asB,Z7,abj,aK,bD,aqN,aK,agp,aaG,aby,aK,bD,agn,aK,ajN,WG,afC,aK,bD,ajW,aK,alx,ar3,agL,aK,bD,aiv,VR,Wn,aK,bD,ak4,aK,anT,Wa,afj,aK,bD,aiF,WK,ae1,aK,bD,asJ,aK,ahW,aau,acX,aK,bD,an8,aK,alz,Zu,ZS,aK,bD,avR,o377,ait,aK,bD,aqm,aK,aqE,afw,afp,aK,bD,agi,aK,axt,af3,aaO,aK,bD,ajc,adS,afi,aK,bD,o400,Xz,Z4,aK,bD,aiZ,Vs,adY]
def ev(l:List Obj):Bool->List Obj:=List.rec (motive:=λ_=>Bool->List Obj) (λ_=>[]) (λo _ f b=>cond b (o::f false) (f true)) l
def bt(n:Nat):List Obj->BT:=Nat.rec (motive:=λ_=>List Obj->BT) (λ_=> .nil) (λ_ f l=>List.casesOn l .nil λo l=> .node o (f (ev l true)) (f (ev l false))) n
def TF(P:Params):BT:=bt 16 (HL P)
def HF(P:Params):Heap:=⟨⟨HL P⟩,{}⟩
def K(P:Params):Frag:=(nat_lit 0,PySem.W.boot_o_0 P)::(nat_lit 1,PySem.W.boot_o_1 P)::(nat_lit 2,PySem.W.boot_o_2 P)::(nat_lit 3,o3 P)::(nat_lit 4,PySem.W.boot_o_4 P)::(nat_lit 5,PySem.W.boot_o_5 P)::(nat_lit 6,PySem.W.boot_o_6 P)::(nat_lit 7,PySem.W.boot_o_7 P)::(nat_lit 8,PySem.W.boot_o_8 P)::(nat_lit 9,PySem.W.boot_o_9 P)::(nat_lit 10,PySem.W.boot_o_10 P)::(nat_lit 11,aK)::(nat_lit 12,Yw)::(nat_lit 13,O3)::(nat_lit 14,LC)::(nat_lit 15,Xi)::(nat_lit 22,aK)::(nat_lit 23,o23 P)::(nat_lit 24,Vv)::(nat_lit 25,Xq)::(nat_lit 28,yQ)::(nat_lit 35,aK)::(nat_lit 36,Vo P)::(nat_lit 37,o37)::(nat_lit 40,yQ)::(nat_lit 47,aK)::(nat_lit 48,o48 P)::(nat_lit 49,Wy)::(nat_lit 52,yQ)::(nat_lit 59,aK)::(nat_lit 60,o60 P)::(nat_lit 61,Xa)::(nat_lit 69,o69)::(nat_lit 70,YX)::(nat_lit 76,o76)::(nat_lit 77,o77)::(nat_lit 83,o83)::(nat_lit 84,o84)::(nat_lit 90,o90)::(nat_lit 91,X3)::(nat_lit 97,o97)::(nat_lit 98,XQ)::(nat_lit 104,Vn)::(nat_lit 105,V0)::(nat_lit 111,o111)::(nat_lit 112,aaC)::(nat_lit 116,VF)::(nat_lit 117,WQ)::(nat_lit 123,Vq)::(nat_lit 124,aaS)::(nat_lit 128,acO)::(nat_lit 129,aar)::(nat_lit 133,WV)::(nat_lit 134,ad5)::(nat_lit 140,aec)::(nat_lit 141,V4)::(nat_lit 147,ZP)::(nat_lit 148,aea)::(nat_lit 152,Ym)::(nat_lit 153,Y9)::(nat_lit 159,afm)::(nat_lit 160,afs)::(nat_lit 166,V5)::(nat_lit 167,acw)::(nat_lit 171,acs)::(nat_lit 172,adt)::(nat_lit 178,Xr)::(nat_lit 179,aem)::(nat_lit 183,Zd)::(nat_lit 184,acG)::(nat_lit 190,afU)::(nat_lit 191,acv)::(nat_lit 197,afh)::(nat_lit 198,aeU)::(nat_lit 202,aeG)::(nat_lit 203,afZ)::(nat_lit 209,adU)::(nat_lit 210,afA)::(nat_lit 214,Yq)::(nat_lit 215,Vp)::(nat_lit 219,XI)::(nat_lit 220,abG)::(nat_lit 226,aev)::(nat_lit 227,abX)::(nat_lit 233,aeJ)::(nat_lit 234,Wd)::(nat_lit 238,Zf)::(nat_lit 239,ab3)::(nat_lit 243,acd)::(nat_lit 244,Zq)::(nat_lit 248,Vg)::(nat_lit 249,aeK)::(nat_lit 253,YJ)::(nat_lit 254,Yv)::(nat_lit 258,aaR)::(nat_lit 259,Yb)::(nat_lit 265,ada)::(nat_lit 266,Zg)::(nat_lit 270,aax)::(nat_lit 271,abM)::(nat_lit 277,ael)::(nat_lit 278,acD)::(nat_lit 282,ZR)::(nat_lit 283,W7)::(nat_lit 289,af6)::(nat_lit 290,ace)::(nat_lit 296,Xv)::(nat_lit 297,acW)::(nat_lit 303,acZ)::(nat_lit 304,adR)::(nat_lit 308,acS)::(nat_lit 309,Yg)::(nat_lit 315,aeY)::(nat_lit 316,Wj)::(nat_lit 320,Z7)::(nat_lit 321,abj)::(nat_lit 327,aaG)::(nat_lit 328,aby)::(nat_lit 334,WG)::(nat_lit 335,afC)::(nat_lit 346,VR)::(nat_lit 347,Wn)::(nat_lit 353,Wa)::(nat_lit 354,afj)::(nat_lit 358,WK)::(nat_lit 359,ae1)::(nat_lit 365,aau)::(nat_lit 366,acX)::(nat_lit 372,Zu)::(nat_lit 373,ZS)::(nat_lit 384,afw)::(nat_lit 385,afp)::(nat_lit 391,af3)::(nat_lit 392,aaO)::(nat_lit 396,adS)::(nat_lit 397,afi)::(nat_lit 401,Xz)::(nat_lit 402,Z4)::(nat_lit 406,Vs)::(nat_lit 407,adY)::[]
def as:List Nat:=[0,1,2,3,4,5,6,7,8,9,10,11,12,13,14,15,22,23,24,25,28,35,36,37,40,47,48,49,52,59,60,61,69,70,76,77,83,84,90,91,97,98,104,105,111,112,116,117,123,124,128,129,133,134,140,141,147,148,152,153,159,160,166,167,171,172,178,179,183,184,190,191,197,198,202,203,209,210,214,215,219,220,226,227,233,234,238,239,243,244,248,249,253,254,258,259,265,266,270,271,277,278,282,283,289,290,296,297,303,304,308,309,315,316,320,321,327,328,334,335,346,347,353,354,358,359,365,366,372,373,384,385,391,392,396,397,401,402,406,407]
def cut(n:Nat)(t:BT):Nat->Nat->BT:=BT.rec (motive:=λ_=>Nat->Nat->BT) (λ_ _=> .nil) (λv _ _ l r a b=>cond (Nat.blt b n) (.node v (l (Nat.mul 2 a) (Nat.add a b)) (r (Nat.mul 2 a) (Nat.add (Nat.mul 2 a) b))) .nil) t
def HA(P:Params):Heap:=⟨⟨[PySem.W.boot_o_0 P,PySem.W.boot_o_1 P,PySem.W.boot_o_2 P,PySem.W.boot_o_3 P,PySem.W.boot_o_4 P,PySem.W.boot_o_5 P,PySem.W.boot_o_6 P,PySem.W.boot_o_7 P,PySem.W.boot_o_8 P,PySem.W.boot_o_9 P,PySem.W.boot_o_10 P,aK,ad7,O3,LC]⟩,{}⟩
def SA(w:World)(os:OsState):Shared:=⟨HA w.params,⟨[]⟩,{},187,os⟩
def T1(P:Params):BT:=((cut 15 (TF P) 1 0).set 3 λ_=>PySem.W.boot_o_3 P).set 12 λ_=>ad7
def S1(w:World)(os:OsState):SharedT:=⟨T1 w.params,15,{},⟨[]⟩,{},187,os⟩
def T2(P:Params):BT:=(((cut 28 (TF P) 1 0).set 3 λ_=>agU P).set 12 λ_=>av5).set 24 λ_=>amR
def S2(w:World)(os:OsState):SharedT:=⟨T2 w.params,28,{},⟨[]⟩,{},207,os⟩
def T3(P:Params):BT:=(((cut 40 (TF P) 1 0).set 3 λ_=>aqs P).set 12 λ_=>ai0).set 24 λ_=>amY
def S3(w:World)(os:OsState):SharedT:=⟨T3 w.params,40,{},⟨[]⟩,{},223,os⟩
def T4(P:Params):BT:=(((cut 52 (TF P) 1 0).set 3 λ_=>aq5 P).set 12 λ_=>akP).set 24 λ_=>alS
def S4(w:World)(os:OsState):SharedT:=⟨T4 w.params,52,{},⟨[]⟩,{},239,os⟩
def T5(P:Params):BT:=((cut 99 (TF P) 1 0).set 3 λ_=>ajk P).set 12 λ_=>aqW
def S5(w:World)(os:OsState):SharedT:=⟨T5 w.params,99,{},⟨[]⟩,{},304,os⟩
def T6(P:Params):BT:=((cut 173 (TF P) 1 0).set 3 λ_=>ahl P).set 12 λ_=>ahX
def S6(w:World)(os:OsState):SharedT:=⟨T6 w.params,173,{},⟨[]⟩,{},409,os⟩
def T7(P:Params):BT:=((cut 250 (TF P) 1 0).set 3 λ_=>apS P).set 12 λ_=>ate
def S7(w:World)(os:OsState):SharedT:=⟨T7 w.params,250,{},⟨[]⟩,{},519,os⟩
def T8(P:Params):BT:=((cut 322 (TF P) 1 0).set 3 λ_=>alv P).set 12 λ_=>ap2
def S8(w:World)(os:OsState):SharedT:=⟨T8 w.params,322,{},⟨[]⟩,{},626,os⟩
def T9(P:Params):BT:=((cut 403 (TF P) 1 0).set 3 λ_=>akc P).set 12 λ_=>aoS
def S9(w:World)(os:OsState):SharedT:=⟨T9 w.params,403,{},⟨[]⟩,{},740,os⟩
def T10(P:Params):BT:=cut 408 (TF P) 1 0
def S10(w:World)(os:OsState):SharedT:=⟨T10 w.params,408,{},⟨[]⟩,{},746,os⟩
def SF(w:World)(os:OsState):Shared:=⟨HF w.params,⟨[]⟩,{},746,os⟩
def ann:Option Value:=some (.ref 6)
def env:Env:={ scope:=pwL.main.scope,locals:=mainNs,globals:=mainNs,cells:=[],code:= .ref 13,frame:=some 14 }
def cE:Code:= .body (behindTheImports pwL) env
abbrev BB:List Frame:=[topFrame ⟨0,0,0,0⟩]
def q:Program:={ pwL with main:={ pwL.main with body:=[topF 1,topF 2,topF 3,topF 4,topF 6,topF 7,topF 8,topF 9,topF 11,topF 13,topF 14,topF 15,topF 16,topF 17,topF 18,topF 20,topF 21,topF 22,topF 23,topF 24,topF 25,topF 26,topF 27,topF 29,topF 30,topF 31,topF 33,topF 34,topF 35,topF 36,topF 37,topF 38,topF 39,topF 40,topF 41,topF 42,topF 43,topF 44,topF 46,topF 47,topF 48,topF 49,topF 50,topF 51,topF 52,topF 53,topF 54,topF 55,topF 57,topF 58,topF 59,topF 60,topF 61,topF 62,topF 63,topF 64,topF 65,topF 66,topF 67,topF 68,topF 69,topF 70] } }
theorem warm2:((λ(_:Env) (_:Code) (_:Program)=>true) env cE q)=true:=by k_qdec
theorem a0:@segRunT=PySem.W.Fast.tw10110043849684766642:=PySem.W.Fast.te10110043849684766642
theorem a1:@treeTable=PySem.W.Fast.tw14364793385576792824:=PySem.W.Fast.te14364793385576792824
theorem a2:@topGo=PySem.W.Fast.tw15667345088766844465:=PySem.W.Fast.te15667345088766844465
theorem a3:@topRun=PySem.W.Fast.tw14082659384304107361:=PySem.W.Fast.te14082659384304107361
theorem a4:@segRun=PySem.W.Fast.tw14374325043358763698:=PySem.W.Fast.te14374325043358763698
theorem a5:@denote=PySem.W.Fast.tw11892475500146522536:=PySem.W.Fast.te11892475500146522536
theorem a6:@cE=PySem.W.Fast.tw4454377001464155250:=PySem.W.Fast.te4454377001464155250
theorem a7:@env=PySem.W.Fast.tw15654336462673409545:=PySem.W.Fast.te15654336462673409545
theorem a8:@q=PySem.W.Fast.tw6485051366716172217:=PySem.W.Fast.te6485051366716172217
theorem a9:@pwL=PySem.W.Fast.tw4563714553784545317:=PySem.W.Fast.te4563714553784545317
theorem a10:@topF=PySem.W.Fast.tw5771050556377195807:=PySem.W.Fast.te5771050556377195807
theorem a11:@importedModules=PySem.W.Fast.tw5923862056798008813:=PySem.W.Fast.te5923862056798008813
theorem a12:@openSeen=PySem.W.Fast.tw4187177175401517315:=PySem.W.Fast.te4187177175401517315
theorem a13:@Heap.nsMap=PySem.W.Fast.tw8920871248978507458:=PySem.W.Fast.te8920871248978507458
set_option maxHeartbeats 0
theorem pre(w:World)(os:OsState):topGo treeTable pwL w 11 ann 12 ⟨boot_heap w.params,⟨[]⟩,boot_drawn,boot_toks,os⟩ (topStub pwL)=some (SA w os,⟨denote treeTable cE,cE,⟨0,0,0,0⟩,BB⟩):=by
 rw[a1,a2,a5,a6,a9];kernel_rfl
theorem blk(w:World)(os:OsState):segRun treeTable pwL w 11 ann 1 1 (SA w os) (blockOf (behindTheImports pwL) env cE ⟨0,0,0,0⟩ BB)=some (.next,(S1 w os).abs,cE,⟨0,0,0,0⟩):=by
 rw[a1,a4,a6,a7,a9];kernel_rfl
abbrev c1:List Stmt:=[topF 0,topF 1]
theorem p1(w:World)(os:OsState):segRunT treeTable pwL w 11 ann 1 196 (S1 w os) (piecesOf c1 env cE ⟨0,0,0,0⟩ BB)=some (.next,S2 w os,cE,⟨2,0,3,8⟩):=by
 unfold c1;rw[a0,a1,a6,a7,a9,a10];kernel_rfl
abbrev c2:List Stmt:=[topF 2]
theorem p2(w:World)(os:OsState):segRunT treeTable pwL w 11 ann 1 214 (S2 w os) (piecesOf c2 env cE ⟨2,0,3,8⟩ BB)=some (.next,S3 w os,cE,⟨4,0,5,8⟩):=by
 unfold c2;rw[a0,a1,a6,a7,a9,a10];kernel_rfl
abbrev c3:List Stmt:=[topF 3]
theorem p3(w:World)(os:OsState):segRunT treeTable pwL w 11 ann 1 214 (S3 w os) (piecesOf c3 env cE ⟨4,0,5,8⟩ BB)=some (.next,S4 w os,cE,⟨6,0,7,8⟩):=by
 unfold c3;rw[a0,a1,a6,a7,a9,a10];kernel_rfl
abbrev c4:List Stmt:=[topF 4,topF 5,topF 6,topF 7,topF 8,topF 9,topF 10,topF 11,topF 12]
theorem p4(w:World)(os:OsState):segRunT treeTable pwL w 11 ann 1 394 (S4 w os) (piecesOf c4 env cE ⟨6,0,7,8⟩ BB)=some (.next,S5 w os,cE,⟨44,0,44,8⟩):=by
 unfold c4;rw[a0,a1,a6,a7,a9,a10];kernel_rfl
abbrev c5:List Stmt:=[topF 13,topF 14,topF 15,topF 16,topF 17,topF 18,topF 19,topF 20,topF 21,topF 22,topF 23,topF 24,topF 25,topF 26]
theorem p5(w:World)(os:OsState):segRunT treeTable pwL w 11 ann 1 374 (S5 w os) (piecesOf c5 env cE ⟨44,0,44,8⟩ BB)=some (.next,S6 w os,cE,⟨97,0,114,15⟩):=by
 unfold c5;rw[a0,a1,a6,a7,a9,a10];kernel_rfl
abbrev c6:List Stmt:=[topF 27,topF 28,topF 29,topF 30,topF 31,topF 32,topF 33,topF 34,topF 35,topF 36,topF 37,topF 38,topF 39,topF 40,topF 41]
theorem p6(w:World)(os:OsState):segRunT treeTable pwL w 11 ann 1 397 (S6 w os) (piecesOf c6 env cE ⟨97,0,114,15⟩ BB)=some (.next,S7 w os,cE,⟨194,0,207,79⟩):=by
 unfold c6;rw[a0,a1,a6,a7,a9,a10];kernel_rfl
abbrev c7:List Stmt:=[topF 42,topF 43,topF 44,topF 45,topF 46,topF 47,topF 48,topF 49,topF 50,topF 51,topF 52,topF 53,topF 54,topF 55,topF 56]
theorem p7(w:World)(os:OsState):segRunT treeTable pwL w 11 ann 1 381 (S7 w os) (piecesOf c7 env cE ⟨194,0,207,79⟩ BB)=some (.next,S8 w os,cE,⟨289,0,289,8⟩):=by
 unfold c7;rw[a0,a1,a6,a7,a9,a10];kernel_rfl
abbrev c8:List Stmt:=[topF 57,topF 58,topF 59,topF 60,topF 61,topF 62,topF 63,topF 64,topF 65,topF 66,topF 67,topF 68,topF 69]
theorem p8(w:World)(os:OsState):segRunT treeTable pwL w 11 ann 1 391 (S8 w os) (piecesOf c8 env cE ⟨289,0,289,8⟩ BB)=some (.next,S9 w os,cE,⟨382,0,388,66⟩):=by
 unfold c8;rw[a0,a1,a6,a7,a9,a10];kernel_rfl
abbrev c9:List Stmt:=[topF 70]
theorem p9(w:World)(os:OsState):segRunT treeTable pwL w 11 ann 1 27 (S9 w os) (piecesOf c9 env cE ⟨382,0,388,66⟩ BB)=some (.next,S10 w os,cE,⟨389,0,412,57⟩):=by
 unfold c9;rw[a0,a1,a6,a7,a9,a10];kernel_rfl
theorem fin(w:World)(os:OsState):topRun treeTable pwL w 11 ann 2 (S10 w os).abs ⟨doneF .next,cE,⟨389,0,412,57⟩,BB⟩=some (SF w os):=by
 rw[a1,a3,a6,a9];kernel_rfl
theorem body:behindTheImports pwL=c1++(c2++(c3++(c4++(c5++(c6++(c7++(c8++(c9++([]))))))))):=by
 rw[a9];kernel_rfl
theorem run(w:World)(os:OsState):topRun treeTable pwL w 11 ann (12+(1+(196+(214+(214+(394+(374+(397+(381+(391+(27+(2)))))))))))) ⟨boot_heap w.params,⟨[]⟩,boot_drawn,boot_toks,os⟩ (topStub pwL)=some (SF w os):=
 go_top (pre w os) (piece_block (blk w os) (by rw[body];exact piece_app (segRun_of (p1 w os)) (piece_app (segRun_of (p2 w os)) (piece_app (segRun_of (p3 w os)) (piece_app (segRun_of (p4 w os)) (piece_app (segRun_of (p5 w os)) (piece_app (segRun_of (p6 w os)) (piece_app (segRun_of (p7 w os)) (piece_app (segRun_of (p8 w os)) (piece_app (segRun_of (p9 w os)) (piece_nil (fin w os))))))))))))
theorem size(w:World):((boot_heap w.params).isNs mainGlobals&&(Array.mk ([]:List GenState)).size==0,(boot_heap w.params).objs.size,(boot_heap w.params).nsMap mainGlobals "__annotations__")=(true,11,ann):=by
 rw[a13];kernel_rfl
abbrev Xt(s:Shared):Bool:=xlAt q [] s&&recOk [] s
theorem lk1(w:World)(os:OsState):(staticsOk (importedModules pwL.main.body) (boot_heap w.params) (HF w.params)&&namesBound pwL (HF w.params)&&gensDone (SF w os)&&laidKept (boot_heap w.params) (HF w.params))=true:=by
 rw[a9,a11];kernel_rfl
theorem lk2(w:World)(os:OsState):openSeen q [] (importedModules pwL.main.body) Xt true (SF w os)=openGood q []:=by
 rw[a8,a9,a11,a12];kernel_rfl
theorem lk3(w:World)(os:OsState):aeP as (SF w os)=Z2 K 408 746 w:=by
 kernel_rfl
theorem imports:opening pwL=plainProg pwL.main.scope.names:=by kernel_rfl
theorem left:LeftO pwL q [] Xt (aeP as) (Z2 K 408 746) 5284:=
 LeftO.of_pieces (boot_open imports (by rfl) (λs=>by kernel_rfl)) size run (by rfl) λw=>funext λos=>looks_pair (lk1 w os) (looks_pair (lk2 w os) (lk3 w os))
end
end H
end K47
open PySem PySem.W PyProof.Rows
set_option maxRecDepth 100000 in
set_option maxHeartbeats 0 in
theorem PySem.Challenge.cw_nextbyrule_k47_closed_forms_holds : PySem.Challenge.rw_nextbyrule_k47_closed_forms.Holds := by
 change K47.rwL.Holds
 w_on;o_law;rename_i said
 refine holds_openX (d:=?d) (kwd:=?kwd) K47.H.left (λs h=>xl_of s (IV.mp h).1) XL.keeps (by rfl) (by rfl) (by rfl) (λs h=>recFacts_of (IV.mp h).2) (by rfl) said (by decide +kernel) ⟨rfl,rfl,rfl,rfl,rfl,by decide +kernel⟩ ?hw ?hc;case hw=>w_witness2
 k_fill
 refine L2.aqK (λ_=>by kernel_rfl) ?_;refine L2.arN (l:=K47.rwL) (n:=63) (k:=K47.KN) (x:= "_law_script") (CX:=λw=>L2.sW K47.rwL.prog w) (sp:=λ_=>K47.Oi _) rfl (by decide) rfl ⟨rfl,by decide,by decide⟩ (λw h Y=>Y) ?F (λw H a ns hl _ hS=>⟨a,ns,rfl,hS,hl,λ_=>rfl⟩) (λ_ _ _ _ _ z=>L2.afY z);case F=>
  intro w mg fa h KX G hmg;apply K47.all_mk KX G hmg;all_goals first|(refine' L2.at4 ?a ?l ?c ?k;(case a|l|c|k=>k_is))|k_is|exact⟨_,by k_is⟩|k_exc|kernel_rfl|kit_is
